import PyProof.Rows.All
import Wide.All
import OpenK.AllK
import Wide.FinOn
import Lean
import PyProof.EqAt
import PyProof.EqKinds
import PyProof.TupleCall
import PySem.Challenge.RW_keeplog_k40_hears_and_wakes
set_option Elab.async false
set_option linter.all false
set_option maxRecDepth 100000
/-! THE HAND LAYER, for ints, bools, texts, own classes, LISTS and tuples (index, slices, in, append, pop ..), calls, loops. Paste it whole ahead of your own text; what your proof does not reach may be deleted. -/
namespace L2
open PySem PySem.Spec PyProof.Rows

/-- a key: an int or a str -/
abbrev Key := Sum Int Str
def keyIs : Key → Value → Bool
  | .inl k, v => Value.isInt k v
  | .inr x, v => Value.isStrOf x v
def keyH (w : World) : Key → Int
  | .inl k => hashInt k
  | .inr x => hashStr w x
theorem keyIs_shape : ∀ {k : Key} {v : Value}, keyIs k v = true → (∃ i t, k = Sum.inl i ∧ v = Value.int i t) ∨ (∃ x t, k = Sum.inr x ∧ v = Value.str x t)
  | .inl i, v, h => by
    obtain ⟨t, e⟩ := Value.isInt_shape (k := i) (v := v) h
    exact .inl ⟨i, t, rfl, e⟩
  | .inr x, v, h => by
    obtain ⟨t, e⟩ := Value.isStrOf_shape (x := x) (v := v) h
    exact .inr ⟨x, t, rfl, e⟩
theorem key_ll (a b : Int) : decide ((Sum.inl a : Key) = Sum.inl b) = (a == b) := by
  by_cases e : a = b
  · subst e; simp
  · have h : ¬ (Sum.inl a : Key) = Sum.inl b := fun q => e (Sum.inl.inj q)
    rw [decide_eq_false h]
    exact (beq_eq_false_iff_ne.mpr e).symm
theorem key_rr (a b : Str) : decide ((Sum.inr a : Key) = Sum.inr b) = decide (a = b) := by
  by_cases e : a = b
  · subst e; simp
  · have h : ¬ (Sum.inr a : Key) = Sum.inr b := fun q => e (Sum.inr.inj q)
    rw [decide_eq_false h, decide_eq_false e]
theorem key_lr (a : Int) (b : Str) : decide ((Sum.inl a : Key) = Sum.inr b) = false := decide_eq_false (fun q => nomatch q)
theorem key_rl (a : Str) (b : Int) : decide ((Sum.inr a : Key) = Sum.inl b) = false := decide_eq_false (fun q => nomatch q)

def mixKind (prog : Program) (w : World) : PySem.KeyKind prog w Key where
  is := keyIs
  hash := keyH w
  inj := fun v a b ha hb => by
    rcases keyIs_shape ha with ⟨i, t, rfl, rfl⟩ | ⟨x, t, rfl, rfl⟩
    · rcases keyIs_shape hb with ⟨j, u, rfl, e⟩ | ⟨y, u, rfl, e⟩
      · injection e with e1 _; rw [e1]
      · exact nomatch e
    · rcases keyIs_shape hb with ⟨j, u, rfl, e⟩ | ⟨y, u, rfl, e⟩
      · exact nomatch e
      · injection e with e1 _; rw [e1]
  byValue := fun k v h => by
    rcases keyIs_shape h with ⟨i, t, rfl, rfl⟩ | ⟨x, t, rfl, rfl⟩ <;> rfl
  pyHash := fun hv h => by
    rcases keyIs_shape hv with ⟨i, t, rfl, rfl⟩ | ⟨x, t, rfl, rfl⟩
    · exact wpAny_pyHash_int h
    · exact wpAny_pyHash_str h
  eqBool := fun hu hv h => by
    rcases keyIs_shape hu with ⟨i, t, rfl, rfl⟩ | ⟨x, t, rfl, rfl⟩
    · rcases keyIs_shape hv with ⟨j, u, rfl, rfl⟩ | ⟨y, u, rfl, rfl⟩
      · rw [key_ll] at h; exact wpAny_eqBool_int h
      · rw [key_lr] at h; exact SeqAt.EqAt.int_str i t y u _ _ _ _ h
    · rcases keyIs_shape hv with ⟨j, u, rfl, rfl⟩ | ⟨y, u, rfl, rfl⟩
      · rw [key_rl] at h; exact SeqAt.EqAt.str_int x t j u _ _ _ _ h
      · rw [key_rr] at h; exact wpAny_eqBool_str h
  «strs» := fun k x t v h => by
    rcases keyIs_shape h with ⟨i, u, rfl, e⟩ | ⟨y, u, rfl, e⟩
    · exact nomatch e
    · injection e with e1 _
      subst e1
      cases v <;> rfl

end L2

namespace L2
open PySem PySem.Spec PyProof.Rows

/-- a value, without the heap -/
inductive V where
  | non | bl (b : Bool) | int (i : Int) | str (x : Str) | byt (b : Array UInt8) | flt (b : UInt64) | ref (a : Addr) | ty (n : String)
  deriving DecidableEq

def RelV : V → Value → Prop
  | .non, u => u = Value.none
  | .bl b, u => u = Value.bool b
  | .int i, u => ∃ t, u = Value.int i t
  | .str x, u => ∃ t, u = Value.str x t
  | .byt b, u => ∃ t, u = Value.bytes b t
  | .flt b, u => ∃ t, u = Value.float b t
  | .ref a, u => u = Value.ref a
  | .ty n, u => u = Value.type n

abbrev Vals : List V → List Value → Prop := Paired RelV
theorem Vals.length {xs : List V} {us : List Value} (r : Vals xs us) : xs.length = us.length := Paired.length r
theorem Vals.get : ∀ {xs : List V} {us : List Value} {i : Nat} {x : V}, Vals xs us → xs[i]? = some x → ∃ u, us[i]? = some u ∧ RelV x u
  | _, _, _, _, .nil, e => by simp at e
  | _, _, 0, _, .cons r _, e => by simp at e; subst e; exact ⟨_, rfl, r⟩
  | _, _, i + 1, x, .cons _ t, e => by
    obtain ⟨u, h1, h2⟩ := Vals.get (i := i) (x := x) t (by simpa using e)
    exact ⟨u, by simpa using h1, h2⟩
theorem Vals.set {x : V} {u : Value} (r : RelV x u) : ∀ {xs : List V} {us : List Value} (i : Nat), Vals xs us → Vals (xs.set i x) (us.set i u)
  | _, _, _, .nil => .nil
  | _, _, 0, .cons _ t => .cons r t
  | _, _, i + 1, .cons q t => .cons q (Vals.set r i t)
theorem Vals.append : ∀ {xs ys : List V} {us ws : List Value}, Vals xs us → Vals ys ws → Vals (xs ++ ys) (us ++ ws)
  | _, _, _, _, .nil, s => s
  | _, _, _, _, .cons r t, s => .cons r (Vals.append t s)
theorem Vals.take : ∀ {xs : List V} {us : List Value} (n : Nat), Vals xs us → Vals (xs.take n) (us.take n)
  | _, _, 0, _ => .nil
  | _, _, _ + 1, .nil => .nil
  | _, _, n + 1, .cons r t => .cons r (Vals.take n t)
theorem Vals.drop : ∀ {xs : List V} {us : List Value} (n : Nat), Vals xs us → Vals (xs.drop n) (us.drop n)
  | _, _, 0, r => r
  | _, _, _ + 1, .nil => .nil
  | _, _, n + 1, .cons _ t => Vals.drop n t
theorem Vals.none_of : ∀ {xs : List V} {us : List Value} {i : Nat}, Vals xs us → xs[i]? = none → us[i]? = none := fun {xs us i} r e => by
  have h1 := r.length
  have h2 : xs.length ≤ i := List.getElem?_eq_none_iff.mp e
  exact List.getElem?_eq_none_iff.mpr (by omega)

def RelO : Option V → Option Value → Prop
  | some v, some u => RelV v u
  | none, none => True
  | _, _ => False
def KV {κ : Type} : List (κ × V) → List (κ × Value) → Prop := Paired fun (p : κ × V) (q : κ × Value) => p.1 = q.1 ∧ RelV p.2 q.2

/-- a key of a dict (00_mix): an int or a text -/
def kV : Key → V
  | .inl i => .int i
  | .inr x => .str x

/-- what stands at a tracked address -/
inductive HO where
  /-- a list -/
  | lst (xs : List V)
  /-- a tuple (never changes) -/
  | tup (xs : List V)
  /-- a dict whose keys are ints and texts; one whose keys are tuples of ints and texts (the empty one is both) -/
  | dK (kvs : List (Key × V)) | dT (kvs : List (List Key × V))
  /-- a set of ints: its members, its size -/
  | set (S : Int → Bool) (n : Nat)
  /-- an instance of the class at C, its dict at dx, its attributes -/
  | ins (C dx : Addr) (fs : List (Str × V))
  /-- the dict of the instance at x -/
  | own (x : Addr)
  /-- the dict of an exception -/
  | xd (fs : List (Str × V))
  /-- a bound method, f of x -/
  | met (f x : Addr)
  /-- a range object lo, lo + 1, .. below hi -/
  | rng (lo hi : Int)
  /-- a thing that is known to the object (the script; a dict while a loop walks it): read, never written while it is so -/
  | frz (o : Obj) (u : HO)
  /-- a code object's table -/
  | tbl (ps : Array Value)
  /-- any other thing, by what is true of its one object (a def of one's own: SetO a S n := HO.ext fun h => ..) -/
  | ext (φ : Heap → Prop)

abbrev Hp := Addr → Option HO
def upd (H : Hp) (a : Addr) (o : HO) : Hp := fun b => if b = a then some o else H b
theorem upd_same {H : Hp} {a : Addr} {o : HO} : upd H a o a = some o := by unfold upd; rw [if_pos rfl]
theorem upd_ne {H : Hp} {a b : Addr} {o : HO} (h : b ≠ a) : upd H a o b = H b := by unfold upd; rw [if_neg h]
theorem ne_of_none {H : Hp} {a b : Addr} {o : HO} (h : H a = some o) (h' : H b = none) : a ≠ b := by
  intro e; subst e; rw [h] at h'; cases h'

section
variable (P : Program) (w : World)
def ObjOk (H : Hp) (h : Heap) (a : Addr) : HO → Prop
  | .lst xs => xs.length ≤ sizeLine ∧ ∃ (its : List Value) (n : Nat), Vals xs its ∧ h.get? a = some { cls := .type "list", data := .seq its.toArray n }
  | .tup xs => xs.length ≤ sizeLine ∧ ∃ its : List Value, Vals xs its ∧ IsTup h a its.toArray
  | .dK kvs => kvs.length ≤ sizeLine ∧ (a == sysModules) = false ∧ ∃ vs, KV kvs vs ∧ h.DictOf (mixKind P w) a vs
  | .dT kvs => kvs.length ≤ sizeLine ∧ (a == sysModules) = false ∧ ∃ xs : List (List Key × Addr × Value),
      Paired (fun (p : List Key × V) (q : List Key × Addr × Value) => p.1 = q.1 ∧ H q.2.1 = some (.tup (p.1.map kV)) ∧ RelV p.2 q.2.2) kvs xs ∧
      ∃ o es ep, h.get? a = some o ∧ o.ExactDict ∧ o.data = .dict es ep ∧ es.toList = xs.map (entryOfKey (tupleKind (mixKind P w))) ∧ (xs.map (·.1)).Nodup
  | .set S n => h.SetOf (intKind P w) a S n
  | .ins C dx fs => H dx = some (.own a) ∧ fs.length ≤ 1000 ∧ dx ≠ a ∧ h.get? a = some (PySem.W.instObj C dx) ∧
      ∃ mA, h.Ns1 dx mA ∧ (∀ f, RelO (fs.lookup f) (mA f)) ∧ PySem.Within mA (fs.map (·.1))
  | .own _ => ∃ o, h.get? a = some o
  | .xd fs => ∃ mA, h.Ns1 a mA ∧ ∀ f, RelO (fs.lookup f) (mA f)
  | .rng lo hi => ∃ t u v, h.get? a = some { cls := .type "range", data := .fields #[.int lo t, .int hi u, .int 1 v] }
  | .frz o u => h.get? a = some o ∧ ObjOk H h a u
  | .tbl ps => h.get? a = some { cls := .none, data := .fields ps }
  | .met f x => h.get? a = some (PySem.W.methodObj (.ref f) (.ref x))
  | .ext φ => φ h ∧ (∃ o, h.get? a = some o) ∧ ∀ h1 h2 : Heap, φ h1 → (∀ o, h1.get? a = some o → h2.get? a = some o) → φ h2
/-- the abstract heap is held -/
def HOk (H : Hp) (h : Heap) : Prop := ∀ a o, H a = some o → ObjOk P w H h a o
end

section
variable {P : Program} {w : World} {H H' : Hp} {h h' : Heap} {a : Addr} {o : HO}
theorem ObjOk.lt (x : ObjOk P w H h a o) : a < h.objs.size := by
  cases o with
  | lst xs => obtain ⟨_, _, _, _, e⟩ := x; exact Heap.lt_size e
  | tup xs => obtain ⟨_, _, _, p⟩ := x; exact p.lt
  | dK kvs => obtain ⟨_, _, _, _, o, _, _, e, _⟩ := x; exact Heap.lt_size e
  | dT kvs => obtain ⟨_, _, _, _, o, _, _, e, _⟩ := x; exact Heap.lt_size e
  | set S n => obtain ⟨o, _, _, _, e, _⟩ := x; exact Heap.lt_size e
  | ins C dx fs => obtain ⟨_, _, _, e, _⟩ := x; exact Heap.lt_size e
  | own y => obtain ⟨_, e⟩ := x; exact Heap.lt_size e
  | xd fs => obtain ⟨_, ⟨_, _, _, e, _⟩, _⟩ := x; exact Heap.lt_size e
  | rng lo hi => obtain ⟨_, _, _, e⟩ := x; exact Heap.lt_size e
  | frz ob u => obtain ⟨e, _⟩ := x; exact Heap.lt_size e
  | tbl ps => exact Heap.lt_size (show h.get? a = some _ from x)
  | met f y => exact Heap.lt_size (show h.get? a = some _ from x)
  | ext φ => obtain ⟨_, ⟨_, e⟩, _⟩ := x; exact Heap.lt_size e
theorem Paired.mapP {α β : Type} {F G : α → β → Prop} : ∀ {l₁ : List α} {l₂ : List β}, Paired F l₁ l₂ → (∀ a b, F a b → G a b) → Paired G l₁ l₂
  | _, _, .nil, _ => .nil
  | _, _, .cons r t, f => .cons (f _ _ r) (Paired.mapP t f)
/-- what an object's description leans on: its own object, its own dict, the tuples -/
theorem ObjOk.stay (x : ObjOk P w H h a o) (k : ∀ b u, (b = a ∨ H b = some (.own a)) → h.get? b = some u → h'.get? b = some u)
    (ho : ∀ b, H b = some (.own a) → H' b = some (.own a)) (ht : ∀ b xs, H b = some (.tup xs) → H' b = some (.tup xs)) : ObjOk P w H' h' a o := by
  induction o with
  | lst xs => obtain ⟨z, its, n, r, e⟩ := x; exact ⟨z, its, n, r, k _ _ (.inl rfl) e⟩
  | tup xs => obtain ⟨z, its, r, ob, e, c⟩ := x; exact ⟨z, its, r, ob, k _ _ (.inl rfl) e, c⟩
  | dK kvs => obtain ⟨z, y, vs, r, ob, es, ep, e, c⟩ := x; exact ⟨z, y, vs, r, ob, es, ep, k _ _ (.inl rfl) e, c⟩
  | dT kvs =>
    obtain ⟨z, y, xs, r, ob, es, ep, e, c⟩ := x
    exact ⟨z, y, xs, Paired.mapP r fun p q z => ⟨z.1, ht _ _ z.2.1, z.2.2⟩, ob, es, ep, k _ _ (.inl rfl) e, c⟩
  | set S n => obtain ⟨ob, es, ep, t, e, c⟩ := x; exact ⟨ob, es, ep, t, k _ _ (.inl rfl) e, c⟩
  | ins C dx fs =>
    obtain ⟨d, z, ne, e, mA, ⟨od, es, ep, e2, c⟩, r⟩ := x
    exact ⟨ho _ d, z, ne, k _ _ (.inl rfl) e, mA, ⟨od, es, ep, k _ _ (.inr d) e2, c⟩, r⟩
  | own y => obtain ⟨ob, e⟩ := x; exact ⟨ob, k _ _ (.inl rfl) e⟩
  | xd fs => obtain ⟨mA, ⟨od, es, ep, e, c⟩, r⟩ := x; exact ⟨mA, ⟨od, es, ep, k _ _ (.inl rfl) e, c⟩, r⟩
  | rng lo hi => obtain ⟨t, u, v, e⟩ := x; exact ⟨t, u, v, k _ _ (.inl rfl) e⟩
  | frz ob u ih => obtain ⟨e, q⟩ := x; exact ⟨k _ _ (.inl rfl) e, ih q⟩
  | tbl ps =>
    have e : h.get? a = some { cls := .none, data := .fields ps } := x
    show h'.get? a = some { cls := .none, data := .fields ps }
    exact k a _ (.inl rfl) e
  | met f y =>
    have e : h.get? a = some (PySem.W.methodObj (.ref f) (.ref y)) := x
    show h'.get? a = some (PySem.W.methodObj (.ref f) (.ref y))
    exact k a _ (.inl rfl) e
  | ext φ => obtain ⟨p, ⟨o, e⟩, st⟩ := x; exact ⟨st _ _ p fun o q => k _ _ (.inl rfl) q, ⟨o, k _ _ (.inl rfl) e⟩, st⟩
theorem HOk.lt (x : HOk P w H h) (e : H a = some o) : a < h.objs.size := (x a o e).lt
theorem HOk.fresh (x : HOk P w H h) (e : h.objs.size ≤ a) : H a = none := by
  cases q : H a with
  | none => rfl
  | some u => exact absurd (Nat.lt_of_lt_of_le (x.lt q) e) (Nat.lt_irrefl _)
/-- every object of the heap is kept -/
theorem HOk.kept (x : HOk P w H h) (k : ∀ b u, h.get? b = some u → h'.get? b = some u) : HOk P w H h' := fun a o e =>
  (x a o e).stay (fun b u _ q => k b u q) (fun _ q => q) fun _ _ q => q
/-- a new object is laid and tracked -/
theorem HOk.laid (x : HOk P w H h) (k : ∀ b u, h.get? b = some u → h'.get? b = some u) (hp : h.objs.size ≤ a) (new : ObjOk P w (upd H a o) h' a o) : HOk P w (upd H a o) h' := fun b u e => by
  have hn := x.fresh hp
  by_cases hb : b = a
  · subst hb; rw [upd_same] at e; cases e; exact new
  · rw [upd_ne hb] at e
    exact (x b u e).stay (fun c v _ q => k c v q) (fun c q => by rw [upd_ne (ne_of_none q hn)]; exact q) fun c xs q => by rw [upd_ne (ne_of_none q hn)]; exact q
end

/-- what may be read as u: it is u, or a known u -/
def Rd (H : Hp) (a : Addr) (u : HO) : Prop := H a = some u ∨ ∃ o, H a = some (.frz o u)
theorem Rd.of {H : Hp} {a : Addr} {u : HO} (h : H a = some u) : Rd H a u := .inl h
theorem Rd.ok {P : Program} {w : World} {H : Hp} {h : Heap} {a : Addr} {u : HO} (r : Rd H a u) (x : HOk P w H h) : ObjOk P w H h a u := by
  rcases r with r | ⟨o, r⟩
  · exact x a u r
  · obtain ⟨_, q⟩ := x a _ r
    exact q
/-- what may be written -/
def Mut : Option HO → Prop
  | some (.lst _) => True
  | some (.dK _) => True
  | some (.dT _) => True
  | some (.set _ _) => True
  | some (.ins _ _ _) => True
  | some (.ext _) => True
  | _ => False
section
variable {P : Program} {w : World} {H : Hp} {h h' : Heap} {x e : Addr} {o' : HO}
/-- the object at e is changed: x itself, or the dict of the instance x -/
theorem HOk.write (ok : HOk P w H h) (mu : Mut (H x)) (he : e = x ∨ H e = some (.own x)) (k : ∀ b u, b ≠ e → h.get? b = some u → h'.get? b = some u) (heo : ∃ u, h'.get? e = some u)
    (new : ObjOk P w (upd H x o') h' x o') : HOk P w (upd H x o') h' := fun b u q => by
  have nown : ∀ c y, H c = some (.own y) → c ≠ x := fun c y r z => by subst z; rw [r] at mu; exact mu
  have ntup : ∀ c xs, H c = some (.tup xs) → c ≠ x := fun c xs r z => by subst z; rw [r] at mu; exact mu
  by_cases hb : b = x
  · subst hb; rw [upd_same] at q; cases q; exact new
  · rw [upd_ne hb] at q
    by_cases hbe : b = e
    · have q' : H b = some (.own x) := by
        rcases he with z | z
        · exact absurd (hbe.trans z) hb
        · rw [hbe]; exact z
      rw [q] at q'; cases q'
      obtain ⟨v, hv⟩ := heo
      exact ⟨v, by rw [hbe]; exact hv⟩
    · refine (ok b u q).stay (fun c v hc r => k c v ?_ r) (fun c r => by rw [upd_ne (nown c b r)]; exact r) fun c xs r => by rw [upd_ne (ntup c xs r)]; exact r
      rcases hc with rfl | hc
      · exact hbe
      · rintro rfl
        rcases he with z | z
        · exact nown c b hc z
        · rw [hc] at z; cases z; exact hb rfl
end

/-! ### kept unless tracked; of the frames at fs (the callers') the slots may change (an exception that passes writes there); of the records at ex (iterators) nothing is said -/
structure Un (fs ex : List Addr) (H H' : Hp) (h h' : Heap) : Prop where
  keep : ∀ b o, h.get? b = some o → H b = none → b ∉ fs → b ∉ ex → h'.get? b = some o
  slot : ∀ b o, h.get? b = some o → H b = none → b ∈ fs → b ∉ ex → ∃ sl, h'.get? b = some { o with slots := sl }
  free : ∀ b o, h.get? b = some o → H b = none → b ∉ ex → H' b = none
  there : ∀ b o, h.get? b = some o → b ∉ ex → ∃ o', h'.get? b = some o'
  tups : ∀ b xs, H b = some (.tup xs) → H' b = some (.tup xs)
  frzs : ∀ b o u, H b = some (.frz o u) → H' b = some (.frz o u)
  tbls : ∀ b ps, H b = some (.tbl ps) → ∃ more, H' b = some (.tbl (ps ++ more))
section
variable {fs fs' ex ex' : List Addr} {H H1 H2 : Hp} {h h1 h2 h' : Heap} {a x e : Addr} {o : HO}
theorem Un.any (u : Un fs ex H H1 h h1) {b : Addr} {ob : Obj} (q : h.get? b = some ob) (n : H b = none) (hx : b ∉ ex) : ∃ sl, h1.get? b = some { ob with slots := sl } := by
  by_cases hb : b ∈ fs
  · exact u.slot b ob q n hb hx
  · exact ⟨ob.slots, u.keep b ob q n hb hx⟩
theorem Un.trans (a : Un fs ex H H1 h h1) (b : Un fs ex H1 H2 h1 h2) : Un fs ex H H2 h h2 where
  keep := fun c ob q n hc hx => b.keep c ob (a.keep c ob q n hc hx) (a.free c ob q n hx) hc hx
  slot := fun c ob q n hc hx => by
    obtain ⟨sl, e1⟩ := a.slot c ob q n hc hx
    obtain ⟨sl', e2⟩ := b.slot c _ e1 (a.free c ob q n hx) hc hx
    exact ⟨sl', e2⟩
  free := fun c ob q n hx => by
    obtain ⟨o', e1⟩ := a.there c ob q hx
    exact b.free c o' e1 (a.free c ob q n hx) hx
  there := fun c ob q hx => by
    obtain ⟨o', e1⟩ := a.there c ob q hx
    exact b.there c o' e1 hx
  tups := fun c xs q => b.tups c xs (a.tups c xs q)
  frzs := fun c ob xs q => b.frzs c ob xs (a.frzs c ob xs q)
  tbls := fun c ps q => by
    obtain ⟨m1, e1⟩ := a.tbls c ps q
    obtain ⟨m2, e2⟩ := b.tbls c _ e1
    exact ⟨m1 ++ m2, by rw [e2, Array.append_assoc]⟩
theorem Un.kept (k : ∀ b u, h.get? b = some u → h'.get? b = some u) : Un fs ex H H h h' :=
  ⟨fun b ob q _ _ _ => k b ob q, fun b ob q _ _ _ => ⟨ob.slots, k b ob q⟩, fun _ _ _ n _ => n, fun b ob q _ => ⟨ob, k b ob q⟩, fun _ _ q => q, fun _ _ _ q => q, fun _ ps q => ⟨#[], by rw [q]; simp⟩⟩
theorem Un.refl : Un fs ex H H h h := Un.kept fun _ _ q => q
theorem Un.laid (k : ∀ b u, h.get? b = some u → h'.get? b = some u) (hp : h.objs.size ≤ a) (hn : H a = none) : Un fs ex H (upd H a o) h h' where
  keep := fun b u q _ _ _ => k b u q
  slot := fun b u q _ _ _ => ⟨u.slots, k b u q⟩
  free := fun b u q n _ => by rw [upd_ne (Nat.ne_of_lt (Nat.lt_of_lt_of_le (Heap.lt_size q) hp))]; exact n
  there := fun b u q _ => ⟨u, k b u q⟩
  tups := fun b xs q => by rw [upd_ne (ne_of_none q hn)]; exact q
  frzs := fun b u xs q => by rw [upd_ne (ne_of_none q hn)]; exact q
  tbls := fun b ps q => ⟨#[], by rw [upd_ne (ne_of_none q hn), q]; simp⟩
theorem Un.write (mu : Mut (H x)) (he : e = x ∨ H e = some (.own x)) (k : ∀ b u, b ≠ e → h.get? b = some u → h'.get? b = some u) (heo : ∃ u, h'.get? e = some u) : Un fs ex H (upd H x o) h h' := by
  have hx : ∀ b, H b = none → b ≠ x := fun b n z => by subst z; rw [n] at mu; exact mu
  have hb : ∀ b, H b = none → b ≠ e := fun b n z => by
    subst z
    rcases he with r | r
    · exact hx b n r
    · rw [n] at r; cases r
  have hm : ∀ b u, H b = some u → ¬ Mut (some u) → b ≠ x := fun b u q nm z => by subst z; rw [q] at mu; exact nm mu
  refine ⟨fun b u q n _ _ => k b u (hb b n) q, fun b u q n _ _ => ⟨u.slots, k b u (hb b n) q⟩, fun b u q n _ => by rw [upd_ne (hx b n)]; exact n, fun b u q _ => ?_,
    fun b xs q => by rw [upd_ne (hm b _ q fun z => z)]; exact q, fun b u xs q => by rw [upd_ne (hm b _ q fun z => z)]; exact q, fun b ps q => ⟨#[], by rw [upd_ne (hm b _ q fun z => z), q]; simp⟩⟩
  by_cases hbe : b = e
  · subst hbe; exact heo
  · exact ⟨u, k b u hbe q⟩
theorem Un.mono (u : Un fs ex H H1 h h1) (hs : ∀ b ∈ fs, b ∈ fs') (hx : ∀ b ∈ ex, b ∈ ex') : Un fs' ex' H H1 h h1 :=
  ⟨fun b ob q n hb he => u.keep b ob q n (fun z => hb (hs b z)) fun z => he (hx b z), fun _ _ q n _ he => u.any q n fun z => he (hx _ z), fun b ob q n he => u.free b ob q n fun z => he (hx b z), fun b ob q he => u.there b ob q fun z => he (hx b z), u.tups, u.frzs, u.tbls⟩
end

/-! ### the heap without what is tracked -/
def trk (h : Heap) (H : Hp) : List Addr := (List.range h.objs.size).filter fun a => (H a).isSome
def hidT (h : Heap) (H : Hp) : Heap := PySem.W.hideAll h (trk h H)
theorem hidT_size (h : Heap) (H : Hp) : (hidT h H).objs.size = h.objs.size := PySem.W.hideAll_size _ _
theorem hidT_get {h : Heap} {H : Hp} {b : Addr} {o : Obj} (e : h.get? b = some o) (n : H b = none) : (hidT h H).get? b = some o :=
  PySem.W.hideAll_get _ e fun hm => by
    have q : (H b).isSome = true := (List.mem_filter.mp hm).2
    rw [n] at q; simp at q
theorem of_hidT {h : Heap} {H : Hp} {b : Addr} {o : Obj} (e : (hidT h H).get? b = some o) : h.get? b = some o ∧ H b = none := by
  have e' : h.get? b = some o := PySem.W.of_hideAll (trk h H) e
  refine ⟨e', ?_⟩
  cases q : H b with
  | none => rfl
  | some x =>
    have hm : b ∈ trk h H := List.mem_filter.mpr ⟨List.mem_range.mpr (Heap.lt_size e'), by simp [q]⟩
    have z : (hidT h H).get? b = none := PySem.W.hideAll_none (trk h H) hm
    rw [z] at e; cases e

/-! ### OpenK's ledger, filled with every new object but one -/
def allNews (g h : Heap) (L : Addr) : List (Addr × Obj) := (List.range h.objs.size).filterMap fun a => if a = L ∨ (g.get? a).isSome = true then none else (h.get? a).map fun o => (a, o)
def rest (g h : Heap) (L d : Addr) : List (Addr × Obj) := (allNews g h L).filter fun p => decide (p.1 ≠ d)
end L2

namespace L2
open PySem PySem.Spec PyProof.Rows

/-- the module's facts, over the base: the heap at the law's entry without what is tracked there -/
structure Mod (K : PySem.W.Frag) (mg : Str → Option Value) (base : Heap) : Prop where
  kin : K.In base
  glob : base.Ns mainGlobals mg
  blt : ∃ mb, base.Ns builtinsNs mb ∧ ∀ x : Str, x ≠ "__name__" → mb x = bootBuiltins x
  nolimit : base.NoLimit

/-- the context: a def's body (or a comprehension's block) running. base: fixed through the whole law; s₀, H₀: the entry; outer: the frames whose slots others may change (a def's callers); stack: all frames that run;
   ex: iterators that were made ahead of the entry and are walked here (a comprehension's); fn: the names whose cells were made at the entry (a def: all; a comprehension's block: its own); calm: not within an except suite; pn: pins that every state bears; xe: what is wanted of an exception that leaves the code -/
structure Cx where
  prog : Program
  w : World
  K : PySem.W.Frag
  mg : Str → Option Value
  base : Heap
  A : Around
  N : List Str
  s₀ : Shared
  H₀ : Hp
  env : Env
  outer : List Env
  stack : List Env
  ex : List Addr
  fn : Str → Bool
  calm : Bool
  pn : List (Addr × Obj)
  xe : Value → Shared → Prop
/-- the callers' frames -/
def frs (l : List Env) : List Addr := l.filterMap (·.frame)
abbrev Cx.fs (X : Cx) : List Addr := frs X.outer

def Vis (sc : Scope) (x : Str) : Prop := sc.names.lookup x = some .local ∨ sc.names.lookup x = some .cell ∨ sc.names.lookup x = some .free
def Loc (sc : Scope) (x : Str) : Prop := sc.names.lookup x = some .local ∨ sc.names.lookup x = some .cell
def Look (env : Env) (h : Heap) (m : Str → Option Value) (x : Str) (u : Value) : Prop :=
  (env.kindOf x = some .local ∧ m x = some u) ∨ ((env.kindOf x = some .cell ∨ env.kindOf x = some .free) ∧ ∃ c, env.cells.lookup x = some c ∧ h.IsCell c (some u))

structure Cx.Ok (X : Cx) : Prop where
  mod : Mod X.K X.mg X.base
  kind : X.env.scope.kind = .function
  glob : X.env.globals = mainGlobals
  blt : X.env.builtins = builtinsNs
  above : X.s₀.heap.objs.size ≤ X.env.locals
  inj : ∀ x y c, X.env.cells.lookup x = some c → X.env.cells.lookup y = some c → x = y
  has : ∀ x, (X.env.kindOf x = some .cell ∨ X.env.kindOf x = some .free) → ∃ c, X.env.cells.lookup x = some c
  cab : ∀ x c, X.fn x = true → X.env.cells.lookup x = some c → X.s₀.heap.objs.size ≤ c
  hd : X.calm = true → X.A.handled = none
  frames : X.A.frames = some X.stack
  stk : X.stack = X.outer ∨ (X.stack = X.env :: X.outer ∧ X.env.frame = some X.env.locals)
  exf : ∀ b ∈ X.ex, b ≠ X.env.locals ∧ ∀ x c, X.env.cells.lookup x = some c → c ≠ b
  bs : ∀ b o, X.base.get? b = some o → X.s₀.heap.get? b = some o ∧ X.H₀ b = none
  bsz : X.base.objs.size ≤ X.s₀.heap.objs.size
  noex : ∀ b o, X.base.get? b = some o → b ∉ X.ex
  exfs : ∀ b ∈ X.ex, b ∉ X.fs
  funs : X.s₀.heap.FunFrames X.base X.outer
  frf : ∀ b ∈ X.fs, X.H₀ b = none

structure Inv (X : Cx) (pins : List (Addr × Obj)) (σ : List (Option V)) (H : Hp) (s : Shared) : Prop where
  ok : X.Ok
  os : s.os = X.s₀.os
  bare : AllBare s.gens
  base : Un X.fs X.ex X.H₀ H X.s₀.heap s.heap
  loc : ∃ m, s.heap.Ns X.env.locals m ∧ ∀ (i : Nat) (x : Str) (v : V), X.N[i]? = some x → σ[i]? = some (some v) → Vis X.env.scope x → ∃ u, RelV v u ∧ Look X.env s.heap m x u
  cell : ∀ x c, X.env.cells.lookup x = some c → ∃ v, s.heap.IsCell c v
  free : H X.env.locals = none
  freeC : ∀ x c, X.env.cells.lookup x = some c → H c = none
  pin : ∀ p ∈ X.pn ++ pins, s.heap.get? p.1 = some p.2 ∧ H p.1 = none ∧ p.1 ≠ X.env.locals ∧ p.1 ∉ X.fs ∧ ∀ v, p.2.data ≠ .cell v
  hok : HOk X.prog X.w H s.heap
  len : σ.length = X.N.length

section
variable {X : Cx} {pins : List (Addr × Obj)} {σ : List (Option V)} {H H' : Hp} {s : Shared} {h' : Heap}

theorem Cx.Ok.nofr (ok : X.Ok) {b : Addr} {o : Obj} (e : X.base.get? b = some o) : b ∉ X.fs := fun hb => by
  have := (ok.funs.mem hb).1
  rw [e] at this; cases this
theorem Inv.bs (I : Inv X pins σ H s) : ∀ b o, X.base.get? b = some o → s.heap.get? b = some o ∧ H b = none := fun b o e =>
  ⟨I.base.keep b o (I.ok.bs b o e).1 (I.ok.bs b o e).2 (I.ok.nofr e) (I.ok.noex b o e), I.base.free b o (I.ok.bs b o e).1 (I.ok.bs b o e).2 (I.ok.noex b o e)⟩
theorem Inv.bk (I : Inv X pins σ H s) : ∀ b o, X.base.get? b = some o → s.heap.get? b = some o := fun b o e => (I.bs b o e).1
theorem Inv.mod (I : Inv X pins σ H s) : Mod X.K X.mg X.base := I.ok.mod
theorem Inv.kIn (I : Inv X pins σ H s) : X.K.In s.heap := I.ok.mod.kin.keeps I.bk
theorem Inv.nolimit (I : Inv X pins σ H s) : s.heap.NoLimit := I.ok.mod.nolimit.keeps I.bk
/-- the frame over the base: for OpenK's rules (K.In X.base is I.mod.kin) -/
theorem Inv.fr (I : Inv X pins σ H s) : ∃ m, Fr X.base X.env.locals s.heap m :=
  let ⟨m, hn, _⟩ := I.loc
  ⟨m, hn, I.bk, Nat.le_trans I.ok.bsz I.ok.above⟩
theorem Inv.lt (I : Inv X pins σ H s) : X.env.locals < s.heap.objs.size := let ⟨_, hn, _⟩ := I.loc; hn.lt
theorem Inv.sz (I : Inv X pins σ H s) : X.s₀.heap.objs.size ≤ s.heap.objs.size := Nat.le_trans I.ok.above (Nat.le_of_lt I.lt)
theorem Inv.nofs (I : Inv X pins σ H s) {a : Addr} (h : s.heap.objs.size ≤ a) : a ∉ X.fs := fun hb => by
  obtain ⟨_, o, ho, _⟩ := I.ok.funs.mem hb
  exact absurd (Nat.lt_of_lt_of_le (Heap.lt_size ho) (Nat.le_trans I.sz h)) (Nat.lt_irrefl _)
theorem Inv.cne (I : Inv X pins σ H s) : ∀ x c, X.env.cells.lookup x = some c → c ≠ X.env.locals := fun x c e z => by
  obtain ⟨v, o, ho, hd⟩ := I.cell x c e
  obtain ⟨m, ⟨o', es, ep, ho', hd', _⟩, _⟩ := I.loc
  rw [z, ho'] at ho; cases ho; rw [hd'] at hd; cases hd
theorem Inv.funs (I : Inv X pins σ H s) : s.heap.FunFrames X.base X.outer := by
  have all : ∀ (l : List Env), (∀ b ∈ frs l, b ∈ X.fs) → X.s₀.heap.FunFrames X.base l → s.heap.FunFrames X.base l := by
    intro l
    induction l with
    | nil => intro _ _; trivial
    | cons env r ih =>
      intro hs hl
      obtain ⟨hk, ⟨L, o, hf, hn, ho, hd⟩, hr⟩ := hl
      have hL : L ∈ X.fs := hs L (by unfold frs; rw [List.filterMap_cons, hf]; exact List.mem_cons_self)
      obtain ⟨sl, e⟩ := I.base.slot L o ho (I.ok.frf L hL) hL fun z => I.ok.exfs L z hL
      exact ⟨hk, ⟨L, _, hf, hn, e, hd⟩, ih (fun b hb => hs b (by unfold frs; rw [List.filterMap_cons, hf]; exact List.mem_cons_of_mem _ hb)) hr⟩
  exact all X.outer (fun _ hb => hb) I.ok.funs

/-- the frames that run, for a call -/
theorem Inv.stack (I : Inv X pins σ H s) : s.heap.FunFrames X.base X.stack := by
  rcases I.ok.stk with e | ⟨e, hf⟩
  · rw [e]; exact I.funs
  · rw [e]
    obtain ⟨m, hn, _⟩ := I.loc
    refine .cons (by rw [I.ok.kind]; decide) hf hn ?_ I.funs
    exact Heap.get?_none_of_le (Nat.le_trans I.ok.bsz I.ok.above)
theorem Inv.stkSub (I : Inv X pins σ H s) : ∀ b ∈ frs X.stack, b ∈ X.env.locals :: X.fs := fun b hb => by
  rcases I.ok.stk with e | ⟨e, hf⟩
  · rw [e] at hb; exact List.mem_cons_of_mem _ hb
  · rw [e] at hb
    unfold frs at hb
    rw [List.filterMap_cons, hf] at hb
    exact hb
theorem Inv.stkFree (I : Inv X pins σ H s) : ∀ b ∈ frs X.stack, H b = none := fun b hb => by
  rcases List.mem_cons.mp (I.stkSub b hb) with e | hb
  · rw [e]; exact I.free
  · obtain ⟨_, o, ho, _⟩ := I.ok.funs.mem hb
    exact I.base.free b o ho (I.ok.frf b hb) fun z => I.ok.exfs b z hb

/-- THE STEP: the untracked objects but the frame and the records at ch are kept (the callers' frames up to slots), the frame's map is kept, the new abstract heap is held -/
theorem Inv.step {g' : Array GenState} {t' : Nat} {d' : Drawn} {ch : List Addr} (I : Inv X pins σ H s)
    (hch : ∀ b ∈ ch, (b ∈ X.ex ∨ X.s₀.heap.objs.size ≤ b) ∧ b ≠ X.env.locals ∧ (∀ x c, X.env.cells.lookup x = some c → c ≠ b) ∧ ∀ p ∈ X.pn ++ pins, p.1 ≠ b)
    (keep : ∀ b o, b ≠ X.env.locals → b ∉ X.fs → b ∉ ch → s.heap.get? b = some o → H b = none → h'.get? b = some o)
    (slot : ∀ b o, b ≠ X.env.locals → b ∈ X.fs → b ∉ ch → s.heap.get? b = some o → H b = none → ∃ sl, h'.get? b = some { o with slots := sl }) (free : ∀ b o, b ∉ ch → s.heap.get? b = some o → H b = none → H' b = none)
    (there : ∀ b o, b ∉ ch → s.heap.get? b = some o → ∃ o', h'.get? b = some o')
    (tups : ∀ b xs, H b = some (.tup xs) → H' b = some (.tup xs)) (frzs : ∀ b o u, H b = some (.frz o u) → H' b = some (.frz o u)) (tbls : ∀ b ps, H b = some (.tbl ps) → ∃ more, H' b = some (.tbl (ps ++ more)))
    (ns : ∀ m, s.heap.Ns X.env.locals m → h'.Ns X.env.locals m) (hok : HOk X.prog X.w H' h') (hg : AllBare g') :
    Inv X pins σ H' { s with heap := h', gens := g', drawn := d', toks := t' } := by
  have neL : ∀ b o, X.s₀.heap.get? b = some o → b ≠ X.env.locals := fun b o e => Nat.ne_of_lt (Nat.lt_of_lt_of_le (Heap.lt_size e) I.ok.above)
  have neC : ∀ b o, X.s₀.heap.get? b = some o → b ∉ X.ex → b ∉ ch := fun b o e hx hb => by
    rcases (hch b hb).1 with z | z
    · exact hx z
    · exact absurd (Nat.lt_of_lt_of_le (Heap.lt_size e) z) (Nat.lt_irrefl _)
  have cellK : ∀ x c, X.env.cells.lookup x = some c → ∀ v, s.heap.IsCell c v → h'.IsCell c v := fun x c e v ⟨o, ho, hd⟩ => by
    have nch : c ∉ ch := fun z => (hch c z).2.2.1 x c e rfl
    by_cases hc : c ∈ X.fs
    · obtain ⟨sl, q⟩ := slot c o (I.cne x c e) hc nch ho (I.freeC x c e)
      exact ⟨_, q, hd⟩
    · exact ⟨o, keep c o (I.cne x c e) hc nch ho (I.freeC x c e), hd⟩
  refine ⟨I.ok, I.os, hg, ⟨fun b o e n hb hx => ?_, fun b o e n hb hx => ?_, fun b o e n hx => ?_, fun b o e hx => ?_, fun b xs e => tups b xs (I.base.tups b xs e), fun b o xs e => frzs b o xs (I.base.frzs b o xs e), fun b ps e => ?_⟩, ?_, fun x c e => ?_, ?_, fun x c e => ?_, fun p hp => ?_, hok, I.len⟩
  · exact keep b o (neL b o e) hb (neC b o e hx) (I.base.keep b o e n hb hx) (I.base.free b o e n hx)
  · obtain ⟨sl, e1⟩ := I.base.slot b o e n hb hx
    obtain ⟨sl', e2⟩ := slot b _ (neL b o e) hb (neC b o e hx) e1 (I.base.free b o e n hx)
    exact ⟨sl', e2⟩
  · obtain ⟨o', e1⟩ := I.base.there b o e hx
    exact free b o' (neC b o e hx) e1 (I.base.free b o e n hx)
  · obtain ⟨o', e1⟩ := I.base.there b o e hx
    exact there b o' (neC b o e hx) e1
  · obtain ⟨m1, e1⟩ := I.base.tbls b ps e
    obtain ⟨m2, e2⟩ := tbls b _ e1
    exact ⟨m1 ++ m2, by rw [e2, Array.append_assoc]⟩
  · obtain ⟨m, hn, hl⟩ := I.loc
    refine ⟨m, ns m hn, fun i x v e1 e2 e3 => ?_⟩
    obtain ⟨u, r, l⟩ := hl i x v e1 e2 e3
    refine ⟨u, r, ?_⟩
    rcases l with l | ⟨k, c, e, z⟩
    · exact .inl l
    · exact .inr ⟨k, c, e, cellK x c e _ z⟩
  · obtain ⟨v, z⟩ := I.cell x c e
    exact ⟨v, cellK x c e v z⟩
  · obtain ⟨m, ⟨o, _, _, ho, _⟩, _⟩ := I.loc
    exact free _ o (fun z => (hch _ z).2.1 rfl) ho I.free
  · obtain ⟨v, o, ho, hd⟩ := I.cell x c e
    exact free c o (fun z => (hch c z).2.2.1 x c e rfl) ho (I.freeC x c e)
  · obtain ⟨e, n, ne, nf, d⟩ := I.pin p hp
    have nch : p.1 ∉ ch := fun z => (hch p.1 z).2.2.2 p hp rfl
    exact ⟨keep p.1 p.2 ne nf nch e n, free p.1 p.2 nch e n, ne, nf, d⟩
/-- .. where the frame's own object is kept too -/
theorem Inv.un {t' : Nat} (I : Inv X pins σ H s) (u : Un X.fs [] H H' s.heap h') (hok : HOk X.prog X.w H' h') : Inv X pins σ H' { s with heap := h', toks := t' } := by
  obtain ⟨m, ⟨o, es, ep, ho, r⟩, _⟩ := id I.loc
  obtain ⟨sl, hL⟩ := u.any ho I.free (by simp)
  exact I.step (g' := s.gens) (d' := s.drawn) (ch := []) (fun _ z => nomatch z) (fun b o _ hb _ e n => u.keep b o e n hb (by simp)) (fun b o _ hb _ e n => u.slot b o e n hb (by simp)) (fun b o _ e n => u.free b o e n (by simp)) (fun b o _ e => u.there b o e (by simp)) u.tups u.frzs u.tbls (fun m' hm => by
    obtain ⟨o', es', ep', ho', r'⟩ := hm
    rw [ho] at ho'; cases ho'
    exact ⟨_, es', ep', hL, r'⟩) hok I.bare
/-- behind a call (or a comprehension's block): the slots of this frame may have changed too, the records at ch may have turned -/
theorem Inv.call {g' : Array GenState} {t' : Nat} {d' : Drawn} {ch : List Addr} (I : Inv X pins σ H s) (u : Un (frs X.stack) ch H H' s.heap h') (hok : HOk X.prog X.w H' h') (hg : AllBare g')
    (hch : ∀ b ∈ ch, (b ∈ X.ex ∨ X.s₀.heap.objs.size ≤ b) ∧ b ≠ X.env.locals ∧ (∀ x c, X.env.cells.lookup x = some c → c ≠ b) ∧ ∀ p ∈ X.pn ++ pins, p.1 ≠ b) :
    Inv X pins σ H' { s with heap := h', gens := g', drawn := d', toks := t' } := by
  obtain ⟨m, ⟨o, es, ep, ho, r⟩, _⟩ := id I.loc
  obtain ⟨sl, hL⟩ := u.any ho I.free fun z => (hch _ z).2.1 rfl
  exact I.step (ch := ch) hch (fun b o hL hb hc e n => u.keep b o e n (fun z => (List.mem_cons.mp (I.stkSub b z)).elim hL hb) hc) (fun b o _ _ hc e n => u.any e n hc) (fun b o hc e n => u.free b o e n hc) (fun b o hc e => u.there b o e hc) u.tups u.frzs u.tbls (fun m' hm => by
    obtain ⟨o', es', ep', ho', r'⟩ := hm
    rw [ho] at ho'; cases ho'
    exact ⟨_, es', ep', hL, r'⟩) hok hg
/-- an untracked record of ours (an iterator) has turned -/
theorem Inv.turned {t' : Nat} {it : Addr} (I : Inv X pins σ H s) (k : ∀ b o, b ≠ it → s.heap.get? b = some o → h'.get? b = some o) (hn : H it = none) (hL : it ≠ X.env.locals)
    (h1 : it ∈ X.ex ∨ X.s₀.heap.objs.size ≤ it) (h2 : ∀ x c, X.env.cells.lookup x = some c → c ≠ it) (h3 : ∀ p ∈ X.pn ++ pins, p.1 ≠ it) : Inv X pins σ H { s with heap := h', toks := t' } := by
  have nit : ∀ b u, H b = some u → b ≠ it := fun b u e z => by rw [z, hn] at e; cases e
  refine I.step (g' := s.gens) (d' := s.drawn) (ch := [it]) (fun b hb => ?_) (fun b o _ _ hc e _ => k b o (fun z => hc (by simp [z])) e) (fun b o _ _ hc e _ => ⟨o.slots, k b o (fun z => hc (by simp [z])) e⟩) (fun _ _ _ _ n => n)
    (fun b o hc e => ⟨o, k b o (fun z => hc (by simp [z])) e⟩) (fun _ _ e => e) (fun _ _ _ e => e) (fun b ps e => ⟨#[], by rw [e]; simp⟩) (fun m hm => ?_) (fun b u e => ?_) I.bare
  · have e : b = it := by simpa using hb
    subst e
    exact ⟨h1, hL, h2, h3⟩
  · obtain ⟨o, es, ep, ho, r⟩ := hm
    exact ⟨o, es, ep, k _ o (Ne.symm hL) ho, r⟩
  · refine (I.hok b u e).stay (fun c v hc q => k c v ?_ q) (fun _ q => q) fun _ _ q => q
    rcases hc with z | z
    · rw [z]; exact nit b u e
    · exact nit c _ z
theorem Inv.tok (I : Inv X pins σ H s) (t : Nat) : Inv X pins σ H { s with toks := t } := I.un (h' := s.heap) (t' := t) Un.refl I.hok
/-- all objects kept -/
theorem Inv.kept {t' : Nat} (I : Inv X pins σ H s) (k : ∀ b u, s.heap.get? b = some u → h'.get? b = some u) : Inv X pins σ H { s with heap := h', toks := t' } := I.un (Un.kept k) (I.hok.kept k)
/-- a new object laid and tracked -/
theorem Inv.laid {a : Addr} {o : HO} {t' : Nat} (I : Inv X pins σ H s) (k : ∀ b u, s.heap.get? b = some u → h'.get? b = some u) (hp : s.heap.objs.size ≤ a) (new : ObjOk X.prog X.w (upd H a o) h' a o) :
    Inv X pins σ (upd H a o) { s with heap := h', toks := t' } := I.un (Un.laid k hp (I.hok.fresh hp)) (I.hok.laid k hp new)
/-- an object written -/
theorem Inv.write {x e : Addr} {o : HO} {t' : Nat} (I : Inv X pins σ H s) (mu : Mut (H x)) (he : e = x ∨ H e = some (.own x)) (k : ∀ b u, b ≠ e → s.heap.get? b = some u → h'.get? b = some u) (heo : ∃ u, h'.get? e = some u)
    (new : ObjOk X.prog X.w (upd H x o) h' x o) : Inv X pins σ (upd H x o) { s with heap := h', toks := t' } := I.un (Un.write mu he k heo) (I.hok.write mu he k heo new)
/-- forgetting slots, pins -/
theorem Inv.weak {σ' : List (Option V)} (I : Inv X pins σ H s) (hl : σ'.length = σ.length) (w : ∀ (i : Nat) v, σ'[i]? = some (some v) → σ[i]? = some (some v)) : Inv X pins σ' H s :=
  ⟨I.ok, I.os, I.bare, I.base, let ⟨m, hn, hl'⟩ := I.loc; ⟨m, hn, fun i x v e1 e2 e3 => hl' i x v e1 (w i v e2) e3⟩, I.cell, I.free, I.freeC, I.pin, I.hok, hl.trans I.len⟩
theorem Inv.pins_of {pins' : List (Addr × Obj)} (I : Inv X pins σ H s) (h : ∀ p ∈ pins', s.heap.get? p.1 = some p.2 ∧ H p.1 = none ∧ p.1 ≠ X.env.locals ∧ p.1 ∉ X.fs ∧ ∀ v, p.2.data ≠ .cell v) : Inv X pins' σ H s :=
  ⟨I.ok, I.os, I.bare, I.base, I.loc, I.cell, I.free, I.freeC, fun p hp => (List.mem_append.mp hp).elim (fun z => I.pin p (List.mem_append_left _ z)) (h p), I.hok, I.len⟩

theorem nodup_ix {N : List Str} (hN : N.Nodup) {i j : Nat} {x : Str} (a : N[i]? = some x) (b : N[j]? = some x) : i = j := by
  obtain ⟨h1, e1⟩ := List.getElem?_eq_some_iff.mp a
  obtain ⟨h2, e2⟩ := List.getElem?_eq_some_iff.mp b
  exact (List.getElem_inj hN).mp (e1.trans e2.symm)

/-- a name is stored; what changed -/
theorem store_ok2 {M : Model} {A : Around} {E : Value → Shared → Prop} {i : Nat} {x : Str} {v : V} {u : Value} {Q : Unit → Shared → Prop} (I : Inv X pins σ H s) (hN : X.N.Nodup) (hi : X.N[i]? = some x) (hx : Loc X.env.scope x) (r : RelV v u)
    (h : ∀ s', Inv X pins (σ.set i (some v)) H s' → (∃ a, Heap.SameBut a s.heap s'.heap ∧ (a = X.env.locals ∨ X.env.cells.lookup x = some a)) → Q () s') (hf : X.fn x = true ∨ X.env.scope.names.lookup x = some .local := by first | exact .inl rfl | exact .inr rfl | assumption) : wpAny M A (storeName X.env x u) Q E s := by
  obtain ⟨m, hn, hl⟩ := id I.loc
  have hcls : (X.env.scope.kind == .class || (X.env.scope.kind == .module && X.env.locals != X.env.globals)) = false := by rw [I.ok.kind]; rfl
  have hiσ : i < σ.length := by rw [I.len]; exact (List.getElem?_eq_some_iff.mp hi).1
  have cne := I.cne
  have tracked : ∀ {a : Addr} {h' : Heap}, (∃ o, s.heap.get? a = some o ∧ H a = none) → Heap.SameBut a s.heap h' → HOk X.prog X.w H h' := fun {a h'} ha hs b ob e => by
    obtain ⟨_, _, hfree⟩ := ha
    refine (I.hok b ob e).stay (fun c w' hc q => (hs.2 c ?_).trans q) (fun _ q => q) fun _ _ q => q
    rintro rfl
    rcases hc with rfl | hc
    · rw [hfree] at e; cases e
    · rw [hfree] at hc; cases hc
  rcases hx with hk | hk
  · refine wpAny_storeName_local hk hn (fun h' hn' hs => ?_) hcls
    obtain ⟨oL, _, _, hoL, _⟩ := id hn
    refine h _ ⟨I.ok, I.os, I.bare, ⟨fun b o e n hb hx => ?_, fun b o e n hb hx => ?_, I.base.free, fun b o e hx => ?_, I.base.tups, I.base.frzs, I.base.tbls⟩, ⟨_, hn', fun j y v' e1 e2 e3 => ?_⟩, fun y c e => ?_, I.free, I.freeC, fun p hp => ?_, tracked ⟨oL, hoL, I.free⟩ hs, by simpa using I.len⟩ ⟨_, hs, .inl rfl⟩
    · exact (hs.2 b (Nat.ne_of_lt (Nat.lt_of_lt_of_le (Heap.lt_size e) I.ok.above))).trans (I.base.keep b o e n hb hx)
    · obtain ⟨sl, e1⟩ := I.base.slot b o e n hb hx
      exact ⟨sl, (hs.2 b (Nat.ne_of_lt (Nat.lt_of_lt_of_le (Heap.lt_size e) I.ok.above))).trans e1⟩
    · obtain ⟨o', e1⟩ := I.base.there b o e hx
      exact ⟨o', (hs.2 b (Nat.ne_of_lt (Nat.lt_of_lt_of_le (Heap.lt_size e) I.ok.above))).trans e1⟩
    · by_cases hj : j = i
      · subst hj
        rw [hi] at e1; cases e1
        rw [List.getElem?_set_self hiσ] at e2
        cases e2
        exact ⟨u, r, .inl ⟨hk, by simp⟩⟩
      · rw [List.getElem?_set_ne (Ne.symm hj)] at e2
        obtain ⟨u', r', q⟩ := hl j y v' e1 e2 e3
        refine ⟨u', r', ?_⟩
        rcases q with ⟨k, e⟩ | ⟨k, c, e, z⟩
        · refine .inl ⟨k, ?_⟩
          have : y ≠ x := fun e => hj (nodup_ix hN e1 (e ▸ hi))
          simp [this, e]
        · exact .inr ⟨k, c, e, z.sameBut hs (cne y c e)⟩
    · obtain ⟨w', z⟩ := I.cell y c e
      exact ⟨w', z.sameBut hs (cne y c e)⟩
    · obtain ⟨e, n, ne, nf, d⟩ := I.pin p hp
      exact ⟨(hs.2 p.1 ne).trans e, n, ne, nf, d⟩
  · have hfn : X.fn x = true := by
      rcases hf with z | z
      · exact z
      · rw [z] at hk; cases hk
    obtain ⟨c, hc⟩ := I.ok.has x (.inl hk)
    obtain ⟨w', z⟩ := I.cell x c hc
    refine wpAny_storeName_cell I.ok.kind hk hc z (fun h' hc' hs => ?_)
    obtain ⟨oc, hoc, hocd⟩ := id z
    refine h { s with heap := h' } ⟨I.ok, I.os, I.bare, ⟨fun b o e n hb hx => ?_, fun b o e n hb hx => ?_, I.base.free, fun b o e hx => ?_, I.base.tups, I.base.frzs, I.base.tbls⟩, ⟨m, hn.sameBut hs (Ne.symm (cne x c hc)), fun j y v' e1 e2 e3 => ?_⟩, fun y c' e => ?_, I.free, I.freeC, fun p hp => ?_, tracked ⟨oc, hoc, I.freeC x c hc⟩ hs, by simpa using I.len⟩ ⟨c, hs, .inr hc⟩
    · exact (hs.2 b (Nat.ne_of_lt (Nat.lt_of_lt_of_le (Heap.lt_size e) (I.ok.cab x c hfn hc)))).trans (I.base.keep b o e n hb hx)
    · obtain ⟨sl, e1⟩ := I.base.slot b o e n hb hx
      exact ⟨sl, (hs.2 b (Nat.ne_of_lt (Nat.lt_of_lt_of_le (Heap.lt_size e) (I.ok.cab x c hfn hc)))).trans e1⟩
    · obtain ⟨o', e1⟩ := I.base.there b o e hx
      exact ⟨o', (hs.2 b (Nat.ne_of_lt (Nat.lt_of_lt_of_le (Heap.lt_size e) (I.ok.cab x c hfn hc)))).trans e1⟩
    · by_cases hj : j = i
      · subst hj
        rw [hi] at e1; cases e1
        rw [List.getElem?_set_self hiσ] at e2
        cases e2
        exact ⟨u, r, .inr ⟨.inl hk, c, hc, hc'⟩⟩
      · rw [List.getElem?_set_ne (Ne.symm hj)] at e2
        obtain ⟨u', r', q⟩ := hl j y v' e1 e2 e3
        refine ⟨u', r', ?_⟩
        rcases q with q | ⟨k, c', e, z'⟩
        · exact .inl q
        · refine .inr ⟨k, c', e, z'.sameBut hs ?_⟩
          rintro rfl
          exact hj (nodup_ix hN e1 (I.ok.inj _ _ _ e hc ▸ hi))
    · by_cases hcc : c' = c
      · subst hcc; exact ⟨_, hc'⟩
      · obtain ⟨w2, z2⟩ := I.cell y c' e
        exact ⟨w2, z2.sameBut hs hcc⟩
    · obtain ⟨e, n, ne, nf, d⟩ := I.pin p hp
      refine ⟨(hs.2 p.1 ?_).trans e, n, ne, nf, d⟩
      intro q
      rw [q, hoc] at e
      have q' : oc = p.2 := Option.some.inj e
      exact d w' (by rw [← q']; exact hocd)
theorem store_ok {M : Model} {A : Around} {E : Value → Shared → Prop} {i : Nat} {x : Str} {v : V} {u : Value} {Q : Unit → Shared → Prop} (I : Inv X pins σ H s) (hN : X.N.Nodup) (hi : X.N[i]? = some x) (hx : Loc X.env.scope x) (r : RelV v u)
    (h : ∀ s', Inv X pins (σ.set i (some v)) H s' → Q () s') (hf : X.fn x = true ∨ X.env.scope.names.lookup x = some .local := by first | exact .inl rfl | exact .inr rfl | assumption) : wpAny M A (storeName X.env x u) Q E s :=
  store_ok2 I hN hi hx r (fun s' I' _ => h s' I') hf
/-- behind a call or a block, the state as it is -/
theorem Inv.call' {s' : Shared} {ch : List Addr} (I : Inv X pins σ H s) (ho : s'.os = s.os) (u : Un (frs X.stack) ch H H' s.heap s'.heap) (hok : HOk X.prog X.w H' s'.heap) (hg : AllBare s'.gens)
    (hch : ∀ b ∈ ch, (b ∈ X.ex ∨ X.s₀.heap.objs.size ≤ b) ∧ b ≠ X.env.locals ∧ (∀ x c, X.env.cells.lookup x = some c → c ≠ b) ∧ ∀ p ∈ X.pn ++ pins, p.1 ≠ b) : Inv X pins σ H' s' := by
  obtain ⟨h', g', d', t', o'⟩ := s'
  have e : o' = s.os := ho
  subst e
  exact I.call (g' := g') (t' := t') (d' := d') u hok hg hch
end

/-! ### the judgements -/
/-- an exception: its class, its own dict's address (where it has one), the abstract heap behind it -/
abbrev XK := Value → Option Addr → Hp → Prop
abbrev St := List (Option V)
abbrev VK := V → Hp → Prop
/-- an expression's reading; a test's; an argument list's -/
abbrev TE := St → Hp → VK → Prop
abbrev TT := St → Hp → (Bool → Hp → Prop) → Prop
abbrev TA := St → Hp → (List V → Hp → Prop) → Prop
/-- what is wanted behind a statement -/
structure Ends where
  nx : St → Hp → Prop
  rt : VK
  bk : St → Hp → Prop := fun _ _ => False
  ct : St → Hp → Prop := fun _ _ => False
abbrev TS := Ends → St → Hp → Prop

def EP (X : Cx) (pins : List (Addr × Obj)) (σ : St) (Q : VK) (u : Value) (s' : Shared) : Prop := ∃ v H', Inv X pins σ H' s' ∧ RelV v u ∧ Q v H'
def TP (X : Cx) (pins : List (Addr × Obj)) (σ : St) (Q : Bool → Hp → Prop) (b : Bool) (s' : Shared) : Prop := ∃ H', Inv X pins σ H' s' ∧ Q b H'
def AP (X : Cx) (pins : List (Addr × Obj)) (σ : St) (Q : List V → Hp → Prop) (us : List Value) (s' : Shared) : Prop := ∃ vs H', Inv X pins σ H' s' ∧ Vals vs us ∧ Q vs H'
def SP (X : Cx) (pins : List (Addr × Obj)) (D : Ends) (f : Flow) (s' : Shared) : Prop :=
  match f with
  | .next => ∃ σ' H', Inv X pins σ' H' s' ∧ D.nx σ' H'
  | .brk => ∃ σ' H', Inv X pins σ' H' s' ∧ D.bk σ' H'
  | .cont => ∃ σ' H', Inv X pins σ' H' s' ∧ D.ct σ' H'
  | .ret u => ∃ v σ' H', Inv X pins σ' H' s' ∧ RelV v u ∧ D.rt v H'

def PE (X : Cx) (e : Expr) (t : TE) : Prop :=
  ∀ (pins : List (Addr × Obj)) (s : Shared) (σ : St) (H : Hp) (Q : VK), Inv X pins σ H s → t σ H Q → wpAny (model X.prog X.w) X.A (eval e X.env) (EP X pins σ Q) X.xe s
def PT (X : Cx) (e : Expr) (t : TT) : Prop :=
  ∀ (pins : List (Addr × Obj)) (s : Shared) (σ : St) (H : Hp) (Q : Bool → Hp → Prop), Inv X pins σ H s → t σ H Q → wpAny (model X.prog X.w) X.A (isTrue e X.env (eval e X.env)) (TP X pins σ Q) X.xe s
/-- a test whatever its 'whole' is (and, or) -/
def PW (X : Cx) (e : Expr) (t : TT) : Prop :=
  ∀ (whole : Sem Value) (pins : List (Addr × Obj)) (s : Shared) (σ : St) (H : Hp) (Q : Bool → Hp → Prop), Inv X pins σ H s → t σ H Q → wpAny (model X.prog X.w) X.A (isTrue e X.env whole) (TP X pins σ Q) X.xe s
theorem PW.pt {X : Cx} {e : Expr} {t : TT} (h : PW X e t) : PT X e t := h _
/-- an argument list (no star), from the left -/
def PA (X : Cx) (es : List Expr) (t : TA) : Prop :=
  ∀ (pos : Pos) (pins : List (Addr × Obj)) (s : Shared) (σ : St) (H : Hp) (Q : List V → Hp → Prop), Inv X pins σ H s → t σ H Q → wpAny (model X.prog X.w) X.A (spliced (backTo pos (starEach es X.env))) (AP X pins σ Q) X.xe s
def PS (X : Cx) (st : Stmt) (t : TS) : Prop :=
  ∀ (pins : List (Addr × Obj)) (s : Shared) (σ : St) (H : Hp) (D : Ends), Inv X pins σ H s → t D σ H → wpAny (model X.prog X.w) X.A (exec st X.env) (SP X pins D) X.xe s
def PSs (X : Cx) (st : List Stmt) (t : TS) : Prop :=
  ∀ (pins : List (Addr × Obj)) (s : Shared) (σ : St) (H : Hp) (D : Ends), Inv X pins σ H s → t D σ H → wpAny (model X.prog X.w) X.A (execs st X.env) (SP X pins D) X.xe s
/-- weaken the end -/
theorem thn {α : Type} {t : Sem α} {Q Q' : α → Shared → Prop} {M : Model} {A : Around} {E : Value → Shared → Prop} {s : Shared} (h : wpAny M A t Q E s) (hQ : ∀ a s, Q a s → Q' a s) : wpAny M A t Q' E s := wpAny_mono h hQ fun _ _ x => x
end L2

namespace L2
open PySem PySem.Spec PyProof.Rows
section
variable {X : Cx}

/-! ### names and constants -/
def tVar (i : Nat) : TE := fun σ H Q => ∃ v, σ[i]? = some (some v) ∧ Q v H
def tC (v : V) : TE := fun _ H Q => Q v H
theorem pe_var {i : Nat} {x : Str} {pos : Pos} (hN : X.N[i]? = some x) (hv : Vis X.env.scope x) (hd : (x == ("__debug__" : Str)) = false := by decide) (hcd : (x == ("__classdict__" : Str)) = false := by decide) : PE X (.Name x pos) (tVar i) := by
  intro pins s σ H Q I h
  obtain ⟨v, e, h⟩ := h
  obtain ⟨m, hn, hl⟩ := I.loc
  obtain ⟨u, r, l⟩ := hl i x v hN e hv
  have fin : EP X pins σ Q u s := ⟨v, H, I, r, h⟩
  rcases l with ⟨hk, hm⟩ | ⟨hk, c, hc, hcell⟩
  · exact wpAny_Name (wpAny_loadName_local I.ok.kind hk hn hm fin) hd
  · rcases hk with hk | hk
    · exact wpAny_Name (wpAny_loadName_cell I.ok.kind hk hc hcell fin) hd
    · exact wpAny_Name (wpAny_loadName_free I.ok.kind hk hc hcell fin hcd) hd
theorem pe_int {i j pos} : PE X (.Constant (.int i) j pos) (tC (.int i)) := fun _ _ _ H _ I h => wpAny_Constant_int ⟨.int i, H, I.tok _, ⟨_, rfl⟩, h⟩
theorem pe_bl {b j pos} : PE X (.Constant (.bool b) j pos) (tC (.bl b)) := fun _ _ _ H _ I h => Constant_bool ⟨.bl b, H, I, rfl, h⟩
theorem pe_non {j pos} : PE X (.Constant .none j pos) (tC .non) := fun _ _ _ H _ I h => Constant_none ⟨.non, H, I, rfl, h⟩
theorem pe_str {x j pos} : PE X (.Constant (.str x) j pos) (tC (.str x)) := fun _ _ _ H _ I h => Calls.Constant_str ⟨.str x, H, I.tok _, ⟨_, rfl⟩, h⟩

/-- a global name of the def -/
def Gl (X : Cx) (x : Str) : Prop := X.env.kindOf x = some .globalImplicit
theorem ld_glob {E : Value → Shared → Prop} {pins : List (Addr × Obj)} {s : Shared} {σ : St} {H : Hp} {x : Str} {u : Value} {pos : Pos} {Q : Value → Shared → Prop} (I : Inv X pins σ H s) (hg : Gl X x) (hm : X.mg x = some u) (h : Q u s)
    (hd : (x == ("__debug__" : Str)) = false := by decide) : wpAny (model X.prog X.w) X.A (eval (.Name x pos) X.env) Q E s :=
  Calls.Name_function_global I.ok.kind hg (Calls.loadGlobal_global (by rw [I.ok.glob]; exact I.mod.glob.keeps I.bk) hm h) hd
theorem ld_blt {E : Value → Shared → Prop} {pins : List (Addr × Obj)} {s : Shared} {σ : St} {H : Hp} {x : Str} {u : Value} {pos : Pos} {Q : Value → Shared → Prop} (I : Inv X pins σ H s) (hg : Gl X x) (hm : X.mg x = none) (hv : bootBuiltins x = some u) (h : Q u s)
    (hn : x ≠ "__name__" := by decide) (hd : (x == ("__debug__" : Str)) = false := by decide) : wpAny (model X.prog X.w) X.A (eval (.Name x pos) X.env) Q E s := by
  obtain ⟨mb, h1, h2⟩ := I.mod.blt
  exact Calls.Name_function_global I.ok.kind hg (Calls.loadGlobal_builtin (by rw [I.ok.glob]; exact I.mod.glob.keeps I.bk) hm (by rw [I.ok.blt]; exact h1.keeps I.bk) ((h2 x hn).trans hv) h) hd
theorem pe_bltn {x : Str} {v : V} {u : Value} {pos : Pos} (hg : Gl X x) (hm : X.mg x = none) (hv : bootBuiltins x = some u) (r : RelV v u) (hn : x ≠ "__name__" := by decide) (hd : (x == ("__debug__" : Str)) = false := by decide) : PE X (.Name x pos) (tC v) :=
  fun _ _ _ H _ I h => ld_blt I hg hm hv ⟨v, H, I, r, h⟩ hn hd

/-! ### arithmetic -/
variable {a b : Expr} {ta tb : TE} {pos : Pos}
/-! ### comparisons -/
/-- a comparison as a value, as a test -/
def tB (t : TE) : TT := fun σ H Q => t σ H fun x H1 => ∃ c, x = .bl c ∧ Q c H1
/-- an expression whose value is a bool, as a test -/
theorem pt_val {e : Expr} {t : TE} (h : PE X e t) (he : ∀ whole, isTrue e X.env whole = (do let v ← whole; standAt e.pos; holding [v] (truthy v)) := by intro _; rfl) : PT X e (tB t) := by
  intro pins s σ H Q I hw
  refine isTrue_plain (thn (h pins s σ H _ I hw) fun v s1 ⟨x, H1, I1, r1, q1⟩ => ?_) (he _)
  obtain ⟨d, rfl, q⟩ := q1
  cases r1
  exact wpAny_truthy_bool ⟨H1, I1, q⟩

/-! ### and, or, not -/
variable {tA tB' : TT} {rest : List Expr}
def tOr (t u : TT) : TT := fun σ H Q => t σ H fun c H1 => if c = true then Q true H1 else u σ H1 Q
def tNot (t : TT) : TT := fun σ H Q => t σ H fun c H1 => Q (!c) H1
theorem pw_or1 (ha : PT X a tA) : PW X (.BoolOp .Or [a] pos) tA := by
  intro wh pins s σ H Q I h
  refine isTrue_or (thn (ha pins s σ H Q I h) fun c s1 e => ?_)
  cases c with
  | false => exact isTrue_or_nil e
  | true => exact e
theorem pw_or (ha : PT X a tA) (hb : PW X (.BoolOp .Or (b :: rest) pos) tB') : PW X (.BoolOp .Or (a :: b :: rest) pos) (tOr tA tB') := by
  intro wh pins s σ H Q I h
  refine isTrue_or (thn (ha pins s σ H _ I h) fun c s1 ⟨H1, I1, q1⟩ => ?_)
  cases c with
  | true => exact ⟨H1, I1, q1⟩
  | false => exact hb wh pins s1 σ H1 Q I1 q1
theorem pt_not (ha : PT X a tA) : PT X (.UnaryOp .Not a pos) (tNot tA) := by
  intro pins s σ H Q I h
  exact isTrue_not (ha pins s σ H (fun c H1 => Q (!c) H1) I h)
/-- .. as values (bools) -/
def tAndV (ta tb : TE) : TE := fun σ H Q => ta σ H fun x H1 => ∃ c, x = .bl c ∧ if c = true then tb σ H1 Q else Q (.bl false) H1
def tNotV (ta : TE) : TE := fun σ H Q => ta σ H fun x H1 => ∃ c, x = .bl c ∧ Q (.bl (!c)) H1
theorem pe_one {op} {t : TE} (h : PE X a t) : PE X (.BoolOp op [a] pos) t := fun pins s σ H Q I hw => BoolOp_one (h pins s σ H Q I hw)
theorem pe_and (ha : PE X a ta) (hb : PE X (.BoolOp .And (b :: rest) pos) tb) : PE X (.BoolOp .And (a :: b :: rest) pos) (tAndV ta tb) := by
  intro pins s σ H Q I h
  refine BoolOp_and (thn (ha pins s σ H _ I h) fun v s1 ⟨x, H1, I1, r1, q1⟩ => ?_)
  obtain ⟨c, rfl, q1⟩ := q1
  cases r1
  refine wpAny_truthy_bool ?_
  cases c with
  | true => exact hb pins s1 σ H1 Q I1 q1
  | false => exact ⟨.bl false, H1, I1, rfl, q1⟩
theorem pe_not (ha : PE X a ta) : PE X (.UnaryOp .Not a pos) (tNotV ta) := by
  intro pins s σ H Q I h
  refine UnaryOp_ (thn (ha pins s σ H _ I h) fun v s1 ⟨x, H1, I1, r1, q1⟩ => ?_)
  obtain ⟨c, rfl, q1⟩ := q1
  cases r1
  exact not_of (wpAny_truthy_bool ⟨.bl (!c), H1, I1, rfl, q1⟩)
end
end L2

namespace L2
open PySem PySem.Spec PyProof.Rows

/-! ### a list, a tuple that is read: tracked, frozen, or an object of the module -/
def SqL (K : PySem.W.Frag) (H : Hp) (a : Addr) (xs : List V) : Prop :=
  Rd H a (.lst xs) ∨
    ∃ (o : Obj) (its : Array Value) (n : Nat), K.lookup a = some o ∧ o.cls = .type "list" ∧ o.dict = none ∧ o.data = .seq its n ∧ its.size ≤ sizeLine ∧ Vals xs its.toList
def SqT (K : PySem.W.Frag) (H : Hp) (a : Addr) (xs : List V) : Prop :=
  Rd H a (.tup xs) ∨
    ∃ (o : Obj) (its : Array Value) (n : Nat), K.lookup a = some o ∧ o.cls = .type "tuple" ∧ o.data = .seq its n ∧ its.size ≤ sizeLine ∧ Vals xs its.toList
def absV : Value → Option V
  | .none => some .non
  | .bool b => some (.bl b)
  | .int i _ => some (.int i)
  | .str x _ => some (.str x)
  | .bytes b _ => some (.byt b)
  | .float b _ => some (.flt b)
  | .ref a => some (.ref a)
  | .type n => some (.ty n)
  | _ => none
theorem RelV.abs {x : V} {u : Value} (r : RelV x u) : absV u = some x := by
  cases x with
  | non => cases r; rfl
  | bl _ => cases r; rfl
  | int _ => obtain ⟨t, rfl⟩ := r; rfl
  | str _ => obtain ⟨t, rfl⟩ := r; rfl
  | byt _ => obtain ⟨t, rfl⟩ := r; rfl
  | flt _ => obtain ⟨t, rfl⟩ := r; rfl
  | ref _ => cases r; rfl
  | ty _ => cases r; rfl
theorem RelV.inj {x y : V} {u : Value} (r : RelV x u) (q : RelV y u) : x = y := Option.some.inj (r.abs.symm.trans q.abs)
theorem Vals.inj : ∀ {xs ys : List V} {us : List Value}, Vals xs us → Vals ys us → xs = ys
  | _, _, _, .nil, .nil => rfl
  | _, _, _, .cons r t, .cons r' t' => by rw [r.inj r', Vals.inj t t']
section
variable {X : Cx} {pins : List (Addr × Obj)} {σ : St} {H : Hp} {s : Shared} {a : Addr} {xs ys : List V}
theorem SqL.of {K : PySem.W.Frag} (h : H a = some (.lst xs)) : SqL K H a xs := .inl (.inl h)
theorem SqT.of {K : PySem.W.Frag} (h : H a = some (.tup xs)) : SqT K H a xs := .inl (.inl h)
theorem Inv.list (I : Inv X pins σ H s) (h : SqL X.K H a xs) : ∃ its : List Value, Vals xs its ∧ PlainL s.heap a its.toArray ∧ xs.length ≤ sizeLine := by
  rcases h with h | ⟨o, its, n, hk, hc, hd, hs, hz, r⟩
  · obtain ⟨z, its, n, r, e⟩ := h.ok I.hok
    exact ⟨its, r, ⟨_, n, e, rfl, rfl, rfl⟩, z⟩
  · refine ⟨its.toList, r, ⟨o, n, I.kIn a o hk, hc, hd, by simpa using hs⟩, ?_⟩
    have e := r.length
    simp only [Array.length_toList] at e
    omega
theorem Inv.tuple (I : Inv X pins σ H s) (h : SqT X.K H a xs) : ∃ its : List Value, Vals xs its ∧ IsTup s.heap a its.toArray ∧ xs.length ≤ sizeLine := by
  rcases h with h | ⟨o, its, n, hk, hc, hs, hz, r⟩
  · obtain ⟨z, its, r, p⟩ := h.ok I.hok
    exact ⟨its, r, p, z⟩
  · refine ⟨its.toList, r, ⟨o, I.kIn a o hk, hc, n, by simpa using hs⟩, ?_⟩
    have e := r.length
    simp only [Array.length_toList] at e
    omega
theorem Inv.tuple_inj (I : Inv X pins σ H s) (h : SqT X.K H a xs) (h' : SqT X.K H a ys) : xs = ys := by
  obtain ⟨its, r, ⟨o, e, _, n, d⟩, _⟩ := I.tuple h
  obtain ⟨its', r', ⟨o', e', _, n', d'⟩, _⟩ := I.tuple h'
  rw [e] at e'; cases e'
  rw [d] at d'
  injection d' with d1 _
  have : its = its' := by simpa using congrArg Array.toList d1
  subst this
  exact r.inj r'
end

/-! ### another wish about exceptions -/
abbrev Cx.wish (X : Cx) (E : Value → Shared → Prop) : Cx := { X with xe := E }
/-- no exception leaves -/
abbrev Cx.nox (X : Cx) : Cx := X.wish fun _ _ => False
theorem Cx.Ok.wish {X : Cx} (ok : X.Ok) (E : Value → Shared → Prop) : (X.wish E).Ok :=
  ⟨ok.mod, ok.kind, ok.glob, ok.blt, ok.above, ok.inj, ok.has, ok.cab, ok.hd, ok.frames, ok.stk, ok.exf, ok.bs, ok.bsz, ok.noex, ok.exfs, ok.funs, ok.frf⟩
theorem Cx.Ok.unwish {X : Cx} {E : Value → Shared → Prop} (ok : (X.wish E).Ok) : X.Ok :=
  ⟨ok.mod, ok.kind, ok.glob, ok.blt, ok.above, ok.inj, ok.has, ok.cab, ok.hd, ok.frames, ok.stk, ok.exf, ok.bs, ok.bsz, ok.noex, ok.exfs, ok.funs, ok.frf⟩
section
variable {X : Cx} {pins : List (Addr × Obj)} {σ : St} {H : Hp} {s : Shared} {E : Value → Shared → Prop}
theorem Inv.wish (I : Inv X pins σ H s) (E : Value → Shared → Prop) : Inv (X.wish E) pins σ H s := ⟨I.ok.wish E, I.os, I.bare, I.base, I.loc, I.cell, I.free, I.freeC, I.pin, I.hok, I.len⟩
theorem Inv.unwish (I : Inv (X.wish E) pins σ H s) : Inv X pins σ H s := ⟨I.ok.unwish, I.os, I.bare, I.base, I.loc, I.cell, I.free, I.freeC, I.pin, I.hok, I.len⟩
theorem SP.unwish {D : Ends} {f : Flow} {s' : Shared} (h : SP (X.wish E) pins D f s') : SP X pins D f s' := by
  cases f with
  | next => obtain ⟨σ', H', I, q⟩ := h; exact ⟨σ', H', I.unwish, q⟩
  | brk => obtain ⟨σ', H', I, q⟩ := h; exact ⟨σ', H', I.unwish, q⟩
  | cont => obtain ⟨σ', H', I, q⟩ := h; exact ⟨σ', H', I.unwish, q⟩
  | ret u => obtain ⟨v, σ', H', I, r, q⟩ := h; exact ⟨v, σ', H', I.unwish, r, q⟩
theorem PE.nox {e : Expr} {t : TE} (h : PE X.nox e t) : PE X e t := fun pins s σ H Q I hw =>
  wpAny_mono (h pins s σ H Q (I.wish _) hw) (fun _ _ ⟨v, H', I', r, q⟩ => ⟨v, H', I'.unwish, r, q⟩) fun _ _ z => False.elim z
theorem PT.nox {e : Expr} {t : TT} (h : PT X.nox e t) : PT X e t := fun pins s σ H Q I hw =>
  wpAny_mono (h pins s σ H Q (I.wish _) hw) (fun _ _ ⟨H', I', q⟩ => ⟨H', I'.unwish, q⟩) fun _ _ z => False.elim z
theorem PSs.nox {st : List Stmt} {t : TS} (h : PSs X.nox st t) : PSs X st t := fun pins s σ H D I hw =>
  wpAny_mono (h pins s σ H D (I.wish _) hw) (fun _ _ q => q.unwish) fun _ _ z => False.elim z
end

/-! ### blocks and small statements -/
section
variable {X : Cx} {st : Stmt} {rest : List Stmt} {t u : TS} {e : Expr} {te : TE} {pos : Pos}
def tNext : TS := fun D σ H => D.nx σ H
def tSeq (t u : TS) : TS := fun D σ H => t { D with nx := u D } σ H
theorem pss_nil : PSs X [] tNext := fun _ _ σ H _ I h => wpAny_execs_nil ⟨σ, H, I, h⟩
theorem pss_cons (h1 : PS X st t) (h2 : PSs X rest u) : PSs X (st :: rest) (tSeq t u) := by
  intro pins s σ H D I h
  refine wpAny_execs_cons (thn (h1 pins s σ H { D with nx := u D } I h) fun f s1 q => ?_)
  cases f with
  | next =>
    obtain ⟨σ', H', I', q⟩ := q
    exact h2 pins s1 σ' H' D I' q
  | ret v => exact q
  | brk => exact q
  | cont => exact q
theorem pss_one (h1 : PS X st t) : PSs X [st] t := by
  intro pins s σ H D I h
  refine wpAny_execs_cons (thn (h1 pins s σ H D I h) fun f s1 q => ?_)
  cases f with
  | next => exact wpAny_execs_nil q
  | ret v => exact q
  | brk => exact q
  | cont => exact q
/-- in a def's body nothing is shown -/
theorem Inv.quiet {pins : List (Addr × Obj)} {σ : St} {H : Hp} {s : Shared} (I : Inv X pins σ H s) : interactive X.env = false := by simp [interactive, I.ok.kind]
/-- an expression whose value is dropped -/
def tDrop (te : TE) : TS := fun D σ H => te σ H fun _ H1 => D.nx σ H1
theorem ps_expr (he : PE X e te) (hs : swapsWith e none pos.line X.env = pure false := by rfl) : PS X (.Expr e pos) (tDrop te) := by
  intro pins s σ H D I h
  exact wpAny_Expr_any (thn (he pins s σ H _ I h) fun v s1 ⟨x, H1, I1, r1, q1⟩ => ⟨σ, H1, I1, q1⟩) I.quiet hs
def tRet (te : TE) : TS := fun D σ H => te σ H D.rt
theorem ps_ret (he : PE X e te) : PS X (.Return (some e) pos) (tRet te) := by
  intro pins s σ H D I h
  exact wpAny_Return_some (thn (he pins s σ H _ I h) fun v s1 ⟨x, H1, I1, r1, q1⟩ => ⟨x, σ, H1, I1, r1, q1⟩)
def tIfS (c : TT) (t u : TS) : TS := fun D σ H => c σ H fun b H1 => if b = true then t D σ H1 else u D σ H1
theorem ps_if {c : Expr} {a b : List Stmt} {tc : TT} (hc : PT X c tc) (ha : PSs X a t) (hb : PSs X b u) : PS X (.If c a b pos) (tIfS tc t u) := by
  intro pins s σ H D I h
  refine wpAny_If (thn (hc pins s σ H _ I h) fun d s1 ⟨H1, I1, q1⟩ => ?_)
  cases d with
  | true => exact ha pins s1 σ H1 D I1 q1
  | false => exact hb pins s1 σ H1 D I1 q1
end

/-! ### targets -/
abbrev TG := V → St → Hp → (St → Hp → Prop) → Prop
def PG (X : Cx) (target : Expr) (t : TG) : Prop :=
  ∀ (pins : List (Addr × Obj)) (s : Shared) (σ : St) (H : Hp) (v : V) (u : Value) (Q : St → Hp → Prop), Inv X pins σ H s → RelV v u → t v σ H Q →
    wpAny (model X.prog X.w) X.A (assign target X.env u) (fun _ s' => ∃ σ' H', Inv X pins σ' H' s' ∧ Q σ' H') X.xe s
section
variable {X : Cx} {pos : Pos}
def gName (i : Nat) : TG := fun v σ H Q => Q (σ.set i (some v)) H
theorem pg_name {i : Nat} {x : Str} (hN : X.N.Nodup) (hi : X.N[i]? = some x) (hx : Loc X.env.scope x) (hf : X.fn x = true ∨ X.env.scope.names.lookup x = some .local := by first | exact .inl rfl | exact .inr rfl | assumption) : PG X (.Name x pos) (gName i) := by
  intro pins s σ H v u Q I r h
  exact wpAny_assign_Name (store_ok I hN hi hx r (fun s' I' => ⟨_, H, I', h⟩) hf)
/-- target = value -/
def tAsg (te : TE) (g : TG) : TS := fun D σ H => te σ H fun x H1 => g x σ H1 D.nx
/-- name = value -/
theorem ps_set {i : Nat} {x : Str} {e : Expr} {te : TE} {pos' : Pos} (hN : X.N.Nodup) (hi : X.N[i]? = some x) (hx : Loc X.env.scope x) (he : PE X e te) (hs : swapsWith e (some (.Name x pos')) pos.line X.env = pure false := by rfl) (hf : X.fn x = true ∨ X.env.scope.names.lookup x = some .local := by first | exact .inl rfl | exact .inr rfl | assumption) :
    PS X (.Assign [.Name x pos'] e pos) (tAsg te (gName i)) := by
  intro pins s σ H D I h
  refine wpAny_Assign_Name (thn (he pins s σ H _ I h) fun v s1 ⟨y, H1, I1, r1, q1⟩ => ?_) hs
  exact store_ok I1 hN hi hx r1 (fun s2 I2 => ⟨_, H1, I2, q1⟩) hf
end

/-! ### while -/
section
variable {X : Cx} {pos : Pos}
end

/-! ### what a loop or a comprehension walks -/
/-- at turn i: it yields x (the heap may grow), or it stops -/
structure It where
  go : Nat → Hp → Prop
  yld : Nat → Hp → V → Hp → Prop
  stop : Nat → Hp → Prop
/-- the iterator's own objects may turn: they are not the frame's, not pinned, younger than the entry (or a comprehension's own) -/
def FpOk (X : Cx) (pins : List (Addr × Obj)) (H : Hp) (b : Addr) : Prop :=
  H b = none ∧ b ≠ X.env.locals ∧ b ∉ X.fs ∧ (b ∈ X.ex ∨ X.s₀.heap.objs.size ≤ b) ∧ (∀ x c, X.env.cells.lookup x = some c → c ≠ b) ∧ ∀ p ∈ X.pn ++ pins, p.1 ≠ b
theorem Inv.fpOk {X : Cx} {pins : List (Addr × Obj)} {σ : St} {H H' : Hp} {s : Shared} {b : Addr} (I : Inv X pins σ H s) (hb : s.heap.objs.size ≤ b) (hn : H' b = none) : FpOk X pins H' b := by
  refine ⟨hn, Nat.ne_of_gt (Nat.lt_of_lt_of_le I.lt hb), I.nofs hb, .inr (Nat.le_trans I.sz hb), fun x c e z => ?_, fun p hp z => ?_⟩
  · obtain ⟨v, q⟩ := I.cell x c e
    exact absurd (Nat.lt_of_lt_of_le q.lt (by rw [z]; exact hb)) (Nat.lt_irrefl _)
  · exact absurd (Nat.lt_of_lt_of_le (Heap.lt_size (I.pin p hp).1) (by rw [z]; exact hb)) (Nat.lt_irrefl _)
structure Turn (P : Program) (w : World) (K : PySem.W.Frag) (tg : Expr) (J : It) (fp : List Addr) (it : Addr) (tn : Nat → Heap → Prop) : Prop where
  mem : it ∈ fp
  obj : ∀ i h, tn i h → ∀ b ∈ fp, ∃ o, h.get? b = some o ∧ ∀ v, o.data ≠ .cell v
  keep : ∀ i h h', tn i h → (∀ b ∈ fp, ∀ o, h.get? b = some o → h'.get? b = some o) → tn i h'
  item : ∀ (X : Cx), X.prog = P → X.w = w → X.K = K → X.calm = true → ∀ (i : Nat) (pins : List (Addr × Obj)) (s : Shared) (σ : St) (H : Hp) (E : Value → Shared → Prop), Inv X pins σ H s → (∀ b ∈ fp, FpOk X pins H b) → tn i s.heap → J.go i H →
    wpAny (model P w) X.A (pyNext (.ref it)) (fun r s1 => ∃ u, r = some u ∧
      wpAny (model P w) X.A (letOwnedTupleGo tg (.ref it) u) (fun _ s2 => ∃ x H', Inv X pins σ H' s2 ∧ RelV x u ∧ J.yld i H x H' ∧ tn (i + 1) s2.heap ∧ ∀ b ∈ fp, H' b = none) E s1) E s
  done : ∀ (X : Cx), X.prog = P → X.w = w → X.K = K → X.calm = true → ∀ (i : Nat) (pins : List (Addr × Obj)) (s : Shared) (σ : St) (H : Hp) (E : Value → Shared → Prop), Inv X pins σ H s → (∀ b ∈ fp, FpOk X pins H b) → tn i s.heap → J.stop i H →
    wpAny (model P w) X.A (pyNext (.ref it)) (fun r s1 => r = none ∧ Inv X pins σ H s1) E s
  self : ∀ (A : Around) (i : Nat) (s : Shared) (Q : Value → Shared → Prop) (E : Value → Shared → Prop), tn i s.heap → Q (.ref it) s → wpAny (model P w) A (pyIter (.ref it)) Q E s
abbrev TI := St → Hp → (It → Hp → Prop) → Prop
/-- an iterator has come -/
def PIE (X : Cx) (pins : List (Addr × Obj)) (σ : St) (tg : Expr) (R : It → Hp → Prop) (itv : Value) (s2 : Shared) : Prop :=
  ∃ (it : Addr) (fp : List Addr) (tn : Nat → Heap → Prop) (J : It) (H' : Hp), itv = .ref it ∧ Inv X pins σ H' s2 ∧ Turn X.prog X.w X.K tg J fp it tn ∧ tn 0 s2.heap ∧ (∀ b ∈ fp, FpOk X pins H' b) ∧ R J H'
def PI (X : Cx) (tg iter : Expr) (wi : TI) : Prop :=
  ∀ (pins : List (Addr × Obj)) (s : Shared) (σ : St) (H : Hp) (R : It → Hp → Prop), Inv X pins σ H s → wi σ H R →
    wpAny (model X.prog X.w) X.A (eval iter X.env) (fun v s1 => wpAny (model X.prog X.w) X.A (pyIter v) (PIE X pins σ tg R) X.xe s1) X.xe s

/-- the step ahead of the store is nothing for an iterator that keeps no tuple -/
theorem go_of {M : Model} {A : Around} {E : Value → Shared → Prop} {s : Shared} {tg : Expr} {it : Addr} {u : Value} {o : Obj} {n : String} {vs : Array Value} {Q : Unit → Shared → Prop} (ho : s.heap.get? it = some o) (hc : o.cls = .type n) (hd : o.data = .fields vs)
    (hn : ["enumerate", "zip", "dict_itemiterator", "dict_reverseitemiterator", "odict_iterator", "itertools.zip_longest", "itertools.pairwise"].contains n = false) (hQ : Q () s) : wpAny M A (letOwnedTupleGo tg (.ref it) u) Q E s := by
  unfold letOwnedTupleGo
  cases tg <;> first
    | exact wpAny_pure hQ
    | (cases u <;> first
        | exact wpAny_pure hQ
        | (refine wpAny_bind (wpAny_load ho ?_)
           rw [hc, hd]
           show wpAny M A (if (["enumerate", "zip", "dict_itemiterator", "dict_reverseitemiterator", "odict_iterator", "itertools.zip_longest", "itertools.pairwise"].contains n && vs[0]? == some (rawInt _)) = true then _ else _) Q E s
           rw [if_neg (by intro h; rw [hn, Bool.false_and] at h; cases h)]
           exact wpAny_pure hQ))

def Itt (K : PySem.W.Frag) (a : Addr) : It :=
  ⟨fun i H => ∃ xs x, SqT K H a xs ∧ xs[i]? = some x, fun i H x H' => H' = H ∧ ∀ xs, SqT K H a xs → xs[i]? = some x, fun i H => ∃ xs, SqT K H a xs ∧ xs.length ≤ i⟩
/-- lo, lo + 1, .. (n of them) -/
def Itr (lo : Int) (n : Nat) : It := ⟨fun i _ => i < n, fun i H x H' => H' = H ∧ x = .int (lo + i), fun i _ => n ≤ i⟩
theorem turn_tuple {P : Program} {w : World} {K : PySem.W.Frag} {tg : Expr} (a it : Addr) : Turn P w K tg (Itt K a) [it] it (fun i h => h.IsTupleIter it a i) where
  mem := by simp
  obj := fun i h st b hb => by
    have e : b = it := by simpa using hb
    subst e
    obtain ⟨o, e, c, d⟩ := st
    exact ⟨o, e, fun v z => by rw [d] at z; cases z⟩
  keep := fun i h h' st k => st.at fun o e => k it (by simp) o e
  item := by
    intro X hP hw hK hc i pins s σ H E I hf st hg
    subst hP hw hK
    obtain ⟨xs, x, hq, hx⟩ := hg
    obtain ⟨its, rv, p, hz⟩ := I.tuple hq
    obtain ⟨u, hu, ru⟩ := rv.get hx
    obtain ⟨f0, f1, f2, f3, f4, f5⟩ := hf it (by simp)
    refine wpAny_pyNext_tuple_item st (show s.heap.IsTuple a its.toArray from p) (x := u) (by simpa using hu) fun h' st' sb => ?_
    have I1 : Inv X pins σ H { s with heap := h' } := I.turned (t' := s.toks) (fun b o hb e => (sb.2 b hb).trans e) f0 f1 f3 f4 f5
    obtain ⟨o, e, c, d⟩ := id st'
    exact ⟨u, rfl, go_of (s := { s with heap := h' }) e c d (by decide) ⟨x, H, I1, ru, ⟨rfl, fun ys hy => by rw [I.tuple_inj hy hq]; exact hx⟩, st', fun b hb => (hf b hb).1⟩⟩
  done := by
    intro X hP hw hK hc i pins s σ H E I hf st hg
    subst hP hw hK
    obtain ⟨xs, hq, hx⟩ := hg
    obtain ⟨its, rv, p, hz⟩ := I.tuple hq
    obtain ⟨f0, f1, f2, f3, f4, f5⟩ := hf it (by simp)
    have hl := rv.length
    exact wpAny_pyNext_tuple_end (I.ok.hd hc) st (show s.heap.IsTuple a its.toArray from p) (by simp; omega) fun h' eb => ⟨rfl, I.turned (t' := s.toks) (fun b o hb e => eb b o hb e) f0 f1 f3 f4 f5⟩
  self := fun _ _ _ _ _ st h => wpAny_pyIter_tupleiter st h
theorem turn_range {P : Program} {w : World} {K : PySem.W.Frag} {tg : Expr} (it : Addr) (lo : Int) (n : Nat) : Turn P w K tg (Itr lo n) [it] it (fun i h => IsRangeIter h it (lo + (i : Nat) * 1) ((n : Int) - (i : Nat)) 1) where
  mem := by simp
  obj := fun i h st b hb => by
    have e : b = it := by simpa using hb
    subst e
    exact ⟨_, st, fun v z => by
      have z' : Data.fields _ = Data.cell v := z
      cases z'⟩
  keep := fun i h h' st k => k it (by simp) _ st
  item := by
    intro X hP hw hK hc i pins s σ H E I hf st hg
    subst hP hw hK
    obtain ⟨f0, f1, f2, f3, f4, f5⟩ := hf it (by simp)
    have W := Walks.range (prog := X.prog) (w := X.w) (I.ok.hd hc) it lo 1 n
    refine W.item i s _ _ hg st fun v h' tk hv st' kk => ?_
    obtain ⟨t, rfl⟩ := hv
    have I1 : Inv X pins σ H { s with heap := h', toks := tk } := I.turned (fun b o hb e => kk b o (by simpa using hb) e) f0 f1 f3 f4 f5
    refine ⟨_, rfl, go_of (s := { s with heap := h', toks := tk }) (n := "range_iterator") st' rfl rfl (by decide) ⟨.int (lo + i), H, I1, ⟨t, ?_⟩, ⟨rfl, rfl⟩, st', fun b hb => (hf b hb).1⟩⟩
    rw [Int.mul_one]
  done := by
    intro X hP hw hK hc i pins s σ H E I hf st hg
    subst hP hw hK
    obtain ⟨f0, f1, f2, f3, f4, f5⟩ := hf it (by simp)
    exact wpAny_pyNext_range_end (I.ok.hd hc) st (by have : n ≤ i := hg; omega) fun h' eb => ⟨rfl, I.turned (t' := s.toks) (fun b o hb e => eb b o hb e) f0 f1 f3 f4 f5⟩
  self := fun _ _ _ _ _ st h => wpAny_pyIter_rangeiter st h
end L2

namespace L2
open PySem PySem.Spec PyProof.Rows
section
variable {X : Cx} {tg : Expr}
def iTup (K : PySem.W.Frag) (tl : TE) : TI := fun σ H R => tl σ H fun x H1 => ∃ a, x = .ref a ∧ (∃ xs, SqT K H1 a xs) ∧ R (Itt K a) H1
theorem pi_tup {l : Expr} {tl : TE} (hl : PE X l tl) : PI X tg l (iTup X.K tl) := by
  intro pins s σ H R I h
  refine thn (hl pins s σ H _ I h) fun v s1 ⟨x, H1, I1, r1, q1⟩ => ?_
  obtain ⟨a, e, ⟨xs, hq⟩, q⟩ := q1
  subst e
  cases r1
  obtain ⟨its, rv, p, hz⟩ := I1.tuple hq
  refine wpAny_pyIter_tuple (show s1.heap.IsTuple a its.toArray from p) ?_
  refine ⟨s1.heap.objs.size, [s1.heap.objs.size], _, _, H1, rfl, I1.kept (t' := s1.toks) fun b o e => Heap.get?_push_of_some _ e, turn_tuple a _, ⟨_, Heap.get?_push_size _ rfl, rfl, rfl⟩, fun b hb => ?_, q⟩
  have e : b = s1.heap.objs.size := by simpa using hb
  subst e
  exact I1.fpOk (Nat.le_refl _) (I1.hok.fresh (Nat.le_refl _))
/-- a range object just made, walked -/
theorem range_it {pins : List (Addr × Obj)} {σ : St} {H : Hp} {s : Shared} {R : It → Hp → Prop} {E : Value → Shared → Prop} {lo hi : Int} {t u v : Tok} {tk : Nat} (I : Inv X pins σ H s) (h1 : -(2 ^ 62) ≤ lo) (h2 : lo < 2 ^ 62) (h3 : -(2 ^ 62) ≤ hi) (h4 : hi < 2 ^ 62)
    (q : R (Itr lo (hi - lo).toNat) H) : wpAny (model X.prog X.w) X.A (pyIter (.ref s.heap.objs.size)) (PIE X pins σ tg R) E { s with heap := s.heap.push { cls := .type "range", data := .fields #[.int lo t, .int hi u, .int 1 v] }, toks := tk } := by
  refine wpAny_pyIter_range (IsRange.new ..) (small_one h1 h2 h3 h4) ?_
  have I1 : Inv X pins σ H { s with heap := s.heap.push { cls := .type "range", data := .fields #[.int lo t, .int hi u, .int 1 v] }, toks := tk } := I.kept fun b o e => Heap.get?_push_of_some _ e
  refine ⟨(s.heap.push { cls := .type "range", data := .fields #[.int lo t, .int hi u, .int 1 v] }).objs.size, [(s.heap.push { cls := .type "range", data := .fields #[.int lo t, .int hi u, .int 1 v] }).objs.size], _, _, H, rfl,
    I1.kept (t' := tk) fun b o e => Heap.get?_push_of_some _ e, turn_range _ lo (hi - lo).toNat, ?_, fun b hb => ?_, q⟩
  · have e1 : lo + ((0 : Nat) : Int) * 1 = lo := by simp
    have e2 : (((hi - lo).toNat : Nat) : Int) - ((0 : Nat) : Int) = Builtin.Range.rangeSize lo hi 1 := by rw [rangeSize_one]; split <;> omega
    show IsRangeIter _ _ (lo + ((0 : Nat) : Int) * 1) ((((hi - lo).toNat : Nat) : Int) - ((0 : Nat) : Int)) 1
    rw [e1, e2]
    exact Heap.get?_push_size _ rfl
  · have e : b = (s.heap.push { cls := .type "range", data := .fields #[.int lo t, .int hi u, .int 1 v] }).objs.size := by simpa using hb
    subst e
    exact I1.fpOk (Nat.le_refl _) (I1.hok.fresh (Nat.le_refl _))
def iRng2 (ta : TA) : TI := fun σ H R => ta σ H fun vs H1 => ∃ i j : Int, vs = [.int i, .int j] ∧ (-(2 ^ 62) ≤ i ∧ i < 2 ^ 62 ∧ -(2 ^ 62) ≤ j ∧ j < 2 ^ 62) ∧ R (Itr i (j - i).toNat) H1
theorem pi_range2 {a b : Expr} {ta : TA} {p pos : Pos} (hg : Gl X "range") (hm : X.mg "range" = none) (ha : PA X [a, b] ta) (hs : starEach [a, b] X.env = [(false, eval a X.env), (false, eval b X.env)] := by rfl) (hs2 : starEach [b] X.env = [(false, eval b X.env)] := by rfl) :
    PI X tg (.Call (.Name "range" p) [a, b] [] pos) (iRng2 ta) := by
  intro pins s σ H R I h
  refine Call_ (ld_blt I hg hm boot_range (PyProof.Rows.callWith_type1 (thn (ha pos pins s σ H _ I h) fun us s1 ⟨vs, H1, I1, r1, q1⟩ => ?_) (by rw [hs, hs2]) (by rw [hs2]; rfl)))
  obtain ⟨i, j, e, ⟨q1, q2, q3, q4⟩, q⟩ := q1
  subst e
  cases r1 with
  | cons r rr =>
    cases rr with
    | cons r' rr =>
      cases rr
      obtain ⟨t, rfl⟩ := r
      obtain ⟨t', rfl⟩ := r'
      exact call_range_2 (range_it I1 q1 q2 q3 q4 q)

/-! ### for -/
/-- W: the invariant by the turn and a measure; N: what the body is to reach -/
def tFor (wi : TI) (g : TG) (tb : TS) : TS := fun D σ H => wi σ H fun J H1 => ∃ W : Nat → Nat → St → Hp → Prop, (∃ m, W 0 m σ H1) ∧ ∀ i m σ H, W i m σ H →
  (J.stop i H ∧ D.nx σ H) ∨ (J.go i H ∧ ∃ N : St → Hp → Prop, (∀ σ' H', N σ' H' → ∃ m', m' < m ∧ W (i + 1) m' σ' H') ∧ ∀ x H', J.yld i H x H' → g x σ H' fun σ2 H2 => tb { D with nx := N, ct := N, bk := D.nx } σ2 H2)
/-- the records at fp as they stand -/
def pinsAt (fp : List Addr) (h : Heap) : List (Addr × Obj) := fp.filterMap fun b => (h.get? b).map fun o => (b, o)
theorem mem_pinsAt {fp : List Addr} {h : Heap} {b : Addr} {o : Obj} (hb : b ∈ fp) (e : h.get? b = some o) : (b, o) ∈ pinsAt fp h := List.mem_filterMap.mpr ⟨b, hb, by rw [e]; rfl⟩
theorem of_pinsAt {fp : List Addr} {h : Heap} {p : Addr × Obj} (hp : p ∈ pinsAt fp h) : p.1 ∈ fp ∧ h.get? p.1 = some p.2 := by
  obtain ⟨b, hb, e⟩ := List.mem_filterMap.mp hp
  cases q : h.get? b with
  | none => rw [q] at e; cases e
  | some o =>
    rw [q] at e
    have e' : (b, o) = p := Option.some.inj e
    subst e'
    exact ⟨hb, q⟩
theorem Inv.pinned {pins : List (Addr × Obj)} {σ : St} {H : Hp} {s : Shared} {fp : List Addr} (I : Inv X pins σ H s) (hf : ∀ b ∈ fp, FpOk X pins H b) (ho : ∀ b ∈ fp, ∃ o, s.heap.get? b = some o ∧ ∀ v, o.data ≠ .cell v) : Inv X (pins ++ pinsAt fp s.heap) σ H s :=
  I.pins_of fun p hp => (List.mem_append.mp hp).elim (fun z => I.pin p (List.mem_append_right _ z)) fun z => by
    obtain ⟨hb, e⟩ := of_pinsAt z
    obtain ⟨f0, f1, f2, _⟩ := hf p.1 hb
    obtain ⟨o, e', d⟩ := ho p.1 hb
    rw [e] at e'; cases e'
    exact ⟨e, f0, f1, f2, d⟩
theorem Inv.unpinned {pins pl : List (Addr × Obj)} {σ : St} {H : Hp} {s : Shared} (I : Inv X (pins ++ pl) σ H s) : Inv X pins σ H s := I.pins_of fun p hp => I.pin p (List.mem_append_right _ (List.mem_append_left _ hp))
theorem ps_for {iter : Expr} {body : List Stmt} {wi : TI} {g : TG} {tb : TS} {pos : Pos} (hp : PassesOwn (model X.prog X.w) X.A X.env X.xe) (hc : X.calm = true) (hi : PI X tg iter wi) (hg : PG X tg g) (hb : PSs X body tb)
    (hs : ∀ x, foldedSetIterable iter X.env x = pure x := by intro _; rfl) : PS X (.For tg iter body [] pos) (tFor wi g tb) := by
  intro pins s σ H D I h
  refine wpAny_For (thn (hi pins s σ H _ I h) fun v s1 h1 => thn h1 fun itv s2 h2 => ?_) hs
  obtain ⟨it, fp, tn, J, H2, e, I2, T, st2, f2, W, ⟨m0, w0⟩, turn⟩ := h2
  subst e
  -- what stays true of the iterator's objects through the loop
  have stat : ∀ {H' : Hp}, (∀ b ∈ fp, H' b = none) → ∀ b ∈ fp, FpOk X pins H' b := fun hn b hb => ⟨hn b hb, (f2 b hb).2⟩
  refine codeAny_forLoop_any (fun n s' => ∃ i σ' H', Inv X pins σ' H' s' ∧ tn i s'.heap ∧ (∀ b ∈ fp, H' b = none) ∧ W i n σ' H') ?_ m0 ⟨0, σ, H2, I2, st2, fun b hb => (f2 b hb).1, w0⟩
  rintro n s3 ⟨i, σ3, H3, I3, st3, fr3, w3⟩
  rcases turn i n σ3 H3 w3 with ⟨stop, qn⟩ | ⟨go, N, hN, step⟩
  · refine wpAny_passesOwn hp (thn (T.done X rfl rfl rfl hc i pins s3 σ3 H3 X.xe I3 (stat fr3) st3 stop) fun r s4 ⟨hr, I4⟩ => ?_)
    subst hr
    exact wpAny_execs_nil ⟨σ3, H3, I4, qn⟩
  · refine wpAny_passesOwn hp (thn (T.item X rfl rfl rfl hc i pins s3 σ3 H3 X.xe I3 (stat fr3) st3 go) fun r s4 ⟨u, hr, h4⟩ => ?_)
    subst hr
    refine wpAny_passesOwn hp (thn h4 fun _ s5 ⟨x, H5, I5, r5, y5, st5, fr5⟩ => ?_)
    have I5' := I5.pinned (stat fr5) (T.obj _ _ st5)
    refine wpAny_passesOwn hp (thn (hg _ s5 σ3 H5 x u _ I5' r5 (step x H5 y5)) fun _ s6 ⟨σ6, H6, I6, q6⟩ => ?_)
    refine wpAny_passesOwn hp (thn (hb _ s6 σ6 H6 _ I6 q6) fun f s7 q7 => ?_)
    have again : ∀ {σ7 : St} {H7 : Hp}, Inv X (pins ++ pinsAt fp s5.heap) σ7 H7 s7 → N σ7 H7 → ∃ m, m < n ∧ ∃ i σ' H', Inv X pins σ' H' s7 ∧ tn i s7.heap ∧ (∀ b ∈ fp, H' b = none) ∧ W i m σ' H' := fun {σ7 H7} I7 n7 => by
      obtain ⟨m', hm, w7⟩ := hN σ7 H7 n7
      refine ⟨m', hm, i + 1, σ7, H7, I7.unpinned, T.keep _ _ _ st5 fun b hb o e => (I7.pin (b, o) (List.mem_append_right _ (List.mem_append_right _ (mem_pinsAt hb e)))).1, fun b hb => ?_, w7⟩
      obtain ⟨o, e, d⟩ := T.obj _ _ st5 b hb
      exact (I7.pin (b, o) (List.mem_append_right _ (List.mem_append_right _ (mem_pinsAt hb e)))).2.1
    cases f with
    | next => obtain ⟨σ7, H7, I7, n7⟩ := q7; exact again I7 n7
    | cont => obtain ⟨σ7, H7, I7, n7⟩ := q7; exact again I7 n7
    | brk => obtain ⟨σ7, H7, I7, q7⟩ := q7; exact ⟨σ7, H7, I7.unpinned, q7⟩
    | ret v => obtain ⟨x7, σ7, H7, I7, r7, q7⟩ := q7; exact ⟨x7, σ7, H7, I7.unpinned, r7, q7⟩
end

/-! ### the forms one uses -/
theorem for_tup {K : PySem.W.Frag} {a : Addr} {xs : List V} {g : TG} {tb : TS} {D : Ends} {σ : St} {H : Hp} (Pv : Nat → St → Hp → Prop) (h0 : Pv 0 σ H) (hl : ∀ i σ H, i ≤ xs.length → Pv i σ H → SqT K H a xs)
    (hs : ∀ i x σ H, xs[i]? = some x → Pv i σ H → g x σ H fun σ2 H2 => tb { D with nx := Pv (i + 1), ct := Pv (i + 1), bk := D.nx } σ2 H2) (hd : ∀ σ H, Pv xs.length σ H → D.nx σ H) :
    ∃ W : Nat → Nat → St → Hp → Prop, (∃ m, W 0 m σ H) ∧ ∀ i m σ H, W i m σ H →
      ((Itt K a).stop i H ∧ D.nx σ H) ∨ ((Itt K a).go i H ∧ ∃ N : St → Hp → Prop, (∀ σ' H', N σ' H' → ∃ m', m' < m ∧ W (i + 1) m' σ' H') ∧ ∀ x H', (Itt K a).yld i H x H' → g x σ H' fun σ2 H2 => tb { D with nx := N, ct := N, bk := D.nx } σ2 H2) := by
  refine ⟨fun i m σ H => m = xs.length - i ∧ i ≤ xs.length ∧ Pv i σ H, ⟨xs.length, by simp, Nat.zero_le _, h0⟩, ?_⟩
  rintro i m σ H ⟨rfl, hi, p⟩
  have q := hl i σ H hi p
  by_cases hlt : i < xs.length
  · refine .inr ⟨⟨xs, xs[i], q, by simp [hlt]⟩, Pv (i + 1), fun σ' H' p' => ⟨xs.length - (i + 1), by omega, rfl, hlt, p'⟩, fun x H' y => ?_⟩
    obtain ⟨e, y⟩ := y
    subst e
    exact hs i x σ _ (y xs q) p
  · have e : i = xs.length := by omega
    subst e
    exact .inl ⟨⟨xs, q, Nat.le_refl _⟩, hd σ H p⟩
theorem for_range {lo : Int} {n : Nat} {g : TG} {tb : TS} {D : Ends} {σ : St} {H : Hp} (Pv : Nat → St → Hp → Prop) (h0 : Pv 0 σ H)
    (hs : ∀ i σ H, i < n → Pv i σ H → g (.int (lo + i)) σ H fun σ2 H2 => tb { D with nx := Pv (i + 1), ct := Pv (i + 1), bk := D.nx } σ2 H2) (hd : ∀ σ H, Pv n σ H → D.nx σ H) :
    ∃ W : Nat → Nat → St → Hp → Prop, (∃ m, W 0 m σ H) ∧ ∀ i m σ H, W i m σ H →
      ((Itr lo n).stop i H ∧ D.nx σ H) ∨ ((Itr lo n).go i H ∧ ∃ N : St → Hp → Prop, (∀ σ' H', N σ' H' → ∃ m', m' < m ∧ W (i + 1) m' σ' H') ∧ ∀ x H', (Itr lo n).yld i H x H' → g x σ H' fun σ2 H2 => tb { D with nx := N, ct := N, bk := D.nx } σ2 H2) := by
  refine ⟨fun i m σ H => m = n - i ∧ i ≤ n ∧ Pv i σ H, ⟨n, by simp, Nat.zero_le _, h0⟩, ?_⟩
  rintro i m σ H ⟨rfl, hi, p⟩
  by_cases hlt : i < n
  · refine .inr ⟨hlt, Pv (i + 1), fun σ' H' p' => ⟨n - (i + 1), by omega, rfl, hlt, p'⟩, fun x H' y => ?_⟩
    obtain ⟨e, y⟩ := y
    subst e y
    exact hs i σ _ hlt p
  · have e : i = n := by omega
    subst e
    exact .inl ⟨Nat.le_refl _, hd σ H p⟩
end L2

namespace L2
open PySem PySem.Spec PyProof.Rows

abbrev R2 := V → V → Hp → VK → Prop
/-- a two-place operation on values: f is binaryOp op, inplaceOp op or compareOp op -/
def OpR (X : Cx) (f : Value → Value → Sem Value) (r : R2) : Prop :=
  ∀ (pins : List (Addr × Obj)) (s : Shared) (σ : St) (H : Hp) (x y : V) (v u : Value) (Q : VK), Inv X pins σ H s → RelV x v → RelV y u → r x y H Q →
    wpAny (model X.prog X.w) X.A (f v u) (EP X pins σ Q) X.xe s
/-- a call of a value that is known (a builtin, a type) with values -/
def CallR (X : Cx) (f : Value) (r : List V → Hp → VK → Prop) : Prop :=
  ∀ (pins : List (Addr × Obj)) (s : Shared) (σ : St) (H : Hp) (xs : List V) (us : List Value) (Q : VK), Inv X pins σ H s → Vals xs us → r xs H Q →
    wpAny (model X.prog X.w) X.A (call f us) (EP X pins σ Q) X.xe s
def tOp (r : R2) (ta tb : TE) : TE := fun σ H Q => ta σ H fun x H1 => tb σ H1 fun y H2 => r x y H2 Q
/-- ints in, under C, and a value out -/
def rI (C : Int → Int → Prop) (g : Int → Int → V) : R2 := fun x y H Q => ∃ i j, x = .int i ∧ y = .int j ∧ C i j ∧ Q (g i j) H
def rI0 (g : Int → Int → V) : R2 := fun x y H Q => ∃ i j, x = .int i ∧ y = .int j ∧ Q (g i j) H
section
variable {X : Cx} {a b c : Expr} {ta tb tc : TE} {pos : Pos}

theorem binT (ha : PE X a ta) (hb : PE X b tb) {pins : List (Addr × Obj)} {s : Shared} {σ : St} {H : Hp} {R : V → V → Hp → Prop} (I : Inv X pins σ H s)
    (h : ta σ H fun x H1 => tb σ H1 fun y H2 => R x y H2) {Q : Value → Shared → Prop} {f : Value → Value → Sem Value}
    (hf : ∀ v u s2 x y H2, Inv X pins σ H2 s2 → RelV x v → RelV y u → R x y H2 → wpAny (model X.prog X.w) X.A (f v u) Q X.xe s2) :
    wpAny (model X.prog X.w) X.A (eval a X.env) (fun v s₁ => wpAny (model X.prog X.w) X.A (eval b X.env) (fun u s₂ => wpAny (model X.prog X.w) X.A (f v u) Q X.xe s₂) X.xe s₁) X.xe s := by
  refine thn (ha pins s σ H _ I h) fun v s1 ⟨x, H1, I1, r1, q1⟩ => ?_
  refine thn (hb pins s1 σ H1 _ I1 q1) fun u s2 ⟨y, H2, I2, r2, q2⟩ => ?_
  exact hf v u s2 x y H2 I2 r1 r2 q2

theorem pe_op {op : Operator} {r : R2} (ho : OpR X (binaryOp op) r) (ha : PE X a ta) (hb : PE X b tb) : PE X (.BinOp a op b pos) (tOp r ta tb) := by
  intro pins s σ H Q I h
  exact wpAny_BinOp (binT ha hb I h fun v u s2 x y H2 I2 rx ry q => ho pins s2 σ H2 x y v u Q I2 rx ry q)
/-! ### ints -/
theorem opI {f : Value → Value → Sem Value} {C : Int → Int → Prop} {g : Int → Int → Int}
    (rule : ∀ (i j : Int) (t u : Tok) (s : Shared) (Q : Value → Shared → Prop) (E : Value → Shared → Prop), C i j → Q (.int (g i j) s.toks) { s with toks := s.toks + 1 } → wpAny (model X.prog X.w) X.A (f (.int i t) (.int j u)) Q E s) :
    OpR X f (rI C fun i j => .int (g i j)) := by
  intro pins s σ H x y v u Q I rx ry h
  obtain ⟨i, j, rfl, rfl, hc, q⟩ := h
  obtain ⟨t, rfl⟩ := rx
  obtain ⟨t', rfl⟩ := ry
  exact rule i j t t' s _ _ hc ⟨.int (g i j), H, I.tok _, ⟨_, rfl⟩, q⟩
theorem opI0 {f : Value → Value → Sem Value} {g : Int → Int → Int}
    (rule : ∀ (i j : Int) (t u : Tok) (s : Shared) (Q : Value → Shared → Prop) (E : Value → Shared → Prop), Q (.int (g i j) s.toks) { s with toks := s.toks + 1 } → wpAny (model X.prog X.w) X.A (f (.int i t) (.int j u)) Q E s) :
    OpR X f (rI0 fun i j => .int (g i j)) := by
  intro pins s σ H x y v u Q I rx ry h
  obtain ⟨i, j, rfl, rfl, q⟩ := h
  obtain ⟨t, rfl⟩ := rx
  obtain ⟨t', rfl⟩ := ry
  exact rule i j t t' s _ _ ⟨.int (g i j), H, I.tok _, ⟨_, rfl⟩, q⟩
theorem opB0 {f : Value → Value → Sem Value} {g : Int → Int → Bool}
    (rule : ∀ (i j : Int) (t u : Tok) (s : Shared) (Q : Value → Shared → Prop) (E : Value → Shared → Prop), Q (.bool (g i j)) s → wpAny (model X.prog X.w) X.A (f (.int i t) (.int j u)) Q E s) :
    OpR X f (rI0 fun i j => .bl (g i j)) := by
  intro pins s σ H x y v u Q I rx ry h
  obtain ⟨i, j, rfl, rfl, q⟩ := h
  obtain ⟨t, rfl⟩ := rx
  obtain ⟨t', rfl⟩ := ry
  exact rule i j t t' s _ _ ⟨.bl (g i j), H, I, rfl, q⟩

def CDiv (i j : Int) : Prop := 0 < j ∧ j < 1073741824
def CPow (i j : Int) : Prop := 0 ≤ j ∧ j ≤ 1000000 ∧ i.natAbs < 2 ^ 64
def CMul (i j : Int) : Prop := (-(2 ^ 64) < i ∧ i < 2 ^ 64) ∨ (-(2 ^ 64) < j ∧ j < 2 ^ 64)
theorem CMul.ok {i j : Int} (h : CMul i j) : IntMulOk i j := by
  rcases h with ⟨h1, h2⟩ | ⟨h1, h2⟩
  · exact .of_left (intBits_le_64 h1 h2)
  · exact .of_right (intBits_le_64 h1 h2)
theorem op_add : OpR X (binaryOp .Add) (rI0 fun i j => .int (i + j)) := opI0 fun _ _ _ _ _ _ _ q => add_int q
theorem op_sub : OpR X (binaryOp .Sub) (rI0 fun i j => .int (i - j)) := opI0 fun _ _ _ _ _ _ _ q => sub_int q
theorem op_mul : OpR X (binaryOp .Mult) (rI CMul fun i j => .int (i * j)) := opI fun _ _ _ _ _ _ _ hc q => mul_int q hc.ok
/-- // by a positive divisor -/
theorem op_fdiv : OpR X (binaryOp .FloorDiv) (rI CDiv fun i j => .int (i / j)) := opI fun i j _ _ _ _ _ hc q => by
  have h1 : (0 : Int) < j := hc.1
  have h2 : j < 1073741824 := hc.2
  exact floordiv_int (by omega) (by rw [Int.fdiv_eq_ediv_of_nonneg i (by omega)]; exact q) (.inl (PyProof.noPylong_small (by omega)))
/-- % by a positive divisor of any size -/
theorem op_mod : OpR X (binaryOp .Mod) (rI (fun _ j => 0 < j) fun i j => .int (i % j)) := opI fun i j _ _ _ _ _ hc q => by
  have h1 : (0 : Int) < j := hc
  exact mod_int' (by omega) (by rw [Int.fmod_eq_emod_of_nonneg i (by omega)]; exact q)
theorem op_pow : OpR X (binaryOp .Pow) (rI CPow fun i j => .int (i ^ j.toNat)) := opI fun _ _ _ _ _ _ _ hc q => pow_int_small hc.1 hc.2.1 hc.2.2 q
/-! ### bools among ints: n += (a < b) -/
end

/-! ### comparisons -/
/-- the scalars that == tells apart as data does -/
def scal : V → V → Bool
  | .non, .non => true | .non, .int _ => true | .int _, .non => true | .non, .bl _ => true | .bl _, .non => true | .non, .str _ => true | .str _, .non => true
  | .int _, .int _ => true | .bl _, .bl _ => true | .str _, .str _ => true | .byt _, .byt _ => true
  | .int _, .str _ => true | .str _, .int _ => true | .bl _, .str _ => true | .str _, .bl _ => true
  | _, _ => false
def rEq : R2 := fun x y H Q => scal x y = true ∧ Q (.bl (decide (x = y))) H
def rNe : R2 := fun x y H Q => scal x y = true ∧ Q (.bl (!decide (x = y))) H

theorem dec_int {i j : Int} : decide (V.int i = V.int j) = (i == j) := by
  rw [Bool.eq_iff_iff]
  simp
theorem dec_bl {i j : Bool} : decide (V.bl i = V.bl j) = (i == j) := by
  rw [Bool.eq_iff_iff]
  simp
theorem dec_str {i j : Str} : decide (V.str i = V.str j) = (i == j) := by
  rw [Bool.eq_iff_iff]
  simp
theorem dec_byt {i j : Array UInt8} : decide (V.byt i = V.byt j) = (i.toList == j.toList) := by
  rw [Bool.eq_iff_iff]
  cases i
  cases j
  simp

section
variable {X : Cx} {a b c : Expr} {ta tb tc : TE} {pos : Pos}
theorem fin_bl {pins : List (Addr × Obj)} {σ : St} {H : Hp} {s : Shared} {Q : VK} {k k' : Bool} (I : Inv X pins σ H s) (q : Q (.bl k) H) (e : k = k') : EP X pins σ Q (.bool k') s := by
  subst e
  exact ⟨.bl k, H, I, rfl, q⟩
theorem op_eq : OpR X (compareOp .Eq) rEq := by
  intro pins s σ H x y v u Q I rx ry h
  obtain ⟨hs, q⟩ := h
  cases x with
  | non =>
    cases rx
    cases y with
    | non => cases ry; exact PySem.EqNone.eq_none_none (fin_bl I q (by simp))
    | bl j => cases ry; exact PySem.EqNone.eq_none_bool (fin_bl I q (by simp))
    | int j => obtain ⟨t', rfl⟩ := ry; exact PySem.EqNone.eq_none_int (fin_bl I q (by simp))
    | str j => obtain ⟨t', rfl⟩ := ry; exact PySem.EqNone.eq_none_str (fin_bl I q (by simp))
    | _ => exact absurd (show false = true from hs) Bool.false_ne_true
  | bl i =>
    cases rx
    cases y with
    | non => cases ry; exact PySem.EqNone.eq_bool_none (fin_bl I q (by simp))
    | bl j => cases ry; exact eq_bool (fin_bl I q dec_bl)
    | str j => obtain ⟨t', rfl⟩ := ry; exact PySem.EqMixed.eq_bool_str (fin_bl I q (by simp))
    | _ => exact absurd (show false = true from hs) Bool.false_ne_true
  | int i =>
    obtain ⟨t, rfl⟩ := rx
    cases y with
    | non => cases ry; exact PySem.EqNone.eq_int_none (fin_bl I q (by simp))
    | int j => obtain ⟨t', rfl⟩ := ry; exact eq_int (fin_bl I q dec_int)
    | str j => obtain ⟨t', rfl⟩ := ry; exact PySem.EqMixed.eq_int_str (fin_bl I q (by simp))
    | _ => exact absurd (show false = true from hs) Bool.false_ne_true
  | str i =>
    obtain ⟨t, rfl⟩ := rx
    cases y with
    | non => cases ry; exact PySem.EqNone.eq_str_none (fin_bl I q (by simp))
    | bl j => cases ry; exact PySem.EqMixed.eq_str_bool (fin_bl I q (by simp))
    | int j => obtain ⟨t', rfl⟩ := ry; exact PySem.EqMixed.eq_str_int (fin_bl I q (by simp))
    | str j => obtain ⟨t', rfl⟩ := ry; exact eq_str (fin_bl I q dec_str)
    | _ => exact absurd (show false = true from hs) Bool.false_ne_true
  | byt i =>
    obtain ⟨t, rfl⟩ := rx
    cases y with
    | byt j => obtain ⟨t', rfl⟩ := ry; exact PySem.W.eq_bytes (fin_bl I q dec_byt)
    | _ => exact absurd (show false = true from hs) Bool.false_ne_true
  | _ => cases y <;> exact absurd (show false = true from hs) Bool.false_ne_true
theorem op_ne : OpR X (compareOp .NotEq) rNe := by
  intro pins s σ H x y v u Q I rx ry h
  obtain ⟨hs, q⟩ := h
  cases x with
  | non =>
    cases rx
    cases y with
    | non => cases ry; exact PySem.EqNone.ne_none_none (fin_bl I q (by simp))
    | bl j => cases ry; exact PySem.EqNone.ne_none_bool (fin_bl I q (by simp))
    | int j => obtain ⟨t', rfl⟩ := ry; exact PySem.EqNone.ne_none_int (fin_bl I q (by simp))
    | str j => obtain ⟨t', rfl⟩ := ry; exact PySem.EqNone.ne_none_str (fin_bl I q (by simp))
    | _ => exact absurd (show false = true from hs) Bool.false_ne_true
  | bl i =>
    cases rx
    cases y with
    | non => cases ry; exact PySem.EqNone.ne_bool_none (fin_bl I q (by simp))
    | bl j => cases ry; exact ne_bool (fin_bl I q (congrArg not dec_bl))
    | str j => obtain ⟨t', rfl⟩ := ry; exact PySem.EqMixed.ne_bool_str (fin_bl I q (by simp))
    | _ => exact absurd (show false = true from hs) Bool.false_ne_true
  | int i =>
    obtain ⟨t, rfl⟩ := rx
    cases y with
    | non => cases ry; exact PySem.EqNone.ne_int_none (fin_bl I q (by simp))
    | int j => obtain ⟨t', rfl⟩ := ry; exact ne_int (fin_bl I q (congrArg not dec_int))
    | str j => obtain ⟨t', rfl⟩ := ry; exact PySem.EqMixed.ne_int_str (fin_bl I q (by simp))
    | _ => exact absurd (show false = true from hs) Bool.false_ne_true
  | str i =>
    obtain ⟨t, rfl⟩ := rx
    cases y with
    | non => cases ry; exact PySem.EqNone.ne_str_none (fin_bl I q (by simp))
    | bl j => cases ry; exact PySem.EqMixed.ne_str_bool (fin_bl I q (by simp))
    | int j => obtain ⟨t', rfl⟩ := ry; exact PySem.EqMixed.ne_str_int (fin_bl I q (by simp))
    | str j => obtain ⟨t', rfl⟩ := ry; exact ne_str (fin_bl I q (congrArg not dec_str))
    | _ => exact absurd (show false = true from hs) Bool.false_ne_true
  | byt i =>
    obtain ⟨t, rfl⟩ := rx
    cases y with
    | byt j => obtain ⟨t', rfl⟩ := ry; exact PySem.W.ne_bytes (fin_bl I q (congrArg not dec_byt))
    | _ => exact absurd (show false = true from hs) Bool.false_ne_true
  | _ => cases y <;> exact absurd (show false = true from hs) Bool.false_ne_true

theorem op_lt : OpR X (compareOp .Lt) (rI0 fun i j => .bl (decide (i < j))) := opB0 fun _ _ _ _ _ _ _ q => lt_int q
theorem op_gt : OpR X (compareOp .Gt) (rI0 fun i j => .bl (decide (j < i))) := opB0 fun _ _ _ _ _ _ _ q => gt_int q
theorem op_notN : OpR X (compareOp .IsNot) (fun x y H Q => y = .non ∧ Q (.bl (!decide (x = .non))) H) := by
  intro pins s σ H x y v u Q I rx ry h
  obtain ⟨rfl, q⟩ := h
  cases ry
  refine isnot_none_gen (fin_bl I q ?_)
  cases x <;> first
    | (cases rx; rfl)
    | (obtain ⟨t, rfl⟩ := rx; rfl)

/-- two rules for one operation: by cases -/
theorem OpR.or {f : Value → Value → Sem Value} {r r' : R2} (h : OpR X f r) (h' : OpR X f r') : OpR X f (fun x y H Q => r x y H Q ∨ r' x y H Q) := by
  intro pins s σ H x y v u Q I rx ry q
  rcases q with q | q
  · exact h pins s σ H x y v u Q I rx ry q
  · exact h' pins s σ H x y v u Q I rx ry q

theorem nomark (b : Expr) {op : CmpOp} (h : op ≠ .In := by decide) (h2 : op ≠ .NotIn := by decide) : behindInMarks op b = false := by
  have e1 : (op == CmpOp.In) = false := by cases op <;> first | rfl | exact absurd rfl h
  have e2 : (op == CmpOp.NotIn) = false := by cases op <;> first | rfl | exact absurd rfl h2
  cases b <;> simp [behindInMarks, e1, e2]
/-- a comparison as a value; hm: nomark b, or (for in, not in) by with_unfolding_all rfl -/
theorem pe_cmpR {op : CmpOp} {r : R2} (ho : OpR X (compareOp op) r) (ha : PE X a ta) (hb : PE X b tb) (hm : behindInMarks op b = false) : PE X (.Compare a [op] [b] pos) (tOp r ta tb) := by
  intro pins s σ H Q I h
  exact wpAny_Compare1 (binT ha hb I h fun v u s2 x y H2 I2 rx ry q => ho pins s2 σ H2 x y v u Q I2 rx ry q) hm
/-- a reading of a value as a test -/
def tTest (t : TE) : TT := fun σ H Q => t σ H fun x H' => ∃ k, x = .bl k ∧ Q k H'
theorem pt_cmpR {op : CmpOp} {r : R2} (ho : OpR X (compareOp op) r) (ha : PE X a ta) (hb : PE X b tb) (hm : behindInMarks op b = false) : PT X (.Compare a [op] [b] pos) (tTest (tOp r ta tb)) := by
  intro pins s σ H Q I h
  refine wpAny_isTrue_Compare1 (thn (ha pins s σ H _ I h) fun v s1 ⟨x, H1, I1, r1, q1⟩ => thn (hb pins s1 σ H1 _ I1 q1) fun u s2 ⟨y, H2, I2, r2, q2⟩ =>
    thn (ho pins s2 σ H2 x y v u _ I2 r1 r2 q2) fun c s3 ⟨z, H3, I3, r3, k, e, q3⟩ => ?_) hm
  subst e
  cases r3
  exact wpAny_truthy_bool ⟨H3, I3, q3⟩
/-! ### truth -/
theorem line63 : (sizeLine : Nat) < 2 ^ 63 := by rw [sizeLine_eq]; decide
/-! ### strs and bytes -/
/-! ### scalar builtins, by CallR -/
theorem vals1 {x : V} {us : List Value} (r : Vals [x] us) : ∃ u, us = [u] ∧ RelV x u := by
  cases r with
  | cons r1 r2 => cases r2; exact ⟨_, rfl, r1⟩
theorem vals2 {x y : V} {us : List Value} (r : Vals [x, y] us) : ∃ u w', us = [u, w'] ∧ RelV x u ∧ RelV y w' := by
  cases r with
  | cons r1 r2 =>
    cases r2 with
    | cons r3 r4 => cases r4; exact ⟨_, _, rfl, r1, r3⟩
theorem call_max2 (hc : X.calm = true) : CallR X (.builtin "max") (fun xs H Q => ∃ i j, xs = [.int i, .int j] ∧ Q (.int (if j > i then j else i)) H) := by
  intro pins s σ H xs us Q I r h
  obtain ⟨i, j, rfl, q⟩ := h
  obtain ⟨u, w', rfl, ⟨t, rfl⟩, ⟨t', rfl⟩⟩ := vals2 r
  refine max_two_ints (I.ok.hd hc) fun h' tk k => ⟨_, H, I.kept k, ?_, q⟩
  by_cases hj : j > i
  · rw [if_pos hj, if_pos hj]; exact ⟨_, rfl⟩
  · rw [if_neg hj, if_neg hj]; exact ⟨_, rfl⟩
end
end L2

namespace L2
open PySem PySem.Spec PyProof.Rows

/-! ### an instance, its attributes a map -/
structure ObjM (h : Heap) (x dx C : Addr) (mA : Str → Option Value) : Prop where
  obj : h.get? x = some (PySem.W.instObj C dx)
  ns : h.Ns1 dx mA
  ne : dx ≠ x

theorem lookIn_ns {h : Heap} {dx : Addr} {mA : Str → Option Value} (n : h.Ns1 dx mA) : ∃ od, h.get? dx = some od ∧ ∀ name, PySem.W.lookIn name od = some (mA name) := by
  obtain ⟨o, es, ep, ho, hd, hk, _, hm⟩ := n
  refine ⟨o, ho, fun name => ?_⟩
  have e := hm name
  unfold nsFind findBy at e
  rw [← Array.find?_toList] at e
  unfold PySem.W.lookIn
  rw [hd]
  dsimp only
  split
  · rename_i y q
    rw [q] at e
    exact congrArg some e
  · rename_i q
    rw [q] at e
    have a : es.toList.any (·.refKey) = false := by
      rw [List.any_eq_false]
      intro y hy
      obtain ⟨z, t, hkey⟩ := hk y (Array.mem_toList_iff.mp hy)
      simp [DictEntry.refKey, hkey]
    have a' : ¬ es.toList.any (·.refKey) = true := by rw [a]; exact Bool.false_ne_true
    rw [if_neg a']
    exact congrArg some e

theorem ObjM.look {h : Heap} {x dx C : Addr} {mA : Str → Option Value} (I : ObjM h x dx C mA) : ∃ od, PySem.W.InstAt h x (PySem.W.instObj C dx) C (some od) ∧ ∀ name, PySem.W.lookIn name od = some (mA name) :=
  let ⟨od, ho, hl⟩ := lookIn_ns I.ns
  ⟨od, ⟨I.obj, rfl, rfl, ho⟩, hl⟩

section
variable {prog : Program} {w : World} {A : Around} {E : Value → Shared → Prop} {s : Shared} {K : PySem.W.Frag} {x dx C f : Addr} {mA : Str → Option Value} {name : Str} {v : Value}

theorem get_map {expr : Bool} {Q : Value → Shared → Prop} (X : K.In s.heap) (I : ObjM s.heap x dx C mA) (hg : PySem.W.plainGet K C name = true) (hh : PySem.W.hasDictIn K C = true)
    (ha : PySem.W.findIn K (.ref C) name = some none) (hv : mA name = some v) (hv' : PySem.W.handedIn v = true) (h : Q v { s with toks := s.toks + 1 }) :
    wpAny (model prog w) A (getAttr (.ref x) name expr) Q E s := by
  obtain ⟨od, J, hl⟩ := I.look
  exact PySem.W.get_value X J (PySem.W.plainGet_of hg).1 (PySem.W.findObj_own hh ha rfl (by rw [hl, hv])) hv' h

theorem get_meth {pl : Sem Bool} {Q : Value × List Value → Shared → Prop} (X : K.In s.heap) (I : ObjM s.heap x dx C mA) (hg : PySem.W.plainGet K C name = true)
    (hf : PySem.W.findIn K (.ref C) name = some (some (.ref f))) (ht : PySem.W.isFn K (.ref f) = true) (hv : mA name = none) (h : Q (.ref f, [.ref x]) s) :
    wpAny (model prog w) A (getMethod (.ref x) name pl) Q E s := by
  obtain ⟨od, J, hl⟩ := I.look
  exact PySem.W.method_fn X J (PySem.W.plainGet_of hg).1 (PySem.W.plainGet_of hg).2 hf (beq_iff_eq.mp ht) (by show (PySem.W.lookIn name od).map (·.isSome) = some false; rw [hl, hv]; rfl) h

theorem set_map {ns : List Str} {Q : Unit → Shared → Prop} (X : K.In s.heap) (I : ObjM s.heap x dx C mA)
    (hs : PySem.W.findIn K (.ref C) "__setattr__" = some (some (.builtin "object.__setattr__"))) (hp : PySem.W.plainOver K C = true) (ht : PySem.W.takerIn K C name = some none) (hh : PySem.W.hasDictIn K C = true)
    (hw : PySem.Within mA ns) (hsz : ns.length ≤ sizeLine)
    (h : ∀ h', ObjM h' x dx C (fun y => if y = name then some v else mA y) → Heap.SameBut dx s.heap h' → Q () { s with heap := h', toks := s.toks + 2 }) :
    wpAny (model prog w) A (setAttr (.ref x) name v) Q E s := by
  obtain ⟨od, J, hl⟩ := I.look
  refine PySem.W.set_plain X J hs (PySem.W.osa_open (s := { s with toks := s.toks + 1 }) (r := none) X J hp ht fun b => ?_)
  obtain ⟨cd, hc, hd'⟩ := PySem.W.any_some hh
  have hx : s.heap.get? x = some ⟨.ref C, some dx, .plain, #[]⟩ := I.obj
  refine wpAny_bind (wpAny_pure (wpAny_bind (wpAny_bind (wpAny_loadPart hx (wpAny_bind (PySem.W.Looks.here (s := { s with toks := s.toks + 1 }) (PySem.W.looks_clsIn X hc) ?_))))))
  rw [hd']
  refine wpAny_pure (a := some dx) (wpAny_bind (wpAny_pure (wpAny_bind ?_)))
  refine wpAny_nsSet1 (s := { s with toks := s.toks + 1 }) I.ns fun h' hn2 hs2 => ?_
  obtain ⟨oD, esD, epD, hoD, hdD, hcD⟩ := hn2.count (PySem.Within.cons name v hw)
  refine wpAny_bind (wpAny_lookBehind hoD (by rw [hdD]; exact pastItsLine_dict (Nat.le_trans hcD (by rw [List.length_cons]; omega))) ?_)
  exact wpAny_pure (h _ ⟨(hs2.2 _ (Ne.symm I.ne)).trans I.obj, hn2, I.ne⟩ hs2)

/-- C(..): the dict at the heap's end, the instance behind it; then its __init__ -/
theorem make_map {R : Result → Shared → Prop} {vs : List Value} {kw : List (Str × Value)} (X : K.In s.heap) (hm : PySem.W.makesIn K C = true)
    (hi : PySem.W.findIn K (.ref C) "__init__" = some (some (.ref f))) (hf : PySem.W.typeIn K (.ref f) = some (.type "function"))
    (h : codeAny (model prog w) (A.under (.builtin "type.__call__" ⟨.ref C :: vs, kw⟩)) (.call (.ref f) ⟨.ref (s.heap.objs.size + 1) :: vs, kw⟩) (PySem.W.InitBack (s.heap.objs.size + 1) R)
      { s with heap := (s.heap.push PySem.W.emptyDict).push (PySem.W.instObj C s.heap.objs.size) }) :
    codeAny (model prog w) A (.call (.ref C) ⟨vs, kw⟩) R s := by
  obtain ⟨hh, g, d, t, os⟩ := s
  exact PySem.W.make_core (PySem.W.makes_of X hm) (PySem.W.looks_findIn X hi) (fun self => PySem.W.bind_fn X self hf) (.inl rfl) h
end

/-! ### the attributes as a list of pairs -/
def putF (f : Str) (v : V) : List (Str × V) → List (Str × V)
  | [] => [(f, v)]
  | (g, x) :: r => if g = f then (g, v) :: r else (g, x) :: putF f v r
theorem lookup_putF (f g : Str) (v : V) : ∀ fs : List (Str × V), (putF f v fs).lookup g = if g = f then some v else fs.lookup g
  | [] => by
    show List.lookup g [(f, v)] = _
    by_cases h : g = f
    · have hb : (g == f) = true := beq_iff_eq.mpr h
      simp only [List.lookup, hb, if_pos h]
    · have hb : (g == f) = false := beq_eq_false_iff_ne.mpr h
      simp only [List.lookup, hb, if_neg h]
  | (k, x) :: r => by
    have ih := lookup_putF f g v r
    rw [show putF f v ((k, x) :: r) = (if k = f then (k, v) :: r else (k, x) :: putF f v r) from rfl]
    by_cases hk : k = f
    · rw [if_pos hk]
      by_cases h : g = k
      · have hb : (g == k) = true := beq_iff_eq.mpr h
        simp only [List.lookup, hb, if_pos (h.trans hk)]
      · have hb : (g == k) = false := beq_eq_false_iff_ne.mpr h
        simp only [List.lookup, hb, if_neg (fun e : g = f => h (e.trans hk.symm))]
    · rw [if_neg hk]
      by_cases h : g = k
      · have hb : (g == k) = true := beq_iff_eq.mpr h
        simp only [List.lookup, hb, if_neg (fun e : g = f => hk (h.symm.trans e))]
      · have hb : (g == k) = false := beq_eq_false_iff_ne.mpr h
        simp only [List.lookup, hb]
        exact ih
theorem keys_putF (f : Str) (v : V) : ∀ fs : List (Str × V), f ∈ (putF f v fs).map (·.1) ∧ ∀ g, g ∈ fs.map (·.1) → g ∈ (putF f v fs).map (·.1)
  | [] => ⟨by simp [putF], fun g h => by simp at h⟩
  | (k, x) :: r => by
    obtain ⟨i1, i2⟩ := keys_putF f v r
    rw [show putF f v ((k, x) :: r) = (if k = f then (k, v) :: r else (k, x) :: putF f v r) from rfl]
    by_cases hk : k = f
    · rw [if_pos hk]
      subst hk
      exact ⟨by simp, fun g h => by simpa using h⟩
    · rw [if_neg hk]
      refine ⟨?_, fun g h => ?_⟩
      · rw [List.map_cons]
        exact List.mem_cons_of_mem _ i1
      · rw [List.map_cons] at h ⊢
        rcases List.mem_cons.mp h with e | e
        · exact List.mem_cons.mpr (.inl e)
        · exact List.mem_cons_of_mem _ (i2 g e)
theorem length_putF (f : Str) (v : V) : ∀ fs : List (Str × V), (putF f v fs).length ≤ fs.length + 1
  | [] => by simp [putF]
  | (k, x) :: r => by
    have ih := length_putF f v r
    rw [show putF f v ((k, x) :: r) = (if k = f then (k, v) :: r else (k, x) :: putF f v r) from rfl]
    by_cases hk : k = f
    · rw [if_pos hk, List.length_cons, List.length_cons]; omega
    · rw [if_neg hk, List.length_cons, List.length_cons]; omega

theorem RelO.some_of {v : V} {o : Option Value} (r : RelO (some v) o) : ∃ u, o = some u ∧ RelV v u := by
  cases o with
  | none => exact (show False from r).elim
  | some u => exact ⟨u, rfl, r⟩
theorem RelO.none_of {o : Option Value} (r : RelO none o) : o = none := by
  cases o with
  | none => rfl
  | some u => exact (show False from r).elim
theorem handed_of {v : V} {u : Value} (r : RelV v u) : PySem.W.handedIn u = true := by
  cases v with
  | non => cases (show u = Value.none from r); rfl
  | bl b => cases (show u = Value.bool b from r); rfl
  | int i => obtain ⟨t, e⟩ := (show ∃ t, u = Value.int i t from r); cases e; rfl
  | str x => obtain ⟨t, e⟩ := (show ∃ t, u = Value.str x t from r); cases e; rfl
  | byt b => obtain ⟨t, e⟩ := (show ∃ t, u = Value.bytes b t from r); cases e; rfl
  | flt b => obtain ⟨t, e⟩ := (show ∃ t, u = Value.float b t from r); cases e; rfl
  | ref a => cases (show u = Value.ref a from r); rfl
  | ty n => cases (show u = Value.type n from r); rfl

section
variable {P : Program} {w : World} {H H' : Hp} {h h' : Heap} {a C dx : Addr} {fs fs' : List (Str × V)}
theorem ins_get (hok : HOk P w H h) (e : H a = some (.ins C dx fs)) : ∃ mA, ObjM h a dx C mA ∧ (∀ f, RelO (fs.lookup f) (mA f)) ∧ PySem.Within mA (fs.map (·.1)) ∧ fs.length ≤ 1000 ∧ H dx = some (.own a) := by
  obtain ⟨d, z, ne, ob, mA, n, r, q⟩ := (show ObjOk P w H h a (.ins C dx fs) from hok a _ e)
  exact ⟨mA, ⟨ob, n, ne⟩, r, q, z, d⟩
end

/-! ### what of the text a class must have -/
structure Cls (K : PySem.W.Frag) (C : Addr) : Prop where
  pg : PySem.W.plainGet K C Str.empty = true
  hd : PySem.W.hasDictIn K C = true
  po : PySem.W.plainOver K C = true
  sa : PySem.W.findIn K (.ref C) "__setattr__" = some (some (.builtin "object.__setattr__"))
theorem Cls.get {K : PySem.W.Frag} {C : Addr} (c : Cls K C) (f : Str) : PySem.W.plainGet K C f = true := c.pg
/-- no class of it has the name -/
def NoAttr (K : PySem.W.Frag) (C : Addr) (f : Str) : Prop := PySem.W.findIn K (.ref C) f = some none
theorem NoAttr.taker {K : PySem.W.Frag} {C : Addr} {f : Str} (n : NoAttr K C f) : PySem.W.takerIn K C f = some none := by
  unfold PySem.W.takerIn
  rw [show PySem.W.findIn K (.ref C) f = some none from n]
  rfl
/-- a constant of the class -/
structure Con (K : PySem.W.Frag) (C : Addr) (f : Str) (v : V) (u : Value) : Prop where
  at_ : PySem.W.findIn K (.ref C) f = some (some u)
  rel : RelV v u
  get : PySem.W.specialIn K u "__get__" = some none
  cp : PySem.W.copiedNames.contains f = false
/-- a method: a plain def of the class or of one above it -/
structure Meth (K : PySem.W.Frag) (C : Addr) (m : Str) (f : Addr) : Prop where
  at_ : PySem.W.findIn K (.ref C) m = some (some (.ref f))
  fn : PySem.W.isFn K (.ref f) = true
  kp : PySem.W.keepIn K (.ref f) = true

section
variable {X : Cx} {pins : List (Addr × Obj)} {σ : St} {H : Hp} {s : Shared} {a C dx : Addr} {fs : List (Str × V)} {f : Str} {v : V} {A : Around} {E : Value → Shared → Prop}

theorem getattr_ok {b : Bool} {Q : Value → Shared → Prop} (I : Inv X pins σ H s) (e : H a = some (.ins C dx fs)) (c : Cls X.K C) (n : NoAttr X.K C f) (l : fs.lookup f = some v)
    (h : ∀ u s', Inv X pins σ H s' → RelV v u → Q u s') : wpAny (model X.prog X.w) A (getAttr (.ref a) f b) Q E s := by
  obtain ⟨mA, O, r, _, _, _⟩ := ins_get I.hok e
  obtain ⟨u, hu, ru⟩ := RelO.some_of (v := v) (o := mA f) (by rw [← l]; exact r f)
  exact get_map I.kIn O (c.get f) c.hd n hu (handed_of ru) (h u _ (I.tok _) ru)

theorem getmeth_ok {m : Str} {g : Addr} {pl : Sem Bool} {Q : Value × List Value → Shared → Prop} (I : Inv X pins σ H s) (e : H a = some (.ins C dx fs)) (c : Cls X.K C) (k : Meth X.K C m g) (l : fs.lookup m = none)
    (h : Q (.ref g, [.ref a]) s) : wpAny (model X.prog X.w) A (getMethod (.ref a) m pl) Q E s := by
  obtain ⟨mA, O, r, _, _, _⟩ := ins_get I.hok e
  have hn : mA m = none := RelO.none_of (by rw [← l]; exact r m)
  exact get_meth I.kIn O (c.get m) k.at_ k.fn hn h

theorem setattr_ok {y : V} {u : Value} {Q : Unit → Shared → Prop} (I : Inv X pins σ H s) (e : H a = some (.ins C dx fs)) (c : Cls X.K C) (n : NoAttr X.K C f) (hl : fs.length < 1000) (ry : RelV y u)
    (h : ∀ s', Inv X pins σ (upd H a (.ins C dx (putF f y fs))) s' → Q () s') : wpAny (model X.prog X.w) A (setAttr (.ref a) f u) Q E s := by
  obtain ⟨mA, O, r, wi, _, ho⟩ := ins_get I.hok e
  have hz : (fs.map (·.1)).length ≤ sizeLine := by rw [List.length_map, sizeLine_eq]; omega
  refine set_map I.kIn O c.sa c.po n.taker c.hd wi hz fun h' O' sb => h _ ?_
  have hd : ∃ o, h'.get? dx = some o := let ⟨o, _, _, e', _⟩ := O'.ns; ⟨o, e'⟩
  refine I.write (x := a) (e := dx) (by rw [e]; exact True.intro) (.inr ho) (fun b q hb z => (sb.2 b hb).trans z) hd ?_
  refine ⟨by rw [upd_ne O.ne]; exact ho, ?_, O.ne, O'.obj, _, O'.ns, fun g => ?_, fun g hg => ?_⟩
  · have := length_putF f y fs; omega
  · show RelO ((putF f y fs).lookup g) (if g = f then some u else mA g)
    rw [lookup_putF]
    by_cases q : g = f
    · rw [if_pos q, if_pos q]; exact ry
    · rw [if_neg q, if_neg q]; exact r g
  · by_cases q : g = f
    · rw [q]; exact (keys_putF f y fs).1
    · refine (keys_putF f y fs).2 g (wi g fun z => hg ?_)
      show (if g = f then some u else mA g) = none
      rw [if_neg q]; exact z

/-- a new instance, tracked, without attributes -/
theorem Inv.made (I : Inv X pins σ H s) : Inv X pins σ (upd (upd H s.heap.objs.size (.own (s.heap.objs.size + 1))) (s.heap.objs.size + 1) (.ins C s.heap.objs.size []))
    { s with heap := (s.heap.push PySem.W.emptyDict).push (PySem.W.instObj C s.heap.objs.size) } := by
  have e1 : (s.heap.push PySem.W.emptyDict).get? s.heap.objs.size = some PySem.W.emptyDict := Heap.get?_push_size s.heap rfl
  have e2 : ((s.heap.push PySem.W.emptyDict).push (PySem.W.instObj C s.heap.objs.size)).get? (s.heap.objs.size + 1) = some (PySem.W.instObj C s.heap.objs.size) := by
    have := Heap.get?_push_size (s.heap.push PySem.W.emptyDict) (o := PySem.W.instObj C s.heap.objs.size) rfl
    rwa [Heap.size_push] at this
  have e3 : (s.heap.push PySem.W.emptyDict).Ns s.heap.objs.size (fun _ => none) := ⟨PySem.W.emptyDict, #[], _, e1, rfl, (fun e he => absurd he (by simp)), fun _ => rfl⟩
  have I1 := I.laid (a := s.heap.objs.size) (o := .own (s.heap.objs.size + 1)) (h' := s.heap.push PySem.W.emptyDict) (t' := s.toks) (fun b u q => Heap.get?_push_of_some _ q) (Nat.le_refl _) ⟨_, e1⟩
  refine I1.laid (a := s.heap.objs.size + 1) (o := .ins C s.heap.objs.size []) (t' := s.toks) (fun b u q => Heap.get?_push_of_some _ q) (Nat.le_of_eq (Heap.size_push _ _)) ?_
  have ne : s.heap.objs.size ≠ s.heap.objs.size + 1 := Nat.ne_of_lt (Nat.lt_succ_self _)
  refine ⟨by rw [upd_ne ne, upd_same], Nat.zero_le _, ne, e2, fun _ => none, (Heap.Ns1.of_empty e3).at fun o q => Heap.get?_push_of_some _ q, fun _ => True.intro, fun y hy => absurd rfl hy⟩

/-- e.f where nothing but the object is asked: through attributeBase (super) and the last hold -/
theorem attr_of {prog : Program} {w : World} {env : Env} {e : Expr} {f : Str} {pos : Pos} {s : Shared} {Q : Value → Shared → Prop} (hb : attributeBase e f env (eval e env) = eval e env)
    (h : wpAny (model prog w) A (eval e env) (fun o s₁ => wpAny (model prog w) A (getAttr o f true) Q E s₁) E s) : wpAny (model prog w) A (eval (.Attribute e f pos) env) Q E s :=
  Attribute_any_ h (by rw [arm_eval_Attribute, hb])
end

/-! ### readings and rules -/
/-- e.f, an attribute of the instance -/
def tFld (K : PySem.W.Frag) (ta : TE) (f : Str) : TE := fun σ H Q => ta σ H fun x H1 => ∃ a C dx fs v, x = .ref a ∧ H1 a = some (.ins C dx fs) ∧ Cls K C ∧ NoAttr K C f ∧ fs.lookup f = some v ∧ Q v H1
/-- e.f = value -/
def sFld (K : PySem.W.Frag) (ta tv : TE) (f : Str) : TS := fun D σ H => tv σ H fun y H1 => ta σ H1 fun x H2 => ∃ a C dx fs, x = .ref a ∧ H2 a = some (.ins C dx fs) ∧ Cls K C ∧ NoAttr K C f ∧ fs.length < 1000 ∧
  D.nx σ (upd H2 a (.ins C dx (putF f y fs)))
section
variable {X : Cx} {o e value : Expr} {f : Str} {pos pos' tpos : Pos} {ta tv : TE}
theorem pe_fld (he : PE X e ta) (hb : attributeBase e f X.env (eval e X.env) = eval e X.env) : PE X (.Attribute e f pos) (tFld X.K ta f) := by
  intro pins s σ H Q I h
  refine attr_of hb (thn (he pins s σ H _ I h) fun u s1 ⟨x, H1, I1, rx, a, C, dx, fs, v, ex, ea, c, n, l, q⟩ => ?_)
  subst ex
  obtain rfl : u = Value.ref a := rx
  exact getattr_ok I1 ea c n l fun u' s2 I2 ru => ⟨v, H1, I2, ru, q⟩
theorem ps_fld (ha : PE X o ta) (hv : PE X value tv) (hs : swapsWith value (some (.Attribute o f pos')) pos.line X.env = pure false) : PS X (.Assign [.Attribute o f pos'] value pos) (sFld X.K ta tv f) := by
  intro pins s σ H D I h
  refine plainObj_wpAny_Assign_Attribute (thn (hv pins s σ H _ I h) fun u s1 ⟨y, H1, I1, ry, q⟩ => thn (ha pins s1 σ H1 _ I1 q) fun ov s2 ⟨x, H2, I2, rx, a, C, dx, fs, ex, ea, c, n, l, q2⟩ => ?_) hs
  subst ex
  obtain rfl : ov = Value.ref a := rx
  exact setattr_ok I2 ea c n l ry fun s3 I3 => ⟨σ, _, I3, q2⟩
end

/-! ### isinstance -/
section
variable {X : Cx} {pins : List (Addr × Obj)} {σ : St} {H : Hp} {s : Shared} {A : Around} {E : Value → Shared → Prop} {Q : Value → Shared → Prop} {c : Value} {b : Bool}
/-- the type of a value, as the fragment's deciders take it; for an instance its class -/
inductive TyOf (K : PySem.W.Frag) (H : Hp) : V → Value → Prop where
  | non : TyOf K H .non (.type "NoneType")
  | bl (x : Bool) : TyOf K H (.bl x) (.type "bool")
  | int (i : Int) : TyOf K H (.int i) (.type "int")
  | str (x : Str) : TyOf K H (.str x) (.type "str")
  | flt (x : UInt64) : TyOf K H (.flt x) (.type "float")
  | lst {a : Addr} {xs : List V} (e : H a = some (.lst xs)) : TyOf K H (.ref a) (.type "list")
  | frz {a : Addr} {o : Obj} {xs : List V} (e : H a = some (.frz o (.lst xs))) : TyOf K H (.ref a) (.type "list")
  | tup {a : Addr} {xs : List V} (e : H a = some (.tup xs)) : TyOf K H (.ref a) (.type "tuple")
  | dK {a : Addr} {kvs : List (Key × V)} (e : H a = some (.dK kvs)) : TyOf K H (.ref a) (.type "dict")
  | dT {a : Addr} {kvs : List (List Key × V)} (e : H a = some (.dT kvs)) : TyOf K H (.ref a) (.type "dict")
  | ins {a C dx : Addr} {fs : List (Str × V)} (e : H a = some (.ins C dx fs)) (cl : Cls K C) (ha : PySem.W.findIn K (.ref C) "__class__" = some (some (.builtin "object.__class__")))
      (hn : PySem.W.specialIn K (.builtin "object.__class__") "__get__" = some (some (.builtin "getset_descriptor.__get__"))) (htk : PySem.W.takesIn K (.builtin "object.__class__") = some true)
      (hm : PySem.W.mroIn K C (.type "object") = some true) : TyOf K H (.ref a) (.ref C)
/-- isinstance(x, c) for one class c, a built-in or an own one: kitOne's answer -/
theorem isinst_ok {x : V} {u t : Value} (I : Inv X pins σ H s) (rx : RelV x u) (ty : TyOf X.K H x t) (e : PySem.W.kitOne X.K t c = some b) (h : ∀ tk, Q (.bool b) { s with toks := tk }) :
    wpAny (model X.prog X.w) A (call (.builtin "isinstance") [u, c]) Q E s := by
  cases ty with
  | non => cases (show u = Value.none from rx); exact PySem.W.kia_one PySem.W.kitx_none I.kIn True.intro e (fun z => nomatch z) h
  | bl y => cases (show u = Value.bool y from rx); exact PySem.W.kia_one PySem.W.kitx_bool I.kIn True.intro e (fun z => nomatch z) h
  | int i => obtain ⟨t, q⟩ := (show ∃ t, u = Value.int i t from rx); cases q; exact PySem.W.kia_one PySem.W.kitx_int I.kIn True.intro e (fun z => nomatch z) h
  | str y => obtain ⟨t, q⟩ := (show ∃ t, u = Value.str y t from rx); cases q; exact PySem.W.kia_one PySem.W.kitx_str I.kIn True.intro e (fun z => nomatch z) h
  | flt y => obtain ⟨t, q⟩ := (show ∃ t, u = Value.float y t from rx); cases q; exact PySem.W.kia_one PySem.W.kitx_float I.kIn True.intro e (fun z => nomatch z) h
  | @lst a xs ea =>
    cases (show u = Value.ref a from rx)
    obtain ⟨_, _, n, _, h1⟩ := (show ObjOk X.prog X.w H s.heap a (.lst xs) from I.hok a _ ea)
    exact PySem.W.kia_one PySem.W.kitx_list I.kIn ⟨_, h1, rfl⟩ e (fun z => nomatch z) h
  | @frz a ob xs ea =>
    cases (show u = Value.ref a from rx)
    obtain ⟨_, _, _, n, _, h1⟩ := (show ObjOk X.prog X.w H s.heap a (.frz ob (.lst xs)) from I.hok a _ ea)
    exact PySem.W.kia_one PySem.W.kitx_list I.kIn ⟨_, h1, rfl⟩ e (fun z => nomatch z) h
  | @tup a xs ea =>
    cases (show u = Value.ref a from rx)
    obtain ⟨_, _, _, p⟩ := (show ObjOk X.prog X.w H s.heap a (.tup xs) from I.hok a _ ea)
    obtain ⟨o, h1, h2, _⟩ := p
    exact PySem.W.kia_one PySem.W.kitx_tuple I.kIn ⟨o, h1, h2⟩ e (fun z => nomatch z) h
  | @dK a kvs ea =>
    cases (show u = Value.ref a from rx)
    obtain ⟨_, _, vs, _, p⟩ := (show ObjOk X.prog X.w H s.heap a (.dK kvs) from I.hok a _ ea)
    obtain ⟨o, es, ep, h1, h2, _⟩ := p
    exact PySem.W.kia_one PySem.W.kitx_dict I.kIn ⟨o, h1, h2.1⟩ e (fun z => nomatch z) h
  | @dT a kvs ea =>
    cases (show u = Value.ref a from rx)
    obtain ⟨_, _, xs, _, o, es, ep, h1, h2, _⟩ := (show ObjOk X.prog X.w H s.heap a (.dT kvs) from I.hok a _ ea)
    exact PySem.W.kia_one PySem.W.kitx_dict I.kIn ⟨o, h1, h2.1⟩ e (fun z => nomatch z) h
  | @ins a C dx fs ea cl ha hn htk hm =>
    cases (show u = Value.ref a from rx)
    obtain ⟨mA, O, _⟩ := ins_get I.hok ea
    obtain ⟨od, J, _⟩ := O.look
    exact PySem.W.kia_one (PySem.W.kitx_own (cl.get _) cl.hd ha hn htk hm) I.kIn J e (fun z => nomatch z) h
end
end L2

namespace L2
open PySem PySem.Spec PyProof.Rows

/-! ### room -/
structure Room (k : Nat) (A : Around) : Prop where
  hd : A.handled = none
  dp : A.depth + 3 * k + 5 < recursionLimit
  un : A.units + 16 * k + 200 < cLine
theorem Room.mono {j k : Nat} {A : Around} (r : Room k A) (h : j ≤ k) : Room j A := ⟨r.hd, by have := r.dp; omega, by have := r.un; omega⟩
theorem Room.deeper {k : Nat} {A : Around} (r : Room (k + 1) A) (env : Env) : Room k (A.deeper env) :=
  ⟨r.hd, by have := r.dp; show A.depth + 1 + 3 * k + 5 < _; omega, by have := r.un; show A.units + 3 + 16 * k + 200 < _; omega⟩
theorem Room.in1 {k : Nat} {A : Around} (r : Room (k + 1) A) : Room k A.in1 :=
  ⟨r.hd, by have := r.dp; show A.depth + 3 * k + 5 < _; omega, by have := r.un; show A.units + 1 + 16 * k + 200 < _; omega⟩
theorem make_depth {A : Around} {C : Addr} {us : List Value} {kw : List (Str × Value)} : (A.under (.builtin "type.__call__" ⟨.ref C :: us, kw⟩)).depth = A.depth + 1 := by
  first | rfl | simp [Around.under, Code.weight, Code.isCreation, Code.isGuard, Code.isCaller, Code.frames, Code.isFrame, guardIds]
theorem make_units {A : Around} {C : Addr} {us : List Value} {kw : List (Str × Value)} : (A.under (.builtin "type.__call__" ⟨.ref C :: us, kw⟩)).units = A.units + 1 := by
  first | rfl | simp [Around.under, Code.cUnits, Code.frames, Code.isFrame]
theorem Room.make {k : Nat} {A : Around} (r : Room (k + 1) A) (C : Addr) (us : List Value) (kw : List (Str × Value)) : Room k (A.under (.builtin "type.__call__" ⟨.ref C :: us, kw⟩)) :=
  ⟨r.hd, by have := r.dp; rw [make_depth]; omega, by have := r.un; rw [make_units]; omega⟩
theorem Room.depth {k : Nat} {A : Around} (r : Room k A) : A.depth < recursionLimit := by have := r.dp; omega
theorem Room.units {k : Nat} {A : Around} (r : Room k A) : A.units + 64 < cLine := by have := r.un; omega
/-! ### argument lists and displays -/
def tNil : TA := fun _ H Q => Q [] H
def tCons (ta : TE) (tr : TA) : TA := fun σ H Q => ta σ H fun x H1 => tr σ H1 fun xs H2 => Q (x :: xs) H2
section
variable {X : Cx} {e : Expr} {es : List Expr} {te : TE} {t : TA} {pos : Pos}
theorem pa_nil : PA X [] tNil := fun _ _ _ _ H Q I h => Calls.spliced_nil ⟨[], H, I, .nil, h⟩
theorem pa_cons (ha : PE X e te) (hr : PA X es t) (hs : starEach (e :: es) X.env = (false, eval e X.env) :: starEach es X.env := by rfl) : PA X (e :: es) (tCons te t) := by
  intro pos pins s σ H Q I h
  rw [hs]
  show wpAny _ _ (spliced ((false, eval e X.env) :: backTo pos (starEach es X.env))) _ _ s
  refine Calls.spliced_cons (thn (ha pins s σ H _ I h) fun u s1 ⟨x, H1, I1, r1, q1⟩ => ?_)
  exact thn (hr pos pins s1 σ H1 _ I1 q1) fun us s2 ⟨xs, H2, I2, r2, q2⟩ => ⟨x :: xs, H2, I2, .cons r1 r2, q2⟩

/-- a tuple, a list of written items -/
def tTup (t : TA) : TE := fun σ H Q => t σ H fun xs H1 => xs.length ≤ sizeLine ∧ ∀ p, H1 p = none → Q (.ref p) (upd H1 p (.tup xs))
def tLst (t : TA) : TE := fun σ H Q => t σ H fun xs H1 => xs.length ≤ sizeLine ∧ ∀ p, H1 p = none → Q (.ref p) (upd H1 p (.lst xs))
theorem pe_tup {x1} (h : PA X es t) : PE X (.Tuple es x1 pos) (tTup t) := by
  intro pins s σ H Q I hq
  refine wpAny_Tuple_spliced (thn (h pos pins s σ H _ I hq) fun us s1 ⟨xs, H1, I1, r, z, q⟩ => ⟨by rw [← r.length]; exact z, ?_⟩)
  have hf : H1 s1.heap.objs.size = none := I1.hok.fresh (Nat.le_refl _)
  refine ⟨.ref s1.heap.objs.size, upd H1 s1.heap.objs.size (.tup xs), I1.laid (t' := s1.toks) (fun b u e => Heap.get?_push_of_some _ e) (Nat.le_refl _) ?_, rfl, q _ hf⟩
  exact ⟨z, us, r, ⟨_, Heap.get?_push_size _ rfl, rfl, _, rfl⟩⟩
theorem pe_lst (h : PA X es t) : PE X (.List es pos) (tLst t) := by
  intro pins s σ H Q I hq
  refine wpAny_List_spliced (thn (h pos pins s σ H _ I hq) fun us s1 ⟨xs, H1, I1, r, z, q⟩ => ⟨by rw [← r.length]; exact z, ?_⟩)
  have hf : H1 s1.heap.objs.size = none := I1.hok.fresh (Nat.le_refl _)
  refine ⟨.ref s1.heap.objs.size, upd H1 s1.heap.objs.size (.lst xs), I1.laid (t' := s1.toks) (fun b u e => Heap.get?_push_of_some _ e) (Nat.le_refl _) ?_, rfl, q _ hf⟩
  exact ⟨z, us, 0, r, Heap.get?_push_size _ rfl⟩
end

/-! ### what a def promises -/
/-- a def's promise: the bound arguments in the parameters' order, the heap, the wanted end, the wanted exception -/
abbrev Sp := List V → Hp → VK → XK → Prop
/-- how an exception lies behind a call (file 08 gives it): the callers' frames, abstract heap and state ahead of the call, the wish, the exception, the state -/
abbrev CXT := List Env → Hp → Shared → XK → Value → Shared → Prop

/-- the state at a call -/
structure Env0 (P : Program) (w : World) (K : PySem.W.Frag) (mg : Str → Option Value) (base : Heap) (A : Around) (outer : List Env) (s : Shared) (H : Hp) : Prop where
  frames : A.frames = some outer
  mod : Mod K mg base
  bs : ∀ b o, base.get? b = some o → s.heap.get? b = some o ∧ H b = none
  bsz : base.objs.size ≤ s.heap.objs.size
  funs : s.heap.FunFrames base outer
  frf : ∀ b ∈ frs outer, H b = none
  hok : HOk P w H s.heap
  bare : AllBare s.gens
/-- a call's end -/
def CE (outer : List Env) (P : Program) (w : World) (H : Hp) (s : Shared) (Q : VK) (u : Value) (s' : Shared) : Prop :=
  ∃ v H', s'.os = s.os ∧ AllBare s'.gens ∧ Un (frs outer) [] H H' s.heap s'.heap ∧ HOk P w H' s'.heap ∧ RelV v u ∧ Q v H'
def CR (CX : CXT) (outer : List Env) (P : Program) (w : World) (H : Hp) (s : Shared) (Q : VK) (E : XK) (r : Result) (s' : Shared) : Prop :=
  match r with
  | .ok (.ret u) => CE outer P w H s Q u s'
  | .ok _ => False
  | .error e => CX outer H s E e s'
structure FnOk (P : Program) (w : World) (K : PySem.W.Frag) (mg : Str → Option Value) (base : Heap) (CX : CXT) (k : Nat) (f : Addr) (fd : FuncData) (ps : List Str) (sp : Sp) : Prop where
  len : ∀ vs H Q E, sp vs H Q E → vs.length = ps.length
  run : ∀ (A : Around) (outer : List Env) (s : Shared) (H : Hp) (args : Args) (us : List Value) (vs : List V) (Q : VK) (E : XK), Room k A → Env0 P w K mg base A outer s H → BindsTo s fd args (ps.zip us) → Vals vs us → sp vs H Q E →
    codeAny (model P w) A (.call (.ref f) args) (CR CX outer P w H s Q E) s
theorem FnOk.mono {P : Program} {w : World} {K : PySem.W.Frag} {mg : Str → Option Value} {base : Heap} {CX : CXT} {j k : Nat} {f : Addr} {fd : FuncData} {ps : List Str} {sp : Sp} (F : FnOk P w K mg base CX j f fd ps sp) (h : j ≤ k) :
    FnOk P w K mg base CX k f fd ps sp := ⟨F.len, fun A outer s H args us vs Q E hr => F.run A outer s H args us vs Q E (hr.mono h)⟩
/-- a weaker promise -/
theorem FnOk.imp {P : Program} {w : World} {K : PySem.W.Frag} {mg : Str → Option Value} {base : Heap} {CX : CXT} {k : Nat} {f : Addr} {fd : FuncData} {ps : List Str} {sp sp' : Sp} (F : FnOk P w K mg base CX k f fd ps sp)
    (h : ∀ vs H Q E, sp' vs H Q E → sp vs H Q E) : FnOk P w K mg base CX k f fd ps sp' :=
  ⟨fun vs H Q E q => F.len vs H Q E (h _ _ _ _ q), fun A outer s H args us vs Q E hr he hb hv hs => F.run A outer s H args us vs Q E hr he hb hv (h _ _ _ _ hs)⟩

theorem Env0.make {P : Program} {w : World} {K : PySem.W.Frag} {mg : Str → Option Value} {base : Heap} {A : Around} {outer : List Env} {s : Shared} {H : Hp} (e : Env0 P w K mg base A outer s H) (C : Addr) (us : List Value) (kw : List (Str × Value)) :
    Env0 P w K mg base (A.under (.builtin "type.__call__" ⟨.ref C :: us, kw⟩)) outer s H := ⟨by first | exact e.frames | (simpa [Around.under, Code.envs, Code.isFrame, pushEnvs] using e.frames), e.mod, e.bs, e.bsz, e.funs, e.frf, e.hok, e.bare⟩
theorem Env0.in1 {P : Program} {w : World} {K : PySem.W.Frag} {mg : Str → Option Value} {base : Heap} {A : Around} {outer : List Env} {s : Shared} {H : Hp} (e : Env0 P w K mg base A outer s H) :
    Env0 P w K mg base A.in1 outer s H := ⟨e.frames, e.mod, e.bs, e.bsz, e.funs, e.frf, e.hok, e.bare⟩

section
variable {X : Cx} {pins : List (Addr × Obj)} {σ : St} {H : Hp} {s s' : Shared}
/-- from a body: what a callee wants -/
theorem Inv.env0 (I : Inv X pins σ H s) : Env0 X.prog X.w X.K X.mg X.base X.A X.stack s H :=
  ⟨I.ok.frames, I.ok.mod, I.bs, Nat.le_trans I.ok.bsz I.sz, I.stack, I.stkFree, I.hok, I.bare⟩
/-- behind a call -/
theorem Inv.after {Q : VK} {u : Value} (I : Inv X pins σ H s) (h : CE X.stack X.prog X.w H s Q u s') : EP X pins σ Q u s' := by
  obtain ⟨v, H', os, bare, un, hok, r, q⟩ := h
  obtain ⟨hh, g, d, t, os'⟩ := s'
  obtain rfl : os' = s.os := os
  exact ⟨v, H', I.call (h' := hh) (g' := g) (d' := d) (t' := t) (ch := []) un hok bare (fun b z => absurd z (by simp)), r, q⟩
end

/-! ### calls -/
/-- f(..): the written arguments, then the defaults dvs; E: what is wanted of an exception -/
def tCall (sp : Sp) (dvs : List V) (E : XK) (t : TA) : TE := fun σ H Q => t σ H fun vs H1 => sp (vs ++ dvs) H1 Q E
/-- o.m(..) of an instance of the class at C -/
def tMeth (C : Addr) (m : Str) (sp : Sp) (dvs : List V) (E : XK) (ta : TE) (t : TA) : TE := fun σ H Q => ta σ H fun x H1 => ∃ a dx fs, x = .ref a ∧ H1 a = some (.ins C dx fs) ∧ fs.lookup m = none ∧
  t σ H1 fun vs H2 => sp (x :: (vs ++ dvs)) H2 Q E
/-- C(..): a new instance and its dict, then __init__ -/
def tMake (C : Addr) (sp : Sp) (dvs : List V) (E : XK) (t : TA) : TE := fun σ H Q => t σ H fun vs H1 => ∀ x dx, H1 x = none → H1 dx = none → dx ≠ x →
  sp (.ref x :: (vs ++ dvs)) (upd (upd H1 dx (.own x)) x (.ins C dx [])) (fun v H2 => v = .non ∧ Q (.ref x) H2) E

/-- how the parameters are bound: us the positional arguments, kw the keywords' values by name, ds the defaults that fill up -/
def Binds (K : PySem.W.Frag) (fd : FuncData) (ps : List Str) (ds : List Value) : Prop :=
  ∀ (s : Shared) (us : List Value), K.In s.heap → (us ++ ds).length = ps.length → BindsTo s fd ⟨us, []⟩ (ps.zip (us ++ ds))
/-- every parameter is given -/
theorem Binds.all {K : PySem.W.Frag} {fd : FuncData} {ps : List Str} (h : ∀ us : List Value, us.length = ps.length → bindArgs fd ⟨us, []⟩ = pure (ps.zip us)) : Binds K fd ps [] := fun s us _ hl => by
  rw [List.append_nil] at hl ⊢
  exact .of_eq (h us hl)

/-- an exception of a callee reaches what this body wants of exceptions -/
def Passes (CX : CXT) (X : Cx) (E : XK) : Prop := ∀ (pins : List (Addr × Obj)) (σ : St) (H : Hp) (s : Shared) (e : Value) (s' : Shared), Inv X pins σ H s → CX X.stack H s E e s' → X.xe e s'

section
variable {X : Cx} {CX : CXT} {k : Nat} {f C : Addr} {fd : FuncData} {ps : List Str} {sp : Sp} {dvs : List V} {ds : List Value} {E : XK} {x m : Str} {p pos apos : Pos} {e o : Expr} {es : List Expr} {ta : TE} {t : TA}

/-- the callee runs -/
theorem run_fn {pins : List (Addr × Obj)} {σ : St} {H : Hp} {s : Shared} {Q : VK} {us : List Value} {vs : List V} (F : FnOk X.prog X.w X.K X.mg X.base CX k f fd ps sp) (hr : Room k X.A) (hb : Binds X.K fd ps ds) (hd : Vals dvs ds) (hx : Passes CX X E)
    (I : Inv X pins σ H s) (r : Vals vs us) (h : sp (vs ++ dvs) H Q E) : wpAny (model X.prog X.w) X.A (call (.ref f) us) (EP X pins σ Q) X.xe s := by
  have r2 : Vals (vs ++ dvs) (us ++ ds) := r.append hd
  have hl : (us ++ ds).length = ps.length := by rw [← r2.length]; exact F.len _ _ _ _ h
  refine wpAny_call (codeAny_mono (F.run X.A X.stack s H ⟨us, []⟩ (us ++ ds) (vs ++ dvs) Q E hr I.env0 (hb s us I.kIn hl) r2 h) fun r s' hq => ?_)
  cases r with
  | error e => exact hx pins σ H s e s' I hq
  | ok fl =>
    cases fl with
    | ret u => exact I.after hq
    | next => exact False.elim hq
    | brk => exact False.elim hq
    | cont => exact False.elim hq

theorem pe_call (F : FnOk X.prog X.w X.K X.mg X.base CX k f fd ps sp) (hr : Room k X.A) (hg : Gl X x) (hm : X.mg x = some (.ref f)) (hk : PySem.W.keepIn X.K (.ref f) = true) (hb : Binds X.K fd ps ds) (hd : Vals dvs ds) (hx : Passes CX X E)
    (ha : PA X (e :: es) t) (hdb : (x == ("__debug__" : Str)) = false := by decide) (he : starEach (e :: es) X.env = (false, eval e X.env) :: starEach es X.env := by rfl) (hpl : (backTo pos (starEach es X.env)).any (·.1) = false := by rfl) :
    PE X (.Call (.Name x p) (e :: es) [] pos) (tCall sp dvs E t) := by
  intro pins s σ H Q I h
  refine wpAny_Call_Name_kw (ld_glob I hg hm ?_ hdb)
  refine PySem.W.callWith_K (h₀ := X.base) I.ok.mod.kin hk (thn (ha pos pins s σ H _ I h) fun us s1 ⟨vs, H1, I1, r, q⟩ => ⟨I1.kIn, ?_⟩) he hpl
  exact run_fn F hr hb hd hx I1 r q
theorem pe_call0 (F : FnOk X.prog X.w X.K X.mg X.base CX k f fd ps sp) (hr : Room k X.A) (hg : Gl X x) (hm : X.mg x = some (.ref f)) (hk : PySem.W.keepIn X.K (.ref f) = true) (hb : Binds X.K fd ps ds) (hd : Vals dvs ds) (hx : Passes CX X E)
    (hdb : (x == ("__debug__" : Str)) = false := by decide) : PE X (.Call (.Name x p) [] [] pos) (tCall sp dvs E tNil) := by
  intro pins s σ H Q I h
  refine wpAny_Call_Name_kw (ld_glob I hg hm ?_ hdb)
  exact PySem.W.callWith_K0 I.kIn hk (run_fn (us := []) F hr hb hd hx I .nil h)

/-- o.m(e, ..) -/
theorem pe_meth {pl : Sem Bool} (he : PE X o ta) (c : Cls X.K C) (hm : Meth X.K C m f) (F : FnOk X.prog X.w X.K X.mg X.base CX k f fd ps sp) (hr : Room k X.A) (hb : Binds X.K fd ps ds) (hd : Vals dvs ds) (hx : Passes CX X E) (ha : PA X (e :: es) t)
    (hst : starEach (e :: es) X.env = (false, eval e X.env) :: starEach es X.env := by rfl) (hpl : (backTo pos (starEach es X.env)).any (·.1) = false := by rfl)
    (ht : eval (.Call (.Attribute o m apos) (e :: es) [] pos) X.env = (do
      let ov ← eval o X.env
      standAt apos.atName
      let (f, first) ← holding [ov] (getMethod ov m pl)
      callWith pos f first (backTo pos (starEach (e :: es) X.env)) (backToKw pos (keywordEach [] X.env))) := by rfl) :
    PE X (.Call (.Attribute o m apos) (e :: es) [] pos) (tMeth C m sp dvs E ta t) := by
  intro pins s σ H Q I h
  refine PySem.W.methodCall_KW (pl := pl) (thn (he pins s σ H _ I h) fun u s1 ⟨x, H1, I1, rx, a, dx, fs, ex, ea, l, q⟩ => ?_) ht
  subst ex
  obtain rfl : u = Value.ref a := rx
  refine getmeth_ok I1 ea c hm l ?_
  refine PySem.W.callWith_K (first := [.ref a]) (h₀ := X.base) I.ok.mod.kin hm.kp (thn (ha pos pins s1 σ H1 _ I1 q) fun us s2 ⟨vs, H2, I2, r, q2⟩ => ⟨I2.kIn, ?_⟩) hst hpl
  exact run_fn (us := .ref a :: us) (vs := .ref a :: vs) F hr hb hd hx I2 (.cons rfl r) q2
/-- o.m() -/
theorem pe_meth0 {pl : Sem Bool} (he : PE X o ta) (c : Cls X.K C) (hm : Meth X.K C m f) (F : FnOk X.prog X.w X.K X.mg X.base CX k f fd ps sp) (hr : Room k X.A) (hb : Binds X.K fd ps ds) (hd : Vals dvs ds) (hx : Passes CX X E)
    (ht : eval (.Call (.Attribute o m apos) [] [] pos) X.env = (do
      let ov ← eval o X.env
      standAt apos.atName
      let (f, first) ← holding [ov] (getMethod ov m pl)
      callWith pos f first (backTo pos (starEach [] X.env)) (backToKw pos (keywordEach [] X.env))) := by rfl) :
    PE X (.Call (.Attribute o m apos) [] [] pos) (tMeth C m sp dvs E ta tNil) := by
  intro pins s σ H Q I h
  refine PySem.W.methodCall_KW (pl := pl) (thn (he pins s σ H _ I h) fun u s1 ⟨x, H1, I1, rx, a, dx, fs, ex, ea, l, q⟩ => ?_) ht
  subst ex
  obtain rfl : u = Value.ref a := rx
  refine getmeth_ok I1 ea c hm l ?_
  exact PySem.W.callWith_K0 (first := [.ref a]) I1.kIn hm.kp (run_fn (us := [.ref a]) (vs := [.ref a]) F hr hb hd hx I1 (.cons rfl .nil) q)

/-- what a class must have to be made -/
structure Mk (K : PySem.W.Frag) (C f : Addr) : Prop where
  makes : PySem.W.makesIn K C = true
  init : PySem.W.findIn K (.ref C) "__init__" = some (some (.ref f))
  fn : PySem.W.isFn K (.ref f) = true
  kp : PySem.W.keepIn K (.ref C) = true

theorem run_make {pins : List (Addr × Obj)} {σ : St} {H : Hp} {s : Shared} {Q : VK} {us : List Value} {vs : List V} (M : Mk X.K C f) (F : FnOk X.prog X.w X.K X.mg X.base CX k f fd ps sp) (hr : Room (k + 1) X.A) (hb : Binds X.K fd ps ds) (hd : Vals dvs ds)
    (hx : Passes CX X E) (I : Inv X pins σ H s) (r : Vals vs us)
    (h : ∀ x dx, H x = none → H dx = none → dx ≠ x → sp (.ref x :: (vs ++ dvs)) (upd (upd H dx (.own x)) x (.ins C dx [])) (fun v H2 => v = .non ∧ Q (.ref x) H2) E) :
    wpAny (model X.prog X.w) X.A (call (.ref C) us) (EP X pins σ Q) X.xe s := by
  have hq := h (s.heap.objs.size + 1) s.heap.objs.size (I.hok.fresh (Nat.le_succ _)) (I.hok.fresh (Nat.le_refl _)) (Nat.ne_of_lt (Nat.lt_succ_self _))
  have I2 := Inv.made (C := C) I
  have r2 : Vals (V.ref (s.heap.objs.size + 1) :: (vs ++ dvs)) (Value.ref (s.heap.objs.size + 1) :: (us ++ ds)) := .cons rfl (r.append hd)
  have hl : (Value.ref (s.heap.objs.size + 1) :: us ++ ds).length = ps.length := by
    have e := r2.length
    rw [F.len _ _ _ _ hq] at e
    exact e.symm
  refine wpAny_call (make_map (f := f) I.kIn M.makes M.init (beq_iff_eq.mp M.fn) (codeAny_mono (F.run _ X.stack _ _ ⟨Value.ref (s.heap.objs.size + 1) :: us, []⟩ (Value.ref (s.heap.objs.size + 1) :: (us ++ ds)) _ _ E (hr.make C us [])
    (I2.env0.make C us []) (hb _ (Value.ref (s.heap.objs.size + 1) :: us) I2.kIn hl) r2 hq) fun r s' hq' => ?_))
  cases r with
  | error e => exact hx pins σ _ _ e s' I2 hq'
  | ok fl =>
    cases fl with
    | ret u =>
      obtain ⟨v, H', I3, rv, ev, q3⟩ := I2.after hq'
      subst ev
      exact ⟨rv, ⟨V.ref (s.heap.objs.size + 1), H', I3, rfl, q3⟩⟩
    | next => exact False.elim hq'
    | brk => exact False.elim hq'
    | cont => exact False.elim hq'
theorem pe_make (M : Mk X.K C f) (F : FnOk X.prog X.w X.K X.mg X.base CX k f fd ps sp) (hr : Room (k + 1) X.A) (hg : Gl X x) (hm : X.mg x = some (.ref C)) (hb : Binds X.K fd ps ds) (hd : Vals dvs ds) (hx : Passes CX X E)
    (ha : PA X (e :: es) t) (hdb : (x == ("__debug__" : Str)) = false := by decide) (he : starEach (e :: es) X.env = (false, eval e X.env) :: starEach es X.env := by rfl) (hpl : (backTo pos (starEach es X.env)).any (·.1) = false := by rfl) :
    PE X (.Call (.Name x p) (e :: es) [] pos) (tMake C sp dvs E t) := by
  intro pins s σ H Q I h
  refine wpAny_Call_Name_kw (ld_glob I hg hm ?_ hdb)
  refine PySem.W.callWith_K (h₀ := X.base) I.ok.mod.kin M.kp (thn (ha pos pins s σ H _ I h) fun us s1 ⟨vs, H1, I1, r, q⟩ => ⟨I1.kIn, ?_⟩) he hpl
  exact run_make M F hr hb hd hx I1 r q
end

/-! ### keywords -/
section
variable {X : Cx} {CX : CXT} {k : Nat} {f C : Addr} {fd : FuncData} {ps ks : List Str} {sp : Sp} {E : XK} {x m : Str} {p pos apos kpos : Pos} {e o : Expr} {es : List Expr} {kws : List Keyword} {te ta : TE} {t tk : TA} {nm : Option Str}
/-- how a call with keywords binds: g puts the positional values us and the keywords' values ws (names ks) in the parameters' order, defaults among them -/
structure KBinds (K : PySem.W.Frag) (fd : FuncData) (ps ks : List Str) (g : List Value → List Value → List Value) (gV : List V → List V → List V) : Prop where
  to : ∀ (s : Shared) (us ws : List Value), K.In s.heap → (g us ws).length = ps.length → BindsTo s fd ⟨us, ks.zip ws⟩ (ps.zip (g us ws))
  rel : ∀ {vs : List V} {us : List Value} {zs : List V} {ws : List Value}, Vals vs us → Vals zs ws → Vals (gV vs zs) (g us ws)
variable {g : List Value → List Value → List Value} {gV : List V → List V → List V}
end

/-! ### a def's body keeps its promise -/
/-- names: the parameters first -/
structure FnScope (N P : List Str) (sc : Scope) : Prop where
  kind : sc.kind = .function
  co : sc.isCoroutine = false
  gen : sc.isGenerator = false
  nd : N.Nodup
  pre : N.take P.length = P
  par : ∀ x ∈ P, sc.names.lookup x = some .local ∨ sc.names.lookup x = some .cell
  nofree : ∀ y ∈ sc.names, y.2 ≠ .free

theorem bindL_out {kindOf : Str → Option NameKind} {x : Str} : ∀ {binds : List (Str × Value)} {m : Str → Option Value}, (∀ v, (x, v) ∉ binds) → bindL kindOf binds m x = m x
  | [], _, _ => rfl
  | (n, v) :: r, m, h => by
    unfold bindL
    rw [bindL_out fun w hw => h w (List.mem_cons_of_mem _ hw)]
    split
    · have : x ≠ n := by rintro rfl; exact h v List.mem_cons_self
      simp [this]
    · rfl
theorem bindC_out {kindOf : Str → Option NameKind} {x : Str} : ∀ {binds : List (Str × Value)} {m : Str → Option Value}, (∀ v, (x, v) ∉ binds) → bindC kindOf binds m x = m x
  | [], _, _ => rfl
  | (n, v) :: r, m, h => by
    unfold bindC
    rw [bindC_out fun w hw => h w (List.mem_cons_of_mem _ hw)]
    split
    · rfl
    · have : x ≠ n := by rintro rfl; exact h v List.mem_cons_self
      simp [this]
theorem bindL_get {kindOf : Str → Option NameKind} {x : Str} {v : Value} : ∀ {P : List Str} {vs : List Value} {i : Nat} {m : Str → Option Value}, P.Nodup → P[i]? = some x → vs[i]? = some v → kindOf x = some .local →
    bindL kindOf (P.zip vs) m x = some v
  | [], _, _, _, _, h, _, _ => by simp at h
  | _ :: _, [], _, _, _, _, h, _ => by simp at h
  | p :: P, w :: vs, 0, m, nd, h1, h2, hk => by
    simp at h1 h2; subst h1; subst h2
    show bindL kindOf ((p, w) :: P.zip vs) m p = _
    unfold bindL
    rw [bindL_out fun v hv => (List.nodup_cons.mp nd).1 (List.of_mem_zip hv).1, if_pos hk]
    simp
  | p :: P, w :: vs, i + 1, m, nd, h1, h2, hk => by
    show bindL kindOf ((p, w) :: P.zip vs) m x = _
    unfold bindL
    exact bindL_get (i := i) (List.nodup_cons.mp nd).2 (by simpa using h1) (by simpa using h2) hk
theorem bindC_get {kindOf : Str → Option NameKind} {x : Str} {v : Value} : ∀ {P : List Str} {vs : List Value} {i : Nat} {m : Str → Option Value}, P.Nodup → P[i]? = some x → vs[i]? = some v → kindOf x ≠ some .local →
    bindC kindOf (P.zip vs) m x = some v
  | [], _, _, _, _, h, _, _ => by simp at h
  | _ :: _, [], _, _, _, _, h, _ => by simp at h
  | p :: P, w :: vs, 0, m, nd, h1, h2, hk => by
    simp at h1 h2; subst h1; subst h2
    show bindC kindOf ((p, w) :: P.zip vs) m p = _
    unfold bindC
    rw [bindC_out fun v hv => (List.nodup_cons.mp nd).1 (List.of_mem_zip hv).1, if_neg hk]
    simp
  | p :: P, w :: vs, i + 1, m, nd, h1, h2, hk => by
    show bindC kindOf ((p, w) :: P.zip vs) m x = _
    unfold bindC
    exact bindC_get (i := i) (List.nodup_cons.mp nd).2 (by simpa using h1) (by simpa using h2) hk

/-- the names' values at the entry -/
def start (N : List Str) (vs : List V) : St := vs.map some ++ List.replicate (N.length - vs.length) none

/-- the context of a def's body, at its entry; an exception leaves the frame, then lies as CX says -/
def cxOf (CX : CXT) (P : Program) (w : World) (K : PySem.W.Frag) (mg : Str → Option Value) (base : Heap) (N : List Str) (qual : Str) (scope : Scope) (f : Addr) (cd : Value) (A : Around) (outer : List Env) (s : Shared) (H : Hp) (E : XK) : Cx where
  prog := P
  w := w
  K := K
  mg := mg
  base := base
  A := A.deeper (envOfC qual scope s.heap.objs.size f cd)
  N := N
  s₀ := s
  H₀ := H
  env := envOfC qual scope s.heap.objs.size f cd
  outer := outer
  stack := envOfC qual scope s.heap.objs.size f cd :: outer
  ex := []
  calm := true
  fn := fun _ => true
  pn := []
  xe := fun e s' => wpAny (model P w) (A.deeper (envOfC qual scope s.heap.objs.size f cd)) (leaving (envOfC qual scope s.heap.objs.size f cd) e) (fun _ s'' => CX outer H s E e s'') (fun e' s'' => CX outer H s E e' s'') s'

theorem cell_has {sc : Scope} {n : Nat} {x : Str} (h : sc.names.lookup x = some .cell) : ∃ c, (cellsFrom n sc.names []).lookup x = some c := by
  have q := PySem.W.cellsFrom_some sc.names n [] (.inl h)
  exact Option.isSome_iff_exists.mp q

theorem inv_start {CX : CXT} {P : Program} {w : World} {K : PySem.W.Frag} {mg : Str → Option Value} {base : Heap} {N ps : List Str} {qual : Str} {scope : Scope} {f : Addr} {cd : Value} {A : Around} {outer : List Env} {s s1 : Shared} {H : Hp} {E : XK} {us : List Value} {vs : List V}
    (S : FnScope N ps scope) (hd : A.handled = none) (e0 : Env0 P w K mg base A outer s H) (hl : vs.length = ps.length) (r : Vals vs us)
    (x : InCallC s s.heap.objs.size (bindL (envOfC qual scope s.heap.objs.size f cd).kindOf (ps.zip us) fun _ => none) (cellsFrom (s.heap.objs.size + 1) scope.names []) (bindC (envOfC qual scope s.heap.objs.size f cd).kindOf (ps.zip us) fun _ => none) s1) :
    Inv (cxOf CX P w K mg base N qual scope f cd A outer s H E) [] (start N vs) H s1 := by
  have hpl : ps.length ≤ N.length := by have := congrArg List.length S.pre; rw [List.length_take] at this; omega
  obtain ⟨h1, tk, rfl, hk⟩ := x.done
  have noA : ∀ b : Addr, b ∉ (cxOf CX P w K mg base N qual scope f cd A outer s H E).ex := fun b z => absurd (show b ∈ ([] : List Addr) from z) (by simp)
  refine ⟨⟨e0.mod, S.kind, rfl, rfl, Nat.le_refl _, fun y z c h1 h2 => ?_, fun y hy => ?_, fun y c _ h => ?_, fun _ => hd, Around.frames_deeper e0.frames, .inr ⟨rfl, rfl⟩, fun b z => absurd z (noA b), e0.bs, e0.bsz, fun b _ _ => noA b, fun b z => absurd z (noA b), e0.funs, e0.frf⟩,
    rfl, e0.bare, Un.kept hk, ⟨_, x.toInCall.ns, fun i y v h1 h2 h3 => ?_⟩, fun y c h => ⟨_, x.cell y c h⟩, e0.hok.fresh (Nat.le_refl _), fun y c h => ?_, fun p hp => absurd (show p ∈ ([] : List (Addr × Obj)) from hp) (by simp), e0.hok.kept hk, ?_⟩
  · exact name_of_addr x.apart (PySem.mem_of_lookup h1) (PySem.mem_of_lookup h2)
  · have hy : scope.names.lookup y = some .cell ∨ scope.names.lookup y = some .free := hy
    rcases hy with hy | hy
    · exact cell_has hy
    · exact absurd rfl (S.nofree _ (PySem.mem_of_lookup hy))
  · exact Nat.le_of_lt (x.above y c (PySem.mem_of_lookup h))
  · have hi : i < vs.length := by
      unfold start at h2
      by_cases hi : i < vs.length
      · exact hi
      · rw [List.getElem?_append_right (by simpa using hi)] at h2
        rw [List.getElem?_replicate] at h2
        split at h2 <;> cases h2
    have ha : vs[i]? = some v := by
      unfold start at h2
      rw [List.getElem?_append_left (by simpa using hi), List.getElem?_map] at h2
      cases e : vs[i]? with
      | none => rw [e] at h2; cases h2
      | some a => rw [e] at h2; cases h2; rfl
    obtain ⟨u, hu, rv⟩ := r.get ha
    have hp : ps[i]? = some y := by
      rw [← S.pre, List.getElem?_take_of_lt (by omega)]; exact h1
    have ndP : ps.Nodup := by rw [← S.pre]; exact S.nd.sublist (List.take_sublist _ _)
    refine ⟨u, rv, ?_⟩
    rcases S.par y (List.mem_of_getElem? hp) with k | k
    · exact .inl ⟨k, bindL_get ndP hp hu k⟩
    · obtain ⟨c, e⟩ := cell_has (n := s.heap.objs.size + 1) k
      refine .inr ⟨.inl k, c, e, ?_⟩
      have q := x.cell y c e
      rw [bindC_get ndP hp hu (by show scope.names.lookup y ≠ _; rw [k]; decide)] at q
      exact q
  · exact e0.hok.fresh (Nat.le_of_lt (x.above y c (PySem.mem_of_lookup h)))
  · unfold start
    show _ = N.length
    rw [List.length_append, List.length_map, List.length_replicate]
    omega

/-- THE RULE: a def (or a method) of the text, by its body. The body's reading t is chosen for each entry; it is run at the parameters' values -/
theorem fn_of {CX : CXT} {P : Program} {w : World} {K : PySem.W.Frag} {mg : Str → Option Value} {base : Heap} {k : Nat} {f : Addr} {name qual : Str} {params : Arguments} {body : List Stmt} {scope : Scope} {dV kV doc pm cdv ct oc : Value} {an od : Option Addr}
    {osl : Array (Option Value)} {N ps : List Str} {sp : Sp} (lk : K.lookup f = some ⟨oc, od, .func (PySem.W.fnOf name qual params body scope dV kV doc pm an cdv ct), osl⟩) (hcd : PySem.W.codeIn K cdv qual = true) (S : FnScope N ps scope)
    (len : ∀ vs H Q E, sp vs H Q E → vs.length = ps.length)
    (hbody : ∀ (A : Around) (outer : List Env) (s : Shared) (H : Hp) (vs : List V) (Q : VK) (E : XK), Room k (A.deeper (envOfC qual scope s.heap.objs.size f cdv)) → sp vs H Q E →
      ∃ t, PSs (cxOf CX P w K mg base N qual scope f cdv A outer s H E) body t ∧ t { nx := fun _ H' => Q .non H', rt := Q } (start N vs) H) :
    FnOk P w K mg base CX (k + 1) f (PySem.W.fnOf name qual params body scope dV kV doc pm an cdv ct) ps sp := by
  refine ⟨len, fun A outer s H args us vs Q E hr e0 hb r hsp => ?_⟩
  have hl := len _ _ _ _ hsp
  have KX : K.In s.heap := e0.mod.kin.keeps fun b o e => (e0.bs b o e).1
  have lim : s.heap.NoLimit := e0.mod.nolimit.keeps fun b o e => (e0.bs b o e).1
  have hkind : ∀ y ∈ ps.zip us, scope.names.lookup y.1 = some .local ∨ (scope.names.lookup y.1 = some .cell ∧ ((cellsFrom (s.heap.objs.size + 1) scope.names []).lookup y.1).isSome = true) := fun ⟨n, v⟩ hy => by
    rcases S.par n (List.of_mem_zip hy).1 with q | q
    · exact .inl q
    · exact .inr ⟨q, PySem.W.cellsFrom_some _ _ _ (.inl q)⟩
  refine codeAny_call_function hr.depth (KX _ _ lk) rfl S.co S.gen rfl (PySem.W.codeRec_of KX hcd) (hb _ _ _ _ ?_)
  refine wpAny_newFunctionEnv_cells S.kind hkind fun env he s1 x => ?_
  subst he
  refine ⟨lim.keeps x.toInCall.keep, codeAny_func ?_⟩
  obtain ⟨t, ht, hq⟩ := hbody A outer s H vs Q E (hr.deeper _) hsp
  have I : Inv (cxOf CX P w K mg base N qual scope f cdv A outer s H E) [] (start N vs) H s1 := inv_start S hr.hd e0 hl r x
  refine wpAny_mono (ht [] s1 (start N vs) H _ I hq) (fun fl s' hs => ?_) fun e s' hs => hs
  have fin : ∀ {σ' : St} {H' : Hp} {v : V} {u : Value}, Inv (cxOf CX P w K mg base N qual scope f cdv A outer s H E) [] σ' H' s' → RelV v u → Q v H' → CE outer P w H s Q u s' :=
    fun {σ' H' v u} J rv q => ⟨v, H', J.os, J.bare, J.base, J.hok, rv, q⟩
  cases fl with
  | ret u =>
    obtain ⟨v, σ', H', J, rv, q⟩ := hs
    exact fin J rv q
  | next =>
    obtain ⟨σ', H', J, q⟩ := hs
    exact fin (v := V.non) (u := Value.none) J rfl q
  | brk =>
    obtain ⟨_, _, _, q⟩ := hs
    exact False.elim q
  | cont =>
    obtain ⟨_, _, _, q⟩ := hs
    exact False.elim q
end L2

namespace L2
open PySem PySem.Spec PyProof.Rows
section
variable {X : Cx} {x : Str} {p pos : Pos} {e : Expr} {es : List Expr} {t : TA} {id T : String} {r : List V → Hp → VK → Prop}

def tCB (r : List V → Hp → VK → Prop) (t : TA) : TE := fun σ H Q => t σ H fun vs H1 => r vs H1 Q
/-- f(e, ..), f a built-in function -/
theorem pe_callB (hc : CallR X (.builtin id) r) (hg : Gl X x) (hm : X.mg x = none) (hv : bootBuiltins x = some (.builtin id)) (ha : PA X (e :: es) t) (hn : x ≠ "__name__" := by decide) (hdb : (x == ("__debug__" : Str)) = false := by decide)
    (he : starEach (e :: es) X.env = (false, eval e X.env) :: starEach es X.env := by rfl) (hpl : (backTo pos (starEach es X.env)).any (·.1) = false := by rfl) : PE X (.Call (.Name x p) (e :: es) [] pos) (tCB r t) := by
  intro pins s σ H Q I h
  refine wpAny_Call_Name_kw (ld_blt I hg hm hv ?_ hn hdb)
  exact PyProof.Rows.callWith_builtin1 (thn (ha pos pins s σ H _ I h) fun us s1 ⟨vs, H1, I1, r1, q1⟩ => hc pins s1 σ H1 vs us Q I1 r1 q1) he hpl
end
end L2

namespace HT
open PySem PyProof.Rows

section
open PySem.SeqAt
open PySem.AutoSeq1 (wpAny_loadPart')
open PySem.MeetsSeq PySem.MeetsSeq2 PySem.MeetsSeq3

end

section
variable {prog : Program} {w : World} {A : Around} {E : Value → Shared → Prop} {s : Shared}

/-! ### t[a:b], not the whole -/
end
end HT

namespace L2
open PySem PySem.Spec PyProof.Rows

/-! ### the parts of a slice -/
abbrev TO := St → Hp → (Option Int → Hp → Prop) → Prop
section
variable {X : Cx} {e : Expr} {te : TE} {lo hi : Option Expr} {tl th : TO} {pos p2 : Pos}

/-- what a slice of a value is, by values: the slice object stands at sl -/
def SlR (X : Cx) (r : V → Option Int → Option Int → Hp → VK → Prop) : Prop :=
  ∀ (pins : List (Addr × Obj)) (s : Shared) (σ : St) (H : Hp) (x : V) (v vl vu : Value) (lo hi : Option Int) (sl : Addr) (Q : VK), Inv X pins σ H s → RelV x v → s.heap.IsSliceOf sl vl vu .none → IsPart vl lo → IsPart vu hi → r x lo hi H Q →
    ∃ T id, typeLookup (.type T) "__getitem__" = pure (some (.builtin id)) ∧ s.TypeIs v T ∧ wpAny (model X.prog X.w) X.A (getItem v (.ref sl)) (EP X pins σ Q) X.xe s
theorem SlR.or {r r' : V → Option Int → Option Int → Hp → VK → Prop} (h : SlR X r) (h' : SlR X r') : SlR X (fun x lo hi H Q => r x lo hi H Q ∨ r' x lo hi H Q) := by
  intro pins s σ H x v vl vu lo hi sl Q I rx hs pl pu q
  rcases q with q | q
  · exact h pins s σ H x v vl vu lo hi sl Q I rx hs pl pu q
  · exact h' pins s σ H x v vl vu lo hi sl Q I rx hs pl pu q
/-! ### t < u, t + u -/
end
end L2

namespace L2
open PySem PySem.Spec PyProof.Rows

/-! ### places -/
/-- the place that an index of any sign means -/
def ixN (n : Nat) (i : Int) : Option Nat := if 0 ≤ i then (if i < n then some i.toNat else none) else if -(n : Int) ≤ i then some (i + n).toNat else none
def atI {α : Type} (xs : List α) (i : Int) : Option α := (ixN xs.length i).bind fun j => xs[j]?
theorem ixN_seq {n : Nat} {i : Int} {j : Nat} (h : ixN n i = some j) : seqIndex? i n = some j ∧ j < n ∧ -(n : Int) ≤ i ∧ i < n := by
  unfold ixN at h
  by_cases h0 : 0 ≤ i
  · rw [if_pos h0] at h
    by_cases h1 : i < n
    · rw [if_pos h1] at h
      have e : i.toNat = j := Option.some.inj h
      exact ⟨by rw [seqIndex_of h0 h1, e], by omega, by omega, h1⟩
    · rw [if_neg h1] at h; cases h
  · rw [if_neg h0] at h
    by_cases h1 : -(n : Int) ≤ i
    · rw [if_pos h1] at h
      have e : (i + n).toNat = j := Option.some.inj h
      exact ⟨by rw [seqIndex_neg (by omega) h1, e], by omega, h1, by omega⟩
    · rw [if_neg h1] at h; cases h
theorem atI_get {α : Type} {xs : List α} {i : Int} {v : α} (h : atI xs i = some v) : ∃ j, seqIndex? i xs.length = some j ∧ xs[j]? = some v ∧ j < xs.length ∧ -(xs.length : Int) ≤ i ∧ i < xs.length := by
  unfold atI at h
  cases e : ixN xs.length i with
  | none => rw [e] at h; cases h
  | some j =>
    rw [e] at h
    obtain ⟨h1, h2, h3, h4⟩ := ixN_seq e
    exact ⟨j, h1, h, h2, h3, h4⟩
theorem atI_nat {α : Type} {xs : List α} {j : Nat} {v : α} (h : xs[j]? = some v) : atI xs (j : Int) = some v := by
  have hj : j < xs.length := (List.getElem?_eq_some_iff.mp h).1
  have e : ixN xs.length (j : Int) = some j := by
    unfold ixN
    rw [if_pos (by omega), if_pos (by omega)]; simp
  unfold atI; rw [e]; exact h
/-! ### what may be subscripted -/
/-- what stands as an index of a plain subscript -/
def PlainIx (b : Expr) : Prop := ∀ o i, subscripted b false o i = operate [o, i] (getItem o i)
/-- a subscript by values -/
def IxR (X : Cx) (r : R2) : Prop :=
  ∀ (value slice : Expr) (pins : List (Addr × Obj)) (s : Shared) (σ : St) (H : Hp) (x y : V) (v u : Value) (Q : VK), Inv X pins σ H s → RelV x v → RelV y u → r x y H Q →
    subscripted slice false v u = operate [v, u] (getItem v u) → wpAny (model X.prog X.w) X.A (subscriptTail value slice v u) (EP X pins σ Q) X.xe s
/-- a call of a builtin's method by values: the receiver, the arguments -/
def MtR (X : Cx) (id : String) (r : V → List V → Hp → VK → Prop) : Prop :=
  ∀ (pins : List (Addr × Obj)) (s : Shared) (σ : St) (H : Hp) (x : V) (xs : List V) (v : Value) (us : List Value) (Q : VK), Inv X pins σ H s → RelV x v → Vals xs us → r x xs H Q →
    wpAny (model X.prog X.w) X.A (call (.builtin id) (v :: us)) (EP X pins σ Q) X.xe s
section
variable {X : Cx} {a b : Expr} {ta tb : TE} {pos : Pos}
theorem IxR.or {r r' : R2} (h : IxR X r) (h' : IxR X r') : IxR X (fun x y H Q => r x y H Q ∨ r' x y H Q) := by
  intro value slice pins s σ H x y v u Q I rx ry q hs
  rcases q with q | q
  · exact h value slice pins s σ H x y v u Q I rx ry q hs
  · exact h' value slice pins s σ H x y v u Q I rx ry q hs
theorem MtR.or {id : String} {r r' : V → List V → Hp → VK → Prop} (h : MtR X id r) (h' : MtR X id r') : MtR X id (fun x xs H Q => r x xs H Q ∨ r' x xs H Q) := by
  intro pins s σ H x xs v us Q I rx rs q
  rcases q with q | q
  · exact h pins s σ H x xs v us Q I rx rs q
  · exact h' pins s σ H x xs v us Q I rx rs q
/-- a[b] -/
theorem pe_ix {r : R2} (hr : IxR X r) (ha : PE X a ta) (hb : PE X b tb) (hs : PlainIx b) : PE X (.Subscript a b pos) (tOp r ta tb) := by
  intro pins s σ H Q I h
  exact Subscript_ (binT ha hb I h fun v u s2 x y H2 I2 rx ry q => hr a b pins s2 σ H2 x y v u Q I2 rx ry q (hs _ _))

def rIxL (K : PySem.W.Frag) : R2 := fun x y H Q => ∃ p xs i v, x = .ref p ∧ y = .int i ∧ SqL K H p xs ∧ atI xs i = some v ∧ Q v H
def rIxT (K : PySem.W.Frag) : R2 := fun x y H Q => ∃ p xs i v, x = .ref p ∧ y = .int i ∧ SqT K H p xs ∧ atI xs i = some v ∧ Q v H
theorem ix_list : IxR X (rIxL X.K) := by
  intro value slice pins s σ H x y v u Q I rx ry h hs
  obtain ⟨p, xs, i, z, rfl, rfl, hq, he, q⟩ := h
  cases rx
  obtain ⟨t, rfl⟩ := ry
  obtain ⟨its, r, pl, hz⟩ := I.list hq
  obtain ⟨j, h1, h2, h3, h4, h5⟩ := atI_get he
  obtain ⟨w, ew, rw'⟩ := r.get h2
  have hl := r.length
  have hn := line63
  have fin : EP X pins σ Q w s := ⟨z, H, I, rw', q⟩
  by_cases h0 : 0 ≤ i
  · have hj : i.toNat = j := by
      rw [seqIndex_of h0 h5] at h1
      exact Option.some.inj h1
    exact item_listR pl.isList h0 (by omega) (by rw [hj]; simpa using ew) fin hs
  · have hj : (i + (its.toArray.size : Int)).toNat = j := by
      rw [seqIndex_neg (by omega) h4] at h1
      rw [List.size_toArray, ← hl]
      exact Option.some.inj h1
    exact subscriptTail_builtinR (x := w) pl.isList.typeIs slot_list_getitem.lookup
      (wpAny_getItem_list_neg (Q := fun r s' => r = w ∧ EP X pins σ Q r s') pl.isList (by omega) (by rw [List.size_toArray] <;> omega) (by omega) (by rw [hj]; simpa using ew) ⟨rfl, fin⟩) hs
theorem ix_tup : IxR X (rIxT X.K) := by
  intro value slice pins s σ H x y v u Q I rx ry h hs
  obtain ⟨p, xs, i, z, rfl, rfl, hq, he, q⟩ := h
  cases rx
  obtain ⟨t, rfl⟩ := ry
  obtain ⟨its, r, pl, hz⟩ := I.tuple hq
  obtain ⟨j, h1, h2, h3, h4, h5⟩ := atI_get he
  obtain ⟨w, ew, rw'⟩ := r.get h2
  have hl := r.length
  have hn := line63
  have fin : EP X pins σ Q w s := ⟨z, H, I, rw', q⟩
  exact subscriptTail_builtinR (x := w) pl.typeIs slot_tuple_getitem.lookup
    (getItem_tuple (j := j) (Q := fun r s' => r = w ∧ EP X pins σ Q r s') pl (by omega) (by omega) (by rw [List.size_toArray, ← hl]; exact h1) (by simpa using ew) ⟨rfl, fin⟩) hs
/-! ### xs[i] = v, any sign -/
theorem Inv.lst {pins : List (Addr × Obj)} {σ : St} {H : Hp} {s : Shared} {p : Addr} {xs : List V} (I : Inv X pins σ H s) (h : H p = some (.lst xs)) :
    ∃ (its : List Value) (n : Nat), Vals xs its ∧ s.heap.get? p = some { cls := .type "list", data := .seq its.toArray n } ∧ xs.length ≤ sizeLine := by
  obtain ⟨z, its, n, r, e⟩ := I.hok p _ h
  exact ⟨its, n, r, e, z⟩
/-! ### slices -/
/-! ### in, not in: flat items -/
def flatV : V → Bool
  | .non => true
  | .bl _ => true
  | .int _ => true
  | .str _ => true
  | _ => false
/-- == of flat values -/
def eqV : V → V → Bool
  | .non, .non => true
  | .bl a, .bl b => a == b
  | .bl a, .int b => (if a then 1 else 0) == b
  | .int a, .bl b => a == (if b then 1 else 0)
  | .int a, .int b => a == b
  | .str a, .str b => a == b
  | _, _ => false
theorem eqAt_V {A : Around} {s : Shared} {y x : V} {u v : Value} (ry : RelV y u) (rx : RelV x v) (fy : flatV y = true) (fx : flatV x = true) : SeqAt.EqAt A s u v (eqV y x) := by
  cases y with
  | non =>
    cases ry
    cases x with
    | non => cases rx; exact SeqAt.EqAt.same _
    | bl b => cases rx; exact SeqAt.EqAt.none_bool b
    | int b => obtain ⟨t, rfl⟩ := rx; exact SeqAt.EqAt.none_int b t
    | str b => obtain ⟨t, rfl⟩ := rx; exact SeqAt.EqAt.none_str b t
    | _ => exact absurd (show false = true from fx) Bool.false_ne_true
  | bl a =>
    cases ry
    cases x with
    | non => cases rx; exact SeqAt.EqAt.bool_none a
    | bl b => cases rx; exact SeqAt.EqAt.bool_bool a b
    | int b => obtain ⟨t, rfl⟩ := rx; exact SeqAt.EqAt.bool_int a b t
    | str b => obtain ⟨t, rfl⟩ := rx; exact SeqAt.EqAt.bool_str a b t
    | _ => exact absurd (show false = true from fx) Bool.false_ne_true
  | int a =>
    obtain ⟨t', rfl⟩ := ry
    cases x with
    | non => cases rx; exact SeqAt.EqAt.int_none a t'
    | bl b => cases rx; exact SeqAt.EqAt.int_bool a t' b
    | int b => obtain ⟨t, rfl⟩ := rx; exact SeqAt.EqAt.int_int a t' b t
    | str b => obtain ⟨t, rfl⟩ := rx; exact SeqAt.EqAt.int_str a t' b t
    | _ => exact absurd (show false = true from fx) Bool.false_ne_true
  | str a =>
    obtain ⟨t', rfl⟩ := ry
    cases x with
    | non => cases rx; exact SeqAt.EqAt.str_none a t'
    | bl b => cases rx; exact SeqAt.EqAt.str_bool a t' b
    | int b => obtain ⟨t, rfl⟩ := rx; exact SeqAt.EqAt.str_int a t' b t
    | str b => obtain ⟨t, rfl⟩ := rx; exact SeqAt.EqAt.str_str a t' b t
    | _ => exact absurd (show false = true from fx) Bool.false_ne_true
  | _ => exact absurd (show false = true from fy) Bool.false_ne_true
/-! ### len, list(x), tuple(x) of any list or tuple that is read -/
theorem call_len_seq : CallR X (.builtin "len") (fun xs H Q => ∃ p ys, xs = [.ref p] ∧ (SqL X.K H p ys ∨ SqT X.K H p ys) ∧ Q (.int ys.length) H) := by
  intro pins s σ H xs us Q I r h
  obtain ⟨p, ys, rfl, hq, q⟩ := h
  obtain ⟨u, rfl, rx⟩ := vals1 r
  cases rx
  have hn := line63
  rcases hq with hq | hq
  · obtain ⟨its, r', pl, hz⟩ := I.list hq
    have hlen := r'.length
    exact Calls.call_len_list pl.isList (by simp only [List.size_toArray] <;> omega) ⟨.int ys.length, H, I.tok _, ⟨s.toks + 1, by rw [List.size_toArray, hlen]⟩, q⟩
  · obtain ⟨its, r', pl, hz⟩ := I.tuple hq
    have hlen := r'.length
    exact len_tuple pl (by simp only [List.size_toArray] <;> omega) ⟨.int ys.length, H, I.tok _, ⟨s.toks + 1, by rw [List.size_toArray, hlen]⟩, q⟩
theorem CallR.or {f : Value} {r r' : List V → Hp → VK → Prop} (h : CallR X f r) (h' : CallR X f r') : CallR X f (fun xs H Q => r xs H Q ∨ r' xs H Q) := by
  intro pins s σ H xs us Q I rs q
  rcases q with q | q
  · exact h pins s σ H xs us Q I rs q
  · exact h' pins s σ H xs us Q I rs q
/-! ### the call of a builtin's method: o.m(..) -/
variable {o e : Expr} {es : List Expr} {to : TE} {t : TA} {name : Str} {apos cpos : Pos} {T id : String} {r : V → List V → Hp → VK → Prop}
/- xs.append(e), list.index on a module's tuple .. are MtR facts of 06m -/
end
end L2

namespace L2
open PySem PySem.Spec PyProof.Rows

/-! ### lists of values -/
theorem Vals.one : ∀ {x : V} {us : List Value}, Vals [x] us → ∃ u, us = [u] ∧ RelV x u
  | _, _, .cons r .nil => ⟨_, rfl, r⟩
theorem Vals.two : ∀ {x y : V} {us : List Value}, Vals [x, y] us → ∃ u v, us = [u, v] ∧ RelV x u ∧ RelV y v
  | _, _, _, .cons r (.cons q .nil) => ⟨_, _, rfl, r, q⟩
theorem Vals.zero : ∀ {us : List Value}, Vals [] us → us = []
  | _, .nil => rfl
theorem Vals.reverse {xs : List V} {us : List Value} (h : Vals xs us) : Vals xs.reverse us.reverse := by
  induction h with
  | nil => exact .nil
  | cons r t ih => rw [List.reverse_cons, List.reverse_cons]; exact Vals.append ih (.cons r .nil)
theorem Vals.rep {xs : List V} {us : List Value} (h : Vals xs us) : ∀ k : Nat, Vals (List.replicate k xs).flatten (List.replicate k us).flatten
  | 0 => .nil
  | k + 1 => by
    rw [List.replicate_succ, List.replicate_succ, List.flatten_cons, List.flatten_cons]
    exact Vals.append h (Vals.rep h k)
theorem foldl_rep (its : List Value) : ∀ (k : Nat) (acc : List Value),
    List.foldl (fun x1 x2 => x1 ++ x2) acc.toArray (List.replicate k its.toArray) = (acc ++ (List.replicate k its).flatten).toArray
  | 0, acc => by simp
  | k + 1, acc => by
    have e : acc.toArray ++ its.toArray = (acc ++ its).toArray := by simp
    have e2 : (acc ++ its) ++ (List.replicate k its).flatten = acc ++ (List.replicate (k + 1) its).flatten := by
      rw [List.replicate_succ, List.flatten_cons, List.append_assoc]
    rw [← e2, ← foldl_rep its k (acc ++ its), ← e, List.replicate_succ, List.foldl_cons]

section
variable {X : Cx} {pins : List (Addr × Obj)} {σ : St} {H : Hp} {s : Shared} {l b : Addr} {xs ys zs : List V}

/-! ### the two steps: a tracked list is rewritten, a new list is laid -/
theorem Inv.fresh (I : Inv X pins σ H s) : H s.heap.objs.size = none := I.hok.fresh (Nat.le_refl _)
end

section
variable {X : Cx}

/-! ### methods -/
/-! ### list + list, list += list, list * int -/
theorem len_rep {α : Type} (xs : List α) (k : Nat) : (List.replicate k xs).flatten.length = k * xs.length := by
  induction k with
  | zero => simp
  | succ k ih => rw [List.replicate_succ, List.flatten_cons, List.length_append, ih, Nat.succ_mul, Nat.add_comm]
/-! ### del xs[i] -/
end

/-! ### xs[a:b] = ys -/
section
variable {prog : Program} {w : World} {A : Around} {E : Value → Shared → Prop} {s : Shared}
set_option maxRecDepth 100000 in
end

section
variable {X : Cx}
end
end L2

namespace Att
open PySem PySem.W PySem.Calls PyProof.Rows

/-! ### the script -/
theorem ints_of_wellAll {P : Params} {h : Heap} : ∀ (ns : List Int) (vs : List Value), WellAll P h vs (ns.map WData.int) → IntsAre vs ns := by
  intro ns
  induction ns with
  | nil =>
    intro vs w
    rw [List.map_nil] at w
    cases w
    exact .nil
  | cons n ns ih =>
    intro vs w
    rw [List.map_cons] at w
    cases w with
    | cons a b =>
      cases a
      exact .cons _ _ (ih _ b)

theorem script_of {l : OpenLaw} {n : Nat} (hn : l.most = some n) {P : Params} {h : Heap} {args : List WData} {vals : List Value}
    (hpre : l.row.toRowW.claim.pre args = true) (hwl : WellAll P h vals args) :
    ∃ a vs ns, vals = [Value.ref a] ∧ args = [WData.list (ns.map WData.int)] ∧ h.get? a = some { cls := .type "list", data := .seq vs.toArray } ∧ IntsAre vs ns ∧ ns.length ≤ n := by
  have hsh : WShape.hasAll [] args [.list .int] = true := (pre_splitW hpre).1
  have hc : l.pre.holds [] { args := args } = true := (pre_splitW hpre).2
  obtain ⟨d, r, rfl, h1, h2⟩ := hasAllW_cons hsh
  obtain rfl := hasAllW_nil h2
  obtain ⟨xs, rfl, h3⟩ := hasW_list h1
  obtain ⟨ns, rfl⟩ := items_int h3
  have hlen : ns.length ≤ n := by
    unfold OpenLaw.pre at hc
    have h4 : (WTm.not (.lt (.lit (.int (n : Int))) (.len (.arg 0)))).holds [] { args := [.list (ns.map .int)] } = true := by
      have h4 := (holds_andW hc).1
      rw [hn] at h4
      exact h4
    have h5 := condW_of h4 (w_not (w_lt w_lit (w_len_list (w_arg rfl))))
    rw [List.length_map] at h5
    refine Nat.le_of_not_lt fun q => ?_
    have q' : (n : Int) < ((ns.length : Nat) : Int) := by omega
    first
      | (rw [decide_eq_true q'] at h5; exact absurd h5 (by decide))
      | (simp at h5; omega)
  cases hwl with
  | cons w1 w2 =>
    cases w2
    cases w1 with
    | list ho hall => exact ⟨_, _, ns, rfl, rfl, ho, ints_of_wellAll ns _ hall, hlen⟩

theorem post_true (l : OpenLaw) (args : List WData) : l.row.toRowW.claim.post args (.bool true) args = true :=
  postW_of (r := l.row.toRowW) (X := (true == true))
    (show WShape.has [] (.bool true) .bool = true by first | rfl | decide | simp [WShape.has, WShape.arms, WShape.armsAll])
    (show (WTm.eq .res (.lit (.bool true))).value [] { args := args, res := some (.bool true), after := args } = some (.bool (true == true)) from w_eq_bool (w_res rfl) w_lit) rfl

/-! ### the attachment: holds_open's last premise (the goal 'hc' behind k_head) from a wpAny of the law's body -/
/-- the same from a codeAny of the CALL (for a layer whose function contracts speak of calls) -/
theorem attach_call {l : OpenLaw} {n : Nat} {q : Program} {loose : List Str} {XP : (Str → Option Value) → Heap → Prop} {YP : World → Heap → Prop} {d : DefRec}
    (hn : l.most = some n) (hdf : d.params.defaults = [])
    (call : ∀ (w : World) (s₀ s₁ : Shared) (mg mb : Str → Option Value) (fa : Addr) (o : Obj) (pm cd doc : Value) (a : Addr) (vs : List Value) (ns : List Int),
      Ground q loose [] XP w s₀ mg mb s₁.heap → YP w s₁.heap →
      s₁.heap.get? fa = some o → o.data = .func (docDef d.name d.params d.body d.scope pm cd doc) → s₁.heap.CodeRec cd d.name → mg d.name = some (.ref fa) →
      s₁.heap.get? a = some { cls := .type "list", data := .seq vs.toArray } → IntsAre vs ns → ns.length ≤ n → s₁.gens = #[] →
      codeAny (model l.prog w) callerA (.call (.ref fa) ⟨[.ref a], []⟩) (fun r s' => r = .ok (.ret (.bool true)) ∧ OldK s₁.heap s'.heap ∧ s'.os = s₁.os ∧ AllBare s'.gens) s₁) :
    WalkO q loose XP YP l.row.toRowW d [] (fun f vs => PySem.call f vs) := by
  intro w s₀ s₁ mg mb G Y fa o pm cd doc dV kV ho hd hcd hD hmg hg args vals as hpre hlay hrd hwl hlo
  obtain rfl : dV = .none := Dflts.none hD hdf
  obtain rfl : kV = .none := Dflts.noKw hD
  obtain ⟨a, vs, ns, rfl, rfl, hobj, hints, hlen⟩ := script_of hn hpre hwl
  refine enter_call (codeAny_mono (call w s₀ s₁ mg mb fa o pm cd doc a vs ns G Y ho (fd_plain hd) hcd hmg hobj hints hlen hg) fun r s' hq => ?_)
  obtain ⟨rfl, h2, h3, h4⟩ := hq
  exact ⟨.inl ⟨.bool true, .bool true, [], rfl, fun _ => rfl, .bool true, post_true l _, fun _ => ⟨List.Pairwise.nil, fun _ hm => (nomatch hm)⟩⟩, h2, h3, h4⟩

/-! ### rules over ANY heap (no ledger) from facts about the written part K: the library's own take a ledger (News) for what they write -/
section
variable {prog : Program} {w : World} {A : Around} {E : Value → Shared → Prop} {s : Shared} {K : Frag}

/-! the whole heap as the ledger: makes every rule that writes through a ledger a rule over any heap -/
def ledger (h : Heap) (L d : Addr) : List (Addr × Obj) := (List.range h.objs.size).filterMap fun a => if a = L ∨ a = d then none else (h.get? a).map fun o => (a, o)
end
end Att

namespace L2
open PySem PySem.Spec PyProof.Rows

theorem vals_ints : ∀ {vs : List Value} {ns : List Int}, IntsAre vs ns → Vals (ns.map V.int) vs
  | _, _, .nil => .nil
  | _, _, .cons n t h => .cons ⟨t, rfl⟩ (vals_ints h)

/-- nothing is tracked but the script, known to the object (or it is an object of the module) -/
def Only (H : Hp) : Prop := ∀ b, H b = none ∨ ∃ o xs, H b = some (.frz o (.lst xs))

/-- THE HEAD: the law's promise, at the heap behind the top. F, the promise of the law's def, may use that base is part of the heap (so K.In base, base.Ns mainGlobals mg stand in Mod) -/
theorem law_call {P : Program} {w : World} {K : PySem.W.Frag} {mg mb : Str → Option Value} {CX : CXT} {k : Nat} {fa a : Addr} {fd : FuncData} {x : Str} {sp : Sp} {s₁ : Shared} {vs : List Value} {ns : List Int}
    (KX : K.In s₁.heap) (hns : s₁.heap.Ns mainGlobals mg) (hb : s₁.heap.Ns builtinsNs mb) (hbb : ∀ x : Str, x ≠ "__name__" → mb x = bootBuiltins x) (hlim : s₁.heap.NoLimit) (hg : s₁.gens = #[])
    (ha : s₁.heap.get? a = some { cls := .type "list", data := .seq vs.toArray }) (hi : IntsAre vs ns) (hl : ns.length ≤ sizeLine) (hr : Room k callerA)
    (F : ∀ base : Heap, K.In base → base.Ns mainGlobals mg → FnOk P w K mg base CX k fa fd [x] sp) (hbind : ∀ (s : Shared) (u : Value), BindsTo s fd ⟨[u], []⟩ [(x, u)])
    (hsp : ∀ H : Hp, Only H → SqL K H a (ns.map V.int) → sp [.ref a] H (fun v _ => v = .bl true) fun _ _ _ => False)
    (hCX : ∀ H e s', CX [] H s₁ (fun _ _ _ => False) e s' → False) :
    codeAny (model P w) callerA (.call (.ref fa) ⟨[.ref a], []⟩) (fun r s' => r = .ok (.ret (.bool true)) ∧ OldK s₁.heap s'.heap ∧ s'.os = s₁.os ∧ AllBare s'.gens) s₁ := by
  have rv := vals_ints hi
  have lenV := hi.length
  -- from an abstract heap in which nothing but the script may be tracked
  have core : ∀ H : Hp, Only H → SqL K H a (ns.map V.int) → HOk P w H s₁.heap → (∀ b, H b ≠ none → b = a) → (H a ≠ none → K.lookup a = none) →
      codeAny (model P w) callerA (.call (.ref fa) ⟨[.ref a], []⟩) (fun r s' => r = .ok (.ret (.bool true)) ∧ OldK s₁.heap s'.heap ∧ s'.os = s₁.os ∧ AllBare s'.gens) s₁ := by
    intro H hO hS hok hA hK
    have base_of : ∀ {b : Addr} {o : Obj}, s₁.heap.get? b = some o → H b = none → (hidT s₁.heap H).get? b = some o := fun e n => hidT_get e n
    have noA : ∀ {b : Addr} {o : Obj} {es : Array DictEntry} {ep : Nat}, s₁.heap.get? b = some o → o.data = .dict es ep → H b = none := fun {b o es ep} e d => by
      cases q : H b with
      | none => rfl
      | some u =>
        have e' : b = a := hA b (by rw [q]; simp)
        subst e'
        rw [ha] at e; cases e
        have d' : Data.seq vs.toArray _ = Data.dict es ep := d
        cases d'
    have nsK : ∀ {b : Addr} {m : Str → Option Value}, s₁.heap.Ns b m → (hidT s₁.heap H).Ns b m := fun {b m} ⟨o, es, ep, e, d, r⟩ => ⟨o, es, ep, base_of e (noA e d), d, r⟩
    have hKb : K.In (hidT s₁.heap H) := fun b o e => base_of (KX b o e) (by
      cases q : H b with
      | none => rfl
      | some u =>
        have e' : b = a := hA b (by rw [q]; simp)
        subst e'
        rw [hK (by rw [q]; simp)] at e; cases e)
    have hM : Mod K mg (hidT s₁.heap H) := ⟨hKb, nsK hns, ⟨mb, nsK hb, hbb⟩, let ⟨mc, h1, h2⟩ := hlim; ⟨mc, nsK h1, h2⟩⟩
    have e0 : Env0 P w K mg (hidT s₁.heap H) callerA [] s₁ H := ⟨rfl, hM, fun b o e => of_hidT e, Nat.le_of_eq (hidT_size _ _), trivial, fun b hb => absurd (show b ∈ ([] : List Addr) from hb) (by simp), hok, .of_eq hg⟩
    refine codeAny_mono ((F _ hKb (nsK hns)).run callerA [] s₁ H ⟨[.ref a], []⟩ [.ref a] [.ref a] _ _ hr e0 (hbind s₁ (.ref a)) (.cons rfl .nil) (hsp H hO hS)) fun r s' h => ?_
    cases r with
    | error e => exact (hCX H e s' h).elim
    | ok fl =>
      cases fl with
      | next => exact False.elim h
      | brk => exact False.elim h
      | cont => exact False.elim h
      | ret u =>
        obtain ⟨v, H', os, bare, un, hok', r', q⟩ := h
        have q' : v = .bl true := q
        subst q'
        obtain rfl : u = Value.bool true := r'
        refine ⟨rfl, OldK.of_keep fun b o e => ?_, os, bare⟩
        cases q : H b with
        | none => exact un.keep b o e q (by intro z; exact absurd (show b ∈ ([] : List Addr) from z) (by simp)) (by simp)
        | some u =>
          rcases hO b with z | ⟨ob, xs, z⟩
          · rw [q] at z; cases z
          · have z2 := un.frzs b ob _ z
            obtain ⟨e1, _⟩ := hok b _ z
            obtain ⟨e2, _⟩ := hok' b _ z2
            rw [e] at e1; cases e1
            exact e2
  cases hk : K.lookup a with
  | some o =>
    -- the script is one of the module's own objects
    have e := KX a o hk
    rw [ha] at e
    cases e
    refine core (fun _ => none) (fun _ => .inl rfl) (.inr ⟨_, vs.toArray, _, hk, rfl, rfl, rfl, by rw [List.size_toArray, lenV]; exact hl, by simpa using rv⟩) (fun b u z => by have z' : (none : Option HO) = some u := z; cases z') (fun b z => absurd rfl z) fun z => absurd rfl z
  | none =>
    refine core (fun b => if b = a then some (.frz { cls := .type "list", data := .seq vs.toArray } (.lst (ns.map V.int))) else none) (fun b => ?_) (.inl (.inr ⟨{ cls := .type "list", data := .seq vs.toArray }, if_pos rfl⟩)) (fun b u z => ?_) (fun b z => ?_) fun _ => hk
    · by_cases hb : b = a
      · exact .inr ⟨_, _, if_pos hb⟩
      · exact .inl (if_neg hb)
    · by_cases hb : b = a
      · have z' := (if_pos hb).symm.trans z
        cases z'
        subst hb
        exact ⟨ha, by rw [List.length_map]; exact hl, vs, _, rv, ha⟩
      · have z' := (if_neg hb).symm.trans z
        cases z'
    · by_cases hb : b = a
      · exact hb
      · exact absurd (if_neg hb) z
end L2

namespace L2
open PySem PySem.Spec PyProof.Rows

abbrev KOf {K : PySem.W.Frag} {h : Heap} (_ : K.In h) : PySem.W.Frag := K

/-- the goal that k_head leaves (case hc), from the law's promise. F gives the function object fd (K's own) once, then the promise over every base -/
theorem walk_of {l : PySem.W.OpenLaw} {n k : Nat} {q : Program} {loose : List Str} {XP : (Str → Option Value) → Heap → Prop} {YP : World → Heap → Prop} {d : DefRec} {K : Params → PySem.W.Frag} {CX : World → CXT} {sp : World → Sp} {x : Str}
    (hn : l.most = some n) (hn2 : n ≤ sizeLine) (hdf : d.params.defaults = []) (hr : Room k callerA)
    (hY : ∀ (w : World) (h : Heap), YP w h → (K w.params).In h)
    (F : ∀ (w : World) (mg : Str → Option Value) (fa : Addr) (h : Heap), (K w.params).In h → h.Ns mainGlobals mg → mg d.name = some (.ref fa) →
      ∃ fd : FuncData, (∀ (s : Shared) (u : Value), BindsTo s fd ⟨[u], []⟩ [(x, u)]) ∧
        ∀ base : Heap, (K w.params).In base → base.Ns mainGlobals mg → FnOk l.prog w (K w.params) mg base (CX w) k fa fd [x] (sp w))
    (hsp : ∀ (w : World) (H : Hp) (a : Addr) (ns : List Int), ns.length ≤ n → Only H → SqL (K w.params) H a (ns.map V.int) → sp w [.ref a] H (fun v _ => v = .bl true) fun _ _ _ => False)
    (hCX : ∀ (w : World) (H : Hp) (s : Shared) (e : Value) (s' : Shared), CX w [] H s (fun _ _ _ => False) e s' → False) :
    PySem.W.WalkO q loose XP YP l.row.toRowW d [] (fun f vs => PySem.call f vs) := by
  refine Att.attach_call hn hdf fun w s₀ s₁ mg mb fa o pm cd doc a vs ns G Y ho hd hcd hmg hobj hints hlen hg => ?_
  have KX := hY w _ Y
  obtain ⟨fd, hb, hF⟩ := F w mg fa _ KX G.T.g hmg
  exact law_call KX G.T.g G.T.b G.T.builtins G.T.nolimit hg hobj hints (Nat.le_trans hlen hn2) hr hF hb (fun H hO hS => hsp w H a ns hlen hO hS) fun H e s' => hCX w H s₁ e s'
end L2

/- THE LAST THEOREM (shape; LID, My.* are yours):
   My.Adr: a structure of the addresses that your layer names (classes, functions); My.Txt K t: a structure (Prop) of the equations over K;
   My.txt_mk : {K} {implicit addresses ..} (e1 : nsIn K mainGlobals "law" = some (some (.ref f))) (e2 : K.lookup f = some ⟨oc, od, .func (fnOf "law" "law" params body scope dV kV doc pm an cdv ct), sl⟩) (e3 : codeIn K cdv "law" = true) .. : ∃ t, My.Txt K t

set_option maxRecDepth 100000 in
set_option maxHeartbeats 0 in
theorem PySem.Challenge.cw_LID_holds : PySem.Challenge.rw_LID.Holds := by
  w_on; o_law; k_head; (case hw => w_witness2)
  k_fill
  refine L2.walk_of (l := PySem.Challenge.rw_LID) (n := 63) (k := 40) (x := "script") (CX := fun w => ..) (sp := fun _ => My.sp_law) rfl (by decide) rfl ⟨rfl, by decide, by decide⟩ (fun w h Y => PySem.W.kIn_of Y) ?F ?S ?C
  case F =>
    intro w mg fa h KX G hmg
    have T : ∃ t, My.Txt (L2.KOf KX) t := by
      dsimp only [L2.KOf]                          -- K must stand as «<heap const> w.params» for k_is
      refine' My.txt_mk ?e1 ?e2 ?e3 ..
      (case e1 => PySem.W.k_is)                    -- in the order: a name -> its address -> its object -> its parts
      (case e2 => PySem.W.k_is)
      ..
    obtain ⟨t, T⟩ := T
    have e0 := hmg.symm.trans (PySem.W.mg_of KX G T.law)
    cases e0                                       -- fa is the law's own address
    exact ⟨_, fun s u => .of_eq rfl, fun base kb nb => My.law_fn T kb nb⟩     -- if «.of_eq rfl» comes too early: refine' ⟨_, ?b, fun base kb nb => My.law_fn T kb nb⟩; exact fun s u => .of_eq rfl
  case S => exact fun w H a ns hl hO hS => ..
  case C => exact ..
(the tactic k_is has no namespace: write k_is) -/

/-! SHORT WORDS over the layer: a def of the text, its body, what a loop and a test want. -/
namespace L2
open PySem PySem.Spec PyProof.Rows

/-! ### the text by places -/
/-- the j-th statement of a class's body -/
def inClass (s : Stmt) (j : Nat) : Stmt := match s with
  | .ClassDef _ _ _ body _ _ _ _ _ _ _ => body.getD j (.Pass ⟨0, 0, 0, 0⟩)
  | _ => .Pass ⟨0, 0, 0, 0⟩
def defArgs (s : Stmt) : Arguments := match s with
  | .FunctionDef _ a _ _ _ _ _ _ _ _ => a
  | _ => { posonlyargs := [], args := [], vararg := none, kwonlyargs := [], kw_defaults := [], kwarg := none, defaults := [] }
def defBody (s : Stmt) : List Stmt := match s with
  | .FunctionDef _ _ b _ _ _ _ _ _ _ => b
  | _ => []
def defScope (s : Stmt) : Scope := match s with
  | .FunctionDef _ _ _ _ _ _ sc _ _ _ => sc
  | _ => { kind := .function, names := [], isGenerator := false, isCoroutine := false }

/-! ### no exception leaves a def -/
abbrev CX0 : CXT := fun _ _ _ _ _ _ => False
abbrev E0 : XK := fun _ _ _ => False
theorem pass0 {X : Cx} : Passes CX0 X E0 := fun _ _ _ _ _ _ _ h => h.elim

/-! ### a def (or method) of the text as it stands behind the top -/
structure Fun (K : PySem.W.Frag) (x qual : Str) (st : Stmt) (f : Addr) (fd : FuncData) : Prop where
  ex : ∃ (oc : Value) (od : Option Addr) (kV doc pm : Value) (an : Option Addr) (cdv ct : Value) (osl : Array (Option Value)),
    fd = PySem.W.fnOf x qual (defArgs st) (defBody st) (defScope st) .none kV doc pm an cdv ct ∧ K.lookup f = some ⟨oc, od, .func fd, osl⟩ ∧ PySem.W.codeIn K cdv qual = true
  kp : PySem.W.keepIn K (.ref f) = true
section
variable {P : Program} {w : World} {K : PySem.W.Frag} {mg : Str → Option Value} {base : Heap}
/-- THE RULE for a def: its body as a term of rules, and the reading of that term -/
theorem Fun.ok {x qual : Str} {st : Stmt} {f : Addr} {fd : FuncData} {N ps : List Str} {k : Nat} {sp : Sp} (F : Fun K x qual st f fd) (S : FnScope N ps (defScope st)) (len : ∀ vs H Q E, sp vs H Q E → vs.length = ps.length)
    (hbody : ∀ (cdv : Value) (A : Around) (outer : List Env) (s : Shared) (H : Hp) (vs : List V) (Q : VK) (E : XK), Room k (A.deeper (envOfC qual (defScope st) s.heap.objs.size f cdv)) → sp vs H Q E →
      ∃ t, PSs (cxOf CX0 P w K mg base N qual (defScope st) f cdv A outer s H E).nox (defBody st) t ∧ t { nx := fun _ H' => Q .non H', rt := Q } (start N vs) H) : FnOk P w K mg base CX0 (k + 1) f fd ps sp := by
  obtain ⟨oc, od, kV, doc, pm, an, cdv, ct, osl, rfl, lk, hcd⟩ := F.ex
  refine fn_of lk hcd S len fun A outer s H vs Q E hr hsp => ?_
  obtain ⟨t, h, q⟩ := hbody cdv A outer s H vs Q E hr hsp
  exact ⟨t, h.nox, q⟩
/-- how its arguments bind (no defaults): h is «fun _ _ _ _ _ _ us hl => match us, hl with | [_, _], _ => rfl», one _ a parameter -/
theorem Fun.binds {x qual : Str} {st : Stmt} {f : Addr} {fd : FuncData} {ps : List Str} (F : Fun K x qual st f fd)
    (h : ∀ (kV doc pm : Value) (an : Option Addr) (cdv ct : Value) (us : List Value), us.length = ps.length → bindArgs (PySem.W.fnOf x qual (defArgs st) (defBody st) (defScope st) .none kV doc pm an cdv ct) ⟨us, []⟩ = pure (ps.zip us)) : Binds K fd ps [] := by
  obtain ⟨oc, od, kV, doc, pm, an, cdv, ct, osl, rfl, lk, hcd⟩ := F.ex
  exact .all (h kV doc pm an cdv ct)
theorem fun_mk {x qual : Str} {st : Stmt} {f : Addr} {oc : Value} {od an : Option Addr} {osl : Array (Option Value)} {kV doc pm cdv ct : Value} (l : K.lookup f = some ⟨oc, od, .func (PySem.W.fnOf x qual (defArgs st) (defBody st) (defScope st) .none kV doc pm an cdv ct), osl⟩)
    (c : PySem.W.codeIn K cdv qual = true) (k : PySem.W.keepIn K (.ref f) = true) : Fun K x qual st f (PySem.W.fnOf x qual (defArgs st) (defBody st) (defScope st) .none kV doc pm an cdv ct) := ⟨⟨oc, od, kV, doc, pm, an, cdv, ct, osl, rfl, l, c⟩, k⟩
end
/-! ### expressions in short: the name that stands in the i-th slot -/
section
variable {X : Cx}
theorem pv (i : Nat) {x : Str} {pos : Pos} (hN : X.N[i]? = some x := by rfl) (hv : Vis X.env.scope x := by first | exact Or.inl rfl | exact Or.inr (Or.inl rfl) | exact Or.inr (Or.inr rfl)) (hd : (x == ("__debug__" : Str)) = false := by decide)
    (hcd : (x == ("__classdict__" : Str)) = false := by decide) : PE X (.Name x pos) (tVar i) := pe_var hN hv hd hcd
end

/-! ### tests -/
theorem iteF {A B : Prop} (h : B) : if false = true then A else B := by
  rw [if_neg Bool.false_ne_true]
  exact h
theorem iteT {A B : Prop} (h : A) : if true = true then A else B := by
  rw [if_pos rfl]
  exact h
theorem ite2 {c A B : Prop} [Decidable c] (h1 : c → A) (h2 : ¬ c → B) : if c then A else B := by
  by_cases h : c
  · rw [if_pos h]
    exact h1 h
  · rw [if_neg h]
    exact h2 h
/-! ### heaps -/
/-- all that was tracked is as it was -/
def Same (H H' : Hp) : Prop := ∀ b o, H b = some o → H' b = some o
theorem Same.refl (H : Hp) : Same H H := fun _ _ h => h
theorem Same.trans {H H1 H2 : Hp} (a : Same H H1) (b : Same H1 H2) : Same H H2 := fun c o h => b c o (a c o h)
theorem Same.free {H H' : Hp} (e : Same H H') {l : Addr} (h : H' l = Option.none) : H l = Option.none := by
  cases q : H l with
  | none => rfl
  | some o =>
    rw [e l o q] at h
    cases h
theorem Same.seq {K : PySem.W.Frag} {H H' : Hp} {a : Addr} {xs : List V} (e : Same H H') (h : SqL K H a xs) : SqL K H' a xs := by
  rcases h with (h | ⟨o, h⟩) | h
  · exact .inl (.inl (e _ _ h))
  · exact .inl (.inr ⟨o, e _ _ h⟩)
  · exact .inr h

end L2
set_option Elab.async false
set_option linter.all false
set_option maxRecDepth 100000
set_option maxHeartbeats 4000000
namespace L2
open PySem PySem.Spec PyProof.Rows

/-! ### the cells that a comprehension's block takes over -/
/-! ### the block's context -/
section
variable {prog : Program} {w : World} {A : Around} {R : Result → Shared → Prop} {s : Shared}
end

/-- the tracked things stay when an untracked one is changed -/
theorem HOk.but {P : Program} {w : World} {H : Hp} {h h' : Heap} {C : Addr} (x : HOk P w H h) (hC : H C = none) (k : ∀ b o, b ≠ C → h.get? b = some o → h'.get? b = some o) : HOk P w H h' := fun b u e => by
  have nit : ∀ c v, H c = some v → c ≠ C := fun c v q z => by rw [z, hC] at q; cases q
  refine (x b u e).stay (fun c v hc q => k c v ?_ q) (fun _ q => q) fun _ _ q => q
  rcases hc with z | z
  · rw [z]; exact nit b u e
  · exact nit c _ z

section
variable {X : Cx} {elt tg iter : Expr} {ifs : List Expr} {scope : Scope} {pos : Pos} {NB : List Str} {n : Nat} {fr : List Nat} {wi : TI} {g : TG} {tt : TT} {te : TE}

structure CompOk (X : Cx) (scope : Scope) (NB : List Str) (n : Nat) (fr : List Nat) : Prop where
  kind : scope.kind = .function
  nocell : ∀ y ∈ scope.names, y.2 ≠ .cell
  names : ∀ y ∈ scope.names, y.2 = .local → scope.names.lookup y.1 = some .local
  free : ∀ y ∈ scope.names, y.2 = .free → X.env.kindOf y.1 = some .cell ∨ X.env.kindOf y.1 = some .free
  len : NB.length = n + fr.length
  own : ∀ (j k : Nat), fr[j]? = some k → ∃ x, NB[n + j]? = some x ∧ X.N[k]? = some x ∧ scope.names.lookup x = some .free

/-- a state whose block's own names are let go -/
theorem Inv.but {pins : List (Addr × Obj)} {σ : St} {H : Hp} {s : Shared} {C : Addr} {h' : Heap} (I : Inv X pins σ H s) (hC : X.s₀.heap.objs.size ≤ C) (hH : H C = none) (hL : C ≠ X.env.locals) (hcl : ∀ x c, X.env.cells.lookup x = some c → c ≠ C) (hpn : ∀ p ∈ X.pn ++ pins, p.1 ≠ C) (sb : Heap.SameBut C s.heap h') :
    Inv X pins σ H { s with heap := h' } := by
  refine I.call' (s' := { s with heap := h' }) (ch := [C]) rfl ?_ (HOk.but I.hok hH fun b o hb e => sb.extBut b o hb e) I.bare (fun b hb => ?_)
  · have ne : ∀ {b : Addr}, b ∉ [C] → b ≠ C := fun {b} h z => h (by rw [z]; exact List.mem_cons_self)
    exact ⟨fun b o e _ _ hx => sb.extBut b o (ne hx) e, fun b o e _ _ hx => ⟨o.slots, sb.extBut b o (ne hx) e⟩, fun _ _ _ n _ => n, fun b o e hx => ⟨o, sb.extBut b o (ne hx) e⟩, fun _ _ q => q, fun _ _ _ q => q, fun _ ps q => ⟨#[], by rw [q]; simp⟩⟩
  · have e : b = C := by simpa using hb
    subst e
    exact ⟨.inr hC, hL, hcl, hpn⟩
end
end L2
set_option Elab.async false
set_option linter.all false
set_option maxRecDepth 100000
set_option maxHeartbeats 4000000
namespace L2
open PySem PySem.Spec PyProof.Rows

/-! ### an iterator over a list (false) or a tuple (true), at place k -/
def Src (t : Bool) (h : Heap) (it l : Addr) (xs : Array Value) (k : Nat) : Prop := match t with
  | true => h.IsTupleIter it l k ∧ h.IsTuple l xs
  | false => h.IsListIter it l k ∧ h.IsList l xs
theorem Src.keep {t : Bool} {h h' : Heap} {it l : Addr} {xs : Array Value} {k : Nat} (x : Src t h it l xs k) (a : ∀ o, h.get? it = some o → h'.get? it = some o) (b : ∀ o, h.get? l = some o → h'.get? l = some o) : Src t h' it l xs k := by
  cases t with
  | true => obtain ⟨⟨o, h1, r1⟩, ⟨o2, h2, r2⟩⟩ := x; exact ⟨⟨o, a o h1, r1⟩, ⟨o2, b o2 h2, r2⟩⟩
  | false => obtain ⟨⟨o, h1, r1⟩, ⟨o2, h2, r2⟩⟩ := x; exact ⟨⟨o, a o h1, r1⟩, ⟨o2, b o2 h2, r2⟩⟩

section
variable {prog : Program} {w : World} {A : Around} {E : Value → Shared → Prop} {st : Shared}
theorem draw_tup_end {it l : Addr} {i : Nat} {its : Array Value} {Q : Value → Shared → Prop} (hh : A.handled = none) (hit : st.heap.IsTupleIter it l i) (hl : st.heap.IsTuple l its) (hx : its[i]? = none)
    (hE : ∀ h' e, Heap.ExtBut it st.heap h' → (∃ o, h'.get? e = some o ∧ o.cls = .type "StopIteration") → E (.ref e) { st with heap := h' }) : wpAny (model prog w) A (Builtin.SmallTypes.nextOf (.ref it)) Q E st := by
  obtain ⟨o, ho, hc, hd⟩ := id hit
  obtain ⟨o2, ho2, _, n2, hd2⟩ := hl
  unfold Builtin.SmallTypes.nextOf
  refine wpAny_bind (wpAny_callSpecial?_slot (name := Str.ofString "__next__") hit.typeIs F.slot_tuple_iterator_next (wpAny_call_entry F.slot_tuple_iterator_next hit.typeIs F.entry_tuple_iterator_next ?_ (F.args_tuple_iterator_next_1 _)))
  show wpAny _ A.in1 (field (.ref it) 0 >>= _) _ _ st
  refine wpAny_bind (wpAny_field ho hd (x := .ref l) rfl ?_)
  show wpAny _ A.in1 (if (Value.ref l == Value.none) = true then _ else _) _ _ st
  rw [if_neg (fun z : (Value.ref l == Value.none) = true => Bool.false_ne_true z)]
  show wpAny _ A.in1 (field (.ref it) 1 >>= _) _ _ st
  refine wpAny_bind (wpAny_field (x := .int i 0) ho hd rfl ?_)
  show wpAny _ A.in1 (seqItems? (.ref l) >>= _) _ _ st
  refine wpAny_bind (wpAny_seqItems ho2 hd2 ?_)
  simp only [Int.toNat_natCast, hx]
  refine wpAny_bind (wpAny_rule (wpAny_bind (wpAny_setField ho hd (by simp) (wpAny_bind ?_))))
  show wpAny _ A.in1 (newExc (.type "StopIteration") []) _ _ _
  simp only [newTuple, newExc]
  refine wpAny_bind (wpAny_newObj_type (wpAny_bind (m := firstArgMember _ _) (wpAny_of_eq (a := Value.none) (by first | rfl | (simp only [firstArgMember]; rfl)) (wpAny_newObj_type ?_ (by size_fits)))) (by size_fits))
  simp only [raiseNew]
  refine wpAny_bind (wpAny_handled ?_)
  first | rw [hh] | rw [show A.in1.handled = none from hh]
  exact wpAny_bind (wpAny_pure (wpAny_throw (hE _ _ (((Heap.SameBut.update ..).extBut.push _).push _) ⟨_, Heap.get?_push_size _ rfl, rfl⟩)))

theorem Src.none {t : Bool} {it l : Addr} {i : Nat} {its : Array Value} {Q : Value → Shared → Prop} (hh : A.handled = none) (S : Src t st.heap it l its i) (hx : its[i]? = none)
    (hE : ∀ h' e, Heap.ExtBut it st.heap h' → (∃ o, h'.get? e = some o ∧ o.cls = .type "StopIteration") → E (.ref e) { st with heap := h' }) : wpAny (model prog w) A (Builtin.SmallTypes.nextOf (.ref it)) Q E st := by
  cases t with
  | true => exact draw_tup_end hh S.1 S.2 hx hE
  | false => exact wpAny_nextOf_list_end hh S.1 S.2 hx hE

/-- the five own records of a zip stand apart, and from what it walks -/
structure Apart (z TI TO i1 i2 l1 l2 : Addr) : Prop where
  a : TI ≠ z ∧ TO ≠ z ∧ i1 ≠ z ∧ i2 ≠ z
  b : TI ≠ TO ∧ TI ≠ i1 ∧ TI ≠ i2 ∧ TO ≠ i1 ∧ TO ≠ i2 ∧ i1 ≠ i2
  c : l1 ≠ z ∧ l1 ≠ TO ∧ l1 ≠ i1 ∧ l1 ≠ i2
  d : l2 ≠ z ∧ l2 ≠ TO ∧ l2 ≠ i1 ∧ l2 ≠ i2

end
section
def SqK (t : Bool) (h : Heap) (l : Addr) (xs : Array Value) : Prop := match t with
  | true => h.IsTuple l xs
  | false => h.IsList l xs
def itObj (t : Bool) (l : Addr) : Obj := { cls := .type (if t then "tuple_iterator" else "list_iterator"), data := .fields #[.ref l, .int 0 0] }
theorem SqK.push {t : Bool} {h : Heap} {l : Addr} {xs : Array Value} (x : SqK t h l xs) (o : Obj) : SqK t (h.push o) l xs := by
  cases t with
  | true => exact Heap.IsTuple.push x o
  | false => exact Heap.IsList.push x o
theorem Src.new {t : Bool} {h : Heap} {it l : Addr} {xs : Array Value} (e : h.get? it = some (itObj t l)) (q : SqK t h l xs) : Src t h it l xs 0 := by
  cases t with
  | true => exact ⟨⟨_, e, rfl, rfl⟩, q⟩
  | false => exact ⟨⟨_, e, rfl, rfl⟩, q⟩
variable {prog : Program} {w : World} {A : Around} {E : Value → Shared → Prop} {st : Shared}
end
end L2
set_option Elab.async false
set_option linter.all false
set_option maxRecDepth 100000
set_option maxHeartbeats 4000000
namespace L2
open PySem PySem.Spec PyProof.Rows

/-! ### for sign in text -/
/-! ### for a, b in zip(x, y) -/
def SqB (t : Bool) (K : PySem.W.Frag) (H : Hp) (a : Addr) (xs : List V) : Prop := match t with
  | true => SqT K H a xs
  | false => SqL K H a xs
section
variable {X : Cx} {pins : List (Addr × Obj)} {σ : St} {H : Hp} {s : Shared}
theorem Inv.sq {t : Bool} {a : Addr} {xs : List V} (I : Inv X pins σ H s) (h : SqB t X.K H a xs) : ∃ its : List Value, Vals xs its ∧ SqK t s.heap a its.toArray ∧ xs.length ≤ sizeLine := by
  cases t with
  | true => obtain ⟨its, r, p, z⟩ := I.tuple h; exact ⟨its, r, p, z⟩
  | false => obtain ⟨its, r, p, z⟩ := I.list h; exact ⟨its, r, p.isList, z⟩
end
def ItB (t : Bool) (h : Heap) (it l : Addr) (k : Nat) : Prop := match t with
  | true => h.IsTupleIter it l k
  | false => h.IsListIter it l k
theorem Src.it {t : Bool} {h : Heap} {it l : Addr} {k : Nat} {xs : Array Value} (a : Src t h it l xs k) : ItB t h it l k := by cases t <;> exact a.1
theorem ItB.ob {t : Bool} {h : Heap} {it l : Addr} {k : Nat} (a : ItB t h it l k) : ∃ o, h.get? it = some o ∧ ∀ v, o.data ≠ .cell v := by
  cases t <;> (obtain ⟨o, e, _, d⟩ := a; exact ⟨o, e, fun v z => by rw [d] at z; cases z⟩)
theorem ItB.keep {t : Bool} {h h' : Heap} {it l : Addr} {k : Nat} (a : ItB t h it l k) (e : ∀ o, h.get? it = some o → h'.get? it = some o) : ItB t h' it l k := by
  cases t <;> (obtain ⟨o, q, r⟩ := a; exact ⟨o, e o q, r⟩)

end L2
set_option Elab.async false
set_option linter.all false
set_option maxRecDepth 100000
set_option maxHeartbeats 4000000
namespace L2
open PySem PySem.Spec PyProof.Rows
section
variable {X : Cx} {a b : Expr} {ta tb : TE} {pos : Pos}

/-! ### all(list of truths) -/
/-! ### isinstance(x, T) -/
def rIsi (K : PySem.W.Frag) : List V → Hp → VK → Prop := fun xs H Q => ∃ x c t k, xs = [x, .ty c] ∧ TyOf K H x t ∧ PySem.W.kitOne K t (.type c) = some k ∧ Q (.bl k) H
theorem call_isi : CallR X (.builtin "isinstance") (rIsi X.K) := by
  intro pins s σ H xs us Q I r h
  obtain ⟨x, c, t, k, rfl, ty, e, q⟩ := h
  obtain ⟨u, u', rfl, rx, rc⟩ := vals2 r
  cases rc
  exact isinst_ok I rx ty e fun tk => ⟨.bl k, H, I.tok tk, rfl, q⟩

/-! ### f(e, ..) where f is a name that holds a def -/
/-! ### texts -/
/-! ### two lists of flat things compared -/
end

/-! ### t[::-1] of a tuple -/
section
variable {prog : Program} {w : World} {A : Around} {E : Value → Shared → Prop} {s : Shared}
end
end L2
namespace L2
open PySem PySem.Spec PyProof.Rows
/-! ### t + u of two tuples, either may be empty -/
theorem PT.weak {X : Cx} {e : Expr} {t t' : TT} (h : PT X e t) (w : ∀ σ H Q, t' σ H Q → t σ H Q) : PT X e t' := fun pins s σ H Q I q => h pins s σ H Q I (w σ H Q q)
theorem PE.weak {X : Cx} {e : Expr} {t t' : TE} (h : PE X e t) (w : ∀ σ H Q, t' σ H Q → t σ H Q) : PE X e t' := fun pins s σ H Q I q => h pins s σ H Q I (w σ H Q q)
end L2
set_option Elab.async false
set_option linter.all false
namespace Kp
open PySem PyProof.Rows
/-- a thing, as data -/
inductive D where
  | non | bl (b : Bool) | int (i : Int) | str (x : Str) | tup (xs : List D) | lst (xs : List D)

/-! ### names -/
/-! ### seats -/
def keeper : D → Bool
  | .int i => decide (0 ≤ i) && decide (i ≤ 8)
  | _ => false
end Kp
set_option Elab.async false
set_option linter.all false
set_option maxRecDepth 100000
set_option maxHeartbeats 4000000
namespace Kp
open PySem L2

mutual
/-- v is the thing d in the heap H; its texts and rows are of at most B parts -/
inductive Is (B : Nat) (H : Hp) : V → D → Prop
  | non : Is B H .non .non
  | bl (b : Bool) : Is B H (.bl b) (.bl b)
  | int (i : Int) : Is B H (.int i) (.int i)
  | str (x : Str) (h : x.length ≤ B) : Is B H (.str x) (.str x)
  | tup {a : Addr} {vs : List V} {ds : List D} (e : H a = some (.tup vs)) (l : vs.length ≤ B) (r : IsL B H vs ds) : Is B H (.ref a) (.tup ds)
  | lst {a : Addr} {vs : List V} {ds : List D} (e : H a = some (.lst vs)) (l : vs.length ≤ B) (r : IsL B H vs ds) : Is B H (.ref a) (.lst ds)
inductive IsL (B : Nat) (H : Hp) : List V → List D → Prop
  | nil : IsL B H [] []
  | cons {v : V} {d : D} {vs : List V} {ds : List D} (h : Is B H v d) (t : IsL B H vs ds) : IsL B H (v :: vs) (d :: ds)
end
mutual
theorem Is.mono {B B' : Nat} {H H' : Hp} (hB : B ≤ B') (s : Same H H') : ∀ {v d}, Is B H v d → Is B' H' v d
  | _, _, .non => .non
  | _, _, .bl b => .bl b
  | _, _, .int i => .int i
  | _, _, .str x h => .str x (Nat.le_trans h hB)
  | _, _, .tup e l r => .tup (s _ _ e) (Nat.le_trans l hB) (IsL.mono hB s r)
  | _, _, .lst e l r => .lst (s _ _ e) (Nat.le_trans l hB) (IsL.mono hB s r)
theorem IsL.mono {B B' : Nat} {H H' : Hp} (hB : B ≤ B') (s : Same H H') : ∀ {vs ds}, IsL B H vs ds → IsL B' H' vs ds
  | _, _, .nil => .nil
  | _, _, .cons h t => .cons (Is.mono hB s h) (IsL.mono hB s t)
end
theorem Is.same {B : Nat} {H H' : Hp} {v : V} {d : D} (h : Is B H v d) (s : Same H H') : Is B H' v d := h.mono (Nat.le_refl _) s
theorem IsL.same {B : Nat} {H H' : Hp} {v : List V} {d : List D} (h : IsL B H v d) (s : Same H H') : IsL B H' v d := h.mono (Nat.le_refl _) s
theorem IsL.length {B : Nat} {H : Hp} : ∀ {vs ds}, IsL B H vs ds → vs.length = ds.length
  | _, _, .nil => rfl
  | _, _, .cons _ t => by simp [IsL.length t]
theorem IsL.get {B : Nat} {H : Hp} : ∀ {vs ds} {i : Nat} {v : V}, IsL B H vs ds → vs[i]? = some v → ∃ d, ds[i]? = some d ∧ Is B H v d
  | _, _, _, _, .nil, h => by simp at h
  | _, _, 0, _, .cons h _, e => by simp at e; subst e; exact ⟨_, rfl, h⟩
  | _, _, i + 1, v, .cons _ t, e => by
    obtain ⟨d, e', h⟩ := IsL.get (i := i) (v := v) t (by simpa using e)
    exact ⟨d, by simpa using e', h⟩
theorem IsL.append {B : Nat} {H : Hp} : ∀ {vs ds vs' ds'}, IsL B H vs ds → IsL B H vs' ds' → IsL B H (vs ++ vs') (ds ++ ds')
  | _, _, _, _, .nil, h => h
  | _, _, _, _, .cons h t, h' => .cons h (IsL.append t h')
theorem IsL.take {B : Nat} {H : Hp} : ∀ (n : Nat) {vs ds}, IsL B H vs ds → IsL B H (vs.take n) (ds.take n)
  | 0, _, _, _ => .nil
  | _ + 1, _, _, .nil => .nil
  | n + 1, _, _, .cons h t => .cons h (IsL.take n t)
theorem IsL.drop {B : Nat} {H : Hp} : ∀ (n : Nat) {vs ds}, IsL B H vs ds → IsL B H (vs.drop n) (ds.drop n)
  | 0, _, _, h => h
  | _ + 1, _, _, .nil => .nil
  | n + 1, _, _, .cons _ t => IsL.drop n t
theorem IsL.reverse {B : Nat} {H : Hp} {vs ds} (h : IsL B H vs ds) : IsL B H vs.reverse ds.reverse := by
  induction vs generalizing ds with
  | nil => cases h; exact .nil
  | cons v vs ih =>
    cases h with
    | cons h t => rw [List.reverse_cons, List.reverse_cons]; exact (ih t).append (.cons h .nil)
theorem IsL.ints {B : Nat} {H : Hp} : ∀ (ns : List Int), IsL B H (ns.map V.int) (ns.map D.int)
  | [] => .nil
  | n :: r => .cons (.int n) (IsL.ints r)
/-- some thing of at most B parts -/
def Th (B : Nat) (H : Hp) (v : V) : Prop := ∃ d, Is B H v d
def ThL (B : Nat) (H : Hp) (vs : List V) : Prop := ∃ ds, IsL B H vs ds
theorem Th.mono {B B' : Nat} {H H' : Hp} {v : V} (h : Th B H v) (hB : B ≤ B') (s : Same H H') : Th B' H' v := let ⟨d, q⟩ := h; ⟨d, q.mono hB s⟩
theorem ThL.mono {B B' : Nat} {H H' : Hp} {v : List V} (h : ThL B H v) (hB : B ≤ B') (s : Same H H') : ThL B' H' v := let ⟨d, q⟩ := h; ⟨d, q.mono hB s⟩
theorem ThL.nil {B : Nat} {H : Hp} : ThL B H [] := ⟨[], .nil⟩
theorem ThL.cons {B : Nat} {H : Hp} {v : V} {vs : List V} (h : Th B H v) (t : ThL B H vs) : ThL B H (v :: vs) := let ⟨d, q⟩ := h; let ⟨ds, r⟩ := t; ⟨d :: ds, .cons q r⟩
theorem ThL.append {B : Nat} {H : Hp} {vs us : List V} (h : ThL B H vs) (t : ThL B H us) : ThL B H (vs ++ us) := let ⟨_, q⟩ := h; let ⟨_, r⟩ := t; ⟨_, q.append r⟩
theorem ThL.take {B : Nat} {H : Hp} {vs : List V} (n : Nat) (h : ThL B H vs) : ThL B H (vs.take n) := let ⟨_, q⟩ := h; ⟨_, q.take n⟩
theorem ThL.drop {B : Nat} {H : Hp} {vs : List V} (n : Nat) (h : ThL B H vs) : ThL B H (vs.drop n) := let ⟨_, q⟩ := h; ⟨_, q.drop n⟩
theorem ThL.reverse {B : Nat} {H : Hp} {vs : List V} (h : ThL B H vs) : ThL B H vs.reverse := let ⟨_, q⟩ := h; ⟨_, q.reverse⟩
theorem ThL.get {B : Nat} {H : Hp} {vs : List V} {i : Nat} {v : V} (h : ThL B H vs) (e : vs[i]? = some v) : Th B H v := let ⟨_, q⟩ := h; let ⟨d, _, r⟩ := q.get e; ⟨d, r⟩
theorem Th.tup {B : Nat} {H : Hp} {a : Addr} {vs : List V} (e : H a = some (.tup vs)) (l : vs.length ≤ B) (h : ThL B H vs) : Th B H (.ref a) := let ⟨_, q⟩ := h; ⟨_, .tup e l q⟩
theorem Th.lst {B : Nat} {H : Hp} {a : Addr} {vs : List V} (e : H a = some (.lst vs)) (l : vs.length ≤ B) (h : ThL B H vs) : Th B H (.ref a) := let ⟨_, q⟩ := h; ⟨_, .lst e l q⟩
theorem Th.int {B : Nat} {H : Hp} (i : Int) : Th B H (.int i) := ⟨_, .int i⟩
theorem Th.bl {B : Nat} {H : Hp} (i : Bool) : Th B H (.bl i) := ⟨_, .bl i⟩
theorem Th.non {B : Nat} {H : Hp} : Th B H .non := ⟨_, .non⟩
theorem Th.str {B : Nat} {H : Hp} (x : Str) (h : x.length ≤ B) : Th B H (.str x) := ⟨_, .str x h⟩
/-- a new object leaves all as it was -/
theorem same_upd {H : Hp} {p : Addr} {o : HO} (h : H p = none) : Same H (upd H p o) := fun b u e => by rw [upd_ne (ne_of_none e h)]; exact e

/-! ### the kinds -/
def tyN : D → String
  | .non => "NoneType" | .bl _ => "bool" | .int _ => "int" | .str _ => "str" | .tup _ => "tuple" | .lst _ => "list"
theorem Is.ty {B : Nat} {H : Hp} {K : PySem.W.Frag} {v : V} {d : D} (h : Is B H v d) : TyOf K H v (.type (tyN d)) := by
  cases h with
  | non => exact .non
  | bl b => exact .bl b
  | int i => exact .int i
  | str x _ => exact .str x
  | tup e _ _ => exact .tup e
  | lst e _ _ => exact .lst e
def isInt : D → Bool | .int _ => true | .bl _ => true | _ => false
def isBool : D → Bool | .bl _ => true | _ => false
theorem kit_int (K : PySem.W.Frag) : ∀ d : D, PySem.W.kitOne K (.type (tyN d)) (.type "int") = some (isInt d)
  | .non => by with_unfolding_all rfl
  | .bl _ => by with_unfolding_all rfl
  | .int _ => by with_unfolding_all rfl
  | .str _ => by with_unfolding_all rfl
  | .tup _ => by with_unfolding_all rfl
  | .lst _ => by with_unfolding_all rfl
theorem kit_bool (K : PySem.W.Frag) : ∀ d : D, PySem.W.kitOne K (.type (tyN d)) (.type "bool") = some (isBool d)
  | .non => by with_unfolding_all rfl
  | .bl _ => by with_unfolding_all rfl
  | .int _ => by with_unfolding_all rfl
  | .str _ => by with_unfolding_all rfl
  | .tup _ => by with_unfolding_all rfl
  | .lst _ => by with_unfolding_all rfl
theorem boot_isi : bootBuiltins "isinstance" = some (.builtin "isinstance") := by decide +kernel
theorem boot_int : bootBuiltins "int" = some (.type "int") := by decide +kernel
theorem boot_bool : bootBuiltins "bool" = some (.type "bool") := by decide +kernel
theorem pe_ty {X : Cx} {x : Str} {n : String} {pos : Pos} (hg : Gl X x) (hm : X.mg x = none) (hv : bootBuiltins x = some (.type n)) (hn : x ≠ "__name__" := by decide) (hd : (x == ("__debug__" : Str)) = false := by decide) : PE X (.Name x pos) (tC (.ty n)) := pe_bltn (v := .ty n) hg hm hv rfl hn hd
end Kp
set_option Elab.async false
set_option linter.all false
set_option maxRecDepth 100000
set_option maxHeartbeats 4000000
namespace Kp
open PySem L2

/-! ### rules whose reading names the written part, for a block -/
section
variable {X : Cx} {K : PySem.W.Frag} {pos : Pos}
end

/-! ### a comprehension's names -/
/-! ### a comprehension that changes nothing -/
/-! ### promises -/
/-- a teller: of a thing, a truth; nothing is changed -/
def spP (f : D → Bool) : Sp := fun vs H Q _ => ∃ B v d, B ≤ 1000 ∧ vs = [v] ∧ Is B H v d ∧ ∀ H', Same H H' → Q (.bl (f d)) H'
/-- a def of the text that keeps its promise, as a caller sees it -/
structure Cal (P : Program) (w : World) (K : PySem.W.Frag) (mg : Str → Option Value) (base : Heap) (name : Str) (k : Nat) (ps : List Str) (sp : Sp) : Prop where
  ex : ∃ f fd, FnOk P w K mg base CX0 k f fd ps sp ∧ mg name = some (.ref f) ∧ PySem.W.keepIn K (.ref f) = true ∧ Binds K fd ps []
def whole (d : D) : Bool := isInt d && !isBool d
end Kp
set_option Elab.async false
set_option linter.all false
namespace Kp
open PySem L2
section
variable {X : Cx} {es : List Expr} {te : TE} {t : TA} {pos : Pos}
/-! ### argument lists by the first one's form: that it is no star is known once -/
theorem pa_i {c : Const} {k : Nat} (ha : PE X (.Constant c k pos) te) (hr : PA X es t) : PA X (.Constant c k pos :: es) (tCons te t) := pa_cons ha hr rfl
theorem pa_n {x : Str} (ha : PE X (.Name x pos) te) (hr : PA X es t) : PA X (.Name x pos :: es) (tCons te t) := pa_cons ha hr rfl
theorem pa_t {l : List Expr} {k : Nat} (ha : PE X (.Tuple l k pos) te) (hr : PA X es t) : PA X (.Tuple l k pos :: es) (tCons te t) := pa_cons ha hr rfl
theorem pa_b {o : Operator} {a b : Expr} (ha : PE X (.BinOp a o b pos) te) (hr : PA X es t) : PA X (.BinOp a o b pos :: es) (tCons te t) := pa_cons ha hr rfl
theorem pa_k {f : Expr} {as : List Expr} {ks : List Keyword} (ha : PE X (.Call f as ks pos) te) (hr : PA X es t) : PA X (.Call f as ks pos :: es) (tCons te t) := pa_cons ha hr rfl
theorem pa_s {a b : Expr} (ha : PE X (.Subscript a b pos) te) (hr : PA X es t) : PA X (.Subscript a b pos :: es) (tCons te t) := pa_cons ha hr rfl
end
end Kp
namespace Kp
open PySem L2
theorem px_b {a b : Expr} {o : Operator} {pos : Pos} : PlainIx (.BinOp a o b pos) := fun _ _ => rfl
theorem px_n {x : Str} {pos : Pos} : PlainIx (.Name x pos) := fun _ _ => rfl
theorem px_i {c : Const} {k : Nat} {pos : Pos} : PlainIx (.Constant c k pos) := fun _ _ => rfl
end Kp
namespace Kp
open PySem L2
theorem sw_s {a b : Expr} {p : Pos} {t : Option Expr} {n : Nat} {env : Env} : swapsWith (.Subscript a b p) t n env = pure false := rfl
end Kp
namespace Kp
open PySem L2
/-! ### displays of written things -/
structure QA (X : Cx) (es : List Expr) (t : TA) : Prop where
  h : PA X es t
section
variable {X : Cx} {es l : List Expr} {t u : TA} {p p' : Pos} {j : Nat}
theorem qa_nil : QA X [] tNil := ⟨pa_nil⟩
theorem qa_int {i : Int} (r : QA X es t) : QA X (.Constant (.int i) j p :: es) (tCons (tC (.int i)) t) := ⟨pa_cons pe_int r.h rfl⟩
theorem qa_tup (a : QA X l u) (r : QA X es t) : QA X (.Tuple l j p :: es) (tCons (tTup u) t) := ⟨pa_cons (pe_tup a.h) r.h rfl⟩
end
end Kp
namespace Kp
open PySem L2
/-! ### judgements in boxes: the elaborator looks into the bare ones, and runs a written display -/
structure QE (X : Cx) (e : Expr) (t : TE) : Prop where
  h : PE X e t
structure QS (X : Cx) (st : Stmt) (t : TS) : Prop where
  h : PS X st t
structure QB (X : Cx) (sts : List Stmt) (t : TS) : Prop where
  h : PSs X sts t
section
variable {X : Cx} {es : List Expr} {t : TA} {p p' pos : Pos} {j : Nat}
theorem qx_lst (a : QA X es t) : QE X (.List es p) (tLst t) := ⟨pe_lst a.h⟩
theorem qs_set {i : Nat} {x : Str} {e : Expr} {te : TE} (hN : X.N.Nodup) (hi : X.N[i]? = some x) (hx : Loc X.env.scope x) (he : QE X e te) (hs : swapsWith e (some (.Name x p')) pos.line X.env = pure false) (hf : X.fn x = true ∨ X.env.scope.names.lookup x = some .local := by first | exact .inl rfl | exact .inr rfl | assumption) :
    QS X (.Assign [.Name x p'] e pos) (tAsg te (gName i)) := ⟨ps_set hN hi hx he.h hs hf⟩
end
end Kp
set_option Elab.async false
set_option linter.all false
set_option maxRecDepth 100000
set_option maxHeartbeats 4000000
namespace Kp
open PySem L2 PyProof.Rows

/-! ### D.get(word) of a dict of the module -/
/-! ### a teller that is known by its address only -/
structure Tl (P : Program) (w : World) (K : PySem.W.Frag) (mg : Str → Option Value) (base : Heap) (k : Nat) (g : Addr) (p : D → Bool) : Prop where
  ex : ∃ k' fd px, k' ≤ k ∧ FnOk P w K mg base CX0 k' g fd [px] (spP p) ∧ PySem.W.keepIn K (.ref g) = true ∧ Binds K fd [px] []
section
variable {P : Program} {w : World} {K : PySem.W.Frag} {mg : Str → Option Value} {base : Heap}
theorem Tl.mono {k k' : Nat} {g : Addr} {p : D → Bool} (h : Tl P w K mg base k g p) (hk : k ≤ k') : Tl P w K mg base k' g p := let ⟨j, fd, px, a, b⟩ := h.ex; ⟨j, fd, px, Nat.le_trans a hk, b⟩
/-- tellers and what they tell -/
inductive Tls (P : Program) (w : World) (K : PySem.W.Frag) (mg : Str → Option Value) (base : Heap) (k : Nat) : List V → List (D → Bool) → Prop
  | nil : Tls P w K mg base k [] []
  | cons {g : Addr} {p : D → Bool} {gs : List V} {ps : List (D → Bool)} (h : Tl P w K mg base k g p) (t : Tls P w K mg base k gs ps) : Tls P w K mg base k (.ref g :: gs) (p :: ps)
theorem Tls.length {k : Nat} : ∀ {gs ps}, Tls P w K mg base k gs ps → gs.length = ps.length
  | _, _, .nil => rfl
  | _, _, .cons _ t => by simp [Tls.length t]
theorem Tls.get {k : Nat} : ∀ {gs ps} {i : Nat} {v : V}, Tls P w K mg base k gs ps → gs[i]? = some v → ∃ g p, v = .ref g ∧ ps[i]? = some p ∧ Tl P w K mg base k g p
  | _, _, _, _, .nil, e => by simp at e
  | _, _, 0, _, .cons h _, e => by simp at e; subst e; exact ⟨_, _, rfl, rfl, h⟩
  | _, _, i + 1, v, .cons _ t, e => by
    obtain ⟨g, p, a, b, c⟩ := Tls.get (i := i) (v := v) t (by simpa using e)
    exact ⟨g, p, a, by simpa using b, c⟩
theorem Tls.mono {k k' : Nat} (hk : k ≤ k') : ∀ {gs ps}, Tls P w K mg base k gs ps → Tls P w K mg base k' gs ps
  | _, _, .nil => .nil
  | _, _, .cons h t => .cons (h.mono hk) (Tls.mono hk t)

/-! ### a table of tellers by words -/
inductive Tbl (P : Program) (w : World) (K : PySem.W.Frag) (mg : Str → Option Value) (base : Heap) (k : Nat) : List DictEntry → List (Str × List (D → Bool)) → Prop
  | nil : Tbl P w K mg base k [] []
  | cons {x : Str} {tk : Tok} {t : Addr} {gs : List V} {ps : List (D → Bool)} {es : List DictEntry} {tb : List (Str × List (D → Bool))} (hs : ∀ H : Hp, SqT K H t gs) (ht : Tls P w K mg base k gs ps) (r : Tbl P w K mg base k es tb) :
      Tbl P w K mg base k (⟨PyData.keyHash w.params x, .str x tk, .ref t⟩ :: es) ((x, ps) :: tb)
theorem Tbl.keys {k : Nat} : ∀ {es tb}, Tbl P w K mg base k es tb → PySem.W.KeysLit w.params es
  | _, _, .nil => trivial
  | _, _, .cons _ _ r => ⟨⟨_, _, rfl, rfl⟩, Tbl.keys r⟩
theorem Tbl.find {k : Nat} {x : Str} : ∀ {es tb}, Tbl P w K mg base k es tb → ∃ v, RelV v (((es.find? fun e => Value.isStrOf x e.key).map (·.val)).getD .none) ∧
    ((tb.lookup x = none ∧ v = .non) ∨ ∃ ps t gs, tb.lookup x = some ps ∧ v = .ref t ∧ (∀ H : Hp, SqT K H t gs) ∧ Tls P w K mg base k gs ps)
  | _, _, .nil => ⟨.non, rfl, .inl ⟨rfl, rfl⟩⟩
  | _, _, @Tbl.cons _ _ _ _ _ _ y tk t gs ps es tb hs ht r => by
    rw [List.find?_cons, List.lookup_cons]
    have e : Value.isStrOf x (Value.str y tk) = (x == y) := by
      show (y == x) = (x == y)
      rw [Bool.eq_iff_iff, beq_iff_eq, beq_iff_eq]
      exact eq_comm
    dsimp only
    rw [e]
    cases hx : x == y with
    | true => exact ⟨.ref t, rfl, .inr ⟨ps, t, gs, rfl, rfl, hs, ht⟩⟩
    | false => exact Tbl.find r
end
end Kp
set_option Elab.async false
set_option linter.all false
set_option maxRecDepth 100000
set_option maxHeartbeats 4000000
namespace Kp
open PySem

/-! ### tuples by tellers, things by their first word -/
/-! ### the law's -/
def one (p : D → Bool) : List D → Bool
  | [a] => p a
  | _ => false
def two (p q : D → Bool) : List D → Bool
  | [a, b] => p a && q b
  | _ => false
end Kp
set_option Elab.async false
set_option linter.all false
set_option maxRecDepth 100000
set_option maxHeartbeats 4000000
namespace K1
open PySem L2 Kp
def top (i : Nat) : Stmt := PySem.Challenge.pw_keeplog_k40_hears_and_wakes.main.body.getD i (.Pass ⟨0, 0, 0, 0⟩)
abbrev s_begun : Stmt := top 1
abbrev s_end_of : Stmt := top 2
abbrev s_holds_seats : Stmt := top 4
abbrev s_seats_of : Stmt := top 5
abbrev s_fresh : Stmt := top 7
abbrev s_first_pack : Stmt := top 9
abbrev s_Keeper___init__ : Stmt := inClass (top 11) 0
abbrev s_Keeper_wake : Stmt := inClass (top 11) 1
abbrev s_Keeper_hear : Stmt := inClass (top 11) 2
abbrev s_Keeper_be_plain : Stmt := inClass (top 11) 3
abbrev s_Keeper_know_no_places : Stmt := inClass (top 11) 4
abbrev s_seats_now : Stmt := top 12
abbrev sCell : Stmt := top 14
abbrev sMixed : Stmt := top 15
abbrev s__law_whole : Stmt := top 16
abbrev s__law_as_made : Stmt := top 17
abbrev sLaw : Stmt := top 18
end K1
set_option Elab.async false
set_option linter.all false
set_option maxRecDepth 100000
namespace Kp
open PySem L2
theorem tiny {n : Nat} (h : n ≤ 1000) : n ≤ sizeLine := by rw [sizeLine_eq]; omega
section
variable {X : Cx} {es l : List Expr} {te : TE} {t u : TA} {p p' pos : Pos} {j : Nat}
theorem qa_n {x : Str} (ha : PE X (.Name x p) te) (r : QA X es t) : QA X (.Name x p :: es) (tCons te t) := ⟨pa_n ha r.h⟩
theorem qa_k {f : Expr} {as : List Expr} {ks : List Keyword} (ha : PE X (.Call f as ks p) te) (r : QA X es t) : QA X (.Call f as ks p :: es) (tCons te t) := ⟨pa_k ha r.h⟩
theorem qa_b {o : Operator} {a b : Expr} (ha : PE X (.BinOp a o b p) te) (r : QA X es t) : QA X (.BinOp a o b p :: es) (tCons te t) := ⟨pa_b ha r.h⟩
theorem qx_tup (a : QA X es t) : QE X (.Tuple es j p) (tTup t) := ⟨pe_tup a.h⟩
theorem qx_ix {a b : Expr} {ta tb : TE} {r : R2} (hx : IxR X r) (ha : QE X a ta) (hb : PE X b tb) (px : PlainIx b) : QE X (.Subscript a b pos) (tOp r ta tb) := ⟨pe_ix hx ha.h hb px⟩
end
end Kp
set_option Elab.async false
set_option linter.all false
set_option maxRecDepth 100000
set_option maxHeartbeats 4000000
namespace Kp
open PySem L2
/-! ### displays of written things, by «things of at most 16 parts» -/
theorem PA.weak {X : Cx} {es : List Expr} {t t' : TA} (h : PA X es t) (w : ∀ σ H Q, t' σ H Q → t σ H Q) : PA X es t' := fun pos pins s σ H Q I q => h pos pins s σ H Q I (w σ H Q q)
def tAnyA (n : Nat) : TA := fun _ H Q => ∀ vs H', ThL 16 H' vs → vs.length = n → Same H H' → Q vs H'
structure DA (X : Cx) (es : List Expr) (n : Nat) : Prop where
  h : PA X es (tAnyA n)
section
variable {X : Cx} {es l : List Expr} {n m : Nat} {p p' : Pos} {j : Nat}
/-- a display of tuples alone -/
def TupV (H : Hp) (v : V) : Prop := ∃ a xs, v = .ref a ∧ H a = some (.tup xs) ∧ xs.length ≤ 16 ∧ ThL 16 H xs
theorem TupV.mono {H H' : Hp} {v : V} (h : TupV H v) (s : Same H H') : TupV H' v := let ⟨a, xs, e, ha, l, t⟩ := h; ⟨a, xs, e, s _ _ ha, l, t.mono (Nat.le_refl _) s⟩
def tTupA (n : Nat) : TA := fun _ H Q => ∀ vs H', (∀ v ∈ vs, TupV H' v) → vs.length = n → Same H H' → Q vs H'
structure DT (X : Cx) (es : List Expr) (n : Nat) : Prop where
  h : PA X es (tTupA n)
end
end Kp
set_option Elab.async false
set_option linter.all false
set_option maxRecDepth 100000
namespace Kp
open PySem L2
section
variable {es l : List Expr} {te : TE} {t u : TA} {p p' pos : Pos} {j : Nat}
/- written with @ and holes for the rest: what is under them is built first, and met with the goal at the end -/
theorem pss_q {X : Cx} {st : Stmt} {rest : List Stmt} {t u : TS} (h1 : QS X st t) (h2 : PSs X rest u) : PSs X (st :: rest) (tSeq t u) := pss_cons h1.h h2
theorem pss_p {X : Cx} {st : Stmt} {rest : List Stmt} {t u : TS} (h1 : PS X st t) (h2 : PSs X rest u) : PSs X (st :: rest) (tSeq t u) := pss_cons h1 h2
theorem pss_o {X : Cx} {st : Stmt} {t : TS} (h1 : PS X st t) : PSs X [st] t := pss_one h1
end
end Kp
set_option Elab.async false
set_option linter.all false
set_option maxRecDepth 100000
set_option maxHeartbeats 4000000
namespace L2
open PySem PySem.Spec PyProof.Rows
/-! ### for k, x in enumerate(list) -/
/-! ### sorted(list of texts), list.count(text) -/
section
variable {X : Cx}
end
end L2
set_option Elab.async false
set_option linter.all false
set_option maxRecDepth 100000
set_option maxHeartbeats 4000000
namespace Kp
open PySem

/-! ### rows by the alphabet -/
/-! ### the law's -/
end Kp
set_option Elab.async false
set_option linter.all false
set_option maxRecDepth 100000
set_option maxHeartbeats 4000000
namespace Kp
open PySem L2
/-! ### a comprehension whose items are known by a property only -/
/-- tuples stay -/
def SameT (H H' : Hp) : Prop := ∀ b xs, H b = some (.tup xs) → H' b = some (.tup xs)
/-- a short text -/
def ShortS (_ : Hp) (v : V) : Prop := ∃ x : Str, v = .str x ∧ x.length ≤ 16
theorem ShortS.list {H : Hp} : ∀ {ys : List V}, (∀ v ∈ ys, ShortS H v) → ∃ ws : List Str, ys = ws.map V.str ∧ ∀ x ∈ ws, x.length ≤ 16
  | [], _ => ⟨[], rfl, fun x hx => (List.not_mem_nil hx).elim⟩
  | y :: ys, h => by
    obtain ⟨x, rfl, hx⟩ := h y List.mem_cons_self
    obtain ⟨ws, rfl, hw⟩ := ShortS.list (fun v hv => h v (List.mem_cons_of_mem _ hv))
    exact ⟨x :: ws, rfl, fun z hz => by
      rcases List.mem_cons.mp hz with rfl | hz
      · exact hx
      · exact hw z hz⟩
end Kp
set_option Elab.async false
set_option linter.all false
set_option maxRecDepth 100000
set_option maxHeartbeats 4000000
namespace L2
open PySem PySem.Spec PyProof.Rows
/-! ### lists of pairs as tables -/
section
variable {κ : Type} [DecidableEq κ]
def valV (kvs : List (κ × V)) (k : κ) : Option V := (kvs.find? fun kv => decide (kv.1 = k)).map (·.2)
/-- in its place, or at the end -/
def putK (kvs : List (κ × V)) (k : κ) (v : V) : List (κ × V) :=
  if (kvs.any fun kv => decide (kv.1 = k)) = true then kvs.map (fun kv => if kv.1 = k then (kv.1, v) else kv) else kvs ++ [(k, v)]
def dropK (kvs : List (κ × V)) (k : κ) : List (κ × V) := kvs.filter fun kv => decide (kv.1 ≠ k)

theorem valV_pos {p : κ × V} {r : List (κ × V)} {k : κ} (e : p.1 = k) : valV (p :: r) k = some p.2 := by simp [valV, List.find?_cons, e]
theorem valV_neg {p : κ × V} {r : List (κ × V)} {k : κ} (e : ¬ p.1 = k) : valV (p :: r) k = valV r k := by simp [valV, List.find?_cons, e]
theorem valV_any (k : κ) : ∀ kvs : List (κ × V), (kvs.any fun kv => decide (kv.1 = k)) = (valV kvs k).isSome
  | [] => rfl
  | p :: r => by
    rw [List.any_cons]
    by_cases e : p.1 = k
    · simp only [valV_pos e, decide_eq_true e, Bool.true_or, Option.isSome_some]
    · rw [valV_neg e, decide_eq_false e, Bool.false_or]; exact valV_any k r
theorem RelO.isSome_eq {o : Option V} {u : Option Value} (r : RelO o u) : o.isSome = u.isSome := by
  cases o with
  | none => cases u with
    | none => rfl
    | some _ => exact (show False from r).elim
  | some _ => cases u with
    | none => exact (show False from r).elim
    | some _ => rfl
theorem RelO.getD {o : Option V} {u : Option Value} {d : V} {d' : Value} (r : RelO o u) (rd : RelV d d') : RelV (o.getD d) (u.getD d') := by
  cases o with
  | none => cases u with
    | none => exact rd
    | some _ => exact (show False from r).elim
  | some _ => cases u with
    | none => exact (show False from r).elim
    | some _ => exact r

/-- raw tables of the same keys -/
theorem KV.val {kvs : List (κ × V)} {vs : List (κ × Value)} (r : KV kvs vs) (k : κ) : RelO (valV kvs k) (valueAt vs k) := by
  unfold KV at r
  induction r with
  | nil => exact True.intro
  | @cons p q ps qs h t ih =>
    obtain ⟨h1, h2⟩ := h
    by_cases e : p.1 = k
    · have e' : q.1 = k := h1.symm.trans e
      have b : valueAt (q :: qs) k = some q.2 := by simp [valueAt, List.find?_cons, e']
      rw [valV_pos e, b]; exact h2
    · have e' : ¬ q.1 = k := fun z => e (h1.trans z)
      have b : valueAt (q :: qs) k = valueAt qs k := by simp [valueAt, List.find?_cons, e']
      rw [valV_neg e, b]; exact ih
theorem KV.any {kvs : List (κ × V)} {vs : List (κ × Value)} (r : KV kvs vs) (k : κ) : (kvs.any fun kv => decide (kv.1 = k)) = vs.any fun kv => decide (kv.1 = k) := by
  unfold KV at r
  induction r with
  | nil => rfl
  | cons h t ih => rw [List.any_cons, List.any_cons, ih, h.1]
theorem KV.repl {kvs : List (κ × V)} {vs : List (κ × Value)} (r : KV kvs vs) (k : κ) {y : V} {u : Value} (ry : RelV y u) :
    KV (kvs.map fun kv => if kv.1 = k then (kv.1, y) else kv) (vs.map fun kv => if kv.1 = k then (kv.1, u) else kv) := by
  unfold KV at r ⊢
  induction r with
  | nil => exact .nil
  | @cons p q ps qs h t ih =>
    rw [List.map_cons, List.map_cons]
    refine .cons ?_ ih
    obtain ⟨h1, h2⟩ := h
    by_cases e : p.1 = k
    · rw [if_pos e, if_pos (h1.symm.trans e)]; exact ⟨h1, ry⟩
    · rw [if_neg e, if_neg (fun z => e (h1.trans z))]; exact ⟨h1, h2⟩
theorem KV.put {kvs : List (κ × V)} {vs : List (κ × Value)} (r : KV kvs vs) (k : κ) {y : V} {u : Value} (ry : RelV y u) : KV (putK kvs k y) (stored vs k u) := by
  unfold putK stored
  rw [r.any k]
  by_cases e : (vs.any fun kv => decide (kv.1 = k)) = true
  · rw [if_pos e, if_pos e]; exact r.repl k ry
  · rw [if_neg e, if_neg e]; exact Paired.snoc r ⟨rfl, ry⟩
theorem KV.drop {kvs : List (κ × V)} {vs : List (κ × Value)} (r : KV kvs vs) (k : κ) : KV (dropK kvs k) (without vs k) := by
  unfold KV at r ⊢
  unfold dropK without
  induction r with
  | nil => exact .nil
  | @cons p q ps qs h t ih =>
    obtain ⟨h1, h2⟩ := h
    rw [List.filter_cons, List.filter_cons]
    by_cases e : p.1 = k
    · have a : ¬ decide (p.1 ≠ k) = true := by simp [e]
      have b : ¬ decide (q.1 ≠ k) = true := by simp [h1.symm.trans e]
      rw [if_neg a, if_neg b]; exact ih
    · have e' : ¬ q.1 = k := fun z => e (h1.trans z)
      have a : decide (p.1 ≠ k) = true := by simp [e]
      have b : decide (q.1 ≠ k) = true := by simp [e']
      rw [if_pos a, if_pos b]; exact .cons ⟨h1, h2⟩ ih
theorem KV.keys {kvs : List (κ × V)} {vs : List (κ × Value)} (r : KV kvs vs) : kvs.map (·.1) = vs.map (·.1) := by
  unfold KV at r
  induction r with
  | nil => rfl
  | cons h t ih => rw [List.map_cons, List.map_cons, ih, h.1]
theorem KV.length {kvs : List (κ × V)} {vs : List (κ × Value)} (r : KV kvs vs) : kvs.length = vs.length := Paired.length r
end


/-! ### a tracked dict, its keys ints and texts or tuples of these -/
/-- raw entries of a dict with tuple keys -/
abbrev KT (H : Hp) : List (List Key × V) → List (List Key × Addr × Value) → Prop := Paired fun p q => p.1 = q.1 ∧ H q.2.1 = some (.tup (p.1.map kV)) ∧ RelV p.2 q.2.2
theorem KT.val {H : Hp} {kvs : List (List Key × V)} {xs : List (List Key × Addr × Value)} (r : KT H kvs xs) (k : List Key) : RelO (valV kvs k) ((atKey xs k).map (·.2)) := by
  induction r with
  | nil => exact True.intro
  | @cons p q ps qs h t ih =>
    obtain ⟨h1, _, h2⟩ := h
    by_cases e : p.1 = k
    · have e' : q.1 = k := h1.symm.trans e
      have b : atKey (q :: qs) k = some q.2 := by simp [atKey, List.find?_cons, e']
      rw [valV_pos e, b]; exact h2
    · have e' : ¬ q.1 = k := fun z => e (h1.trans z)
      have b : atKey (q :: qs) k = atKey qs k := by simp [atKey, List.find?_cons, e']
      rw [valV_neg e, b]; exact ih
theorem KT.repl {H : Hp} {kvs : List (List Key × V)} {xs : List (List Key × Addr × Value)} (r : KT H kvs xs) (k : List Key) {y : V} {u : Value} (ry : RelV y u) :
    KT H (kvs.map fun kv => if kv.1 = k then (kv.1, y) else kv) (xs.map (putAt k u)) := by
  induction r with
  | nil => exact .nil
  | @cons p q ps qs h t ih =>
    rw [List.map_cons, List.map_cons]
    refine .cons ?_ ih
    obtain ⟨h1, h2, h3⟩ := h
    unfold putAt
    by_cases e : p.1 = k
    · rw [if_pos e, if_pos (h1.symm.trans e)]; exact ⟨h1, h2, ry⟩
    · rw [if_neg e, if_neg (fun z => e (h1.trans z))]; exact ⟨h1, h2, h3⟩
theorem KT.put {H : Hp} {kvs : List (List Key × V)} {xs : List (List Key × Addr × Value)} (r : KT H kvs xs) (k : List Key) {b : Addr} {y : V} {u : Value} (hb : H b = some (.tup (k.map kV))) (ry : RelV y u) :
    KT H (putK kvs k y) (storedH xs k b u) := by
  have e : (kvs.any fun kv => decide (kv.1 = k)) = (atKey xs k).isSome := by
    rw [valV_any, (r.val k).isSome_eq, Option.isSome_map]
  unfold putK storedH
  rw [e]
  by_cases q : (atKey xs k).isSome = true
  · rw [if_pos q, if_pos q]; exact r.repl k ry
  · rw [if_neg q, if_neg q]; exact Paired.snoc r ⟨rfl, hb, ry⟩
theorem KT.keeps {H H' : Hp} {kvs : List (List Key × V)} {xs : List (List Key × Addr × Value)} (r : KT H kvs xs) (ht : ∀ b ys, H b = some (.tup ys) → H' b = some (.tup ys)) : KT H' kvs xs :=
  Paired.mapP r fun _ _ z => ⟨z.1, ht _ _ z.2.1, z.2.2⟩

section
variable {P : Program} {w : World} {H : Hp} {h : Heap} {a : Addr}
end

/-- what the dict at a holds at the key y -/
def DGet (H : Hp) (a : Addr) (y : V) (r : Option V) : Prop :=
  (∃ kvs k, Rd H a (.dK kvs) ∧ y = kV k ∧ r = valV kvs k) ∨ ∃ kvs k b, Rd H a (.dT kvs) ∧ y = .ref b ∧ H b = some (.tup (k.map kV)) ∧ r = valV kvs k
/-- the heap behind a[y] = v -/
def DPut (H : Hp) (a : Addr) (y v : V) (H' : Hp) : Prop :=
  (∃ kvs k, H a = some (.dK kvs) ∧ y = kV k ∧ kvs.length < sizeLine ∧ H' = upd H a (.dK (putK kvs k v))) ∨
  ∃ kvs k b, H a = some (.dT kvs) ∧ y = .ref b ∧ H b = some (.tup (k.map kV)) ∧ kvs.length < sizeLine ∧ H' = upd H a (.dT (putK kvs k v))
theorem DGet.k {H : Hp} {a : Addr} {kvs : List (Key × V)} {k : Key} (e : H a = some (.dK kvs)) : DGet H a (kV k) (valV kvs k) := .inl ⟨kvs, k, .inl e, rfl, rfl⟩
theorem DGet.t {H : Hp} {a b : Addr} {kvs : List (List Key × V)} {k : List Key} (e : H a = some (.dT kvs)) (eb : H b = some (.tup (k.map kV))) : DGet H a (.ref b) (valV kvs k) := .inr ⟨kvs, k, b, .inl e, rfl, eb, rfl⟩
theorem DPut.k {H : Hp} {a : Addr} {kvs : List (Key × V)} {k : Key} {v : V} (e : H a = some (.dK kvs)) (hl : kvs.length < sizeLine) : DPut H a (kV k) v (upd H a (.dK (putK kvs k v))) := .inl ⟨kvs, k, e, rfl, hl, rfl⟩
theorem DPut.t {H : Hp} {a b : Addr} {kvs : List (List Key × V)} {k : List Key} {v : V} (e : H a = some (.dT kvs)) (eb : H b = some (.tup (k.map kV))) (hl : kvs.length < sizeLine) :
    DPut H a (.ref b) v (upd H a (.dT (putK kvs k v))) := .inr ⟨kvs, k, b, e, rfl, eb, hl, rfl⟩


section
variable {X : Cx} {pins : List (Addr × Obj)} {σ : St} {H : Hp} {s : Shared} {a : Addr} {y v : V} {u r : Value} {o : Option V} {A : Around} {E : Value → Shared → Prop}

theorem Inv.big (I : Inv X pins σ H s) : sysModules < s.heap.objs.size := by
  have h : mainGlobals < s.heap.objs.size := (I.mod.glob.keeps I.bk).lt
  exact Nat.lt_trans (by decide) h

end

section
variable {X : Cx} {pins : List (Addr × Obj)} {σ : St} {H : Hp} {s : Shared} {a : Addr} {kvs : List (Key × V)} {k : Key} {u : Value} {A : Around} {E : Value → Shared → Prop}
end


/-! ### readings and rules -/
section
variable {X : Cx} {o i e value : Expr} {pos pos' tpos : Pos} {td ty tv : TE}
end


/-! ### displays -/
section
variable {X : Cx} {pos : Pos}
end

end L2
set_option Elab.async false
set_option linter.all false
set_option maxRecDepth 100000
set_option maxHeartbeats 4000000
namespace Kp
open PySem L2 PySem.Spec PyProof.Rows
end Kp
set_option Elab.async false
set_option linter.all false
set_option maxRecDepth 100000
set_option maxHeartbeats 4000000
namespace Kp
open PySem L2
/-! ### things without lists: they stay while tuples stay -/
mutual
inductive ThN (B : Nat) (H : Hp) : V → Prop
  | non : ThN B H .non
  | bl (b : Bool) : ThN B H (.bl b)
  | int (i : Int) : ThN B H (.int i)
  | str (x : Str) (h : x.length ≤ B) : ThN B H (.str x)
  | tup {a : Addr} {vs : List V} (e : H a = some (.tup vs)) (l : vs.length ≤ B) (r : ThNL B H vs) : ThN B H (.ref a)
inductive ThNL (B : Nat) (H : Hp) : List V → Prop
  | nil : ThNL B H []
  | cons {v : V} {vs : List V} (h : ThN B H v) (t : ThNL B H vs) : ThNL B H (v :: vs)
end
mutual
theorem ThN.sameT {B B' : Nat} {H H' : Hp} (hB : B ≤ B') (s : SameT H H') : ∀ {v}, ThN B H v → ThN B' H' v
  | _, .non => .non
  | _, .bl b => .bl b
  | _, .int i => .int i
  | _, .str x h => .str x (Nat.le_trans h hB)
  | _, .tup e l r => .tup (s _ _ e) (Nat.le_trans l hB) (ThNL.sameT hB s r)
theorem ThNL.sameT {B B' : Nat} {H H' : Hp} (hB : B ≤ B') (s : SameT H H') : ∀ {vs}, ThNL B H vs → ThNL B' H' vs
  | _, .nil => .nil
  | _, .cons h t => .cons (ThN.sameT hB s h) (ThNL.sameT hB s t)
end
mutual
theorem ThN.th {B : Nat} {H : Hp} : ∀ {v}, ThN B H v → Th B H v
  | _, .non => Th.non
  | _, .bl b => Th.bl b
  | _, .int i => Th.int i
  | _, .str x h => Th.str x h
  | _, .tup e l r => Th.tup e l (ThNL.th r)
theorem ThNL.th {B : Nat} {H : Hp} : ∀ {vs}, ThNL B H vs → ThL B H vs
  | _, .nil => ThL.nil
  | _, .cons h t => ThL.cons (ThN.th h) (ThNL.th t)
end
theorem sameT_of {H H' : Hp} (s : Same H H') : SameT H H' := fun b xs e => s _ _ e
theorem ThN.mono {B B' : Nat} {H H' : Hp} {v : V} (h : ThN B H v) (hB : B ≤ B') (s : Same H H') : ThN B' H' v := ThN.sameT hB (sameT_of s) h
theorem ThNL.mono {B B' : Nat} {H H' : Hp} {v : List V} (h : ThNL B H v) (hB : B ≤ B') (s : Same H H') : ThNL B' H' v := ThNL.sameT hB (sameT_of s) h
theorem ThNL.ints {B : Nat} {H : Hp} : ∀ (ns : List Int), ThNL B H (ns.map V.int)
  | [] => .nil
  | n :: r => .cons (.int n) (ThNL.ints r)
theorem ThNL.of {B : Nat} {H : Hp} : ∀ {vs : List V}, (∀ v ∈ vs, ThN B H v) → ThNL B H vs
  | [], _ => .nil
  | v :: vs, h => .cons (h v List.mem_cons_self) (ThNL.of fun u hu => h u (List.mem_cons_of_mem _ hu))
end Kp
set_option Elab.async false
set_option linter.all false
set_option maxRecDepth 100000
set_option maxHeartbeats 4000000
namespace HT
open PySem PySem.Spec PyProof.Rows L2
section
variable {prog : Program} {w : World} {A : Around} {E : Value → Shared → Prop} {s : Shared}
end
end HT
namespace L2
open PySem PySem.Spec PyProof.Rows L2
end L2
set_option Elab.async false
set_option linter.all false
set_option maxRecDepth 100000
set_option maxHeartbeats 4000000
namespace Kp
open PySem L2 PySem.Spec PyProof.Rows
/-! ### the same thing twice: == -/
theorem all_true (n : Nat) : ((List.range n).all fun _ => true) = true := by simp
theorem Vals.at {xs : List V} {us : List Value} (r : Vals xs us) {j : Nat} (h : j < us.toArray.size) : ∃ x, xs[j]? = some x ∧ RelV x us.toArray[j] := by
  have h' : j < us.length := by simpa using h
  have hx : j < xs.length := by rw [r.length]; exact h'
  obtain ⟨u, e, rv⟩ := r.get (i := j) (x := xs[j]) (by simp [hx])
  have e2 : us.toArray[j] = u := by
    have := (List.getElem?_eq_some_iff.mp e).2
    simpa using this
  exact ⟨xs[j], by simp [hx], e2 ▸ rv⟩
end Kp
set_option Elab.async false
set_option linter.all false
set_option maxRecDepth 100000
set_option maxHeartbeats 4000000
namespace K1
open PySem L2 Kp
structure Txt (mg : Str → Option Value) : Prop where
  isi : mg "isinstance" = none
  int : mg "int" = none
  bool : mg "bool" = none
  str : mg "str" = none
  tuple : mg "tuple" = none
  list : mg "list" = none
  all : mg "all" = none
  zip : mg "zip" = none
  len : mg "len" = none
  range : mg "range" = none
  max : mg "max" = none
  min : mg "min" = none
  sorted : mg "sorted" = none
  any : mg "any" = none
  sum : mg "sum" = none
section
variable {P : Program} {w : World} {K : PySem.W.Frag} {mg : Str → Option Value} {base : Heap}
theorem SqT.same {H H' : Hp} {a : Addr} {xs : List V} (h : SqT K H a xs) (s : Same H H') : SqT K H' a xs := by
  rcases h with h | h
  · exact .inl (h.elim (fun e => .inl (s _ _ e)) fun ⟨o, e⟩ => .inr ⟨o, s _ _ e⟩)
  · exact .inr h
theorem SqL.same {H H' : Hp} {a : Addr} {xs : List V} (h : SqL K H a xs) (s : Same H H') : SqL K H' a xs := by
  rcases h with h | h
  · exact .inl (h.elim (fun e => .inl (s _ _ e)) fun ⟨o, e⟩ => .inr ⟨o, s _ _ e⟩)
  · exact .inr h
theorem emod_in (x : Int) {m : Int} (h : 0 < m) : 0 ≤ x % m ∧ x % m < m := ⟨Int.emod_nonneg _ (Int.ne_of_gt h), Int.emod_lt_of_pos _ h⟩
end
end K1
set_option Elab.async false
set_option linter.all false
set_option maxRecDepth 100000
set_option maxHeartbeats 4000000
namespace L2
open PySem PySem.Spec PyProof.Rows
/-! ### rows of ints -/
def isInt (z : Int) : Value → Bool
  | .int i _ => i == z
  | _ => false
end L2
set_option Elab.async false
set_option linter.all false
set_option maxRecDepth 100000
set_option maxHeartbeats 4000000
namespace L2
open PySem PySem.Spec PyProof.Rows
/-! ### a tuple whose methods may be called: it has no dict of its own -/
def TupF (H : Hp) (a : Addr) (ys : List V) : Prop := ∃ o : Obj, H a = some (.frz o (.tup ys)) ∧ o.cls = .type "tuple" ∧ o.dict = none
theorem TupF.sq {K : PySem.W.Frag} {H : Hp} {a : Addr} {ys : List V} (h : TupF H a ys) : SqT K H a ys := by
  obtain ⟨o, e, _⟩ := h
  exact .inl (.inr ⟨o, e⟩)
section
variable {X : Cx}
variable {o e : Expr} {es : List Expr} {to : TE} {t : TA} {name : Str} {apos cpos : Pos} {id : String} {r : V → List V → Hp → VK → Prop}
end
end L2
set_option Elab.async false
set_option linter.all false
set_option maxRecDepth 100000
set_option maxHeartbeats 4000000
namespace L2
open PySem PySem.Spec PyProof.Rows
/-! ### rows of ints: remove, sorted -/
section
variable {X : Cx}
end
end L2
namespace K1
open PySem L2 Kp
theorem PS.weakU {X : Cx} {st : Stmt} {t t' : TS} (h : PS X st t) (w : ∀ D σ H, t' D σ H → t D σ H) : PS X st t' := fun pins s σ H D I q => h pins s σ H D I (w D σ H q)
theorem boot_max : bootBuiltins "max" = some (.builtin "max") := by decide +kernel
end K1
set_option Elab.async false
set_option linter.all false
set_option maxRecDepth 100000
set_option maxHeartbeats 4000000
namespace L2
open PySem PySem.Spec PyProof.Rows
/-! ### two tuples of flat things compared -/
section
variable {X : Cx}
end
end L2
namespace K1
open PySem L2 Kp
theorem SqT.same' {K : PySem.W.Frag} {H H' : Hp} {a : Addr} {xs : List V} (h : SqT K H a xs) (s : Same H H') : SqT K H' a xs := by
  rcases h with h | h
  · exact .inl (h.elim (fun e => .inl (s _ _ e)) fun ⟨o, e⟩ => .inr ⟨o, s _ _ e⟩)
  · exact .inr h
theorem SqL.same' {K : PySem.W.Frag} {H H' : Hp} {a : Addr} {xs : List V} (h : SqL K H a xs) (s : Same H H') : SqL K H' a xs := by
  rcases h with h | h
  · exact .inl (h.elim (fun e => .inl (s _ _ e)) fun ⟨o, e⟩ => .inr ⟨o, s _ _ e⟩)
  · exact .inr h
end K1
set_option Elab.async false
set_option linter.all false
set_option maxRecDepth 100000
set_option maxHeartbeats 4000000
namespace K1
open PySem L2 Kp
section
variable {P : Program} {w : World} {K : PySem.W.Frag} {mg : Str → Option Value} {base : Heap}
/-! ### a whole number -/
def spWholeI : Sp := fun vs H Q _ => ∃ z : Int, vs = [.int z] ∧ Q (.bl true) H
theorem scWh : FnScope ["_law_found"] ["_law_found"] (defScope s__law_whole) := ⟨rfl, rfl, rfl, by decide +kernel, rfl, by decide +kernel, by decide +kernel⟩
theorem ok_wholeI {f : Addr} {fd : FuncData} (F : Fun K "_law_whole" "_law_whole" s__law_whole f fd) (T : Txt mg) : FnOk P w K mg base CX0 1 f fd ["_law_found"] spWholeI := by
  refine F.ok scWh (fun vs H Q E ⟨_, e, _⟩ => by subst e; rfl) (fun cdv A outer s H vs Q E hr h => ?_)
  obtain ⟨z, rfl, q⟩ := h
  refine ⟨_, @pss_o _ _ _ (ps_ret (pe_and (pe_callB call_isi (by rfl) T.isi boot_isi (pa_n (pv 0) (pa_n (pe_ty (by rfl) T.int boot_int) pa_nil))) (pe_one (pe_not (pe_callB call_isi (by rfl) T.isi boot_isi (pa_n (pv 0) (pa_n (pe_ty (by rfl) T.bool boot_bool) pa_nil))))))), ?_⟩
  exact ⟨_, rfl, _, _, _, _, rfl, .int _, kit_int K (.int z), _, rfl, iteT ⟨_, rfl, _, _, _, _, rfl, .int _, kit_bool K (.int z), _, rfl, q⟩⟩
end
end K1
set_option Elab.async false
set_option linter.all false
set_option maxRecDepth 100000
set_option maxHeartbeats 4000000
namespace Kp
open PySem L2 PySem.Spec PyProof.Rows
/-! ### a sort of fewer than 64 things whose keys are all unlike, by any kind of comparing -/
abbrev Ord := PyProof.Rows.KeyKind
section
variable {prog : Program} {w : World} {A : Around} {E : Value → Shared → Prop} {s : Shared} {a0 : Array Keyed} {κ : Ord} {kd : SortKind} {st : SortSt}
structure TB (κ : Ord) (kd : SortKind) (a0 : Array Keyed) (st : SortSt) : Prop where
  pm : (arrOf st).Perm a0
  kn : kindOf st = kd
  fl : failedOf st = none
  pe : pendingOf st = #[]
  un : ∀ i j, i < a0.size → j < a0.size → KK κ (arrOf st) i = KK κ (arrOf st) j → i = j
def Up (κ : Ord) (xs : Array Keyed) (k : Nat) : Prop := ∀ i j, i < j → j < k → κ.blt (KK κ xs i) (KK κ xs j) = true
def Dn (κ : Ord) (xs : Array Keyed) (k : Nat) : Prop := ∀ i j, i < j → j < k → κ.blt (KK κ xs j) (KK κ xs i) = true
theorem TB.sz (B : TB κ kd a0 st) : (arrOf st).size = a0.size := B.pm.size_eq
theorem TB.lt (B : TB κ kd a0 st) {i j : Nat} (hi : i < a0.size) (hj : j < a0.size) (hne : i ≠ j) (h : κ.blt (KK κ (arrOf st) i) (KK κ (arrOf st) j) = false) : κ.blt (KK κ (arrOf st) j) (KK κ (arrOf st) i) = true := by
  cases e : κ.blt (KK κ (arrOf st) j) (KK κ (arrOf st) i) with
  | true => rfl
  | false => exact absurd (B.un i j hi hj (κ.total _ _ h e)) hne
theorem Up.more (B : TB κ kd a0 st) {x : Nat} (h1 : 1 ≤ x) (hx : x < a0.size) (u : Up κ (arrOf st) x) (h : κ.blt (KK κ (arrOf st) x) (KK κ (arrOf st) (x - 1)) = false) : Up κ (arrOf st) (x + 1) := by
  intro i j hij hj
  by_cases hjx : j < x
  · exact u i j hij hjx
  · obtain rfl : j = x := by omega
    have t := B.lt hx (by omega) (by omega) h
    by_cases hi : i = j - 1
    · subst hi; exact t
    · exact κ.trans _ _ _ (u i (j - 1) (by omega) (by omega)) t
theorem Dn.more {x : Nat} {xs : Array Keyed} (h1 : 1 ≤ x) (u : Dn κ xs x) (h : κ.blt (KK κ xs x) (KK κ xs (x - 1)) = true) : Dn κ xs (x + 1) := by
  intro i j hij hj
  by_cases hjx : j < x
  · exact u i j hij hjx
  · obtain rfl : j = x := by omega
    by_cases hi : i = j - 1
    · subst hi; exact h
    · exact κ.trans _ _ _ h (u i (j - 1) (by omega) (by omega))
def TD (κ : Ord) (a0 : Array Keyed) (st : SortSt) : Prop := (arrOf st).Perm a0 ∧ failedOf st = none ∧ pendingOf st = #[(0, a0.size, 0)] ∧ Up κ (arrOf st) a0.size
theorem TB.td (B : TB κ kd a0 st) (u : Up κ (arrOf st) a0.size) : TD κ a0 (setPending st ((pendingOf st).push (0, a0.size, 0))) :=
  ⟨B.pm, B.fl, by show (pendingOf st).push _ = _; rw [B.pe]; rfl, u⟩
end
end Kp
set_option Elab.async false
set_option linter.all false
set_option maxRecDepth 100000
set_option maxHeartbeats 4000000
namespace Kp
open PySem L2 PySem.Spec PyProof.Rows
/-! ### sorted(list of tuples that begin with unlike texts) -/
def TupS (h : Heap) (v : Value) (k : Str) : Prop := ∃ (p : Addr) (t : Tok) (xs : List Value), v = .ref p ∧ h.IsTuple p (Value.str k t :: xs).toArray
theorem TupS.kept {h h' : Heap} {v : Value} {k : Str} (x : TupS h v k) (o : ∀ b u, h.get? b = some u → h'.get? b = some u) : TupS h' v k := by
  obtain ⟨p, t, xs, rfl, u, hu, e⟩ := x
  exact ⟨p, t, xs, rfl, u, o _ _ hu, e⟩
section
variable {prog : Program} {w : World} {A : Around} {E : Value → Shared → Prop} {s : Shared}
end
end Kp
set_option Elab.async false
set_option linter.all false
set_option maxRecDepth 100000
set_option maxHeartbeats 4000000
namespace Kp
open PySem L2 PySem.Spec PyProof.Rows
/-- the key of a tuple: its first text, in a heap -/
def headOf (h : Heap) : Value → Option (List Nat)
  | .ref p => match h.get? p with
    | some ⟨_, _, .seq xs _, _⟩ => match (xs[0]? : Option Value) with
      | some (.str k _) => some k.cps.toList
      | _ => none
    | _ => none
  | _ => none
theorem TupS.key {h : Heap} {v : Value} {k : Str} (x : TupS h v k) : headOf h v = some k.cps.toList := by
  obtain ⟨p, t, xs, rfl, ⟨cls, dd, data, sl⟩, ho, hc, n, hd⟩ := x
  simp only at hd
  subst hd
  unfold headOf
  simp only [ho]
  rfl
section
variable {prog : Program} {w : World} {A : Around} {E : Value → Shared → Prop} {s : Shared}
end
end Kp
set_option Elab.async false
set_option linter.all false
set_option maxRecDepth 100000
set_option maxHeartbeats 4000000
namespace Kp
open PySem L2 PySem.Spec PyProof.Rows
/-- a text before another by the alphabet -/
def before (a b : Str) : Prop := a.cps.toList < b.cps.toList
section
variable {X : Cx}
end
end Kp
set_option Elab.async false
set_option linter.all false
set_option maxRecDepth 100000
set_option maxHeartbeats 4000000
namespace Kp
open PySem L2 PySem.Spec PyProof.Rows
/-! ### sorted(dict of texts), sorted(list of texts): rising -/
section
variable {X : Cx}
end
end Kp
set_option Elab.async false
set_option linter.all false
set_option maxRecDepth 100000
set_option maxHeartbeats 4000000
namespace L2
open PySem PySem.Spec PyProof.Rows
/-! ### t + u of two tuples, however they are known -/
end L2
namespace K1
open PySem L2 Kp
/-! ### rows: a base, a last term, entries with their terms -/
inductive Ents (H : Hp) : List V → List Int → Prop
  | nil : Ents H [] []
  | cons {p : Addr} {x : V} {t : Int} {vs : List V} {ts : List Int} : H p = some (.tup [.int t, x]) → ThN 16 H x → Ents H vs ts → Ents H (.ref p :: vs) (t :: ts)
theorem Ents.same {H H' : Hp} (s : Same H H') : ∀ {vs ts}, Ents H vs ts → Ents H' vs ts
  | _, _, .nil => .nil
  | _, _, .cons e t r => .cons (s _ _ e) (t.mono (Nat.le_refl _) s) (Ents.same s r)
theorem Ents.length {H : Hp} : ∀ {vs ts}, Ents H vs ts → vs.length = ts.length
  | _, _, .nil => rfl
  | _, _, .cons _ _ r => by rw [List.length_cons, List.length_cons, Ents.length r]
theorem Ents.append {H : Hp} : ∀ {vs ts us rs}, Ents H vs ts → Ents H us rs → Ents H (vs ++ us) (ts ++ rs)
  | _, _, _, _, .nil, r => r
  | _, _, _, _, .cons e t r, q => .cons e t (Ents.append r q)
theorem Ents.get {H : Hp} : ∀ {vs : List V} {ts : List Int} {i : Nat} (h : i < ts.length), Ents H vs ts → ∃ p x, vs[i]? = some (.ref p) ∧ H p = some (.tup [.int ts[i], x]) ∧ ThN 16 H x
  | _, _, _, h, .nil => absurd h (Nat.not_lt_zero _)
  | _, _, 0, _, .cons e t _ => ⟨_, _, rfl, e, t⟩
  | _, _, i + 1, h, .cons _ _ r => Ents.get (i := i) (by simpa using h) r
theorem Ents.take {H : Hp} : ∀ {vs : List V} {ts : List Int} (n : Nat), Ents H vs ts → Ents H (vs.take n) (ts.take n)
  | _, _, 0, _ => by rw [List.take_zero, List.take_zero]; exact .nil
  | _, _, _ + 1, .nil => .nil
  | _, _, n + 1, .cons e t r => .cons e t (Ents.take n r)
theorem Ents.drop {H : Hp} : ∀ {vs : List V} {ts : List Int} (n : Nat), Ents H vs ts → Ents H (vs.drop n) (ts.drop n)
  | _, _, 0, r => r
  | _, _, _ + 1, .nil => .nil
  | _, _, n + 1, .cons _ _ r => Ents.drop n r
structure RowX (K : PySem.W.Frag) (H : Hp) (v : V) (b l : Int) (es : List V) (ts : List Int) : Prop where
  ex : ∃ rb c, v = .ref rb ∧ H rb = some (.tup [.int b, .int l, .ref c]) ∧ H c = some (.tup es)
  ents : Ents H es ts
  few : ts.length ≤ 900
theorem RowX.same {K : PySem.W.Frag} {H H' : Hp} {v : V} {b l : Int} {es : List V} {ts : List Int} (r : RowX K H v b l es ts) (s : Same H H') : RowX K H' v b l es ts :=
  let ⟨rb, c, e, h1, h2⟩ := r.ex
  ⟨⟨rb, c, e, s _ _ h1, s _ _ h2⟩, r.ents.same s, r.few⟩
def RowV (K : PySem.W.Frag) (H : Hp) (v : V) (b l : Int) (ts : List Int) : Prop := ∃ es, RowX K H v b l es ts
theorem RowV.same {K : PySem.W.Frag} {H H' : Hp} {v : V} {b l : Int} {ts : List Int} (r : RowV K H v b l ts) (s : Same H H') : RowV K H' v b l ts :=
  let ⟨es, x⟩ := r
  ⟨es, x.same s⟩
theorem ndec {p : Prop} [Decidable p] (h : ¬ decide p = true) : ¬ p := fun g => h (decide_eq_true g)
theorem getD_at {ts : List Int} {i : Nat} (h : i < ts.length) : ts.getD i 0 = ts[i] := by simp [h]
end K1
set_option Elab.async false
set_option linter.all false
set_option maxRecDepth 100000
set_option maxHeartbeats 4000000
namespace Kp
open PySem L2 PySem.Spec PyProof.Rows
/-! ### things that are the same at every part, however they are known: == is True -/
inductive Alike (K : PySem.W.Frag) (H : Hp) : Nat → V → V → Prop
  | flat {n : Nat} {v : V} (h : flatV v = true) : Alike K H n v v
  | ref {n : Nat} (a : Addr) : Alike K H n (.ref a) (.ref a)
  | tup {n : Nat} {a b : Addr} {xs ys : List V} (h1 : SqT K H a xs) (h2 : SqT K H b ys) (hl : xs.length = ys.length) (h : ∀ (i : Nat) (x y : V), xs[i]? = some x → ys[i]? = some y → Alike K H n x y) : Alike K H (n + 1) (.ref a) (.ref b)
theorem Alike.self {K : PySem.W.Frag} {H : Hp} {n B : Nat} {v : V} (t : ThN B H v) : Alike K H n v v := by
  cases t with
  | tup e l r => exact .ref _
  | _ => exact .flat rfl
theorem eqV_self {v : V} (h : flatV v = true) : eqV v v = true := by
  cases v with
  | bl b => cases b <;> rfl
  | int i => simp [eqV]
  | str x => simp [eqV]
  | non => rfl
  | _ => cases h
theorem eq_alike {X : Cx} {pins : List (Addr × Obj)} {σ : L2.St} {H : Hp} {s : Shared} (I : Inv X pins σ H s) : ∀ (n : Nat) (v u : V) (uv uu : Value) (A : Around), Alike X.K H n v u → RelV v uv → RelV u uu → A.units + n < cLine → SeqAt.EqAt A s uv uu true := by
  intro n
  induction n with
  | zero =>
    intro v u uv uu A h rv ru hu
    cases h with
    | flat f =>
      have := eqAt_V (A := A) (s := s) rv ru f f
      rw [eqV_self f] at this
      exact this
    | ref a => cases rv; cases ru; exact .same _
  | succ n ih =>
    intro v u uv uu A h rv ru hu
    cases h with
    | flat f =>
      have := eqAt_V (A := A) (s := s) rv ru f f
      rw [eqV_self f] at this
      exact this
    | ref a => cases rv; cases ru; exact .same _
    | @tup _ a b xs ys h1 h2 hl h =>
      cases rv
      cases ru
      by_cases hab : a = b
      · subst hab; exact .same _
      · refine SeqAt.EqAt.of_refs hab ?_
        have hu0 : A.units < cLine := by omega
        obtain ⟨its, q1, p1, _⟩ := I.tuple h1
        obtain ⟨jts, q2, p2, _⟩ := I.tuple h2
        have hl2 : its.toArray.size = jts.toArray.size := by simp [← q1.length, ← q2.length, hl]
        have z := SeqAt.RcAt.tuples (e := fun _ => true) (show s.heap.IsTuple a its.toArray from p1) (show s.heap.IsTuple b jts.toArray from p2) hu0 (fun j g1 g2 => by
          obtain ⟨x, ex, rx⟩ := Vals.at q1 g1
          obtain ⟨y, ey, ry⟩ := Vals.at q2 g2
          exact ih x y _ _ A.in1 (h j x y ex ey) rx ry (by show A.units + 1 + n < cLine; omega))
        rw [all_true, hl2, beq_self_eq_true] at z
        exact z
def rAl (K : PySem.W.Frag) (c : Bool) : R2 := fun x y H Q => ∃ p q xs ys n, x = .ref p ∧ y = .ref q ∧ SqT K H p xs ∧ SqT K H q ys ∧ xs.length = ys.length ∧ (∀ (i : Nat) (x y : V), xs[i]? = some x → ys[i]? = some y → Alike K H n x y) ∧ n ≤ 90 ∧ Q (.bl c) H
theorem op_eqA {X : Cx} (hu : X.A.units + 100 < cLine) : OpR X (compareOp .Eq) (rAl X.K true) := by
  intro pins s σ H x y v u Q I rx ry h
  obtain ⟨p, q', xs, ys, n, rfl, rfl, h1, h2, hl, h, hn, q⟩ := h
  cases rx
  cases ry
  obtain ⟨its, q1, p1, _⟩ := I.tuple h1
  obtain ⟨jts, q2, p2, _⟩ := I.tuple h2
  have hl2 : its.toArray.size = jts.toArray.size := by simp [← q1.length, ← q2.length, hl]
  refine SeqAt.eq_tupleAt (e := fun _ => true) (show s.heap.IsTuple p its.toArray from p1) (show s.heap.IsTuple q' jts.toArray from p2) (by omega) (fun j g1 g2 => ?_) ⟨.bl true, H, I, ?_, q⟩
  · obtain ⟨x, ex, rx⟩ := Vals.at q1 g1
    obtain ⟨y, ey, ry⟩ := Vals.at q2 g2
    exact eq_alike I n x y _ _ X.A.in1 (h j x y ex ey) rx ry (by show X.A.units + 1 + n < cLine; omega)
  · rw [all_true, hl2, beq_self_eq_true]; rfl
theorem op_neA {X : Cx} (hu : X.A.units + 100 < cLine) : OpR X (compareOp .NotEq) (rAl X.K false) := by
  intro pins s σ H x y v u Q I rx ry h
  obtain ⟨p, q', xs, ys, n, rfl, rfl, h1, h2, hl, h, hn, q⟩ := h
  cases rx
  cases ry
  obtain ⟨its, q1, p1, _⟩ := I.tuple h1
  obtain ⟨jts, q2, p2, _⟩ := I.tuple h2
  have hl2 : its.toArray.size = jts.toArray.size := by simp [← q1.length, ← q2.length, hl]
  refine SeqAt.RcNeAt.tuples (e := fun _ => true) (show s.heap.IsTuple p its.toArray from p1) (show s.heap.IsTuple q' jts.toArray from p2) (by omega) (fun j g1 g2 => ?_) X.prog X.w X.xe _ ⟨.bl false, H, I, ?_, q⟩
  · obtain ⟨x, ex, rx⟩ := Vals.at q1 g1
    obtain ⟨y, ey, ry⟩ := Vals.at q2 g2
    exact eq_alike I n x y _ _ X.A.in1 (h j x y ex ey) rx ry (by show X.A.units + 1 + n < cLine; omega)
  · rw [all_true, hl2, beq_self_eq_true]; rfl
end Kp
namespace L2
open PySem
theorem Room.units100 {k : Nat} {A : Around} (r : Room k A) : A.units + 100 < cLine := by have := r.un; omega
end L2
set_option Elab.async false
set_option linter.all false
set_option maxRecDepth 100000
set_option maxHeartbeats 1000000
namespace L2
open PySem PySem.Spec PyProof.Rows
/-! ### max of a list of ints; min of one, with a default -/
section
variable {prog : Program} {w : World} {A : Around} {R : Result → Shared → Prop} {it : Addr} {fp wr : List Addr} {n : Nat} {Pv : Nat → Value → Prop} {St : Nat → Heap → Prop} {dv : Value}
end
section
variable {X : Cx}
end
end L2
namespace K1
open PySem L2 Kp
end K1
namespace Kp
open PySem L2
theorem Cal.mono {P : Program} {w : World} {K : PySem.W.Frag} {mg : Str → Option Value} {base : Heap} {x : Str} {k k' : Nat} {ps : List Str} {sp : Sp} (C : Cal P w K mg base x k ps sp) (h : k ≤ k') : Cal P w K mg base x k' ps sp :=
  let ⟨f, fd, F, a, b, c⟩ := C.ex
  ⟨⟨f, fd, F.mono h, a, b, c⟩⟩
end Kp
set_option Elab.async false
set_option linter.all false
set_option maxRecDepth 100000
set_option maxHeartbeats 4000000
namespace Kp
open PySem L2
end Kp
namespace K1
open PySem L2 Kp
/-! ### rows of a store: a name and whole numbers -/
abbrev Rw := Str × List Int
instance (a b : Str) : Decidable (before a b) := inferInstanceAs (Decidable (a.cps.toList < b.cps.toList))
theorem before_irrefl (a : Str) : ¬ before a a := List.lt_irrefl _
theorem before_ne {a b : Str} (h : before a b) : a ≠ b := fun e => before_irrefl _ (e ▸ h)
structure RwOk (W : List Str) (n : Nat) (rs : List Rw) : Prop where
  up : rs.Pairwise fun a b => before a.1 b.1
  inW : ∀ r ∈ rs, r.1 ∈ W
  sz : ∀ r ∈ rs, r.2.length = n
theorem nodup_len : ∀ (l W : List Str), l.Nodup → (∀ x ∈ l, x ∈ W) → l.length ≤ W.length
  | [], _, _, _ => Nat.zero_le _
  | x :: l, W, hn, h => by
    have hx := h x List.mem_cons_self
    rw [List.nodup_cons] at hn
    have := nodup_len l (W.erase x) hn.2 fun y hy => (List.mem_erase_of_ne (fun e : y = x => hn.1 (by rw [← e]; exact hy))).mpr (h y (List.mem_cons_of_mem _ hy))
    rw [List.length_erase_of_mem hx] at this
    have := List.length_pos_of_mem hx
    rw [List.length_cons]
    omega
theorem RwOk.nodup {W : List Str} {n : Nat} {rs : List Rw} (h : RwOk W n rs) : (rs.map (·.1)).Nodup := by
  unfold List.Nodup
  rw [List.pairwise_map]
  exact h.up.imp fun h => before_ne h
theorem RwOk.len {W : List Str} {n : Nat} {rs : List Rw} (h : RwOk W n rs) : rs.length ≤ W.length := by
  have := nodup_len _ W h.nodup fun x hx => by
    obtain ⟨r, hr, rfl⟩ := List.mem_map.mp hx
    exact h.inW r hr
  rwa [List.length_map] at this
/-- a row put at its place by the alphabet -/
def putF (rs : List Rw) (r : Rw) : List Rw := rs.filter (fun x => decide (before x.1 r.1)) ++ r :: rs.filter fun x => decide (before r.1 x.1)
/-- the value that stands at a name -/
def valF (rs : List Rw) (n : Str) : Int := match rs.filter fun r => decide (r.1 = n) with
  | [] => 0
  | r :: _ => r.2.headD 0
inductive Deed | get (n : Str) | set (n : Str) (x : Int) | add (n : Str) (x : Int)
def Deed.nm : Deed → Str
  | .get n => n
  | .set n _ => n
  | .add n _ => n
abbrev Sto := List Rw × List Rw
def doneF (S : Sto) : Deed → Sto × Int
  | .get n => (S, valF S.1 n)
  | .add n x => ((putF S.1 (n, [valF S.1 n + x]), S.2), valF S.1 n + x)
  | .set n x => ((putF S.1 (n, [x]), S.2), valF S.1 n)
structure StoOk (W C : List Str) (S : Sto) : Prop where
  ns : RwOk W 1 S.1
  cs : RwOk C 2 S.2
  ge : ∀ r ∈ S.2, 1 ≤ r.2.headD 0
/-! ### in the heap -/
inductive Rws (H : Hp) : List V → List Rw → Prop
  | nil : Rws H [] []
  | cons {p : Addr} {n : Str} {is : List Int} {vs : List V} {rs : List Rw} : H p = some (.tup (.str n :: is.map V.int)) → Rws H vs rs → Rws H (.ref p :: vs) ((n, is) :: rs)
theorem Rws.sameT {H H' : Hp} (s : SameT H H') : ∀ {vs rs}, Rws H vs rs → Rws H' vs rs
  | _, _, .nil => .nil
  | _, _, .cons e r => .cons (s _ _ e) (Rws.sameT s r)
theorem Rws.same {H H' : Hp} {vs : List V} {rs : List Rw} (h : Rws H vs rs) (s : Same H H') : Rws H' vs rs := h.sameT (sameT_of s)
theorem Rws.length {H : Hp} : ∀ {vs rs}, Rws H vs rs → vs.length = rs.length
  | _, _, .nil => rfl
  | _, _, .cons _ r => by rw [List.length_cons, List.length_cons, Rws.length r]
theorem Rws.get {H : Hp} : ∀ {vs : List V} {rs : List Rw} {i : Nat} (h : i < rs.length), Rws H vs rs → ∃ p, vs[i]? = some (.ref p) ∧ H p = some (.tup (.str (rs[i]).1 :: (rs[i]).2.map V.int))
  | _, _, _, h, .nil => absurd h (Nat.not_lt_zero _)
  | _, _, 0, _, .cons e _ => ⟨_, rfl, e⟩
  | _, _, i + 1, h, .cons _ r => Rws.get (i := i) (by simpa using h) r
theorem Rws.append {H : Hp} : ∀ {vs rs us qs}, Rws H vs rs → Rws H us qs → Rws H (vs ++ us) (rs ++ qs)
  | _, _, _, _, .nil, r => r
  | _, _, _, _, .cons e r, q => .cons e (Rws.append r q)
def RwT (H : Hp) (a : Addr) (rs : List Rw) : Prop := ∃ vs, H a = some (.tup vs) ∧ Rws H vs rs
theorem RwT.same {H H' : Hp} {a : Addr} {rs : List Rw} (h : RwT H a rs) (s : Same H H') : RwT H' a rs := let ⟨vs, e, r⟩ := h; ⟨vs, s _ _ e, r.same s⟩
def StV (H : Hp) (v : V) (S : Sto) : Prop := ∃ s a c, v = .ref s ∧ H s = some (.tup [.ref a, .ref c]) ∧ RwT H a S.1 ∧ RwT H c S.2
theorem StV.same {H H' : Hp} {v : V} {S : Sto} (h : StV H v S) (s : Same H H') : StV H' v S := let ⟨p, a, c, e, h1, h2, h3⟩ := h; ⟨p, a, c, e, s _ _ h1, h2.same s, h3.same s⟩
theorem RwT.alike {K : PySem.W.Frag} {H : Hp} {a c : Addr} {rs : List Rw} (h : RwT H a rs) (h' : RwT H c rs) : Alike K H 2 (.ref a) (.ref c) := by
  obtain ⟨vs, e, r⟩ := h
  obtain ⟨us, e', r'⟩ := h'
  refine .tup (SqT.of e) (SqT.of e') (by rw [r.length, r'.length]) fun i x y hx hy => ?_
  have hi : i < rs.length := by rw [← r.length]; exact (List.getElem?_eq_some_iff.mp hx).1
  obtain ⟨p, g, hp⟩ := r.get hi
  obtain ⟨q, g', hq⟩ := r'.get hi
  rw [g] at hx
  rw [g'] at hy
  cases hx
  cases hy
  refine .tup (SqT.of hp) (SqT.of hq) rfl fun j x y hx hy => ?_
  rw [hx] at hy
  cases hy
  cases j with
  | zero => cases hx; exact .flat rfl
  | succ j =>
    rw [List.getElem?_cons_succ, List.getElem?_map] at hx
    cases e2 : (rs[i]).2[j]? with
    | none => rw [e2] at hx; cases hx
    | some z => rw [e2] at hx; cases hx; exact .flat rfl
def DeedV (H : Hp) (v : V) : Deed → Prop
  | .get n => ∃ p, v = .ref p ∧ H p = some (.tup [.str "get", .str n])
  | .set n x => ∃ p, v = .ref p ∧ H p = some (.tup [.str "set", .str n, .int x])
  | .add n x => ∃ p, v = .ref p ∧ H p = some (.tup [.str "add", .str n, .int x])
theorem DeedV.same {H H' : Hp} {v : V} {d : Deed} (h : DeedV H v d) (s : Same H H') : DeedV H' v d := by
  cases d <;> (obtain ⟨p, e, hp⟩ := h; exact ⟨p, e, s _ _ hp⟩)
end K1
set_option Elab.async false
set_option linter.all false
set_option maxRecDepth 100000
namespace Kp
open PySem L2
/-! ### displays of written flat things, as they are -/
def tFix (xs : List V) : TA := fun _ H Q => Q xs H
structure FA (X : Cx) (es : List Expr) (xs : List V) : Prop where
  h : PA X es (tFix xs)
section
variable {X : Cx} {es : List Expr} {xs : List V} {p : Pos} {j : Nat}
end
end Kp
namespace Kp
open PySem L2
end Kp
namespace Kp
open PySem L2
end Kp
set_option Elab.async false
set_option linter.all false
set_option maxRecDepth 100000
set_option maxHeartbeats 4000000
namespace K1
open PySem L2 Kp
/-! ### what an entry holds, and what it does to a store -/
inductive What | opn | seats (ms : List Int) | wish (c : Str) (n : Int) (d : Deed)
def WhatV (H : Hp) (v : V) : What → Prop
  | .opn => ∃ p, v = .ref p ∧ H p = some (.tup [.str "open"])
  | .seats ms => ∃ p q, v = .ref p ∧ H p = some (.tup [.str "seats", .ref q]) ∧ H q = some (.tup (ms.map V.int))
  | .wish c n d => ∃ p u, v = .ref p ∧ H p = some (.tup [.str "wish", .str c, .int n, u]) ∧ DeedV H u d
theorem WhatV.same {H H' : Hp} {v : V} {x : What} (h : WhatV H v x) (s : Same H H') : WhatV H' v x := by
  cases x with
  | opn => obtain ⟨p, e, hp⟩ := h; exact ⟨p, e, s _ _ hp⟩
  | seats ms => obtain ⟨p, q, e, hp, hq⟩ := h; exact ⟨p, q, e, s _ _ hp, s _ _ hq⟩
  | wish c n d => obtain ⟨p, u, e, hp, hd⟩ := h; exact ⟨p, u, e, s _ _ hp, hd.same s⟩
/-- the number and the answer that stand with a caller -/
def standF (rs : List Rw) (c : Str) : Int × Int := match rs.find? fun r => decide (r.1 = c) with
  | some r => (r.2.headD 0, r.2.getD 1 0)
  | none => (0, 0)
def applyF (S : Sto) : What → Sto
  | .wish c n d => if n ≤ (standF S.2 c).1 then S else ((doneF S d).1.1, putF S.2 (c, [n, (doneF S d).2]))
  | _ => S
/-- a wish that was applied stands: applied once more it does nothing -/
def Knows (S : Sto) : What → Prop
  | .wish c n _ => n ≤ (standF S.2 c).1
  | _ => True
theorem Knows.id {S : Sto} {x : What} (h : Knows S x) : applyF S x = S := by
  cases x with
  | wish c n d => unfold applyF; exact if_pos h
  | opn => rfl
  | seats ms => rfl
end K1
set_option Elab.async false
set_option linter.all false
set_option maxRecDepth 100000
set_option maxHeartbeats 4000000
namespace K1
open PySem L2 Kp
/-! ### wishes done twice over change nothing more -/
/-! ### entries with what they hold -/
inductive EW (H : Hp) : List V → List What → Prop
  | nil : EW H [] []
  | cons {p : Addr} {t : Int} {u : V} {x : What} {vs : List V} {xs : List What} : H p = some (.tup [.int t, u]) → WhatV H u x → EW H vs xs → EW H (.ref p :: vs) (x :: xs)
theorem EW.same {H H' : Hp} (s : Same H H') : ∀ {vs xs}, EW H vs xs → EW H' vs xs
  | _, _, .nil => .nil
  | _, _, .cons e w r => .cons (s _ _ e) (w.same s) (EW.same s r)
theorem EW.length {H : Hp} : ∀ {vs xs}, EW H vs xs → vs.length = xs.length
  | _, _, .nil => rfl
  | _, _, .cons _ _ r => by rw [List.length_cons, List.length_cons, EW.length r]
theorem EW.get {H : Hp} : ∀ {vs : List V} {xs : List What} {i : Nat} (h : i < xs.length), EW H vs xs → ∃ p t u, vs[i]? = some (.ref p) ∧ H p = some (.tup [.int t, u]) ∧ WhatV H u xs[i]
  | _, _, _, h, .nil => absurd h (Nat.not_lt_zero _)
  | _, _, 0, _, .cons e w _ => ⟨_, _, _, rfl, e, w⟩
  | _, _, i + 1, h, .cons _ _ r => EW.get (i := i) (by simpa using h) r
theorem EW.append {H : Hp} : ∀ {vs xs us ys}, EW H vs xs → EW H us ys → EW H (vs ++ us) (xs ++ ys)
  | _, _, _, _, .nil, r => r
  | _, _, _, _, .cons e w r, q => .cons e w (EW.append r q)
theorem EW.take {H : Hp} : ∀ {vs : List V} {xs : List What} (n : Nat), EW H vs xs → EW H (vs.take n) (xs.take n)
  | _, _, 0, _ => by rw [List.take_zero, List.take_zero]; exact .nil
  | _, _, _ + 1, .nil => .nil
  | _, _, n + 1, .cons e w r => .cons e w (EW.take n r)
theorem EW.drop {H : Hp} : ∀ {vs : List V} {xs : List What} (n : Nat), EW H vs xs → EW H (vs.drop n) (xs.drop n)
  | _, _, 0, r => r
  | _, _, _ + 1, .nil => .nil
  | _, _, n + 1, .cons _ _ r => EW.drop n r
end K1
set_option Elab.async false
set_option linter.all false
set_option maxRecDepth 100000
set_option maxHeartbeats 4000000
namespace K1
open PySem L2 Kp
/-! ### packs, and the entries that come behind them -/
abbrev En := Int × What
inductive ET (H : Hp) : List V → List En → Prop
  | nil : ET H [] []
  | cons {p : Addr} {t : Int} {u : V} {x : What} {vs : List V} {es : List En} : H p = some (.tup [.int t, u]) → WhatV H u x → ET H vs es → ET H (.ref p :: vs) ((t, x) :: es)
theorem ET.same {H H' : Hp} (s : Same H H') : ∀ {vs es}, ET H vs es → ET H' vs es
  | _, _, .nil => .nil
  | _, _, .cons e w r => .cons (s _ _ e) (w.same s) (ET.same s r)
theorem ET.length {H : Hp} : ∀ {vs es}, ET H vs es → vs.length = es.length
  | _, _, .nil => rfl
  | _, _, .cons _ _ r => by rw [List.length_cons, List.length_cons, ET.length r]
theorem ET.get {H : Hp} : ∀ {vs : List V} {es : List En} {i : Nat} (h : i < es.length), ET H vs es → ∃ p u, vs[i]? = some (.ref p) ∧ H p = some (.tup [.int (es[i]).1, u]) ∧ WhatV H u (es[i]).2
  | _, _, _, h, .nil => absurd h (Nat.not_lt_zero _)
  | _, _, 0, _, .cons e w _ => ⟨_, _, rfl, e, w⟩
  | _, _, i + 1, h, .cons _ _ r => ET.get (i := i) (by simpa using h) r
theorem ET.append {H : Hp} : ∀ {vs es us fs}, ET H vs es → ET H us fs → ET H (vs ++ us) (es ++ fs)
  | _, _, _, _, .nil, r => r
  | _, _, _, _, .cons e w r, q => .cons e w (ET.append r q)
theorem ET.take {H : Hp} : ∀ {vs : List V} {es : List En} (n : Nat), ET H vs es → ET H (vs.take n) (es.take n)
  | _, _, 0, _ => by rw [List.take_zero, List.take_zero]; exact .nil
  | _, _, _ + 1, .nil => .nil
  | _, _, n + 1, .cons e w r => .cons e w (ET.take n r)
theorem ET.drop {H : Hp} : ∀ {vs : List V} {es : List En} (n : Nat), ET H vs es → ET H (vs.drop n) (es.drop n)
  | _, _, 0, r => r
  | _, _, _ + 1, .nil => .nil
  | _, _, n + 1, .cons _ _ r => ET.drop n r
theorem ET.ew {H : Hp} : ∀ {vs es}, ET H vs es → EW H vs (es.map (·.2))
  | _, _, .nil => .nil
  | _, _, .cons e w r => .cons e w (ET.ew r)
structure Pk where
  pl : Int
  tm : Int
  st : List Int
  so : Sto
def PkV (H : Hp) (v : V) (P : Pk) : Prop := ∃ p q u, v = .ref p ∧ H p = some (.tup [.int P.pl, .int P.tm, .ref q, u]) ∧ H q = some (.tup (P.st.map V.int)) ∧ StV H u P.so
theorem PkV.same {H H' : Hp} {v : V} {P : Pk} (h : PkV H v P) (s : Same H H') : PkV H' v P := let ⟨p, q, u, e, h1, h2, h3⟩ := h; ⟨p, q, u, e, s _ _ h1, s _ _ h2, h3.same s⟩
def RwP (H : Hp) (v : V) (b l : Int) (es : List En) : Prop := ∃ r c us, v = .ref r ∧ H r = some (.tup [.int b, .int l, .ref c]) ∧ H c = some (.tup us) ∧ ET H us es
theorem RwP.same {H H' : Hp} {v : V} {b l : Int} {es : List En} (h : RwP H v b l es) (s : Same H H') : RwP H' v b l es := let ⟨p, q, u, e, h1, h2, h3⟩ := h; ⟨p, q, u, e, s _ _ h1, s _ _ h2, h3.same s⟩
def seat1 (s : List Int) : What → List Int
  | .seats ms => ms
  | _ => s
def seatsF (s0 : List Int) (es : List En) : List Int := es.foldl (fun s e => seat1 s e.2) s0
theorem seatsF_snoc (s0 : List Int) (es : List En) {i : Nat} (hi : i < es.length) : seatsF s0 (es.take (i + 1)) = seat1 (seatsF s0 (es.take i)) (es[i]).2 := by
  unfold seatsF
  rw [List.take_succ_eq_append_getElem hi, List.foldl_append]
  rfl
theorem StV.alike {K : PySem.W.Frag} {H : Hp} {v u : V} {S : Sto} (h : StV H v S) (h' : StV H u S) : Alike K H 3 v u := by
  obtain ⟨sa, a, c, rfl, hs, ha, hc⟩ := h
  obtain ⟨sb, a2, c2, rfl, hs2, ha2, hc2⟩ := h'
  refine .tup (SqT.of hs) (SqT.of hs2) rfl fun i x y e1 e2 => ?_
  match i, e1, e2 with
  | 0, e1, e2 => cases e1; cases e2; exact ha.alike ha2
  | 1, e1, e2 => cases e1; cases e2; exact hc.alike hc2
theorem ints_alike {K : PySem.W.Frag} {H : Hp} {p q : Addr} {ms : List Int} {n : Nat} (h : H p = some (.tup (ms.map V.int))) (h' : H q = some (.tup (ms.map V.int))) : Alike K H (n + 1) (.ref p) (.ref q) := by
  refine .tup (SqT.of h) (SqT.of h') rfl fun i x y e1 e2 => ?_
  rw [e1] at e2
  cases e2
  obtain ⟨z, _, rfl⟩ := List.mem_map.mp (List.mem_of_getElem? e1)
  exact .flat rfl
theorem PkV.eqs {K : PySem.W.Frag} {H : Hp} {v u : V} {P : Pk} (h : PkV H v P) (h' : PkV H u P) : ∃ p q xs ys, v = .ref p ∧ u = .ref q ∧ SqT K H p xs ∧ SqT K H q ys ∧ xs.length = ys.length ∧ ∀ (i : Nat) (x y : V), xs[i]? = some x → ys[i]? = some y → Alike K H 3 x y := by
  obtain ⟨p, q, a, rfl, h1, h2, h3⟩ := h
  obtain ⟨p', q', a', rfl, h1', h2', h3'⟩ := h'
  refine ⟨p, p', _, _, rfl, rfl, SqT.of h1, SqT.of h1', rfl, fun i x y e1 e2 => ?_⟩
  match i, e1, e2 with
  | 0, e1, e2 => cases e1; cases e2; exact .flat rfl
  | 1, e1, e2 => cases e1; cases e2; exact .flat rfl
  | 2, e1, e2 => cases e1; cases e2; exact ints_alike h2 h2'
  | 3, e1, e2 => cases e1; cases e2; exact h3.alike h3'
end K1
set_option Elab.async false
set_option linter.all false
set_option maxRecDepth 100000
set_option maxHeartbeats 4000000
namespace L2
open PySem PySem.Spec PyProof.Rows
/-! ### t * n of a tuple with parts, 2 ≤ n -/
theorem noFill_tuple_mul : fillsNumberSlot (.type "tuple") "mul" = pure false :=
  PySem.fillsNumberSlot_seq (id := "tuple.__mul__") (r := some (.builtin "tuple.__rmul__")) F.slot_tuple_mul.lookup (by decide +kernel) F.slot_tuple_rmul.lookup (by decide +kernel)
theorem repeat_tuple : seqRepeat? (.type "tuple") = pure (some (.builtin "tuple.__mul__")) := by
  unfold seqRepeat?
  rw [PySem.seqSlot_of (T := "tuple") (name := "__mul__") (id := "tuple.__mul__") F.slot_tuple_mul.lookup (by decide +kernel), PySem.seqSlot_of (T := "tuple") (name := "__rmul__") (id := "tuple.__rmul__") F.slot_tuple_rmul.lookup (by decide +kernel)]
  rfl
theorem int_rmul_tuple (a : Int) (t : Tok) (l : Addr) (items : Array Value) (n : Nat) (dd : Option Addr) (sl : Array (Option Value)) :
    Meets (Builtin.«int.__rmul__» ⟨[.int a t, .ref l], []⟩) (fun _ R s => s.heap.get? l = some { cls := .type "tuple", dict := dd, data := .seq items n, slots := sl } ∧ R (.ok (.ret Value.notImplemented)) s) :=
  .of_wp fun prog w A R s h => by obtain ⟨hp, g, d, tk, os⟩ := s; obtain ⟨hl, h⟩ := h; wp_walk; exact ⟨_, rfl, h⟩
theorem tuple_mulW (l : Addr) (items : Array Value) (n : Nat) (dd : Option Addr) (sl : Array (Option Value)) (x : Int) (u : Tok) (hc0 : ¬(decide (x < -(2 ^ 63)) || decide (x ≥ 2 ^ 63)) = true) (hc1 : ¬(items.isEmpty || x == 1) = true) (hc2 : ¬(decide (x ≤ 0) || items.isEmpty) = true) (hc3 : ¬((items.size : Int) * x > (2 ^ 63 - 1) / 8)) (hc4 : ¬Builtin.Tuple.tupleTooMany ((items.size : Int) * x) = true) (hsz : ((List.replicate x.toNat items).foldl (· ++ ·) #[]).size ≤ sizeLine) :
    Meets (Builtin.«tuple.__mul__» ⟨[.ref l, .int x u], []⟩) (fun _ R s => s.heap.get? l = some { cls := .type "tuple", dict := dd, data := .seq items n, slots := sl } ∧ R (.ok (.ret (Value.ref s.heap.objs.size))) { s with heap := s.heap.push { cls := Value.type "tuple", data := Data.seq ((List.replicate x.toNat items).foldl (· ++ ·) #[]) }, toks := s.toks }) :=
  .of_wp fun prog w A R s h => by
    obtain ⟨hp, g, d, tk, os⟩ := s; obtain ⟨hl, h⟩ := h; have f1 := AutoSeq1.idx_int
    wp_walk using wpAny_loadPart' hl
    refine wpAny_ite_false (decide_eq_false hc0) ?_
    wp_walk using wpAny_loadPart' hl
    refine wpAny_ite_false (decide_eq_false hc3) ?_
    wp_walk using wpAny_loadPart' hl
    exact ⟨_, rfl, h⟩
/-- the same tuple n times over -/
def rRepT : R2 := fun x y H Q => ∃ a k xs, x = .ref a ∧ y = .int k ∧ H a = some (.tup xs) ∧ xs ≠ [] ∧ 2 ≤ k ∧ k < 1000 ∧ xs.length ≤ 1000 ∧ ∀ p, H p = none → Q (.ref p) (upd H p (.tup (List.replicate k.toNat xs).flatten))
theorem op_repT {X : Cx} : OpR X (binaryOp .Mult) rRepT := by
  intro pins s σ H x y v u Q I rx ry h
  obtain ⟨a, k, xs, rfl, rfl, hH, hne, h1, h2, hx, q⟩ := h
  cases rx
  obtain ⟨t, rfl⟩ := ry
  obtain ⟨its, r, p1, _⟩ := I.tuple (SqT.of hH)
  obtain ⟨⟨cls, dd, data, sl⟩, ho, hc, n, hd⟩ := id p1
  simp only at hc hd
  subst hc hd
  have hl := r.length
  have hpos : 0 < its.length := by rw [← hl]; exact List.length_pos_iff.mpr hne
  have hemp : its.toArray.isEmpty = false := by cases its with
    | nil => simp at hpos
    | cons _ _ => rfl
  have hk : ((k.toNat : Nat) : Int) = k := Int.toNat_of_nonneg (by omega)
  have hnew : List.foldl (fun x1 x2 => x1 ++ x2) #[] (List.replicate k.toNat its.toArray) = (List.replicate k.toNat its).flatten.toArray := by
    have := foldl_rep its k.toNat []
    rw [List.nil_append] at this
    exact this
  have hlen : (List.replicate k.toNat xs).flatten.length ≤ 1000000 := by
    rw [len_rep]
    have hkn : k.toNat ≤ 1000 := by omega
    exact Nat.le_trans (Nat.mul_le_mul hkn hx) (by decide)
  have hz : (List.replicate k.toNat xs).flatten.length ≤ sizeLine := by rw [sizeLine_eq]; omega
  have hprod : ((its.toArray.size : Int) * k) ≤ 1000000 := by
    rw [len_rep, hl] at hlen
    rw [List.size_toArray, ← hk, Int.mul_comm]
    have e2 : ((k.toNat * its.length : Nat) : Int) = (k.toNat : Int) * (its.length : Int) := Int.natCast_mul _ _
    rw [← e2]
    omega
  have hmany : ¬ Builtin.Tuple.tupleTooMany ((its.toArray.size : Int) * k) = true := fun g => by
    have g2 : (its.toArray.size : Int) * k > (sizeLine : Int) := of_decide_eq_true g
    rw [sizeLine_eq] at g2
    omega
  have hv := r.rep k.toNat
  refine wpAny_binaryOp_repeat_ref (T := "tuple") (U := "int") (by decide) ⟨_, ho, rfl⟩ (fun s' => typeIs_int s' k t) noFill_tuple_mul F.fills_int_mul F.slot_int_rmul repeat_tuple F.slot_int_index.lookup
    (call_meets F.slot_int_rmul (typeIs_int s k t) F.entry_int_rmul (F.args_int_rmul_2 _ _) (int_rmul_tuple k t a its.toArray n dd sl)
      ⟨ho, rfl, ⟨_, ho, rfl⟩, call_meets F.slot_tuple_mul ⟨_, ho, rfl⟩ F.entry_tuple_mul (F.args_tuple_mul_2 _ _) (tuple_mulW a its.toArray n dd sl k t (by simp; omega) (by simp [hemp]; omega) (by simp [hemp]; omega) (by omega) hmany (by rw [hnew, List.size_toArray, ← hv.length]; exact hz)) ⟨ho, ?_⟩⟩)
  rw [hnew]
  have hf : H s.heap.objs.size = none := I.hok.fresh (Nat.le_refl _)
  refine ⟨.ref s.heap.objs.size, upd H s.heap.objs.size (.tup (List.replicate k.toNat xs).flatten), I.laid (t' := s.toks) (fun b u e => Heap.get?_push_of_some _ e) (Nat.le_refl _) ?_, rfl, q _ hf⟩
  exact ⟨hz, _, hv, ⟨_, Heap.get?_push_size _ rfl, rfl, _, rfl⟩⟩
end L2
set_option Elab.async false
set_option linter.all false
set_option maxRecDepth 100000
set_option maxHeartbeats 4000000
namespace K1
open PySem L2 Kp
/-! ### an object's values, by their names -/
theorem lk_ne {f g : Str} {v : V} {fs : List (Str × V)} {x : Option V} (h : ¬ g = f) (e : fs.lookup g = x) : (L2.putF f v fs).lookup g = x := by rw [L2.lookup_putF, if_neg h]; exact e
theorem lk_eq {f : Str} {v : V} {fs : List (Str × V)} : (L2.putF f v fs).lookup f = some v := by rw [L2.lookup_putF, if_pos rfl]
def kpN : List Str := ["number", "term", "voice", "pack", "row", "way", "voices", "head", "waits", "nexts", "held", "agreed", "store"]
structure FsOk (fs : List (Str × V)) : Prop where
  nd : (fs.map (·.1)).Nodup
  inN : ∀ x ∈ fs.map (·.1), x ∈ kpN
theorem keys_put {f : Str} {v : V} : ∀ {fs : List (Str × V)} {x : Str}, x ∈ (L2.putF f v fs).map (·.1) → x ∈ fs.map (·.1) ∨ x = f
  | [], x, h => .inr (List.mem_singleton.mp h)
  | (g, y) :: r, x, h => by
    unfold L2.putF at h
    by_cases e : g = f
    · rw [if_pos e] at h
      exact .inl h
    · rw [if_neg e, List.map_cons] at h
      rcases List.mem_cons.mp h with h | h
      · exact .inl (List.mem_cons.mpr (.inl h))
      · rcases keys_put h with h | h
        · exact .inl (List.mem_cons.mpr (.inr h))
        · exact .inr h
theorem nd_put {f : Str} {v : V} : ∀ {fs : List (Str × V)}, (fs.map (·.1)).Nodup → ((L2.putF f v fs).map (·.1)).Nodup
  | [], _ => List.nodup_cons.mpr ⟨List.not_mem_nil, List.nodup_nil⟩
  | (g, y) :: r, h => by
    unfold L2.putF
    by_cases e : g = f
    · rw [if_pos e]
      exact h
    · rw [if_neg e, List.map_cons, List.nodup_cons]
      rw [List.map_cons, List.nodup_cons] at h
      refine ⟨fun hm => ?_, nd_put h.2⟩
      rcases keys_put hm with hm | hm
      · exact h.1 hm
      · exact e hm
theorem FsOk.nil : FsOk [] := ⟨List.nodup_nil, fun x h => absurd h List.not_mem_nil⟩
theorem FsOk.put {f : Str} {v : V} {fs : List (Str × V)} (h : FsOk fs) (hf : f ∈ kpN) : FsOk (L2.putF f v fs) := ⟨nd_put h.nd, fun x hx => by
  rcases keys_put hx with hx | rfl
  · exact h.inN x hx
  · exact hf⟩
theorem FsOk.len {fs : List (Str × V)} (h : FsOk fs) : fs.length < 1000 := by
  have := nodup_len _ kpN h.nd h.inN
  rw [List.length_map] at this
  have e : kpN.length = 13 := rfl
  omega
theorem lk_none : ∀ {fs : List (Str × V)} {g : Str}, ¬ g ∈ fs.map (·.1) → fs.lookup g = none
  | [], _, _ => rfl
  | (k, y) :: r, g, h => by
    rw [List.map_cons, List.mem_cons] at h
    have hb : (g == k) = false := beq_eq_false_iff_ne.mpr fun e => h (.inl e)
    simp only [List.lookup, hb]
    exact lk_none fun hm => h (.inr hm)
theorem FsOk.no {fs : List (Str × V)} {g : Str} (h : FsOk fs) (hg : ¬ g ∈ kpN) : fs.lookup g = none := lk_none fun hm => hg (h.inN _ hm)
end K1
set_option Elab.async false
set_option linter.all false
set_option maxRecDepth 100000
set_option maxHeartbeats 4000000
namespace K1
open PySem L2 Kp
section
variable {P : Program} {w : World} {K : PySem.W.Frag} {mg : Str → Option Value} {base : Heap}
structure KpC (K : PySem.W.Frag) (C : Addr) : Prop where
  cl : Cls K C
  n_number : NoAttr K C "number"
  n_term : NoAttr K C "term"
  n_voice : NoAttr K C "voice"
  n_head : NoAttr K C "head"
  n_way : NoAttr K C "way"
  n_pack : NoAttr K C "pack"
  n_row : NoAttr K C "row"
  n_store : NoAttr K C "store"
  n_nexts : NoAttr K C "nexts"
  n_held : NoAttr K C "held"
  n_agreed : NoAttr K C "agreed"
  n_voices : NoAttr K C "voices"
  n_waits : NoAttr K C "waits"
/-- a keeper as it was made, but for its term -/
def KpV (H : Hp) (a C : Addr) (num tm : Int) (ms : List Int) : Prop := ∃ (dx : Addr) (fs : List (Str × V)) (vp vr vs : V) (an ah av aw : Addr), H a = some (.ins C dx fs) ∧ fs.lookup ("number" : Str) = some (.int num) ∧ fs.lookup ("term" : Str) = some (.int tm) ∧ fs.lookup ("voice" : Str) = some (.non) ∧ fs.lookup ("head" : Str) = some (.non) ∧ fs.lookup ("way" : Str) = some (.str "plain") ∧ fs.lookup ("pack" : Str) = some (vp) ∧ fs.lookup ("row" : Str) = some (vr) ∧ fs.lookup ("store" : Str) = some (vs) ∧ fs.lookup ("nexts" : Str) = some (.ref an) ∧ fs.lookup ("held" : Str) = some (.ref ah) ∧ fs.lookup ("agreed" : Str) = some (.int 0) ∧ fs.lookup ("voices" : Str) = some (.ref av) ∧ fs.lookup ("waits" : Str) = some (.ref aw) ∧ FsOk fs ∧
  PkV H vp ⟨0, 0, ms, ([], [])⟩ ∧ RwP H vr 0 0 [] ∧ StV H vs ([], []) ∧ H an = some (.tup (List.replicate 9 (V.int 1))) ∧ H ah = some (.tup (List.replicate 9 (V.int 0))) ∧ H av = some (.tup []) ∧ H aw = some (.tup [])
theorem KpV.same {H H' : Hp} {a C : Addr} {num tm : Int} {ms : List Int} (h : KpV H a C num tm ms) (s : Same H H') : KpV H' a C num tm ms := by
  obtain ⟨dx, fs, vp, vr, vs, an, ah, av, aw, ha, l_number, l_term, l_voice, l_head, l_way, l_pack, l_row, l_store, l_nexts, l_held, l_agreed, l_voices, l_waits, l_ok, hp, hr, hs, hn, hh, hv, hw⟩ := h
  exact ⟨dx, fs, vp, vr, vs, an, ah, av, aw, s _ _ ha, l_number, l_term, l_voice, l_head, l_way, l_pack, l_row, l_store, l_nexts, l_held, l_agreed, l_voices, l_waits, l_ok, hp.same s, hr.same s, hs.same s, s _ _ hn, s _ _ hh, s _ _ hv, s _ _ hw⟩
theorem tup_alike {K : PySem.W.Frag} {H : Hp} {p q : Addr} {xs : List V} {n : Nat} (h : H p = some (.tup xs)) (h' : H q = some (.tup xs)) (hf : ∀ x ∈ xs, flatV x = true) : ∀ (i : Nat) (x y : V), xs[i]? = some x → xs[i]? = some y → Alike K H n x y := fun i x y e1 e2 => by
  rw [e1] at e2
  cases e2
  exact .flat (hf x (List.mem_of_getElem? e1))
def spSnow (C : Addr) : Sp := fun vs H Q _ => ∃ (a : Addr) (num tm : Int) (ms : List Int), vs = [.ref a] ∧ KpV H a C num tm ms ∧ ∀ (q : Addr) (H' : Hp), H' q = some (.tup (ms.map V.int)) → Same H H' → Q (.ref q) H'
def spMadeL (C : Addr) : Sp := fun vs H Q _ => ∃ (a q : Addr) (num tm : Int) (ms : List Int), vs = [.ref a, .int num, .ref q] ∧ KpV H a C num tm ms ∧ H q = some (.tup (ms.map V.int)) ∧ ∀ H', Same H H' → Q (.bl true) H'
theorem flat_ints9 (ms : List Int) : ∀ x ∈ ms.map V.int, flatV x = true := fun x hx => by
  obtain ⟨z, _, rfl⟩ := List.mem_map.mp hx
  rfl
theorem scAm : FnScope ["_law_keeper", "_law_number", "_law_seats"] ["_law_keeper", "_law_number", "_law_seats"] (defScope s__law_as_made) := ⟨rfl, rfl, rfl, by decide +kernel, rfl, by decide +kernel, by decide +kernel⟩
theorem ok_made {f : Addr} {fd : FuncData} {C : Addr} {kN LV : Nat} (hL : 1 ≤ LV ∧ kN ≤ LV) (Y : KpC K C) (F : Fun K "_law_as_made" "_law_as_made" s__law_as_made f fd) (CW : Cal P w K mg base "_law_whole" 1 ["_law_found"] spWholeI) (CN : Cal P w K mg base "seats_now" kN ["keeper"] (spSnow C)) : FnOk P w K mg base CX0 (LV + 1) f fd ["_law_keeper", "_law_number", "_law_seats"] (spMadeL C) := by
  refine F.ok scAm (fun vs H Q E ⟨_, _, _, _, _, e, _⟩ => by subst e; rfl) (fun cdv A outer s H vs Q E hr h => ?_)
  obtain ⟨a, q, num, tm, ms, rfl, hk, hq, k⟩ := h
  obtain ⟨gW, dW, GW, mW, kW, bW⟩ := CW.ex
  obtain ⟨gN, dN, GN, mN, kN, bN⟩ := CN.ex
  have r1 := hr.mono hL.1
  have rN := hr.mono hL.2
  refine ⟨_, @pss_p _ _ _ _ _ (ps_if (PW.pt (pw_or (pt_not (pt_val (pe_call GW r1 (by rfl) mW kW bW .nil pass0 (pa_cons (pe_fld (pv 0) (by rfl)) pa_nil)))) (pw_or (pt_cmpR op_ne (pe_fld (pv 0) (by rfl)) (pv 1) (nomark _)) (pw_or1 (pt_cmpR (op_neA hr.units100) (pe_call GN rN (by rfl) mN kN bN .nil pass0 (pa_n (pv 0) pa_nil)) (pv 2) (nomark _)))))) (@pss_o _ _ _ (ps_ret pe_bl)) pss_nil)
    (@pss_p _ _ _ _ _ (ps_if (PW.pt (pw_or (pt_cmpR op_notN (pe_fld (pv 0) (by rfl)) pe_non (nomark _)) (pw_or (pt_cmpR op_notN (pe_fld (pv 0) (by rfl)) pe_non (nomark _)) (pw_or1 (pt_cmpR op_ne (pe_fld (pv 0) (by rfl)) pe_str (nomark _)))))) (@pss_o _ _ _ (ps_ret pe_bl)) pss_nil)
    (@pss_p _ _ _ _ _ (ps_if (PW.pt (pw_or (pt_cmpR (op_neA hr.units100) (pe_fld (pv 0) (by rfl)) (QE.h (qx_tup (qa_int (qa_int (qa_n (pv 2) (qa_tup (qa_tup qa_nil (qa_tup qa_nil qa_nil)) qa_nil)))))) (nomark _)) (pw_or (pt_cmpR (op_neA hr.units100) (pe_fld (pv 0) (by rfl)) (QE.h (qx_tup (qa_int (qa_int (qa_tup qa_nil qa_nil))))) (nomark _)) (pw_or1 (pt_cmpR (op_neA hr.units100) (pe_fld (pv 0) (by rfl)) (QE.h (qx_tup (qa_tup qa_nil (qa_tup qa_nil qa_nil)))) (nomark _)))))) (@pss_o _ _ _ (ps_ret pe_bl)) pss_nil)
    (@pss_p _ _ _ _ _ (ps_if (PW.pt (pw_or (pt_cmpR (op_neA hr.units100) (pe_fld (pv 0) (by rfl)) (pe_op op_repT (QE.h (qx_tup (qa_int qa_nil))) pe_int) (nomark _)) (pw_or (pt_cmpR (op_neA hr.units100) (pe_fld (pv 0) (by rfl)) (pe_op op_repT (QE.h (qx_tup (qa_int qa_nil))) pe_int) (nomark _)) (pw_or1 (pt_cmpR op_ne (pe_fld (pv 0) (by rfl)) (pe_int) (nomark _)))))) (@pss_o _ _ _ (ps_ret pe_bl)) pss_nil)
    (@pss_o _ _ _ (ps_ret (pe_and (pe_cmpR (op_eqA hr.units100) (pe_fld (pv 0) (by rfl)) (QE.h (qx_tup (qa_nil))) (nomark _)) (pe_one (pe_cmpR (op_eqA hr.units100) (pe_fld (pv 0) (by rfl)) (QE.h (qx_tup (qa_nil))) (nomark _))))))))), ?_⟩
  have hk' := hk
  obtain ⟨dx, fs, vp, vr, vs, an, ah, av, aw, ha, l_number, l_term, l_voice, l_head, l_way, l_pack, l_row, l_store, l_nexts, l_held, l_agreed, l_voices, l_waits, l_ok, hp, hrw, hs, hn, hh, hv, hw⟩ := hk'
  refine ⟨_, rfl, a, C, dx, fs, _, rfl, ha, Y.cl, Y.n_number, l_number, num, rfl, _, rfl, iteF ⟨_, rfl, a, C, dx, fs, _, rfl, ha, Y.cl, Y.n_number, l_number, _, rfl, rfl, _, rfl, ?_⟩⟩
  rw [decide_eq_true rfl]
  refine iteF ⟨_, rfl, a, num, tm, ms, rfl, hk, fun q2 H1 hq2 s1 => ⟨_, rfl, q2, q, _, _, 0, rfl, rfl, SqT.of hq2, SqT.of (s1 _ _ hq), rfl, tup_alike hq2 (s1 _ _ hq) (flat_ints9 ms), by decide, _, rfl, iteF ?_⟩⟩
  have ha1 := s1 _ _ ha
  refine ⟨_, rfl, a, C, dx, fs, _, rfl, ha1, Y.cl, Y.n_voice, l_voice, rfl, _, rfl, ?_⟩
  rw [decide_eq_true rfl]
  refine iteF ⟨_, rfl, a, C, dx, fs, _, rfl, ha1, Y.cl, Y.n_head, l_head, rfl, _, rfl, ?_⟩
  rw [decide_eq_true rfl]
  refine iteF ⟨_, rfl, a, C, dx, fs, _, rfl, ha1, Y.cl, Y.n_way, l_way, rfl, _, rfl, ?_⟩
  rw [decide_eq_true rfl]
  refine iteF ?_
  refine ⟨_, rfl, a, C, dx, fs, _, rfl, ha1, Y.cl, Y.n_pack, l_pack, _, rfl, tiny (by show 0 ≤ 1000; decide), fun ta hta => ⟨tiny (by show 0 ≤ 1000; decide), fun tb htb => ⟨tiny (by show 2 ≤ 1000; decide), fun tc htc => ⟨tiny (by show 4 ≤ 1000; decide), fun td htd => ?_⟩⟩⟩⟩
  have sa := same_upd (o := HO.tup []) hta
  have sb := same_upd (o := HO.tup []) htb
  have sc := same_upd (o := HO.tup [V.ref ta, V.ref tb]) htc
  have sd := same_upd (o := HO.tup [V.int 0, V.int 0, V.ref q, V.ref tc]) htd
  have s2 := sa.trans (sb.trans (sc.trans sd))
  have s12 := s1.trans s2
  obtain ⟨pa, pb, xa, xb, rfl, eb, v1, v2, v3, v4⟩ := (hp.same s12).eqs (K := K) (u := .ref td) ⟨td, q, .ref tc, rfl, upd_same, s12 _ _ hq, ⟨tc, ta, tb, rfl, sd _ _ upd_same, ⟨[], (sb.trans (sc.trans sd)) _ _ upd_same, .nil⟩, ⟨[], (sc.trans sd) _ _ upd_same, .nil⟩⟩⟩
  cases eb
  refine ⟨pa, td, xa, xb, 3, rfl, rfl, v1, v2, v3, v4, by decide, _, rfl, iteF ?_⟩
  obtain ⟨rr, rc, us, rfl, hrr, hrc, het⟩ := hrw
  cases het
  have ha2 := s12 _ _ ha
  refine ⟨_, rfl, a, C, dx, fs, _, rfl, ha2, Y.cl, Y.n_row, l_row, tiny (by show 0 ≤ 1000; decide), fun te hte => ⟨tiny (by show 3 ≤ 1000; decide), fun tf htf => ?_⟩⟩
  have se := same_upd (o := HO.tup []) hte
  have sf := same_upd (o := HO.tup [V.int 0, V.int 0, V.ref te]) htf
  have s13 := s12.trans (se.trans sf)
  refine ⟨rr, tf, _, _, 1, rfl, rfl, SqT.of (s13 _ _ hrr), SqT.of upd_same, rfl, fun i x y e1 e2 => ?_, by decide, _, rfl, iteF ?_⟩
  · match i, e1, e2 with
    | 0, e1, e2 => cases e1; cases e2; exact .flat rfl
    | 1, e1, e2 => cases e1; cases e2; exact .flat rfl
    | 2, e1, e2 => cases e1; cases e2; exact .tup (SqT.of (s13 _ _ hrc)) (SqT.of (sf _ _ upd_same)) rfl fun i x y e1 e2 => by simp at e1
  have ha3 := s13 _ _ ha
  refine ⟨_, rfl, a, C, dx, fs, _, rfl, ha3, Y.cl, Y.n_store, l_store, tiny (by show 0 ≤ 1000; decide), fun tg htg => ⟨tiny (by show 0 ≤ 1000; decide), fun th hth => ⟨tiny (by show 2 ≤ 1000; decide), fun ti hti => ?_⟩⟩⟩
  have sg := same_upd (o := HO.tup []) htg
  have sh := same_upd (o := HO.tup []) hth
  have si := same_upd (o := HO.tup [V.ref tg, V.ref th]) hti
  have s14 := s13.trans (sg.trans (sh.trans si))
  obtain ⟨sp, s1a, s2a, rfl, hsp, hsa, hsb⟩ := hs.same s14
  have hT : StV _ (.ref ti) ([], []) := ⟨ti, tg, th, rfl, upd_same, ⟨[], (sh.trans si) _ _ upd_same, .nil⟩, ⟨[], si _ _ upd_same, .nil⟩⟩
  obtain ⟨_, _, _, eT, hT1, hT2, hT3⟩ := hT
  cases eT
  refine ⟨sp, ti, _, _, 2, rfl, rfl, SqT.of hsp, SqT.of hT1, rfl, fun i x y e1 e2 => ?_, by decide, _, rfl, iteF ?_⟩
  · match i, e1, e2 with
    | 0, e1, e2 => cases e1; cases e2; exact hsa.alike hT2
    | 1, e1, e2 => cases e1; cases e2; exact hsb.alike hT3
  have ha4 := s14 _ _ ha
  refine ⟨_, rfl, a, C, dx, fs, _, rfl, ha4, Y.cl, Y.n_nexts, l_nexts, tiny (by show 1 ≤ 1000; decide), fun tj htj => ⟨tj, 9, [V.int 1], rfl, rfl, upd_same, by simp, by decide, by decide, by decide, fun tk htk => ?_⟩⟩
  have sj := same_upd (o := HO.tup [V.int 1]) htj
  have sk := same_upd (o := HO.tup (List.replicate (9 : Int).toNat [V.int 1]).flatten) htk
  have s15 := s14.trans (sj.trans sk)
  refine ⟨an, tk, _, _, 0, rfl, rfl, SqT.of (s15 _ _ hn), SqT.of upd_same, rfl, tup_alike (s15 _ _ hn) upd_same (fun x hx => by rw [List.eq_of_mem_replicate hx]; rfl), by decide, _, rfl, iteF ?_⟩
  have ha5 := s15 _ _ ha
  refine ⟨_, rfl, a, C, dx, fs, _, rfl, ha5, Y.cl, Y.n_held, l_held, tiny (by show 1 ≤ 1000; decide), fun tj htj => ⟨tj, 9, [V.int 0], rfl, rfl, upd_same, by simp, by decide, by decide, by decide, fun tk htk => ?_⟩⟩
  have sj := same_upd (o := HO.tup [V.int 0]) htj
  have sk := same_upd (o := HO.tup (List.replicate (9 : Int).toNat [V.int 0]).flatten) htk
  have s16 := s15.trans (sj.trans sk)
  refine ⟨ah, tk, _, _, 0, rfl, rfl, SqT.of (s16 _ _ hh), SqT.of upd_same, rfl, tup_alike (s16 _ _ hh) upd_same (fun x hx => by rw [List.eq_of_mem_replicate hx]; rfl), by decide, _, rfl, iteF ?_⟩
  have ha6 := s16 _ _ ha
  refine ⟨_, rfl, a, C, dx, fs, _, rfl, ha6, Y.cl, Y.n_agreed, l_agreed, rfl, _, rfl, ?_⟩
  rw [decide_eq_true rfl]
  refine iteF ?_
  refine ⟨_, rfl, a, C, dx, fs, _, rfl, ha6, Y.cl, Y.n_voices, l_voices, tiny (by show 0 ≤ 1000; decide), fun tl htl => ?_⟩
  have sl := same_upd (o := HO.tup []) htl
  have s17 := s16.trans sl
  refine ⟨av, tl, [], [], 0, rfl, rfl, SqT.of (s17 _ _ hv), SqT.of upd_same, rfl, fun i x y e1 e2 => by simp at e1, by decide, _, rfl, iteT ?_⟩
  have ha7 := s17 _ _ ha
  refine ⟨_, rfl, a, C, dx, fs, _, rfl, ha7, Y.cl, Y.n_waits, l_waits, tiny (by show 0 ≤ 1000; decide), fun tm9 htm => ?_⟩
  have sm := same_upd (o := HO.tup []) htm
  have s18 := s17.trans sm
  exact ⟨aw, tm9, [], [], 0, rfl, rfl, SqT.of (s18 _ _ hw), SqT.of upd_same, rfl, fun i x y e1 e2 => by simp at e1, by decide, k _ s18⟩
end
end K1
set_option Elab.async false
set_option linter.all false
set_option maxRecDepth 100000
set_option maxHeartbeats 4000000
namespace K1
open PySem L2 Kp
section
variable {P : Program} {w : World} {K : PySem.W.Frag} {mg : Str → Option Value} {base : Heap}
theorem atI_mem {α : Type} {xs : List α} {i : Int} (h0 : 0 ≤ i) (h1 : i < xs.length) : ∃ v, atI xs i = some v ∧ v ∈ xs := by
  obtain ⟨j, rfl⟩ := Int.eq_ofNat_of_zero_le h0
  have hj : j < xs.length := by omega
  exact ⟨xs[j], atI_nat (by simp [hj]), List.getElem_mem _⟩
def cellF (ns : List Int) (k : Int) : Int := ns.getD k.toNat 0
def spCellF (K : PySem.W.Frag) : Sp := fun vs H Q _ => ∃ (a : Addr) (ns : List Int) (k : Int), vs = [.ref a, .int k] ∧ SqL K H a (ns.map V.int) ∧ 0 ≤ k ∧ Q (.int (cellF ns k)) H
theorem scCf : FnScope ["_law_script", "_law_k"] ["_law_script", "_law_k"] (defScope sCell) := ⟨rfl, rfl, rfl, by decide +kernel, rfl, by decide +kernel, by decide +kernel⟩
theorem ok_cellF {f : Addr} {fd : FuncData} (F : Fun K "_law_cell_at" "_law_cell_at" sCell f fd) (T : Txt mg) : FnOk P w K mg base CX0 1 f fd ["_law_script", "_law_k"] (spCellF K) := by
  refine F.ok scCf (fun vs H Q E ⟨_, _, _, e, _⟩ => by subst e; rfl) (fun cdv A outer s H vs Q E hr h => ?_)
  obtain ⟨a, ns, k, rfl, hS, h0, q⟩ := h
  obtain ⟨j, rfl⟩ := Int.eq_ofNat_of_zero_le h0
  refine ⟨_, @pss_p _ _ _ _ _ (ps_if (pt_cmpR op_lt (pv 1) (pe_callB call_len_seq (by rfl) T.len PySem.boot_len (pa_n (pv 0) pa_nil)) (nomark _)) (@pss_o _ _ _ (ps_ret (pe_ix ix_list (pv 0) (pv 1) px_n))) pss_nil)
    (@pss_o _ _ _ (ps_ret (pe_int))), ?_⟩
  unfold cellF at q
  rw [Int.toNat_natCast] at q
  refine ⟨_, rfl, _, rfl, a, _, rfl, .inl hS, _, _, rfl, rfl, _, rfl, ite2 (fun hlt => ?_) (fun hlt => ?_)⟩
  · have hj : j < ns.length := by have := of_decide_eq_true hlt; rw [List.length_map] at this; omega
    rw [getD_at hj] at q
    exact ⟨_, rfl, _, rfl, a, _, _, .int ns[j], rfl, rfl, hS, atI_nat (by simp [hj]), q⟩
  · have hj : ns.length ≤ j := by have := ndec hlt; rw [List.length_map] at this; omega
    rw [List.getD_eq_getElem?_getD, List.getElem?_eq_none hj] at q
    exact q
def spMixG (K : PySem.W.Frag) : Sp := fun vs H Q _ => ∃ (a : Addr) (ns : List Int) (k : Int), vs = [.ref a, .int k] ∧ SqL K H a (ns.map V.int) ∧ 0 ≤ k ∧ ∀ m : Int, 0 ≤ m → m < 2147483629 → Q (.int m) H
theorem scMg : FnScope ["_law_script", "_law_k", "_law_number"] ["_law_script", "_law_k"] (defScope sMixed) := ⟨rfl, rfl, rfl, by decide +kernel, rfl, by decide +kernel, by decide +kernel⟩
theorem ok_mixG {f : Addr} {fd : FuncData} (F : Fun K "_law_mixed" "_law_mixed" sMixed f fd) (CC : Cal P w K mg base "_law_cell_at" 1 ["_law_script", "_law_k"] (spCellF K)) : FnOk P w K mg base CX0 2 f fd ["_law_script", "_law_k"] (spMixG K) := by
  refine F.ok scMg (fun vs H Q E ⟨_, _, _, e, _⟩ => by subst e; rfl) (fun cdv A outer s H vs Q E hr h => ?_)
  obtain ⟨a, ns, k, rfl, hS, h0, q⟩ := h
  obtain ⟨gC, dC, GC, mC, kC, bC⟩ := CC.ex
  refine ⟨_, @pss_p _ _ _ _ _ (ps_set (i := 2) scMg.nd (by rfl) (by exact Or.inl rfl) (pe_op op_mod (pe_op op_mul (pe_op op_add (pe_call GC hr (by rfl) mC kC bC .nil pass0 (pa_n (pv 0) (pa_n (pv 1) pa_nil))) (pe_op op_mul (pe_int) (pv 1))) (pe_int)) (pe_int)))
    (@pss_o _ _ _ (ps_ret (pe_op op_mod (pe_op op_add (pe_op op_add (pe_op op_mul (pv 2) (pv 2)) (pe_op op_mul (pe_int) (pv 2))) (pv 1)) (pe_int)))), ?_⟩
  refine ⟨_, rfl, _, rfl, a, ns, k, rfl, hS, h0, _, rfl, _, _, rfl, rfl, .inl ⟨by decide, by decide⟩, _, _, rfl, rfl, _, _, rfl, rfl, .inr ⟨by decide, by decide⟩, _, _, rfl, rfl, (by show (0 : Int) < 2147483647; decide), ?_⟩
  have b := emod_in ((cellF ns k + 7919 * k) * 48271) (m := 2147483647) (by decide)
  show gName 2 (V.int ((cellF ns k + 7919 * k) * 48271 % 2147483647)) _ _ _
  generalize (cellF ns k + 7919 * k) * 48271 % 2147483647 = n at b
  have b2 := emod_in (n * n + 7 * n + k) (m := 2147483629) (by decide)
  exact ⟨_, rfl, _, rfl, _, _, rfl, rfl, .inl ⟨by omega, by omega⟩, _, rfl, _, _, rfl, rfl, .inl ⟨by decide, by decide⟩, _, _, rfl, rfl, _, rfl, _, _, rfl, rfl, _, _, rfl, rfl, (by show (0 : Int) < 2147483629; decide), q _ b2.1 b2.2⟩
/-! ### what stays while one keeper changes -/
def Off (a : Addr) (H H' : Hp) : Prop := ∀ b o, b ≠ a → H b = some o → H' b = some o
theorem Off.tups {a C dx : Addr} {fs : List (Str × V)} {H H' : Hp} (o : Off a H H') (ha : H a = some (.ins C dx fs)) : SameT H H' := fun b xs e => o b _ (fun z => by rw [z, ha] at e; cases e) e
theorem SqL.off {a C dx : Addr} {fs : List (Str × V)} {H H' : Hp} {l : Addr} {xs : List V} (h : SqL K H l xs) (o : Off a H H') (ha : H a = some (.ins C dx fs)) : SqL K H' l xs := by
  rcases h with h | h
  · exact .inl (h.elim (fun e => .inl (o _ _ (fun z => by rw [z, ha] at e; cases e) e)) fun ⟨ob, e⟩ => .inr ⟨ob, o _ _ (fun z => by rw [z, ha] at e; cases e) e⟩)
  · exact .inr h
theorem KpV.ins {H : Hp} {a C : Addr} {num tm : Int} {ms : List Int} (h : KpV H a C num tm ms) : ∃ dx fs, H a = some (.ins C dx fs) := by
  obtain ⟨dx, fs, vp, vr, vs, an, ah, av, aw, ha, _⟩ := h
  exact ⟨dx, fs, ha⟩
theorem RwT.nilT {H H' : Hp} {a : Addr} (h : RwT H a []) (s : SameT H H') : RwT H' a [] := by
  obtain ⟨vs, e, r⟩ := h
  cases r
  exact ⟨[], s _ _ e, .nil⟩
theorem KpV.off {H H' : Hp} {a b C dx' : Addr} {fs' : List (Str × V)} {num tm : Int} {ms : List Int} (h : KpV H b C num tm ms) (hne : b ≠ a) (o : Off a H H') (hi : H a = some (.ins C dx' fs')) : KpV H' b C num tm ms := by
  obtain ⟨dx, fs, vp, vr, vs, an, ah, av, aw, ha, l_number, l_term, l_voice, l_head, l_way, l_pack, l_row, l_store, l_nexts, l_held, l_agreed, l_voices, l_waits, l_ok, ⟨p, q, u, e, h1, h2, ⟨s1, a1, c1, e1, g1, g2, g3⟩⟩, ⟨r, c, us, e2, k1, k2, k3⟩, ⟨s2, a2, c2, e3, g4, g5, g6⟩, hn, hh, hv, hw⟩ := h
  have s := o.tups hi
  cases k3
  exact ⟨dx, fs, vp, vr, vs, an, ah, av, aw, o _ _ hne ha, l_number, l_term, l_voice, l_head, l_way, l_pack, l_row, l_store, l_nexts, l_held, l_agreed, l_voices, l_waits, l_ok, ⟨p, q, u, e, s _ _ h1, s _ _ h2, ⟨s1, a1, c1, e1, s _ _ g1, g2.nilT s, g3.nilT s⟩⟩, ⟨r, c, [], e2, s _ _ k1, s _ _ k2, .nil⟩, ⟨s2, a2, c2, e3, s _ _ g4, g5.nilT s, g6.nilT s⟩, s _ _ hn, s _ _ hh, s _ _ hv, s _ _ hw⟩
end
end K1
set_option Elab.async false
set_option linter.all false
set_option maxRecDepth 100000
set_option maxHeartbeats 4000000
namespace K1
open PySem L2 Kp
section
variable {P : Program} {w : World} {K : PySem.W.Frag} {mg : Str → Option Value} {base : Heap}
theorem KpV.look {H : Hp} {a C : Addr} {num tm : Int} {ms : List Int} (h : KpV H a C num tm ms) : ∃ dx fs, H a = some (.ins C dx fs) ∧ fs.lookup ("term" : Str) = some (.int tm) ∧ fs.lookup ("hear" : Str) = none ∧ fs.lookup ("wake" : Str) = none := by
  obtain ⟨dx, fs, vp, vr, vs, an, ah, av, aw, ha, l_number, l_term, l_voice, l_head, l_way, l_pack, l_row, l_store, l_nexts, l_held, l_agreed, l_voices, l_waits, l_ok, _⟩ := h
  exact ⟨dx, fs, ha, l_term, l_ok.no (by decide +kernel), l_ok.no (by decide +kernel)⟩
def spInit (C : Addr) : Sp := fun vs H Q _ => ∃ (x q dx : Addr) (num : Int) (ms : List Int), vs = [.ref x, .int num, .ref q] ∧ H x = some (.ins C dx []) ∧ H q = some (.tup (ms.map V.int)) ∧ 0 ≤ num ∧ num ≤ 8 ∧ ms.length ≤ 9 ∧ ∀ H', KpV H' x C num 0 ms → Off x H H' → Q .non H'
def spHear (C : Addr) : Sp := fun vs H Q _ => ∃ (a : Addr) (t num tm : Int) (ms : List Int), vs = [.ref a, .int t] ∧ KpV H a C num tm ms ∧ 0 ≤ tm ∧ 0 ≤ t ∧ ∀ H', KpV H' a C num (if t > tm then t else tm) ms → Off a H H' → Q .non H'
def spWake (C : Addr) : Sp := fun vs H Q _ => ∃ (a : Addr) (num tm : Int) (ms : List Int), vs = [.ref a] ∧ KpV H a C num tm ms ∧ 0 ≤ tm ∧ ∀ H', KpV H' a C num tm ms → Off a H H' → Q .non H'
structure KpM (P : Program) (w : World) (K : PySem.W.Frag) (mg : Str → Option Value) (base : Heap) (C : Addr) (kI kH kW : Nat) (pI pH pW : List Str) : Prop where
  gl : mg "Keeper" = some (.ref C)
  init : ∃ f fd, Mk K C f ∧ FnOk P w K mg base CX0 kI f fd pI (spInit C) ∧ Binds K fd pI []
  hear : ∃ f fd, Meth K C "hear" f ∧ FnOk P w K mg base CX0 kH f fd pH (spHear C) ∧ Binds K fd pH []
  wake : ∃ f fd, Meth K C "wake" f ∧ FnOk P w K mg base CX0 kW f fd pW (spWake C) ∧ Binds K fd pW []
def tH40 : TS := fun D σ H => ∃ (v0 v1 v2 v3 v4 v5 v6 : Option V) (m h : Int), σ = [v0, v1, v2, v3, v4, v5, v6, some (.int m), some (.int h)] ∧ 0 ≤ h ∧ ∀ h' : Int, 0 ≤ h' → D.nx [v0, v1, v2, v3, v4, v5, v6, some (.int m), some (.int h')] H
def tK40 (C : Addr) : TS := fun D σ H => ∃ (v0 v1 v2 v4 v6 v8 : Option V) (a : Addr) (num tm m : Int) (ms : List Int), σ = [v0, v1, v2, some (.ref a), v4, some (.int tm), v6, some (.int m), v8] ∧ KpV H a C num tm ms ∧ 0 ≤ tm ∧ 0 ≤ m ∧ ∀ (tm' : Int) (v8' : Option V) (H' : Hp), 0 ≤ tm' → KpV H' a C num tm' ms → Off a H H' → D.nx [v0, v1, v2, some (.ref a), v4, some (.int tm'), v6, some (.int m), v8'] H'
theorem made_same {H H2 : Hp} {x dx C : Addr} (hx : H x = none) (hdx : H dx = none) (off : Off x (upd (upd H dx (.own x)) x (.ins C dx [])) H2) : Same H H2 := fun b o e => by
  have h1 : b ≠ x := fun z => by rw [z, hx] at e; cases e
  have h2 : b ≠ dx := fun z => by rw [z, hdx] at e; cases e
  exact off b o h1 (by rw [upd_ne h1, upd_ne h2]; exact e)
def spLaw (K : PySem.W.Frag) : Sp := fun vs H Q _ => ∃ (a : Addr) (ns : List Int), vs = [.ref a] ∧ SqL K H a (ns.map V.int) ∧ ns.length ≤ 63 ∧ ∀ H', Q (.bl true) H'
theorem scL40 : FnScope ["_law_script", "_law_number", "_law_seats", "_law_keeper", "_law_aside", "_law_term", "_law_at", "_law_some", "_law_heard"] ["_law_script"] (defScope sLaw) := ⟨rfl, rfl, rfl, by decide +kernel, rfl, by decide +kernel, by decide +kernel⟩
theorem ok_law {f : Addr} {fd : FuncData} {C : Addr} {kI kH kW kA LV : Nat} {pI pH pW : List Str} (hL : 2 ≤ LV ∧ kI + 1 ≤ LV ∧ kH ≤ LV ∧ kW ≤ LV ∧ kA ≤ LV) (Y : KpC K C) (Y2 : KpM P w K mg base C kI kH kW pI pH pW) (F : Fun K "law" "law" sLaw f fd) (T : Txt mg) (CM : Cal P w K mg base "_law_mixed" 2 ["_law_script", "_law_k"] (spMixG K)) (CW : Cal P w K mg base "_law_whole" 1 ["_law_found"] spWholeI) (CA : Cal P w K mg base "_law_as_made" kA ["_law_keeper", "_law_number", "_law_seats"] (spMadeL C)) : FnOk P w K mg base CX0 (LV + 1) f fd ["_law_script"] (spLaw K) := by
  refine F.ok scL40 (fun vs H Q E ⟨_, _, e, _⟩ => by subst e; rfl) (fun cdv A outer s H vs Q E hr h => ?_)
  obtain ⟨a, ns, rfl, hS, hlen, k⟩ := h
  obtain ⟨gM, dM, GM, mM, kM, bM⟩ := CM.ex
  obtain ⟨gW, dW, GW, mW, kW, bW⟩ := CW.ex
  obtain ⟨gA, dA, GA, mA, kA, bA⟩ := CA.ex
  obtain ⟨fI, dI, MI, FI, bI⟩ := Y2.init
  obtain ⟨fH, dH, MH, FH, bH⟩ := Y2.hear
  obtain ⟨fW, dW, MW, FW, bW'⟩ := Y2.wake
  have r1 := hr.mono (show 1 ≤ LV by omega)
  have r2 := hr.mono hL.1
  have rI := hr.mono hL.2.1
  have rH := hr.mono hL.2.2.1
  have rW := hr.mono hL.2.2.2.1
  have rA := hr.mono hL.2.2.2.2
  refine ⟨_, @pss_p _ _ _ _ _ (ps_set (i := 1) scL40.nd (by rfl) (by exact Or.inl rfl) (pe_op op_mod (pe_call GM r2 (by rfl) mM kM bM .nil pass0 (pa_n (pv 0) (pa_i pe_int pa_nil))) (pe_int)))
    (@pss_q _ _ _ _ _ (qs_set (i := 2) scL40.nd (by rfl) (by exact Or.inl rfl) (qx_ix ix_list (qx_lst (qa_tup (qa_int (qa_nil)) (qa_tup (qa_int (qa_int (qa_int (qa_nil)))) (qa_tup (qa_int (qa_int (qa_int (qa_nil)))) (qa_tup (qa_int (qa_int (qa_int (qa_int (qa_int (qa_int (qa_int (qa_int (qa_int (qa_nil)))))))))) qa_nil))))) (pe_op op_mod (pe_op op_fdiv (pe_call GM r2 (by rfl) mM kM bM .nil pass0 (pa_n (pv 0) (pa_i pe_int pa_nil))) (pe_int)) (pe_int)) px_b) sw_s)
    (@pss_p _ _ _ _ _ (ps_set (i := 3) scL40.nd (by rfl) (by exact Or.inl rfl) (pe_make MI FI rI (by rfl) Y2.gl bI .nil pass0 (pa_n (pv 1) (pa_n (pv 2) pa_nil))))
    (@pss_p _ _ _ _ _ (ps_set (i := 4) scL40.nd (by rfl) (by exact Or.inl rfl) (pe_make MI FI rI (by rfl) Y2.gl bI .nil pass0 (pa_b (pe_op op_sub (pe_int) (pv 1)) (pa_t (QE.h (qx_tup (qa_int (qa_int (qa_nil))))) pa_nil))))
    (@pss_p _ _ _ _ _ (ps_set (i := 5) scL40.nd (by rfl) (by exact Or.inl rfl) (pe_int))
    (@pss_p _ _ _ _ _ (ps_for PassesOwn.never (by rfl) (pi_range2 (by rfl) T.range (pa_i pe_int (pa_k (pe_callB call_len_seq (by rfl) T.len PySem.boot_len (pa_n (pv 0) pa_nil)) pa_nil))) (pg_name (i := 6) scL40.nd (by rfl) (by exact Or.inl rfl)) (@pss_p _ _ _ _ _ (ps_set (i := 7) scL40.nd (by rfl) (by exact Or.inl rfl) (pe_call GM r2 (by rfl) mM kM bM .nil pass0 (pa_n (pv 0) (pa_n (pv 6) pa_nil))))
    (@pss_p _ _ _ _ _ (PS.weakU (t' := tK40 C) (ps_if (pt_cmpR op_eq (pe_op op_mod (pv 7) (pe_int)) (pe_int) (nomark _)) (@pss_o _ _ _ (ps_if (pt_cmpR op_notN (pe_meth0 (pv 3) Y.cl MW FW rW bW' .nil pass0) pe_non (nomark _)) (@pss_o _ _ _ (ps_ret pe_bl)) pss_nil)) (@pss_p _ _ _ _ _ (ps_set (i := 8) scL40.nd (by rfl) (by exact Or.inl rfl) (pe_op op_mod (pe_op op_fdiv (pv 7) (pe_int)) (pe_int)))
    (@pss_p _ _ _ _ _ (PS.weakU (t' := tH40) (ps_if (pt_cmpR op_eq (pe_op op_mod (pe_op op_fdiv (pv 7) (pe_int)) (pe_int)) (pe_int) (nomark _)) (@pss_o _ _ _ (ps_set (i := 8) scL40.nd (by rfl) (by exact Or.inl rfl) (pe_op op_add (pv 8) (pe_op op_pow pe_int pe_int)))) pss_nil) ?w2)
    (@pss_p _ _ _ _ _ (ps_if (pt_cmpR op_notN (pe_meth (pv 3) Y.cl MH FH rH bH .nil pass0 (pa_n (pv 8) pa_nil)) pe_non (nomark _)) (@pss_o _ _ _ (ps_ret pe_bl)) pss_nil)
    (@pss_o _ _ _ (ps_set (i := 5) scL40.nd (by rfl) (by exact Or.inl rfl) (pe_callB (call_max2 (by rfl)) (by rfl) T.max boot_max (pa_n (pv 5) (pa_n (pv 8) pa_nil))))))))) ?w1)
    (@pss_o _ _ _ (ps_if (PW.pt (pw_or (pt_not (pt_val (pe_call GW r1 (by rfl) mW kW bW .nil pass0 (pa_cons (pe_fld (pv 3) (by rfl)) pa_nil)))) (pw_or (pt_cmpR op_ne (pe_fld (pv 3) (by rfl)) (pv 5) (nomark _)) (pw_or1 (pt_not (pt_val (pe_call GA rA (by rfl) mA kA bA .nil pass0 (pa_n (pv 3) (pa_n (pv 1) (pa_n (pv 2) pa_nil)))))))))) (@pss_o _ _ _ (ps_ret pe_bl)) pss_nil)))))
    (@pss_o _ _ _ (ps_ret (pe_and (pe_call GA rA (by rfl) mA kA bA .nil pass0 (pa_n (pv 3) (pa_n (pv 1) (pa_n (pv 2) pa_nil)))) (pe_and (pe_call GA rA (by rfl) mA kA bA .nil pass0 (pa_n (pv 4) (pa_b (pe_op op_sub (pe_int) (pv 1)) (pa_t (QE.h (qx_tup (qa_int (qa_int (qa_nil))))) pa_nil)))) (pe_one (pe_cmpR op_eq (pe_fld (pv 4) (by rfl)) pe_int (nomark _)))))))))))), ?_⟩
  case w2 =>
    rintro D σ H ⟨v0, v1, v2, v3, v4, v5, v6, m, h, rfl, hh, q⟩
    refine ⟨_, rfl, _, _, rfl, rfl, ⟨by decide, by decide⟩, _, _, rfl, rfl, (by show (0 : Int) < 9; decide), rfl, _, rfl, ite2 (fun _ => ?_) (fun _ => q h hh)⟩
    have big : (10 : Int) ^ (25 : Int).toNat = 10000000000000000000000000 := by decide
    exact ⟨_, rfl, _, _, rfl, rfl, ⟨by decide, by decide, by decide⟩, _, _, rfl, rfl, q _ (by rw [big]; omega)⟩
  case w1 =>
    rintro D σ H ⟨v0, v1, v2, v4, v6, v8, x, num, tm, m, ms, rfl, hk, h0, hm0, q⟩
    obtain ⟨dx, fs, ha, _, lh, lwk⟩ := hk.look
    refine ⟨_, rfl, _, _, rfl, rfl, (by show (0 : Int) < 5; decide), rfl, _, rfl, ite2 (fun _ => ?_) (fun _ => ?_)⟩
    · refine ⟨_, rfl, x, dx, fs, rfl, ha, lwk, x, num, tm, ms, rfl, hk, h0, fun H' hk' off => ⟨rfl, _, rfl, ?_⟩⟩
      rw [decide_eq_true rfl]
      exact iteF (q tm _ H' h0 hk' off)
    · refine ⟨_, rfl, _, _, rfl, rfl, ⟨by decide, by decide⟩, _, _, rfl, rfl, (by show (0 : Int) < 14; decide), ?_⟩
      refine ⟨_, _, _, _, _, _, _, m, _, rfl, (emod_in (m / 5) (m := 14) (by decide)).1, fun h hh => ?_⟩
      refine ⟨_, rfl, x, dx, fs, rfl, ha, lh, _, rfl, x, h, num, tm, ms, rfl, hk, h0, hh, fun H' hk' off => ⟨rfl, _, rfl, ?_⟩⟩
      rw [decide_eq_true rfl]
      exact iteF ⟨_, rfl, _, rfl, tm, h, rfl, q _ _ H' (by split <;> omega) hk' off⟩
  refine ⟨_, rfl, a, ns, 0, rfl, hS, by decide, fun m1 hm1 hm1' => ⟨_, _, rfl, rfl, (by show (0 : Int) < 9; decide), ?_⟩⟩
  have b9 := emod_in m1 (m := 9) (by decide)
  show gName 1 (V.int (m1 % 9)) _ _ _
  generalize m1 % 9 = num at b9
  refine ⟨tiny (by show 1 ≤ 1000; decide), fun t1 h1 => ⟨tiny (by show 3 ≤ 1000; decide), fun t2 h2 => ⟨tiny (by show 3 ≤ 1000; decide), fun t3 h3 => ⟨tiny (by show 9 ≤ 1000; decide), fun t4 h4 => ⟨tiny (by show 4 ≤ 1000; decide), fun l hl => ?_⟩⟩⟩⟩⟩
  have s1 := same_upd (o := HO.tup (([0] : List Int).map V.int)) h1
  have s2 := same_upd (o := HO.tup (([1, 2, 3] : List Int).map V.int)) h2
  have s3 := same_upd (o := HO.tup (([0, 4, 8] : List Int).map V.int)) h3
  have s4 := same_upd (o := HO.tup (([0, 1, 2, 3, 4, 5, 6, 7, 8] : List Int).map V.int)) h4
  have s5 := same_upd (o := HO.lst [V.ref t1, V.ref t2, V.ref t3, V.ref t4]) hl
  have sX := s1.trans (s2.trans (s3.trans (s4.trans s5)))
  refine ⟨_, rfl, a, ns, 0, rfl, SqL.same hS sX, by decide, fun m2 hm2 hm2' => ?_⟩
  obtain ⟨e0, e1⟩ := emod_in (m2 / 9) (m := 4) (by decide)
  obtain ⟨v9, hv9, hm9⟩ := atI_mem (xs := [V.ref t1, V.ref t2, V.ref t3, V.ref t4]) e0 (by simpa using e1)
  obtain ⟨q, ms, rfl, hq, hms⟩ : ∃ (q : Addr) (ms : List Int), v9 = .ref q ∧ (upd (upd (upd (upd (upd H t1 (HO.tup (([0] : List Int).map V.int))) t2 (HO.tup (([1, 2, 3] : List Int).map V.int))) t3 (HO.tup (([0, 4, 8] : List Int).map V.int))) t4 (HO.tup (([0, 1, 2, 3, 4, 5, 6, 7, 8] : List Int).map V.int))) l (HO.lst [V.ref t1, V.ref t2, V.ref t3, V.ref t4])) q = some (.tup (ms.map V.int)) ∧ ms.length ≤ 9 := by
    simp only [List.mem_cons, List.not_mem_nil, or_false] at hm9
    rcases hm9 with rfl | rfl | rfl | rfl
    · exact ⟨t1, [0], rfl, (s2.trans (s3.trans (s4.trans s5))) _ _ upd_same, by decide⟩
    · exact ⟨t2, [1, 2, 3], rfl, (s3.trans (s4.trans s5)) _ _ upd_same, by decide⟩
    · exact ⟨t3, [0, 4, 8], rfl, (s4.trans s5) _ _ upd_same, by decide⟩
    · exact ⟨t4, [0, 1, 2, 3, 4, 5, 6, 7, 8], rfl, s5 _ _ upd_same, by decide⟩
  refine ⟨_, _, rfl, rfl, ⟨by decide, by decide⟩, _, _, rfl, rfl, (by show (0 : Int) < 4; decide), l, _, _, .ref q, rfl, rfl, SqL.of upd_same, hv9, ?_⟩
  have hS1 := SqL.same hS sX
  obtain ⟨H1, e1, hq1, hS2⟩ : ∃ H1 : Hp, H1 = (upd (upd (upd (upd (upd H t1 (HO.tup [V.int 0])) t2 (HO.tup [V.int 1, V.int 2, V.int 3])) t3 (HO.tup [V.int 0, V.int 4, V.int 8])) t4 (HO.tup [V.int 0, V.int 1, V.int 2, V.int 3, V.int 4, V.int 5, V.int 6, V.int 7, V.int 8])) l (HO.lst [V.ref t1, V.ref t2, V.ref t3, V.ref t4])) ∧ H1 q = some (.tup (ms.map V.int)) ∧ SqL K H1 a (ns.map V.int) := ⟨_, rfl, hq, hS1⟩
  refine ⟨_, rfl, _, rfl, fun x dx hx hdx hne => ?_⟩
  rw [← e1] at hx hdx ⊢
  clear e1 hq hS1 hv9 sX s5 s4 s3 s2 s1 hl h4 h3 h2 h1 hm9
  have nq : ∀ {b : Addr} {o : HO}, H1 b = some o → (upd (upd H1 dx (.own x)) x (.ins C dx [])) b = some o := fun {b o} e => by
    have g1 : b ≠ x := fun z => by rw [z, hx] at e; cases e
    have g2 : b ≠ dx := fun z => by rw [z, hdx] at e; cases e
    rw [upd_ne g1, upd_ne g2]; exact e
  refine ⟨x, q, dx, num, ms, rfl, upd_same, nq hq1, b9.1, by omega, hms, fun H2 hk off => ⟨rfl, ?_⟩⟩
  have s2 := made_same hx hdx off
  refine ⟨_, rfl, _, _, rfl, rfl, tiny (by show 2 ≤ 1000; decide), fun t5 h5 => ?_⟩
  have s3 := same_upd (o := HO.tup (([5, 6] : List Int).map V.int)) h5
  refine fun x2 dx2 hx2 hdx2 hne2 => ?_
  obtain ⟨dxk, fsk, hak, _⟩ := (hk.same s3).look
  have hxx : x2 ≠ x := fun z => by
    have z2 : (upd H2 t5 (HO.tup (([5, 6] : List Int).map V.int))) x = none := z ▸ hx2
    rw [hak] at z2
    cases z2
  have g1 : t5 ≠ x2 := fun z => by
    have z2 : (upd H2 t5 (HO.tup (([5, 6] : List Int).map V.int))) t5 = none := z ▸ hx2
    rw [upd_same] at z2
    cases z2
  have g2 : t5 ≠ dx2 := fun z => by
    have z2 : (upd H2 t5 (HO.tup (([5, 6] : List Int).map V.int))) t5 = none := z ▸ hdx2
    rw [upd_same] at z2
    cases z2
  refine ⟨x2, t5, dx2, 8 - num, [5, 6], rfl, upd_same, by rw [upd_ne g1, upd_ne g2]; exact upd_same, by omega, by omega, by decide, fun H4 hk2 off2 => ⟨rfl, ?_⟩⟩
  have s4 := made_same hx2 hdx2 off2
  have s34 := s3.trans s4
  have hS4 := SqL.same hS2 (s2.trans s34)
  refine ⟨_, rfl, a, _, rfl, .inl hS4, _, _, rfl, ⟨by decide, by decide, by rw [List.length_map]; omega, by rw [List.length_map]; omega⟩, ?_⟩
  refine for_range (n := _) (fun i σ H' => ∃ (tm : Int) (t6 t7 t8 : Option V), σ = [some (.ref a), some (.int num), some (.ref q), some (.ref x), some (.ref x2), some (.int tm), t6, t7, t8] ∧ 0 ≤ tm ∧ KpV H' x C num tm ms ∧ KpV H' x2 C (8 - num) 0 [5, 6] ∧ SqL K H' a (ns.map V.int) ∧ H' q = some (.tup (ms.map V.int)))
    ⟨0, none, none, none, rfl, Int.le_refl _, hk.same s34, hk2, hS4, (s2.trans s34) _ _ hq1⟩ ?_ ?_
  · rintro i σ H' hi ⟨tm, t6, t7, t8, rfl, h0, hkA, hkB, hSA, hqA⟩
    refine ⟨_, rfl, _, rfl, a, ns, _, rfl, hSA, by omega, fun m hm hm' => ?_⟩
    refine ⟨_, _, _, _, _, _, x, num, tm, m, ms, rfl, hkA, h0, hm, fun tm' v8 H5 h0' hk5 off5 => ?_⟩
    obtain ⟨dxa, fsa, haa, _⟩ := hkA.look
    have hkB5 := hkB.off hxx off5 haa
    have hS5 := SqL.off hSA off5 haa
    have hq5 := off5.tups haa _ _ hqA
    obtain ⟨dx5, fs5, ha5, lt5, _⟩ := hk5.look
    refine ⟨_, rfl, x, C, dx5, fs5, _, rfl, ha5, Y.cl, Y.n_term, lt5, tm', rfl, _, rfl, iteF ⟨_, rfl, x, C, dx5, fs5, _, rfl, ha5, Y.cl, Y.n_term, lt5, _, rfl, rfl, _, rfl, ?_⟩⟩
    rw [decide_eq_true rfl]
    refine iteF ⟨_, rfl, _, rfl, _, rfl, x, q, num, tm', ms, rfl, hk5, hq5, fun H6 s6 => ⟨_, rfl, iteF ?_⟩⟩
    exact ⟨tm', _, _, _, rfl, h0', hk5.same s6, hkB5.same s6, SqL.same hS5 s6, s6 _ _ hq5⟩
  · rintro σ H' ⟨tm, t6, t7, t8, rfl, h0, hkA, hkB, hSA, hqA⟩
    refine ⟨_, rfl, _, rfl, _, rfl, x, q, num, tm, ms, rfl, hkA, hqA, fun H6 s6 => ⟨_, rfl, iteT ?_⟩⟩
    refine ⟨_, rfl, _, rfl, _, _, rfl, rfl, tiny (by show 2 ≤ 1000; decide), fun t9 h9 => ?_⟩
    have s7 := same_upd (o := HO.tup (([5, 6] : List Int).map V.int)) h9
    refine ⟨x2, t9, 8 - num, 0, [5, 6], rfl, hkB.same (s6.trans s7), upd_same, fun H8 s8 => ⟨_, rfl, iteT ?_⟩⟩
    obtain ⟨dx5, fs5, ha5, lt5, _⟩ := (hkB.same (s6.trans (s7.trans s8))).look
    refine ⟨_, rfl, x2, C, dx5, fs5, _, rfl, ha5, Y.cl, Y.n_term, lt5, rfl, ?_⟩
    rw [decide_eq_true rfl]
    exact k _
end
end K1
set_option Elab.async false
set_option linter.all false
set_option maxRecDepth 100000
set_option maxHeartbeats 4000000
namespace K1
open PySem L2 Kp
/-! ### what stores and packs promise, whatever law asks -/
def spFreshP (K : PySem.W.Frag) : Sp := fun vs H Q _ => vs = [] ∧ ∀ (v : V) (H' : Hp), StV H' v ([], []) → Same H H' → Q v H'
def spFp : Sp := fun vs H Q _ => ∃ (q : Addr) (ms : List Int), vs = [.ref q] ∧ H q = some (.tup (ms.map V.int)) ∧ ∀ (r : V) (H' : Hp), PkV H' r ⟨0, 0, ms, ([], [])⟩ → Same H H' → Q r H'
def spBegP : Sp := fun vs H Q _ => vs = [] ∧ ∀ (v : V) (H' : Hp), RwP H' v 0 0 [] → Same H H' → Q v H'
def spEndP : Sp := fun vs H Q _ => ∃ (v : V) (b l : Int) (es : List En), vs = [v] ∧ RwP H v b l es ∧ Q (.int (b + (es.length : Int))) H
def seatB : What → Bool
  | .seats _ => true
  | _ => false
def spHoldP : Sp := fun vs H Q _ => ∃ (p : Addr) (t : Int) (u : V) (x : What), vs = [.ref p] ∧ H p = some (.tup [.int t, u]) ∧ WhatV H u x ∧ Q (.bl (seatB x)) H
def spSeatsP : Sp := fun vs H Q _ => ∃ (v : V) (q : Addr) (b l : Int) (es : List En) (ms : List Int), vs = [v, .ref q] ∧ RwP H v b l es ∧ H q = some (.tup (ms.map V.int)) ∧ ∀ q' : Addr, H q' = some (.tup ((seatsF ms es).map V.int)) → Q (.ref q') H
theorem so_ne : ("open" : Str) ≠ "seats" := by decide +kernel
theorem sw_ne : ("wish" : Str) ≠ "seats" := by decide +kernel
theorem vs_ne {a b : Str} (h : a ≠ b) : ¬ V.str a = V.str b := fun e => h (by injection e)
end K1
set_option Elab.async false
set_option linter.all false
set_option maxRecDepth 100000
set_option maxHeartbeats 4000000
namespace K1
open PySem L2 Kp
section
variable {P : Program} {w : World} {K : PySem.W.Frag} {mg : Str → Option Value} {base : Heap}
theorem scEo : FnScope ["row"] ["row"] (defScope s_end_of) := ⟨rfl, rfl, rfl, by decide +kernel, rfl, by decide +kernel, by decide +kernel⟩
theorem ok_end_of {f : Addr} {fd : FuncData} (F : Fun K "end_of" "end_of" s_end_of f fd) (T : Txt mg) : FnOk P w K mg base CX0 1 f fd ["row"] spEndP := by
  refine F.ok scEo (fun vs H Q E ⟨_, _, _, _, e, _⟩ => by subst e; rfl) (fun cdv A outer s H vs Q E hr h => ?_)
  obtain ⟨v, b, l, es, rfl, ⟨rb, c, us, rfl, hb, hc, he⟩, q⟩ := h
  refine ⟨_, @pss_o _ _ _ (ps_ret (pe_op op_add (pe_ix ix_tup (pv 0) (pe_int) px_i) (pe_callB call_len_seq (by rfl) T.len PySem.boot_len (pa_s (pe_ix ix_tup (pv 0) (pe_int) px_i) pa_nil)))), ?_⟩
  refine ⟨_, rfl, rb, _, _, .int b, rfl, rfl, SqT.of hb, atI_nat (j := 0) rfl, _, rfl, rb, _, _, .ref c, rfl, rfl, SqT.of hb, atI_nat (j := 2) rfl, c, us, rfl, .inr (SqT.of hc), _, _, rfl, rfl, ?_⟩
  show Q (.int (b + (us.length : Int))) H
  rw [he.length]; exact q
theorem scHs : FnScope ["entry"] ["entry"] (defScope s_holds_seats) := ⟨rfl, rfl, rfl, by decide +kernel, rfl, by decide +kernel, by decide +kernel⟩
theorem ok_holds {f : Addr} {fd : FuncData} (F : Fun K "holds_seats" "holds_seats" s_holds_seats f fd) : FnOk P w K mg base CX0 1 f fd ["entry"] spHoldP := by
  refine F.ok scHs (fun vs H Q E ⟨_, _, _, _, e, _⟩ => by subst e; rfl) (fun cdv A outer s H vs Q E hr h => ?_)
  obtain ⟨p, t, u, x, rfl, hp, hx, k⟩ := h
  refine ⟨_, @pss_o _ _ _ (ps_ret (pe_cmpR op_eq (pe_ix ix_tup (pe_ix ix_tup (pv 0) (pe_int) px_i) (pe_int) px_i) pe_str (nomark _))), ?_⟩
  have a1 : atI [V.int t, u] 1 = some u := atI_nat (j := 1) rfl
  cases x with
  | opn =>
    obtain ⟨p2, rfl, h2⟩ := hx
    refine ⟨_, rfl, p, _, _, _, rfl, rfl, SqT.of hp, a1, p2, _, _, .str "open", rfl, rfl, SqT.of h2, atI_nat (j := 0) rfl, rfl, ?_⟩
    show Q (.bl (decide (V.str "open" = V.str "seats"))) H
    rw [decide_eq_false (vs_ne so_ne)]; exact k
  | seats ms =>
    obtain ⟨p2, q2, rfl, h2, _⟩ := hx
    refine ⟨_, rfl, p, _, _, _, rfl, rfl, SqT.of hp, a1, p2, _, _, .str "seats", rfl, rfl, SqT.of h2, atI_nat (j := 0) rfl, rfl, ?_⟩
    show Q (.bl (decide (V.str "seats" = V.str "seats"))) H
    rw [decide_eq_true rfl]; exact k
  | wish c n d =>
    obtain ⟨p2, u2, rfl, h2, _⟩ := hx
    refine ⟨_, rfl, p, _, _, _, rfl, rfl, SqT.of hp, a1, p2, _, _, .str "wish", rfl, rfl, SqT.of h2, atI_nat (j := 0) rfl, rfl, ?_⟩
    show Q (.bl (decide (V.str "wish" = V.str "seats"))) H
    rw [decide_eq_false (vs_ne sw_ne)]; exact k
theorem scSeO : FnScope ["row", "first", "seats", "entry"] ["row", "first"] (defScope s_seats_of) := ⟨rfl, rfl, rfl, by decide +kernel, rfl, by decide +kernel, by decide +kernel⟩
theorem ok_seats_of {f : Addr} {fd : FuncData} (F : Fun K "seats_of" "seats_of" s_seats_of f fd) (CH : Cal P w K mg base "holds_seats" 1 ["entry"] spHoldP) : FnOk P w K mg base CX0 2 f fd ["row", "first"] spSeatsP := by
  refine F.ok scSeO (fun vs H Q E ⟨_, _, _, _, _, _, e, _⟩ => by subst e; rfl) (fun cdv A outer s H vs Q E hr h => ?_)
  obtain ⟨v, q0, b, l, es, ms, rfl, ⟨rb, c, us, rfl, hb, hc, he⟩, hq0, k⟩ := h
  obtain ⟨gH, dH, GH, mH, kH, bH⟩ := CH.ex
  refine ⟨_, @pss_p _ _ _ _ _ (ps_set (i := 2) scSeO.nd (by rfl) (by exact Or.inl rfl) (pv 1))
    (@pss_p _ _ _ _ _ (ps_for PassesOwn.never (by rfl) (pi_tup (pe_ix ix_tup (pv 0) (pe_int) px_i)) (pg_name (i := 3) scSeO.nd (by rfl) (by exact Or.inl rfl)) (@pss_o _ _ _ (ps_if (pt_val (pe_call GH hr (by rfl) mH kH bH .nil pass0 (pa_n (pv 3) pa_nil))) (@pss_o _ _ _ (ps_set (i := 2) scSeO.nd (by rfl) (by exact Or.inl rfl) (pe_ix ix_tup (pe_ix ix_tup (pv 3) (pe_int) px_i) (pe_int) px_i))) pss_nil)))
    (@pss_o _ _ _ (ps_ret (pv 2)))), ?_⟩
  have hlen := he.length
  refine ⟨_, rfl, ?_⟩
  refine ⟨_, rfl, rb, _, _, .ref c, rfl, rfl, SqT.of hb, atI_nat (j := 2) rfl, c, rfl, ⟨_, SqT.of hc⟩, for_tup (K := K) (a := c) (xs := us) (fun i σ H' => ∃ (qi : Addr) (t : Option V), σ = [some (.ref rb), some (.ref q0), some (.ref qi), t] ∧ H' = H ∧ H qi = some (.tup ((seatsF ms (es.take i)).map V.int)))
    ⟨q0, none, rfl, rfl, by rw [List.take_zero]; exact hq0⟩ (fun i σ H' _ ⟨_, _, _, e, _⟩ => by rw [e]; exact SqT.of hc) ?_ ?_⟩
  · rintro i x σ H' hx ⟨qi, t, rfl, rfl, hqi⟩
    have hi : i < es.length := by rw [← hlen]; exact (List.getElem?_eq_some_iff.mp hx).1
    obtain ⟨p, u, gv, hp, hu⟩ := he.get hi
    rw [gv] at hx
    cases hx
    have e0 := seatsF_snoc ms es hi
    refine ⟨_, rfl, p, _, u, (es[i]).2, rfl, hp, hu, _, rfl, ?_⟩
    cases ho : (es[i]).2 with
    | opn =>
      rw [ho] at e0
      refine iteF ⟨qi, some (.ref p), rfl, rfl, ?_⟩
      rw [e0]; exact hqi
    | wish c n d =>
      rw [ho] at e0
      refine iteF ⟨qi, some (.ref p), rfl, rfl, ?_⟩
      rw [e0]; exact hqi
    | seats ns =>
      rw [ho] at e0 hu
      obtain ⟨p2, q2, rfl, h2, hq2⟩ := hu
      refine iteT ⟨_, rfl, p, _, _, .ref p2, rfl, rfl, SqT.of hp, atI_nat (j := 1) rfl, p2, _, _, .ref q2, rfl, rfl, SqT.of h2, atI_nat (j := 1) rfl, q2, some (.ref p), rfl, rfl, ?_⟩
      rw [e0]; exact hq2
  · rintro σ H' ⟨qi, t, rfl, rfl, hqi⟩
    rw [List.take_of_length_le (by omega)] at hqi
    exact ⟨_, rfl, k qi hqi⟩
end
end K1
set_option Elab.async false
set_option linter.all false
set_option maxRecDepth 100000
set_option maxHeartbeats 4000000
namespace K1
open PySem L2 Kp
section
variable {P : Program} {w : World} {K : PySem.W.Frag} {mg : Str → Option Value} {base : Heap}
theorem Off.refl {a : Addr} {H : Hp} : Off a H H := fun b o _ e => e
theorem Off.trans {a : Addr} {H H' H2 : Hp} (h : Off a H H') (h' : Off a H' H2) : Off a H H2 := fun b o n e => h' b o n (h b o n e)
theorem off_upd {a : Addr} {H : Hp} {o : HO} : Off a H (upd H a o) := fun b u n e => by rw [upd_ne n]; exact e
theorem off_same {a : Addr} {H H' : Hp} (s : Same H H') : Off a H H' := fun b u _ e => s _ _ e
theorem off_new {a p : Addr} {H : Hp} {o : HO} (hp : H p = none) : Off a H (upd H p o) := off_same (same_upd hp)
theorem PkV.offT {H H' : Hp} {v : V} {ms : List Int} (h : PkV H v ⟨0, 0, ms, ([], [])⟩) (s : SameT H H') : PkV H' v ⟨0, 0, ms, ([], [])⟩ := by
  obtain ⟨p, q, u, e, h1, h2, ⟨s1, a1, c1, e1, g1, g2, g3⟩⟩ := h
  exact ⟨p, q, u, e, s _ _ h1, s _ _ h2, ⟨s1, a1, c1, e1, s _ _ g1, g2.nilT s, g3.nilT s⟩⟩
theorem RwP.offT {H H' : Hp} {v : V} (h : RwP H v 0 0 []) (s : SameT H H') : RwP H' v 0 0 [] := by
  obtain ⟨r, c, us, e2, k1, k2, k3⟩ := h
  cases k3
  exact ⟨r, c, [], e2, s _ _ k1, s _ _ k2, .nil⟩
/-- plain, no voices, no head, nothing waits; the other values as they were -/
structure Plain (C a dx : Addr) (fs fs' : List (Str × V)) (av aw : Addr) (H H' : Hp) : Prop where
  at_ : H' a = some (.ins C dx fs')
  ok : FsOk fs'
  way : fs'.lookup ("way" : Str) = some (.str "plain")
  voices : fs'.lookup ("voices" : Str) = some (.ref av)
  head : fs'.lookup ("head" : Str) = some .non
  waits : fs'.lookup ("waits" : Str) = some (.ref aw)
  hv : H' av = some (.tup [])
  hw : H' aw = some (.tup [])
  kept : ∀ g : Str, ¬ g ∈ (["way", "voices", "head", "waits"] : List Str) → fs'.lookup g = fs.lookup g
  off : Off a H H'
def spPlainK (C : Addr) : Sp := fun vs H Q _ => ∃ (a dx : Addr) (fs : List (Str × V)), vs = [.ref a] ∧ H a = some (.ins C dx fs) ∧ FsOk fs ∧ ∀ (fs' : List (Str × V)) (av aw : Addr) (H' : Hp), Plain C a dx fs fs' av aw H H' → Q .non H'
theorem scBp : FnScope ["self"] ["self"] (defScope s_Keeper_be_plain) := ⟨rfl, rfl, rfl, by decide +kernel, rfl, by decide +kernel, by decide +kernel⟩
theorem ok_be_plain {f : Addr} {fd : FuncData} {C : Addr} (Y : KpC K C) (F : Fun K "be_plain" "Keeper.be_plain" s_Keeper_be_plain f fd) : FnOk P w K mg base CX0 1 f fd ["self"] (spPlainK C) := by
  refine F.ok scBp (fun vs H Q E ⟨_, _, _, e, _⟩ => by subst e; rfl) (fun cdv A outer s H vs Q E hr h => ?_)
  obtain ⟨a, dx, fs, rfl, ha, ok, q⟩ := h
  refine ⟨_, @pss_p _ _ _ _ _ (ps_fld (pv 0) (pe_str) (by rfl))
    (@pss_p _ _ _ _ _ (ps_fld (pv 0) (QE.h (qx_tup (qa_nil))) (by rfl))
    (@pss_p _ _ _ _ _ (ps_fld (pv 0) (pe_non) (by rfl))
    (@pss_o _ _ _ (ps_fld (pv 0) (QE.h (qx_tup (qa_nil))) (by rfl))))), ?_⟩
  have k1 : FsOk (L2.putF "way" (.str "plain") fs) := ok.put (by decide +kernel)
  refine ⟨_, rfl, a, C, dx, fs, rfl, ha, Y.cl, Y.n_way, ok.len, ?_⟩
  refine ⟨tiny (by show 0 ≤ 1000; decide), fun av hav => ?_⟩
  have na : a ≠ av := fun z => by rw [← z, upd_same] at hav; cases hav
  refine ⟨_, rfl, a, C, dx, _, rfl, (by rw [upd_ne na]; exact upd_same), Y.cl, Y.n_voices, k1.len, ?_⟩
  have k2 := k1.put (f := "voices") (v := .ref av) (by decide +kernel)
  refine ⟨_, rfl, a, C, dx, _, rfl, upd_same, Y.cl, Y.n_head, k2.len, ?_⟩
  have k3 := k2.put (f := "head") (v := .non) (by decide +kernel)
  refine ⟨tiny (by show 0 ≤ 1000; decide), fun aw haw => ?_⟩
  have nw : a ≠ aw := fun z => by rw [← z, upd_same] at haw; cases haw
  have o5 := off_new (a := a) (o := HO.tup []) haw
  refine ⟨_, rfl, a, C, dx, _, rfl, (by rw [upd_ne nw]; exact upd_same), Y.cl, Y.n_waits, k3.len, ?_⟩
  have k4 := k3.put (f := "waits") (v := .ref aw) (by decide +kernel)
  refine q _ av aw _ ⟨upd_same, k4, lk_ne (by decide +kernel) (lk_ne (by decide +kernel) (lk_ne (by decide +kernel) (lk_eq))), lk_ne (by decide +kernel) (lk_ne (by decide +kernel) (lk_eq)), lk_ne (by decide +kernel) (lk_eq), lk_eq, ?_, ?_, fun g hg => ?_, ?_⟩
  · exact off_upd _ _ na.symm (o5 _ _ na.symm (off_upd _ _ na.symm (off_upd _ _ na.symm upd_same)))
  · rw [upd_ne nw.symm]; exact upd_same
  · simp only [List.mem_cons, List.not_mem_nil, or_false, not_or] at hg
    obtain ⟨g1, g2, g3, g4⟩ := hg
    exact lk_ne g4 (lk_ne g3 (lk_ne g2 (lk_ne g1 rfl)))
  · exact off_upd.trans ((off_new hav).trans (off_upd.trans (off_upd.trans (o5.trans off_upd))))
/-- next places and held places anew; the other values as they were -/
structure Knp (C a dx : Addr) (fs fs' : List (Str × V)) (tk tn : Addr) (z : Int) (H H' : Hp) : Prop where
  at_ : H' a = some (.ins C dx fs')
  ok : FsOk fs'
  nexts : fs'.lookup ("nexts" : Str) = some (.ref tk)
  held : fs'.lookup ("held" : Str) = some (.ref tn)
  hn : H' tk = some (.tup (List.replicate 9 (V.int z)))
  hh : H' tn = some (.tup (List.replicate 9 (V.int 0)))
  kept : ∀ g : Str, ¬ g ∈ (["nexts", "held"] : List Str) → fs'.lookup g = fs.lookup g
  off : Off a H H'
def spKnp (C : Addr) : Sp := fun vs H Q _ => ∃ (a dx : Addr) (fs : List (Str × V)) (vr : V) (b l : Int) (es : List En), vs = [.ref a] ∧ H a = some (.ins C dx fs) ∧ FsOk fs ∧ fs.lookup ("row" : Str) = some vr ∧ RwP H vr b l es ∧ ∀ (fs' : List (Str × V)) (tk tn : Addr) (H' : Hp), Knp C a dx fs fs' tk tn (b + (es.length : Int) + 1) H H' → Q .non H'
theorem scKn : FnScope ["self"] ["self"] (defScope s_Keeper_know_no_places) := ⟨rfl, rfl, rfl, by decide +kernel, rfl, by decide +kernel, by decide +kernel⟩
theorem ok_knp {f : Addr} {fd : FuncData} {C : Addr} (Y : KpC K C) (F : Fun K "know_no_places" "Keeper.know_no_places" s_Keeper_know_no_places f fd) (CE : Cal P w K mg base "end_of" 1 ["row"] spEndP) : FnOk P w K mg base CX0 2 f fd ["self"] (spKnp C) := by
  refine F.ok scKn (fun vs H Q E ⟨_, _, _, _, _, _, _, e, _⟩ => by subst e; rfl) (fun cdv A outer s H vs Q E hr h => ?_)
  obtain ⟨a, dx, fs, vr, b, l, es, rfl, ha, ok, lr, hrw, q⟩ := h
  obtain ⟨gE, dE, GE, mE, kE, bE⟩ := CE.ex
  refine ⟨_, @pss_p _ _ _ _ _ (ps_fld (pv 0) (pe_op op_repT (QE.h (qx_tup (qa_b (pe_op op_add (pe_call GE hr (by rfl) mE kE bE .nil pass0 (pa_cons (pe_fld (pv 0) (by rfl)) pa_nil)) (pe_int)) qa_nil))) pe_int) (by rfl))
    (@pss_o _ _ _ (ps_fld (pv 0) (pe_op op_repT (QE.h (qx_tup (qa_int qa_nil))) pe_int) (by rfl))), ?_⟩
  refine ⟨_, rfl, a, C, dx, fs, vr, rfl, ha, Y.cl, Y.n_row, lr, vr, b, l, es, rfl, hrw, _, _, rfl, rfl, tiny (by show 1 ≤ 1000; decide), fun tj htj => ?_⟩
  refine ⟨tj, 9, [V.int (b + (es.length : Int) + 1)], rfl, rfl, upd_same, by simp, by first | decide | (show 1 ≤ 1000; decide), by first | decide | (show 1 ≤ 1000; decide), by first | decide | (show 1 ≤ 1000; decide), fun tk htk => ?_⟩
  have s2 := same_upd (o := HO.tup [V.int (b + (es.length : Int) + 1)]) htj
  have s3 := same_upd (o := HO.tup (List.replicate (9 : Int).toNat [V.int (b + (es.length : Int) + 1)]).flatten) htk
  refine ⟨_, rfl, a, C, dx, fs, rfl, (s2.trans s3) _ _ ha, Y.cl, Y.n_nexts, ok.len, ?_⟩
  have na : tk ≠ a := fun z => by
    have := s2 _ _ ha
    rw [← z] at this
    exact absurd (htk.symm.trans this) (by intro e; cases e)
  have k2 := ok.put (f := "nexts") (v := .ref tk) (by decide +kernel)
  refine ⟨tiny (by show 1 ≤ 1000; decide), fun tl htl => ?_⟩
  refine ⟨tl, 9, [V.int 0], rfl, rfl, upd_same, by simp, by decide, by decide, by decide, fun tn htn => ?_⟩
  have s4 := same_upd (o := HO.tup [V.int 0]) htl
  have s5 := same_upd (o := HO.tup (List.replicate (9 : Int).toNat [V.int 0]).flatten) htn
  have nb : tn ≠ a := fun z => by
    subst z
    exact absurd (htn.symm.trans (s4 tn _ upd_same)) (by intro e; cases e)
  refine ⟨_, rfl, a, C, dx, _, rfl, (s4.trans s5) _ _ upd_same, Y.cl, Y.n_held, k2.len, ?_⟩
  have k3 := k2.put (f := "held") (v := .ref tn) (by decide +kernel)
  refine q _ tk tn _ ⟨upd_same, k3, lk_ne (by decide +kernel) lk_eq, lk_eq, ?_, ?_, fun g hg => ?_, ?_⟩
  · exact off_upd _ _ na ((s4.trans s5) _ _ (off_upd _ _ na upd_same))
  · exact off_upd _ _ nb upd_same
  · simp only [List.mem_cons, List.not_mem_nil, or_false, not_or] at hg
    exact lk_ne hg.2 (lk_ne hg.1 rfl)
  · exact (off_same (s2.trans s3)).trans (off_upd.trans ((off_same (s4.trans s5)).trans off_upd))
def spWakeR (C : Addr) : Sp := fun vs H Q _ => ∃ (a dx : Addr) (fs : List (Str × V)) (vp vr : V) (num tm : Int) (ms : List Int), vs = [.ref a] ∧ H a = some (.ins C dx fs) ∧ FsOk fs ∧ fs.lookup ("number" : Str) = some (.int num) ∧ fs.lookup ("term" : Str) = some (.int tm) ∧ fs.lookup ("voice" : Str) = some .non ∧ fs.lookup ("pack" : Str) = some vp ∧ fs.lookup ("row" : Str) = some vr ∧ PkV H vp ⟨0, 0, ms, ([], [])⟩ ∧ RwP H vr 0 0 [] ∧ ∀ H', KpV H' a C num tm ms → Off a H H' → Q .non H'
theorem scWk : FnScope ["self"] ["self"] (defScope s_Keeper_wake) := ⟨rfl, rfl, rfl, by decide +kernel, rfl, by decide +kernel, by decide +kernel⟩
theorem ok_wakeR {f fB fN : Addr} {fd dB dN : FuncData} {C : Addr} (Y : KpC K C) (F : Fun K "wake" "Keeper.wake" s_Keeper_wake f fd) (MB : Meth K C "be_plain" fB) (FB : FnOk P w K mg base CX0 1 fB dB ["self"] (spPlainK C)) (bB : Binds K dB ["self"] []) (MN : Meth K C "know_no_places" fN) (FN : FnOk P w K mg base CX0 2 fN dN ["self"] (spKnp C)) (bN : Binds K dN ["self"] []) : FnOk P w K mg base CX0 3 f fd ["self"] (spWakeR C) := by
  refine F.ok scWk (fun vs H Q E ⟨_, _, _, _, _, _, _, _, e, _⟩ => by subst e; rfl) (fun cdv A outer s H vs Q E hr h => ?_)
  obtain ⟨a, dx, fs, vp, vr, num, tm, ms, rfl, ha, ok, l1, l2, l3, l4, l5, hp, hrw, q⟩ := h
  have r1 := hr.mono (show 1 ≤ 2 by omega)
  refine ⟨_, @pss_p _ _ _ _ _ (ps_expr (pe_meth0 (pv 0) Y.cl MB FB r1 bB .nil pass0))
    (@pss_p _ _ _ _ _ (ps_expr (pe_meth0 (pv 0) Y.cl MN FN hr bN .nil pass0))
    (@pss_p _ _ _ _ _ (ps_fld (pv 0) (pe_ix ix_tup (pe_fld (pv 0) (by rfl)) pe_int px_i) (by rfl))
    (@pss_o _ _ _ (ps_fld (pv 0) (pe_ix ix_tup (pe_fld (pv 0) (by rfl)) pe_int px_i) (by rfl))))), ?_⟩
  refine ⟨_, rfl, a, dx, fs, rfl, ha, ok.no (by decide +kernel), a, dx, fs, rfl, ha, ok, fun fs1 av aw H1 pl => ?_⟩
  have l1' := (pl.kept "number" (by decide +kernel)).trans l1
  have l2' := (pl.kept "term" (by decide +kernel)).trans l2
  have l3' := (pl.kept "voice" (by decide +kernel)).trans l3
  have l4' := (pl.kept "pack" (by decide +kernel)).trans l4
  have l5' := (pl.kept "row" (by decide +kernel)).trans l5
  have sT := pl.off.tups ha
  have hp1 := hp.offT sT
  have hrw1 := hrw.offT sT
  refine ⟨_, rfl, a, dx, fs1, rfl, pl.at_, pl.ok.no (by decide +kernel), a, dx, fs1, vr, 0, 0, [], rfl, pl.at_, pl.ok, l5', hrw1, fun fs2 tk tn H2 kn => ?_⟩
  have hp2 := hp1.offT (kn.off.tups pl.at_)
  have hp2' := hp2
  obtain ⟨pp, pq, pu, rfl, hpp, hpq, hpu⟩ := hp2'
  have l4b := (kn.kept "pack" (by decide +kernel)).trans l4'
  refine ⟨_, rfl, a, C, dx, _, .ref pp, rfl, kn.at_, Y.cl, Y.n_pack, l4b, pp, _, _, .int 0, rfl, rfl, SqT.of hpp, atI_nat (j := 0) rfl, _, rfl, a, C, dx, _, rfl, kn.at_, Y.cl, Y.n_agreed, kn.ok.len, ?_⟩
  have k4 := kn.ok.put (f := "agreed") (v := .int 0) (by decide +kernel)
  have np : pp ≠ a := fun z => by rw [z, kn.at_] at hpp; cases hpp
  refine ⟨_, rfl, a, C, dx, _, .ref pp, rfl, upd_same, Y.cl, Y.n_pack, lk_ne (by decide +kernel) l4b, pp, _, _, pu, rfl, rfl, SqT.of (off_upd _ _ np hpp), atI_nat (j := 3) rfl, _, rfl, a, C, dx, _, rfl, upd_same, Y.cl, Y.n_store, k4.len, ?_⟩
  have k5 := k4.put (f := "store") (v := pu) (by decide +kernel)
  have oC : Off a H2 _ := (off_upd (o := HO.ins C dx (L2.putF "agreed" (.int 0) fs2))).trans (off_upd (o := HO.ins C dx (L2.putF "store" pu (L2.putF "agreed" (.int 0) fs2))))
  have sC := oC.tups kn.at_
  have oD := kn.off.trans oC
  have sD := oD.tups pl.at_
  obtain ⟨s1, a1, c1, e1, g1, g2, g3⟩ := hpu
  have hst : StV _ pu ([], []) := ⟨s1, a1, c1, e1, sC _ _ g1, g2.nilT sC, g3.nilT sC⟩
  have hn1 : H2 tk = some (.tup (List.replicate 9 (V.int 1))) := kn.hn
  refine q _ ⟨dx, _, .ref pp, vr, pu, tk, tn, av, aw, upd_same, lk_ne (by decide +kernel) (lk_ne (by decide +kernel) ((kn.kept "number" (by decide +kernel)).trans l1')), lk_ne (by decide +kernel) (lk_ne (by decide +kernel) ((kn.kept "term" (by decide +kernel)).trans l2')), lk_ne (by decide +kernel) (lk_ne (by decide +kernel) ((kn.kept "voice" (by decide +kernel)).trans l3')), lk_ne (by decide +kernel) (lk_ne (by decide +kernel) ((kn.kept "head" (by decide +kernel)).trans pl.head)), lk_ne (by decide +kernel) (lk_ne (by decide +kernel) ((kn.kept "way" (by decide +kernel)).trans pl.way)), lk_ne (by decide +kernel) (lk_ne (by decide +kernel) ((kn.kept "pack" (by decide +kernel)).trans l4')), lk_ne (by decide +kernel) (lk_ne (by decide +kernel) ((kn.kept "row" (by decide +kernel)).trans l5')), lk_eq, lk_ne (by decide +kernel) (lk_ne (by decide +kernel) (kn.nexts)), lk_ne (by decide +kernel) (lk_ne (by decide +kernel) (kn.held)), lk_ne (by decide +kernel) (lk_eq), lk_ne (by decide +kernel) (lk_ne (by decide +kernel) ((kn.kept "voices" (by decide +kernel)).trans pl.voices)), lk_ne (by decide +kernel) (lk_ne (by decide +kernel) ((kn.kept "waits" (by decide +kernel)).trans pl.waits)), k5, hp2.offT sC, hrw1.offT sD, hst, sC _ _ hn1, sC _ _ kn.hh, sD _ _ pl.hv, sD _ _ pl.hw⟩ (pl.off.trans oD)
theorem wake_of {C a : Addr} {H : Hp} {Q : VK} {num tm : Int} {ms : List Int} {E : XK} (hk : KpV H a C num tm ms) (q : ∀ H', KpV H' a C num tm ms → Off a H H' → Q .non H') : spWakeR C [.ref a] H Q E := by
  obtain ⟨dx, fs, vp, vr, vs, an, ah, av, aw, ha, l_number, l_term, l_voice, l_head, l_way, l_pack, l_row, l_store, l_nexts, l_held, l_agreed, l_voices, l_waits, l_ok, hp, hrw, hs, hn, hh, hv, hw⟩ := hk
  exact ⟨a, dx, fs, vp, vr, num, tm, ms, rfl, ha, l_ok, l_number, l_term, l_voice, l_pack, l_row, hp, hrw, q⟩
theorem ok_wake {f : Addr} {fd : FuncData} {C : Addr} (F : FnOk P w K mg base CX0 3 f fd ["self"] (spWakeR C)) : FnOk P w K mg base CX0 3 f fd ["self"] (spWake C) := F.imp fun vs H Q E ⟨a, num, tm, ms, e, hk, h0, q⟩ => by
  subst e
  exact wake_of hk q
theorem scHr : FnScope ["self", "term"] ["self", "term"] (defScope s_Keeper_hear) := ⟨rfl, rfl, rfl, by decide +kernel, rfl, by decide +kernel, by decide +kernel⟩
theorem ok_hear {f fB : Addr} {fd dB : FuncData} {C : Addr} (Y : KpC K C) (F : Fun K "hear" "Keeper.hear" s_Keeper_hear f fd) (MB : Meth K C "be_plain" fB) (FB : FnOk P w K mg base CX0 1 fB dB ["self"] (spPlainK C)) (bB : Binds K dB ["self"] []) : FnOk P w K mg base CX0 2 f fd ["self", "term"] (spHear C) := by
  refine F.ok scHr (fun vs H Q E ⟨_, _, _, _, _, e, _⟩ => by subst e; rfl) (fun cdv A outer s H vs Q E hr h => ?_)
  obtain ⟨a, t, num, tm, ms, rfl, hk, h0, ht, q⟩ := h
  refine ⟨_, @pss_o _ _ _ (ps_if (pt_cmpR op_gt (pv 1) (pe_fld (pv 0) (by rfl)) (nomark _)) (@pss_p _ _ _ _ _ (ps_fld (pv 0) (pv 1) (by rfl))
    (@pss_p _ _ _ _ _ (ps_fld (pv 0) (pe_non) (by rfl))
    (@pss_o _ _ _ (ps_expr (pe_meth0 (pv 0) Y.cl MB FB hr bB .nil pass0))))) pss_nil), ?_⟩
  have hk' := hk
  obtain ⟨dx, fs, vp, vr, vs, an, ah, av, aw, ha, l_number, l_term, l_voice, l_head, l_way, l_pack, l_row, l_store, l_nexts, l_held, l_agreed, l_voices, l_waits, l_ok, hp, hrw, hs, hn, hh, hv, hw⟩ := hk'
  refine ⟨_, rfl, _, rfl, a, C, dx, fs, _, rfl, ha, Y.cl, Y.n_term, l_term, _, _, rfl, rfl, _, rfl, ite2 (fun h => ?_) (fun h => ?_)⟩
  · have e : t > tm := of_decide_eq_true h
    rw [if_pos e] at q
    have k1 : FsOk (L2.putF "term" (.int t) fs) := l_ok.put (by decide +kernel)
    have k2 := k1.put (f := "voice") (v := .non) (by decide +kernel)
    refine ⟨_, rfl, _, rfl, a, C, dx, fs, rfl, ha, Y.cl, Y.n_term, l_ok.len, _, rfl, a, C, dx, _, rfl, upd_same, Y.cl, Y.n_voice, k1.len, ?_⟩
    refine ⟨_, rfl, a, dx, _, rfl, upd_same, k2.no (by decide +kernel), a, dx, _, rfl, upd_same, k2, fun fs' av' aw' H' pl => ?_⟩
    have o2 : Off a H H' := off_upd.trans (off_upd.trans pl.off)
    have sT := o2.tups ha
    have kp : ∀ g : Str, ¬ g ∈ (["way", "voices", "head", "waits"] : List Str) → ¬ g = "term" → ¬ g = "voice" → ∀ x, fs.lookup g = x → fs'.lookup g = x := fun g g1 g2 g3 x e => (pl.kept g g1).trans (lk_ne g3 (lk_ne g2 e))
    obtain ⟨s1, a1, c1, e1, w1, w2, w3⟩ := hs
    exact q H' ⟨dx, fs', vp, vr, vs, an, ah, av', aw', pl.at_, kp "number" (by decide +kernel) (by decide +kernel) (by decide +kernel) _ l_number, (pl.kept "term" (by decide +kernel)).trans (lk_ne (by decide +kernel) lk_eq), (pl.kept "voice" (by decide +kernel)).trans lk_eq, pl.head, pl.way, kp "pack" (by decide +kernel) (by decide +kernel) (by decide +kernel) _ l_pack, kp "row" (by decide +kernel) (by decide +kernel) (by decide +kernel) _ l_row, kp "store" (by decide +kernel) (by decide +kernel) (by decide +kernel) _ l_store, kp "nexts" (by decide +kernel) (by decide +kernel) (by decide +kernel) _ l_nexts, kp "held" (by decide +kernel) (by decide +kernel) (by decide +kernel) _ l_held, kp "agreed" (by decide +kernel) (by decide +kernel) (by decide +kernel) _ l_agreed, pl.voices, pl.waits, pl.ok, hp.offT sT, hrw.offT sT, ⟨s1, a1, c1, e1, sT _ _ w1, w2.nilT sT, w3.nilT sT⟩, sT _ _ hn, sT _ _ hh, pl.hv, pl.hw⟩ o2
  · have e : ¬ t > tm := ndec h
    rw [if_neg e] at q
    exact q H hk Off.refl
theorem scIn : FnScope ["self", "number", "seats"] ["self", "number", "seats"] (defScope s_Keeper___init__) := ⟨rfl, rfl, rfl, by decide +kernel, rfl, by decide +kernel, by decide +kernel⟩
theorem ok_init {f fW : Addr} {fd dW : FuncData} {C : Addr} (Y : KpC K C) (F : Fun K "__init__" "Keeper.__init__" s_Keeper___init__ f fd) (MW : Meth K C "wake" fW) (FW : FnOk P w K mg base CX0 3 fW dW ["self"] (spWakeR C)) (bW : Binds K dW ["self"] []) (CF : Cal P w K mg base "first_pack" 2 ["seats"] spFp) (CR : Cal P w K mg base "begun" 1 [] spBegP) : FnOk P w K mg base CX0 4 f fd ["self", "number", "seats"] (spInit C) := by
  refine F.ok scIn (fun vs H Q E ⟨_, _, _, _, _, e, _⟩ => by subst e; rfl) (fun cdv A outer s H vs Q E hr h => ?_)
  obtain ⟨x, q0, dx, num, ms, rfl, hx, hq, h0, h8, hm, q⟩ := h
  obtain ⟨gF, dF, GF, mF, kF, bF⟩ := CF.ex
  obtain ⟨gR, dR, GR, mR, kR, bR⟩ := CR.ex
  have r1 := hr.mono (show 1 ≤ 3 by omega)
  have r2 := hr.mono (show 2 ≤ 3 by omega)
  refine ⟨_, @pss_p _ _ _ _ _ (ps_fld (pv 0) (pv 1) (by rfl))
    (@pss_p _ _ _ _ _ (ps_fld (pv 0) (pe_int) (by rfl))
    (@pss_p _ _ _ _ _ (ps_fld (pv 0) (pe_non) (by rfl))
    (@pss_p _ _ _ _ _ (ps_fld (pv 0) (pe_call GF r2 (by rfl) mF kF bF .nil pass0 (pa_n (pv 2) pa_nil)) (by rfl))
    (@pss_p _ _ _ _ _ (ps_fld (pv 0) (pe_call0 GR r1 (by rfl) mR kR bR .nil pass0) (by rfl))
    (@pss_o _ _ _ (ps_expr (pe_meth0 (pv 0) Y.cl MW FW hr bW .nil pass0))))))), ?_⟩
  have k0 := FsOk.nil
  have k1 := k0.put (f := "number") (v := .int num) (by decide +kernel)
  have k2 := k1.put (f := "term") (v := .int 0) (by decide +kernel)
  have k3 := k2.put (f := "voice") (v := .non) (by decide +kernel)
  refine ⟨_, rfl, _, rfl, x, C, dx, _, rfl, hx, Y.cl, Y.n_number, k0.len, ?_⟩
  refine ⟨_, rfl, x, C, dx, _, rfl, upd_same, Y.cl, Y.n_term, k1.len, ?_⟩
  refine ⟨_, rfl, x, C, dx, _, rfl, upd_same, Y.cl, Y.n_voice, k2.len, ?_⟩
  have o3 : Off x H _ := (off_upd (o := HO.ins C dx (L2.putF "number" (.int num) []))).trans ((off_upd (o := HO.ins C dx (L2.putF "term" (.int 0) (L2.putF "number" (.int num) [])))).trans (off_upd (o := HO.ins C dx (L2.putF "voice" .non (L2.putF "term" (.int 0) (L2.putF "number" (.int num) []))))))
  refine ⟨_, rfl, q0, ms, rfl, (o3.tups hx) _ _ hq, fun vp H1 hp s1 => ?_⟩
  have k4 := k3.put (f := "pack") (v := vp) (by decide +kernel)
  refine ⟨_, rfl, x, C, dx, _, rfl, s1 _ _ upd_same, Y.cl, Y.n_pack, k3.len, ?_⟩
  refine ⟨rfl, fun vr H2 hrw s2 => ?_⟩
  have k5 := k4.put (f := "row") (v := vr) (by decide +kernel)
  refine ⟨_, rfl, x, C, dx, _, rfl, s2 _ _ upd_same, Y.cl, Y.n_row, k4.len, ?_⟩
  have o5 : Off x H1 _ := (off_upd (o := HO.ins C dx (L2.putF "pack" vp (L2.putF "voice" .non (L2.putF "term" (.int 0) (L2.putF "number" (.int num) [])))))).trans ((off_same s2).trans (off_upd (o := HO.ins C dx (L2.putF "row" vr (L2.putF "pack" vp (L2.putF "voice" .non (L2.putF "term" (.int 0) (L2.putF "number" (.int num) []))))))))
  refine ⟨_, rfl, x, dx, _, rfl, upd_same, k5.no (by decide +kernel), x, dx, _, vp, vr, num, 0, ms, rfl, upd_same, k5, lk_ne (by decide +kernel) (lk_ne (by decide +kernel) (lk_ne (by decide +kernel) (lk_ne (by decide +kernel) (lk_eq)))), lk_ne (by decide +kernel) (lk_ne (by decide +kernel) (lk_ne (by decide +kernel) (lk_eq))), lk_ne (by decide +kernel) (lk_ne (by decide +kernel) (lk_eq)), lk_ne (by decide +kernel) (lk_eq), lk_eq, hp.offT (o5.tups (s1 _ _ upd_same)), hrw.offT (off_upd.tups (s2 _ _ upd_same)), fun H' hk off => q H' hk (o3.trans ((off_same s1).trans (o5.trans off)))⟩
theorem scSn : FnScope ["keeper"] ["keeper"] (defScope s_seats_now) := ⟨rfl, rfl, rfl, by decide +kernel, rfl, by decide +kernel, by decide +kernel⟩
theorem ok_seats_now {f : Addr} {fd : FuncData} {C : Addr} (Y : KpC K C) (F : Fun K "seats_now" "seats_now" s_seats_now f fd) (CS : Cal P w K mg base "seats_of" 2 ["row", "first"] spSeatsP) : FnOk P w K mg base CX0 3 f fd ["keeper"] (spSnow C) := by
  refine F.ok scSn (fun vs H Q E ⟨_, _, _, _, e, _⟩ => by subst e; rfl) (fun cdv A outer s H vs Q E hr h => ?_)
  obtain ⟨a, num, tm, ms, rfl, hk, q⟩ := h
  obtain ⟨gS, dS, GS, mS, kS, bS⟩ := CS.ex
  refine ⟨_, @pss_o _ _ _ (ps_ret (pe_call GS hr (by rfl) mS kS bS .nil pass0 (pa_cons (pe_fld (pv 0) (by rfl)) (pa_s (pe_ix ix_tup (pe_fld (pv 0) (by rfl)) pe_int px_i) pa_nil)))), ?_⟩
  obtain ⟨dx, fs, vp, vr, vs, an, ah, av, aw, ha, l_number, l_term, l_voice, l_head, l_way, l_pack, l_row, l_store, l_nexts, l_held, l_agreed, l_voices, l_waits, l_ok, hp, hrw, hs, hn, hh, hv, hw⟩ := hk
  obtain ⟨p, q0, u, rfl, hp1, hq0, _⟩ := hp
  exact ⟨_, rfl, a, C, dx, fs, vr, rfl, ha, Y.cl, Y.n_row, l_row, _, rfl, a, C, dx, fs, _, rfl, ha, Y.cl, Y.n_pack, l_pack, p, _, _, .ref q0, rfl, rfl, SqT.of hp1, atI_nat (j := 2) rfl, vr, q0, 0, 0, [], ms, rfl, hrw, hq0, fun q' hq' => q q' H hq' (Same.refl _)⟩
end
end K1
set_option Elab.async false
set_option linter.all false
set_option maxRecDepth 100000
set_option maxHeartbeats 4000000
namespace K1
open PySem L2 Kp
section
variable {P : Program} {w : World} {K : PySem.W.Frag} {mg : Str → Option Value} {base : Heap}
theorem scFr : FnScope [] [] (defScope s_fresh) := ⟨rfl, rfl, rfl, by decide +kernel, rfl, by decide +kernel, by decide +kernel⟩
theorem ok_fresh {f : Addr} {fd : FuncData} (F : Fun K "fresh" "fresh" s_fresh f fd) : FnOk P w K mg base CX0 1 f fd [] (spFreshP K) := by
  refine F.ok scFr (fun vs H Q E ⟨e, _⟩ => by subst e; rfl) (fun cdv A outer s H vs Q E hr h => ?_)
  obtain ⟨rfl, q⟩ := h
  refine ⟨_, @pss_o _ _ _ (ps_ret (QE.h (qx_tup (qa_tup qa_nil (qa_tup qa_nil qa_nil))))), ?_⟩
  refine ⟨tiny (by show 0 ≤ 1000; decide), fun e1 he1 => ⟨tiny (by show 0 ≤ 1000; decide), fun e2 he2 => ⟨tiny (by show 2 ≤ 1000; decide), fun e3 he3 => ?_⟩⟩⟩
  have t1 := same_upd (o := HO.tup []) he1
  have t2 := same_upd (o := HO.tup []) he2
  have t3 := same_upd (o := HO.tup [V.ref e1, V.ref e2]) he3
  exact q (.ref e3) _ ⟨e3, e1, e2, rfl, upd_same, ⟨[], t3 _ _ (t2 _ _ upd_same), .nil⟩, ⟨[], t3 _ _ upd_same, .nil⟩⟩ (t1.trans (t2.trans t3))
end
end K1
set_option Elab.async false
set_option linter.all false
set_option maxRecDepth 100000
set_option maxHeartbeats 4000000
namespace K1
open PySem L2 Kp
section
variable {P : Program} {w : World} {K : PySem.W.Frag} {mg : Str → Option Value} {base : Heap}
theorem scFp : FnScope ["seats"] ["seats"] (defScope s_first_pack) := ⟨rfl, rfl, rfl, by decide +kernel, rfl, by decide +kernel, by decide +kernel⟩
theorem ok_first_pack {f : Addr} {fd : FuncData} (F : Fun K "first_pack" "first_pack" s_first_pack f fd) (CH : Cal P w K mg base "fresh" 1 [] (spFreshP K)) : FnOk P w K mg base CX0 2 f fd ["seats"] spFp := by
  refine F.ok scFp (fun vs H Q E ⟨_, _, e, _⟩ => by subst e; rfl) (fun cdv A outer s H vs Q E hr h => ?_)
  obtain ⟨q0, ms, rfl, hq, k⟩ := h
  obtain ⟨gH, dH, GH, mH, kH, bH⟩ := CH.ex
  refine ⟨_, @pss_o _ _ _ (ps_ret (QE.h (qx_tup (qa_int (qa_int (qa_n (pv 0) (qa_k (pe_call0 GH hr (by rfl) mH kH bH .nil pass0) qa_nil))))))), ?_⟩
  refine ⟨_, rfl, rfl, fun vf H1 hf s1 => ⟨tiny (by show 4 ≤ 1000; decide), fun p hp => ?_⟩⟩
  have s2 := same_upd (o := HO.tup [V.int 0, V.int 0, V.ref q0, vf]) hp
  exact k (.ref p) _ ⟨p, q0, vf, rfl, upd_same, s2 _ _ (s1 _ _ hq), hf.same s2⟩ (s1.trans s2)
end
end K1
set_option Elab.async false
set_option linter.all false
set_option maxRecDepth 100000
set_option maxHeartbeats 4000000
namespace K1
open PySem L2 Kp
section
variable {P : Program} {w : World} {K : PySem.W.Frag} {mg : Str → Option Value} {base : Heap}
theorem scBg : FnScope [] [] (defScope s_begun) := ⟨rfl, rfl, rfl, by decide +kernel, rfl, by decide +kernel, by decide +kernel⟩
theorem ok_begunP {f : Addr} {fd : FuncData} (F : Fun K "begun" "begun" s_begun f fd) : FnOk P w K mg base CX0 1 f fd [] spBegP := by
  refine F.ok scBg (fun vs H Q E ⟨e, _⟩ => by subst e; rfl) (fun cdv A outer s H vs Q E hr h => ?_)
  obtain ⟨rfl, q⟩ := h
  refine ⟨_, @pss_o _ _ _ (ps_ret (QE.h (qx_tup (qa_int (qa_int (qa_tup qa_nil qa_nil)))))), ?_⟩
  refine ⟨tiny (by show 0 ≤ 1000; decide), fun e1 he1 => ⟨tiny (by show 3 ≤ 1000; decide), fun e2 he2 => ?_⟩⟩
  have t1 := same_upd (o := HO.tup []) he1
  have t2 := same_upd (o := HO.tup [V.int 0, V.int 0, V.ref e1]) he2
  exact q (.ref e2) _ ⟨e2, e1, [], rfl, upd_same, t2 _ _ upd_same, .nil⟩ (t1.trans t2)
end
end K1
set_option Elab.async false
set_option linter.all false
set_option maxRecDepth 100000
set_option maxHeartbeats 4000000
namespace K1
open PySem L2 Kp
theorem cal {P : Program} {w : World} {K : PySem.W.Frag} {mg : Str → Option Value} {base : Heap} {x : Str} {st : Stmt} {f : Addr} {fd : FuncData} {ps : List Str} {k : Nat} {sp : Sp} (F : Fun K x x st f fd) (hm : mg x = some (.ref f)) (b : Binds K fd ps []) (ok : FnOk P w K mg base CX0 k f fd ps sp) : Cal P w K mg base x k ps sp := ⟨f, fd, ok, hm, F.kp, b⟩
theorem all_mk {l : PySem.W.OpenLaw} {w : World} {K : PySem.W.Frag} {h : Heap} {mg : Str → Option Value} {fa f0 f1 f2 f3 f4 f5 f6 f7 f8 f9 f10 f11 : Addr} (X : K.In h) (G : h.Ns mainGlobals mg) (hfa : mg "law" = some (.ref fa))
    {od0 an0 od1 an1 od2 an2 od3 an3 od4 an4 od5 an5 od6 an6 od7 an7 od8 an8 od9 an9 od10 an10 od11 an11 : Option Addr} {sl0 sl1 sl2 sl3 sl4 sl5 sl6 sl7 sl8 sl9 sl10 sl11 : Array (Option Value)} {oc0 kV0 dc0 pm0 cd0 ct0 oc1 kV1 dc1 pm1 cd1 ct1 oc2 kV2 dc2 pm2 cd2 ct2 oc3 kV3 dc3 pm3 cd3 ct3 oc4 kV4 dc4 pm4 cd4 ct4 oc5 kV5 dc5 pm5 cd5 ct5 oc6 kV6 dc6 pm6 cd6 ct6 oc7 kV7 dc7 pm7 cd7 ct7 oc8 kV8 dc8 pm8 cd8 ct8 oc9 kV9 dc9 pm9 cd9 ct9 oc10 kV10 dc10 pm10 cd10 ct10 oc11 kV11 dc11 pm11 cd11 ct11 : Value}
    (a0 : PySem.W.nsIn K mainGlobals "begun" = some (some (.ref f0))) (l0 : K.lookup f0 = some ⟨oc0, od0, .func (PySem.W.fnOf "begun" "begun" (defArgs s_begun) (defBody s_begun) (defScope s_begun) .none kV0 dc0 pm0 an0 cd0 ct0), sl0⟩) (c0 : PySem.W.codeIn K cd0 "begun" = true) (k0 : PySem.W.keepIn K (.ref f0) = true)
    (a1 : PySem.W.nsIn K mainGlobals "end_of" = some (some (.ref f1))) (l1 : K.lookup f1 = some ⟨oc1, od1, .func (PySem.W.fnOf "end_of" "end_of" (defArgs s_end_of) (defBody s_end_of) (defScope s_end_of) .none kV1 dc1 pm1 an1 cd1 ct1), sl1⟩) (c1 : PySem.W.codeIn K cd1 "end_of" = true) (k1 : PySem.W.keepIn K (.ref f1) = true)
    (a2 : PySem.W.nsIn K mainGlobals "holds_seats" = some (some (.ref f2))) (l2 : K.lookup f2 = some ⟨oc2, od2, .func (PySem.W.fnOf "holds_seats" "holds_seats" (defArgs s_holds_seats) (defBody s_holds_seats) (defScope s_holds_seats) .none kV2 dc2 pm2 an2 cd2 ct2), sl2⟩) (c2 : PySem.W.codeIn K cd2 "holds_seats" = true) (k2 : PySem.W.keepIn K (.ref f2) = true)
    (a3 : PySem.W.nsIn K mainGlobals "seats_of" = some (some (.ref f3))) (l3 : K.lookup f3 = some ⟨oc3, od3, .func (PySem.W.fnOf "seats_of" "seats_of" (defArgs s_seats_of) (defBody s_seats_of) (defScope s_seats_of) .none kV3 dc3 pm3 an3 cd3 ct3), sl3⟩) (c3 : PySem.W.codeIn K cd3 "seats_of" = true) (k3 : PySem.W.keepIn K (.ref f3) = true)
    (a4 : PySem.W.nsIn K mainGlobals "fresh" = some (some (.ref f4))) (l4 : K.lookup f4 = some ⟨oc4, od4, .func (PySem.W.fnOf "fresh" "fresh" (defArgs s_fresh) (defBody s_fresh) (defScope s_fresh) .none kV4 dc4 pm4 an4 cd4 ct4), sl4⟩) (c4 : PySem.W.codeIn K cd4 "fresh" = true) (k4 : PySem.W.keepIn K (.ref f4) = true)
    (a5 : PySem.W.nsIn K mainGlobals "first_pack" = some (some (.ref f5))) (l5 : K.lookup f5 = some ⟨oc5, od5, .func (PySem.W.fnOf "first_pack" "first_pack" (defArgs s_first_pack) (defBody s_first_pack) (defScope s_first_pack) .none kV5 dc5 pm5 an5 cd5 ct5), sl5⟩) (c5 : PySem.W.codeIn K cd5 "first_pack" = true) (k5 : PySem.W.keepIn K (.ref f5) = true)
    (a6 : PySem.W.nsIn K mainGlobals "seats_now" = some (some (.ref f6))) (l6 : K.lookup f6 = some ⟨oc6, od6, .func (PySem.W.fnOf "seats_now" "seats_now" (defArgs s_seats_now) (defBody s_seats_now) (defScope s_seats_now) .none kV6 dc6 pm6 an6 cd6 ct6), sl6⟩) (c6 : PySem.W.codeIn K cd6 "seats_now" = true) (k6 : PySem.W.keepIn K (.ref f6) = true)
    (a7 : PySem.W.nsIn K mainGlobals "_law_cell_at" = some (some (.ref f7))) (l7 : K.lookup f7 = some ⟨oc7, od7, .func (PySem.W.fnOf "_law_cell_at" "_law_cell_at" (defArgs sCell) (defBody sCell) (defScope sCell) .none kV7 dc7 pm7 an7 cd7 ct7), sl7⟩) (c7 : PySem.W.codeIn K cd7 "_law_cell_at" = true) (k7 : PySem.W.keepIn K (.ref f7) = true)
    (a8 : PySem.W.nsIn K mainGlobals "_law_mixed" = some (some (.ref f8))) (l8 : K.lookup f8 = some ⟨oc8, od8, .func (PySem.W.fnOf "_law_mixed" "_law_mixed" (defArgs sMixed) (defBody sMixed) (defScope sMixed) .none kV8 dc8 pm8 an8 cd8 ct8), sl8⟩) (c8 : PySem.W.codeIn K cd8 "_law_mixed" = true) (k8 : PySem.W.keepIn K (.ref f8) = true)
    (a9 : PySem.W.nsIn K mainGlobals "_law_whole" = some (some (.ref f9))) (l9 : K.lookup f9 = some ⟨oc9, od9, .func (PySem.W.fnOf "_law_whole" "_law_whole" (defArgs s__law_whole) (defBody s__law_whole) (defScope s__law_whole) .none kV9 dc9 pm9 an9 cd9 ct9), sl9⟩) (c9 : PySem.W.codeIn K cd9 "_law_whole" = true) (k9 : PySem.W.keepIn K (.ref f9) = true)
    (a10 : PySem.W.nsIn K mainGlobals "_law_as_made" = some (some (.ref f10))) (l10 : K.lookup f10 = some ⟨oc10, od10, .func (PySem.W.fnOf "_law_as_made" "_law_as_made" (defArgs s__law_as_made) (defBody s__law_as_made) (defScope s__law_as_made) .none kV10 dc10 pm10 an10 cd10 ct10), sl10⟩) (c10 : PySem.W.codeIn K cd10 "_law_as_made" = true) (k10 : PySem.W.keepIn K (.ref f10) = true)
    (a11 : PySem.W.nsIn K mainGlobals "law" = some (some (.ref f11))) (l11 : K.lookup f11 = some ⟨oc11, od11, .func (PySem.W.fnOf "law" "law" (defArgs sLaw) (defBody sLaw) (defScope sLaw) .none kV11 dc11 pm11 an11 cd11 ct11), sl11⟩) (c11 : PySem.W.codeIn K cd11 "law" = true) (k11 : PySem.W.keepIn K (.ref f11) = true)
    {C0 : Addr} (aC0 : PySem.W.nsIn K mainGlobals "Keeper" = some (some (.ref C0)))
    {g0 : Addr} {god0 gan0 : Option Addr} {gsl0 : Array (Option Value)} {goc0 gkV0 gdc0 gpm0 gcd0 gct0 : Value}
    (ga0 : PySem.W.findIn K (.ref C0) "__init__" = some (some (.ref g0))) (gi0 : PySem.W.isFn K (.ref g0) = true) (gl0 : K.lookup g0 = some ⟨goc0, god0, .func (PySem.W.fnOf "__init__" "Keeper.__init__" (defArgs s_Keeper___init__) (defBody s_Keeper___init__) (defScope s_Keeper___init__) .none gkV0 gdc0 gpm0 gan0 gcd0 gct0), gsl0⟩) (gc0 : PySem.W.codeIn K gcd0 "Keeper.__init__" = true) (gk0 : PySem.W.keepIn K (.ref g0) = true)
    {g1 : Addr} {god1 gan1 : Option Addr} {gsl1 : Array (Option Value)} {goc1 gkV1 gdc1 gpm1 gcd1 gct1 : Value}
    (ga1 : PySem.W.findIn K (.ref C0) "wake" = some (some (.ref g1))) (gi1 : PySem.W.isFn K (.ref g1) = true) (gl1 : K.lookup g1 = some ⟨goc1, god1, .func (PySem.W.fnOf "wake" "Keeper.wake" (defArgs s_Keeper_wake) (defBody s_Keeper_wake) (defScope s_Keeper_wake) .none gkV1 gdc1 gpm1 gan1 gcd1 gct1), gsl1⟩) (gc1 : PySem.W.codeIn K gcd1 "Keeper.wake" = true) (gk1 : PySem.W.keepIn K (.ref g1) = true)
    {g2 : Addr} {god2 gan2 : Option Addr} {gsl2 : Array (Option Value)} {goc2 gkV2 gdc2 gpm2 gcd2 gct2 : Value}
    (ga2 : PySem.W.findIn K (.ref C0) "hear" = some (some (.ref g2))) (gi2 : PySem.W.isFn K (.ref g2) = true) (gl2 : K.lookup g2 = some ⟨goc2, god2, .func (PySem.W.fnOf "hear" "Keeper.hear" (defArgs s_Keeper_hear) (defBody s_Keeper_hear) (defScope s_Keeper_hear) .none gkV2 gdc2 gpm2 gan2 gcd2 gct2), gsl2⟩) (gc2 : PySem.W.codeIn K gcd2 "Keeper.hear" = true) (gk2 : PySem.W.keepIn K (.ref g2) = true)
    {g3 : Addr} {god3 gan3 : Option Addr} {gsl3 : Array (Option Value)} {goc3 gkV3 gdc3 gpm3 gcd3 gct3 : Value}
    (ga3 : PySem.W.findIn K (.ref C0) "be_plain" = some (some (.ref g3))) (gi3 : PySem.W.isFn K (.ref g3) = true) (gl3 : K.lookup g3 = some ⟨goc3, god3, .func (PySem.W.fnOf "be_plain" "Keeper.be_plain" (defArgs s_Keeper_be_plain) (defBody s_Keeper_be_plain) (defScope s_Keeper_be_plain) .none gkV3 gdc3 gpm3 gan3 gcd3 gct3), gsl3⟩) (gc3 : PySem.W.codeIn K gcd3 "Keeper.be_plain" = true) (gk3 : PySem.W.keepIn K (.ref g3) = true)
    {g4 : Addr} {god4 gan4 : Option Addr} {gsl4 : Array (Option Value)} {goc4 gkV4 gdc4 gpm4 gcd4 gct4 : Value}
    (ga4 : PySem.W.findIn K (.ref C0) "know_no_places" = some (some (.ref g4))) (gi4 : PySem.W.isFn K (.ref g4) = true) (gl4 : K.lookup g4 = some ⟨goc4, god4, .func (PySem.W.fnOf "know_no_places" "Keeper.know_no_places" (defArgs s_Keeper_know_no_places) (defBody s_Keeper_know_no_places) (defScope s_Keeper_know_no_places) .none gkV4 gdc4 gpm4 gan4 gcd4 gct4), gsl4⟩) (gc4 : PySem.W.codeIn K gcd4 "Keeper.know_no_places" = true) (gk4 : PySem.W.keepIn K (.ref g4) = true)
    (pg0 : PySem.W.plainGet K C0 Str.empty = true) (hd0 : PySem.W.hasDictIn K C0 = true) (po0 : PySem.W.plainOver K C0 = true) (sa0 : PySem.W.findIn K (.ref C0) "__setattr__" = some (some (.builtin "object.__setattr__"))) (mk0 : PySem.W.makesIn K C0 = true) (kc0 : PySem.W.keepIn K (.ref C0) = true)
    (n0_number : PySem.W.findIn K (.ref C0) "number" = some none) (n0_term : PySem.W.findIn K (.ref C0) "term" = some none) (n0_voice : PySem.W.findIn K (.ref C0) "voice" = some none) (n0_head : PySem.W.findIn K (.ref C0) "head" = some none) (n0_way : PySem.W.findIn K (.ref C0) "way" = some none) (n0_pack : PySem.W.findIn K (.ref C0) "pack" = some none) (n0_row : PySem.W.findIn K (.ref C0) "row" = some none) (n0_store : PySem.W.findIn K (.ref C0) "store" = some none) (n0_nexts : PySem.W.findIn K (.ref C0) "nexts" = some none) (n0_held : PySem.W.findIn K (.ref C0) "held" = some none) (n0_agreed : PySem.W.findIn K (.ref C0) "agreed" = some none) (n0_voices : PySem.W.findIn K (.ref C0) "voices" = some none) (n0_waits : PySem.W.findIn K (.ref C0) "waits" = some none)
    (z0 : PySem.W.nsIn K mainGlobals "isinstance" = some none) (z1 : PySem.W.nsIn K mainGlobals "int" = some none) (z2 : PySem.W.nsIn K mainGlobals "bool" = some none) (z3 : PySem.W.nsIn K mainGlobals "str" = some none) (z4 : PySem.W.nsIn K mainGlobals "tuple" = some none) (z5 : PySem.W.nsIn K mainGlobals "list" = some none) (z6 : PySem.W.nsIn K mainGlobals "all" = some none) (z7 : PySem.W.nsIn K mainGlobals "zip" = some none) (z8 : PySem.W.nsIn K mainGlobals "len" = some none) (z9 : PySem.W.nsIn K mainGlobals "range" = some none) (z10 : PySem.W.nsIn K mainGlobals "max" = some none) (z11 : PySem.W.nsIn K mainGlobals "min" = some none) (z12 : PySem.W.nsIn K mainGlobals "sorted" = some none) (z13 : PySem.W.nsIn K mainGlobals "any" = some none) (z14 : PySem.W.nsIn K mainGlobals "sum" = some none) :
    ∃ fd : FuncData, (∀ (s : Shared) (v : Value), BindsTo s fd ⟨[v], []⟩ [("_law_script", v)]) ∧ ∀ base : Heap, K.In base → base.Ns mainGlobals mg → FnOk l.prog w K mg base CX0 6 fa fd ["_law_script"] (spLaw K) := by
  have e := hfa.symm.trans (PySem.W.mg_of X G a11)
  cases e
  have T : Txt mg := ⟨PySem.W.mg_none_of X G z0, PySem.W.mg_none_of X G z1, PySem.W.mg_none_of X G z2, PySem.W.mg_none_of X G z3, PySem.W.mg_none_of X G z4, PySem.W.mg_none_of X G z5, PySem.W.mg_none_of X G z6, PySem.W.mg_none_of X G z7, PySem.W.mg_none_of X G z8, PySem.W.mg_none_of X G z9, PySem.W.mg_none_of X G z10, PySem.W.mg_none_of X G z11, PySem.W.mg_none_of X G z12, PySem.W.mg_none_of X G z13, PySem.W.mg_none_of X G z14⟩
  have hmx := PySem.W.mg_none_of X G z10
  have hso := PySem.W.mg_none_of X G z12
  have Y0 : KpC K C0 := ⟨⟨pg0, hd0, po0, sa0⟩, n0_number, n0_term, n0_voice, n0_head, n0_way, n0_pack, n0_row, n0_store, n0_nexts, n0_held, n0_agreed, n0_voices, n0_waits⟩
  have mC0 := PySem.W.mg_of X G aC0
  have G0 := fun_mk (st := s_Keeper___init__) gl0 gc0 gk0
  have gb0 := G0.binds (ps := ["self", "number", "seats"]) fun _ _ _ _ _ _ us hl => match us, hl with | [_, _, _], _ => rfl
  have G1 := fun_mk (st := s_Keeper_wake) gl1 gc1 gk1
  have gb1 := G1.binds (ps := ["self"]) fun _ _ _ _ _ _ us hl => match us, hl with | [_], _ => rfl
  have G2 := fun_mk (st := s_Keeper_hear) gl2 gc2 gk2
  have gb2 := G2.binds (ps := ["self", "term"]) fun _ _ _ _ _ _ us hl => match us, hl with | [_, _], _ => rfl
  have G3 := fun_mk (st := s_Keeper_be_plain) gl3 gc3 gk3
  have gb3 := G3.binds (ps := ["self"]) fun _ _ _ _ _ _ us hl => match us, hl with | [_], _ => rfl
  have G4 := fun_mk (st := s_Keeper_know_no_places) gl4 gc4 gk4
  have gb4 := G4.binds (ps := ["self"]) fun _ _ _ _ _ _ us hl => match us, hl with | [_], _ => rfl
  have F0 := fun_mk (st := s_begun) l0 c0 k0
  have m0 := PySem.W.mg_of X G a0
  have b0 := F0.binds (ps := []) fun _ _ _ _ _ _ us hl => match us, hl with | [], _ => rfl
  have F1 := fun_mk (st := s_end_of) l1 c1 k1
  have m1 := PySem.W.mg_of X G a1
  have b1 := F1.binds (ps := ["row"]) fun _ _ _ _ _ _ us hl => match us, hl with | [_], _ => rfl
  have F2 := fun_mk (st := s_holds_seats) l2 c2 k2
  have m2 := PySem.W.mg_of X G a2
  have b2 := F2.binds (ps := ["entry"]) fun _ _ _ _ _ _ us hl => match us, hl with | [_], _ => rfl
  have F3 := fun_mk (st := s_seats_of) l3 c3 k3
  have m3 := PySem.W.mg_of X G a3
  have b3 := F3.binds (ps := ["row", "first"]) fun _ _ _ _ _ _ us hl => match us, hl with | [_, _], _ => rfl
  have F4 := fun_mk (st := s_fresh) l4 c4 k4
  have m4 := PySem.W.mg_of X G a4
  have b4 := F4.binds (ps := []) fun _ _ _ _ _ _ us hl => match us, hl with | [], _ => rfl
  have F5 := fun_mk (st := s_first_pack) l5 c5 k5
  have m5 := PySem.W.mg_of X G a5
  have b5 := F5.binds (ps := ["seats"]) fun _ _ _ _ _ _ us hl => match us, hl with | [_], _ => rfl
  have F6 := fun_mk (st := s_seats_now) l6 c6 k6
  have m6 := PySem.W.mg_of X G a6
  have b6 := F6.binds (ps := ["keeper"]) fun _ _ _ _ _ _ us hl => match us, hl with | [_], _ => rfl
  have F7 := fun_mk (st := sCell) l7 c7 k7
  have m7 := PySem.W.mg_of X G a7
  have b7 := F7.binds (ps := ["_law_script", "_law_k"]) fun _ _ _ _ _ _ us hl => match us, hl with | [_, _], _ => rfl
  have F8 := fun_mk (st := sMixed) l8 c8 k8
  have m8 := PySem.W.mg_of X G a8
  have b8 := F8.binds (ps := ["_law_script", "_law_k"]) fun _ _ _ _ _ _ us hl => match us, hl with | [_, _], _ => rfl
  have F9 := fun_mk (st := s__law_whole) l9 c9 k9
  have m9 := PySem.W.mg_of X G a9
  have b9 := F9.binds (ps := ["_law_found"]) fun _ _ _ _ _ _ us hl => match us, hl with | [_], _ => rfl
  have F10 := fun_mk (st := s__law_as_made) l10 c10 k10
  have m10 := PySem.W.mg_of X G a10
  have b10 := F10.binds (ps := ["_law_keeper", "_law_number", "_law_seats"]) fun _ _ _ _ _ _ us hl => match us, hl with | [_, _, _], _ => rfl
  have F11 := fun_mk (st := sLaw) l11 c11 k11
  have m11 := PySem.W.mg_of X G a11
  have b11 := F11.binds (ps := ["_law_script"]) fun _ _ _ _ _ _ us hl => match us, hl with | [_], _ => rfl
  refine ⟨PySem.W.fnOf "law" "law" (defArgs sLaw) (defBody sLaw) (defScope sLaw) .none kV11 dc11 pm11 an11 cd11 ct11, fun s v => .of_eq rfl, fun base _ _ => ?_⟩
  have CC : Cal l.prog w K mg base "_law_cell_at" 1 ["_law_script", "_law_k"] (spCellF K) := cal F7 m7 b7 (ok_cellF F7 T)
  have CM : Cal l.prog w K mg base "_law_mixed" 2 ["_law_script", "_law_k"] (spMixG K) := cal F8 m8 b8 (ok_mixG F8 CC)
  have CW : Cal l.prog w K mg base "_law_whole" 1 ["_law_found"] (spWholeI) := cal F9 m9 b9 (ok_wholeI F9 T)
  have CEo : Cal l.prog w K mg base "end_of" 1 ["row"] (spEndP) := cal F1 m1 b1 (ok_end_of F1 T)
  have CHs : Cal l.prog w K mg base "holds_seats" 1 ["entry"] (spHoldP) := cal F2 m2 b2 (ok_holds F2)
  have CSo : Cal l.prog w K mg base "seats_of" 2 ["row", "first"] (spSeatsP) := cal F3 m3 b3 (ok_seats_of F3 CHs)
  have CFr : Cal l.prog w K mg base "fresh" 1 [] (spFreshP K) := cal F4 m4 b4 (ok_fresh F4)
  have CFp : Cal l.prog w K mg base "first_pack" 2 ["seats"] (spFp) := cal F5 m5 b5 (ok_first_pack F5 CFr)
  have CBg : Cal l.prog w K mg base "begun" 1 [] (spBegP) := cal F0 m0 b0 (ok_begunP F0)
  have CSn : Cal l.prog w K mg base "seats_now" 3 ["keeper"] (spSnow C0) := cal F6 m6 b6 (ok_seats_now Y0 F6 CSo)
  have OB : FnOk l.prog w K mg base CX0 1 g3 _ ["self"] (spPlainK C0) := ok_be_plain Y0 G3
  have ON : FnOk l.prog w K mg base CX0 2 g4 _ ["self"] (spKnp C0) := ok_knp Y0 G4 CEo
  have OW : FnOk l.prog w K mg base CX0 3 g1 _ ["self"] (spWakeR C0) := ok_wakeR Y0 G1 ⟨ga3, gi3, gk3⟩ OB gb3 ⟨ga4, gi4, gk4⟩ ON gb4
  have OH : FnOk l.prog w K mg base CX0 2 g2 _ ["self", "term"] (spHear C0) := ok_hear Y0 G2 ⟨ga3, gi3, gk3⟩ OB gb3
  have OI : FnOk l.prog w K mg base CX0 4 g0 _ ["self", "number", "seats"] (spInit C0) := ok_init Y0 G0 ⟨ga1, gi1, gk1⟩ OW gb1 CFp CBg
  have M : KpM l.prog w K mg base C0 4 2 3 ["self", "number", "seats"] ["self", "term"] ["self"] := ⟨mC0, ⟨_, _, ⟨mk0, ga0, gi0, kc0⟩, OI, gb0⟩, ⟨_, _, ⟨ga2, gi2, gk2⟩, OH, gb2⟩, ⟨_, _, ⟨ga1, gi1, gk1⟩, ok_wake OW, gb1⟩⟩
  have CAm : Cal l.prog w K mg base "_law_as_made" 4 ["_law_keeper", "_law_number", "_law_seats"] (spMadeL C0) := cal F10 m10 b10 (ok_made (LV := 3) (by decide) Y0 F10 CW CSn)
  exact ok_law (LV := 5) (by decide) Y0 M F11 T CM CW CAm
theorem walk {l : PySem.W.OpenLaw} {q : Program} {loose : List Str} {XP : (Str → Option Value) → Heap → Prop} {YP : World → Heap → Prop} {d : DefRec} {K : Params → PySem.W.Frag} (hn : l.most = some 63) (hdf : d.params.defaults = [])
    (hY : ∀ (w : World) (h : Heap), YP w h → (K w.params).In h)
    (F : ∀ (w : World) (mg : Str → Option Value) (fa : Addr) (h : Heap), (K w.params).In h → h.Ns mainGlobals mg → mg d.name = some (.ref fa) →
      ∃ fd : FuncData, (∀ (s : Shared) (u : Value), BindsTo s fd ⟨[u], []⟩ [("_law_script", u)]) ∧ ∀ base : Heap, (K w.params).In base → base.Ns mainGlobals mg → FnOk l.prog w (K w.params) mg base CX0 6 fa fd ["_law_script"] (spLaw (K w.params))) :
    PySem.W.WalkO q loose XP YP l.row.toRowW d [] (fun f vs => PySem.call f vs) :=
  L2.walk_of (n := 63) (k := 6) (x := "_law_script") (CX := fun _ => CX0) (sp := fun w => spLaw (K w.params)) hn (by decide) hdf ⟨rfl, by decide, by decide⟩ hY F (fun _ _ a ns hl _ hS => ⟨a, ns, rfl, hS, hl, fun _ => rfl⟩) fun _ _ _ _ _ z => z
end K1
open PySem PySem.W PyProof.Rows
set_option maxRecDepth 100000 in
set_option maxHeartbeats 0 in
theorem PySem.Challenge.cw_keeplog_k40_hears_and_wakes_holds : PySem.Challenge.rw_keeplog_k40_hears_and_wakes.Holds := by
  w_on; o_law; k_head; (case hw => w_witness2)
  k_fill
  refine K1.walk (l := PySem.Challenge.rw_keeplog_k40_hears_and_wakes) rfl rfl (fun w h Y => PySem.W.kIn_of Y) ?F
  case F =>
    intro w mg fa h KX G hmg
    refine' K1.all_mk KX G hmg ?a0 ?l0 ?c0 ?k0 ?a1 ?l1 ?c1 ?k1 ?a2 ?l2 ?c2 ?k2 ?a3 ?l3 ?c3 ?k3 ?a4 ?l4 ?c4 ?k4 ?a5 ?l5 ?c5 ?k5 ?a6 ?l6 ?c6 ?k6 ?a7 ?l7 ?c7 ?k7 ?a8 ?l8 ?c8 ?k8 ?a9 ?l9 ?c9 ?k9 ?a10 ?l10 ?c10 ?k10 ?a11 ?l11 ?c11 ?k11 ?aC0 ?ga0 ?gi0 ?gl0 ?gc0 ?gk0 ?ga1 ?gi1 ?gl1 ?gc1 ?gk1 ?ga2 ?gi2 ?gl2 ?gc2 ?gk2 ?ga3 ?gi3 ?gl3 ?gc3 ?gk3 ?ga4 ?gi4 ?gl4 ?gc4 ?gk4 ?pg0 ?hd0 ?po0 ?sa0 ?mk0 ?kc0 ?n0_number ?n0_term ?n0_voice ?n0_head ?n0_way ?n0_pack ?n0_row ?n0_store ?n0_nexts ?n0_held ?n0_agreed ?n0_voices ?n0_waits ?z0 ?z1 ?z2 ?z3 ?z4 ?z5 ?z6 ?z7 ?z8 ?z9 ?z10 ?z11 ?z12 ?z13 ?z14
    (case a0 => k_is)
    (case l0 => k_is)
    (case c0 => k_is)
    (case k0 => k_is)
    (case a1 => k_is)
    (case l1 => k_is)
    (case c1 => k_is)
    (case k1 => k_is)
    (case a2 => k_is)
    (case l2 => k_is)
    (case c2 => k_is)
    (case k2 => k_is)
    (case a3 => k_is)
    (case l3 => k_is)
    (case c3 => k_is)
    (case k3 => k_is)
    (case a4 => k_is)
    (case l4 => k_is)
    (case c4 => k_is)
    (case k4 => k_is)
    (case a5 => k_is)
    (case l5 => k_is)
    (case c5 => k_is)
    (case k5 => k_is)
    (case a6 => k_is)
    (case l6 => k_is)
    (case c6 => k_is)
    (case k6 => k_is)
    (case a7 => k_is)
    (case l7 => k_is)
    (case c7 => k_is)
    (case k7 => k_is)
    (case a8 => k_is)
    (case l8 => k_is)
    (case c8 => k_is)
    (case k8 => k_is)
    (case a9 => k_is)
    (case l9 => k_is)
    (case c9 => k_is)
    (case k9 => k_is)
    (case a10 => k_is)
    (case l10 => k_is)
    (case c10 => k_is)
    (case k10 => k_is)
    (case a11 => k_is)
    (case l11 => k_is)
    (case c11 => k_is)
    (case k11 => k_is)
    (case aC0 => k_is)
    (case ga0 => k_is)
    (case gi0 => k_is)
    (case gl0 => k_is)
    (case gc0 => k_is)
    (case gk0 => k_is)
    (case ga1 => k_is)
    (case gi1 => k_is)
    (case gl1 => k_is)
    (case gc1 => k_is)
    (case gk1 => k_is)
    (case ga2 => k_is)
    (case gi2 => k_is)
    (case gl2 => k_is)
    (case gc2 => k_is)
    (case gk2 => k_is)
    (case ga3 => k_is)
    (case gi3 => k_is)
    (case gl3 => k_is)
    (case gc3 => k_is)
    (case gk3 => k_is)
    (case ga4 => k_is)
    (case gi4 => k_is)
    (case gl4 => k_is)
    (case gc4 => k_is)
    (case gk4 => k_is)
    (case pg0 => k_is)
    (case hd0 => k_is)
    (case po0 => k_is)
    (case sa0 => k_is)
    (case mk0 => k_is)
    (case kc0 => k_is)
    (case n0_number => k_is)
    (case n0_term => k_is)
    (case n0_voice => k_is)
    (case n0_head => k_is)
    (case n0_way => k_is)
    (case n0_pack => k_is)
    (case n0_row => k_is)
    (case n0_store => k_is)
    (case n0_nexts => k_is)
    (case n0_held => k_is)
    (case n0_agreed => k_is)
    (case n0_voices => k_is)
    (case n0_waits => k_is)
    (case z0 => k_is)
    (case z1 => k_is)
    (case z2 => k_is)
    (case z3 => k_is)
    (case z4 => k_is)
    (case z5 => k_is)
    (case z6 => k_is)
    (case z7 => k_is)
    (case z8 => k_is)
    (case z9 => k_is)
    (case z10 => k_is)
    (case z11 => k_is)
    (case z12 => k_is)
    (case z13 => k_is)
    (case z14 => k_is)
