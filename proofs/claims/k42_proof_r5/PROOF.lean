import PyProof.Rows.All
import Wide.All
import OpenK.AllK
import Wide.FinOn
import Lean
import PyProof.EqAt
import PyProof.EqKinds
import PyProof.TupleCall
import PySem.Challenge.RW_keeplog_k42_standing
set_option Elab.async false
set_option linter.all false
set_option maxRecDepth 100000
/-! THE HAND LAYER, for ints, bools, texts, own classes, LISTS and tuples (index, slices, in, append, pop ..), calls, loops. Paste it whole ahead of your own text; what your proof does not reach may be deleted. -/
namespace L2
open PySem PySem.Spec PyProof.Rows

/-- a key: an int or a str -/
abbrev Key := Sum Int Str
def keyIs : Key → Value → Bool
  | .inl k, v => Value.isInt k v
  | .inr x, v => Value.isStrOf x v
def keyH (w : World) : Key → Int
  | .inl k => hashInt k
  | .inr x => hashStr w x
theorem keyIs_shape : ∀ {k : Key} {v : Value}, keyIs k v = true → (∃ i t, k = Sum.inl i ∧ v = Value.int i t) ∨ (∃ x t, k = Sum.inr x ∧ v = Value.str x t)
  | .inl i, v, h => by
    obtain ⟨t, e⟩ := Value.isInt_shape (k := i) (v := v) h
    exact .inl ⟨i, t, rfl, e⟩
  | .inr x, v, h => by
    obtain ⟨t, e⟩ := Value.isStrOf_shape (x := x) (v := v) h
    exact .inr ⟨x, t, rfl, e⟩
theorem key_ll (a b : Int) : decide ((Sum.inl a : Key) = Sum.inl b) = (a == b) := by
  by_cases e : a = b
  · subst e; simp
  · have h : ¬ (Sum.inl a : Key) = Sum.inl b := fun q => e (Sum.inl.inj q)
    rw [decide_eq_false h]
    exact (beq_eq_false_iff_ne.mpr e).symm
theorem key_rr (a b : Str) : decide ((Sum.inr a : Key) = Sum.inr b) = decide (a = b) := by
  by_cases e : a = b
  · subst e; simp
  · have h : ¬ (Sum.inr a : Key) = Sum.inr b := fun q => e (Sum.inr.inj q)
    rw [decide_eq_false h, decide_eq_false e]
theorem key_lr (a : Int) (b : Str) : decide ((Sum.inl a : Key) = Sum.inr b) = false := decide_eq_false (fun q => nomatch q)
theorem key_rl (a : Str) (b : Int) : decide ((Sum.inr a : Key) = Sum.inl b) = false := decide_eq_false (fun q => nomatch q)

def mixKind (prog : Program) (w : World) : PySem.KeyKind prog w Key where
  is := keyIs
  hash := keyH w
  inj := fun v a b ha hb => by
    rcases keyIs_shape ha with ⟨i, t, rfl, rfl⟩ | ⟨x, t, rfl, rfl⟩
    · rcases keyIs_shape hb with ⟨j, u, rfl, e⟩ | ⟨y, u, rfl, e⟩
      · injection e with e1 _; rw [e1]
      · exact nomatch e
    · rcases keyIs_shape hb with ⟨j, u, rfl, e⟩ | ⟨y, u, rfl, e⟩
      · exact nomatch e
      · injection e with e1 _; rw [e1]
  byValue := fun k v h => by
    rcases keyIs_shape h with ⟨i, t, rfl, rfl⟩ | ⟨x, t, rfl, rfl⟩ <;> rfl
  pyHash := fun hv h => by
    rcases keyIs_shape hv with ⟨i, t, rfl, rfl⟩ | ⟨x, t, rfl, rfl⟩
    · exact wpAny_pyHash_int h
    · exact wpAny_pyHash_str h
  eqBool := fun hu hv h => by
    rcases keyIs_shape hu with ⟨i, t, rfl, rfl⟩ | ⟨x, t, rfl, rfl⟩
    · rcases keyIs_shape hv with ⟨j, u, rfl, rfl⟩ | ⟨y, u, rfl, rfl⟩
      · rw [key_ll] at h; exact wpAny_eqBool_int h
      · rw [key_lr] at h; exact SeqAt.EqAt.int_str i t y u _ _ _ _ h
    · rcases keyIs_shape hv with ⟨j, u, rfl, rfl⟩ | ⟨y, u, rfl, rfl⟩
      · rw [key_rl] at h; exact SeqAt.EqAt.str_int x t j u _ _ _ _ h
      · rw [key_rr] at h; exact wpAny_eqBool_str h
  «strs» := fun k x t v h => by
    rcases keyIs_shape h with ⟨i, u, rfl, e⟩ | ⟨y, u, rfl, e⟩
    · exact nomatch e
    · injection e with e1 _
      subst e1
      cases v <;> rfl

end L2

namespace L2
open PySem PySem.Spec PyProof.Rows

/-- a value, without the heap -/
inductive V where
  | non | bl (b : Bool) | int (i : Int) | str (x : Str) | byt (b : Array UInt8) | flt (b : UInt64) | ref (a : Addr) | ty (n : String)
  deriving DecidableEq

def RelV : V → Value → Prop
  | .non, u => u = Value.none
  | .bl b, u => u = Value.bool b
  | .int i, u => ∃ t, u = Value.int i t
  | .str x, u => ∃ t, u = Value.str x t
  | .byt b, u => ∃ t, u = Value.bytes b t
  | .flt b, u => ∃ t, u = Value.float b t
  | .ref a, u => u = Value.ref a
  | .ty n, u => u = Value.type n

abbrev Vals : List V → List Value → Prop := Paired RelV
theorem Vals.length {xs : List V} {us : List Value} (r : Vals xs us) : xs.length = us.length := Paired.length r
theorem Vals.get : ∀ {xs : List V} {us : List Value} {i : Nat} {x : V}, Vals xs us → xs[i]? = some x → ∃ u, us[i]? = some u ∧ RelV x u
  | _, _, _, _, .nil, e => by simp at e
  | _, _, 0, _, .cons r _, e => by simp at e; subst e; exact ⟨_, rfl, r⟩
  | _, _, i + 1, x, .cons _ t, e => by
    obtain ⟨u, h1, h2⟩ := Vals.get (i := i) (x := x) t (by simpa using e)
    exact ⟨u, by simpa using h1, h2⟩
theorem Vals.set {x : V} {u : Value} (r : RelV x u) : ∀ {xs : List V} {us : List Value} (i : Nat), Vals xs us → Vals (xs.set i x) (us.set i u)
  | _, _, _, .nil => .nil
  | _, _, 0, .cons _ t => .cons r t
  | _, _, i + 1, .cons q t => .cons q (Vals.set r i t)
theorem Vals.append : ∀ {xs ys : List V} {us ws : List Value}, Vals xs us → Vals ys ws → Vals (xs ++ ys) (us ++ ws)
  | _, _, _, _, .nil, s => s
  | _, _, _, _, .cons r t, s => .cons r (Vals.append t s)
theorem Vals.take : ∀ {xs : List V} {us : List Value} (n : Nat), Vals xs us → Vals (xs.take n) (us.take n)
  | _, _, 0, _ => .nil
  | _, _, _ + 1, .nil => .nil
  | _, _, n + 1, .cons r t => .cons r (Vals.take n t)
theorem Vals.drop : ∀ {xs : List V} {us : List Value} (n : Nat), Vals xs us → Vals (xs.drop n) (us.drop n)
  | _, _, 0, r => r
  | _, _, _ + 1, .nil => .nil
  | _, _, n + 1, .cons _ t => Vals.drop n t
theorem Vals.none_of : ∀ {xs : List V} {us : List Value} {i : Nat}, Vals xs us → xs[i]? = none → us[i]? = none := fun {xs us i} r e => by
  have h1 := r.length
  have h2 : xs.length ≤ i := List.getElem?_eq_none_iff.mp e
  exact List.getElem?_eq_none_iff.mpr (by omega)

def RelO : Option V → Option Value → Prop
  | some v, some u => RelV v u
  | none, none => True
  | _, _ => False
def KV {κ : Type} : List (κ × V) → List (κ × Value) → Prop := Paired fun (p : κ × V) (q : κ × Value) => p.1 = q.1 ∧ RelV p.2 q.2

/-- a key of a dict (00_mix): an int or a text -/
def kV : Key → V
  | .inl i => .int i
  | .inr x => .str x

/-- what stands at a tracked address -/
inductive HO where
  /-- a list -/
  | lst (xs : List V)
  /-- a tuple (never changes) -/
  | tup (xs : List V)
  /-- a dict whose keys are ints and texts; one whose keys are tuples of ints and texts (the empty one is both) -/
  | dK (kvs : List (Key × V)) | dT (kvs : List (List Key × V))
  /-- a set of ints: its members, its size -/
  | set (S : Int → Bool) (n : Nat)
  /-- an instance of the class at C, its dict at dx, its attributes -/
  | ins (C dx : Addr) (fs : List (Str × V))
  /-- the dict of the instance at x -/
  | own (x : Addr)
  /-- the dict of an exception -/
  | xd (fs : List (Str × V))
  /-- a bound method, f of x -/
  | met (f x : Addr)
  /-- a range object lo, lo + 1, .. below hi -/
  | rng (lo hi : Int)
  /-- a thing that is known to the object (the script; a dict while a loop walks it): read, never written while it is so -/
  | frz (o : Obj) (u : HO)
  /-- a code object's table -/
  | tbl (ps : Array Value)
  /-- any other thing, by what is true of its one object (a def of one's own: SetO a S n := HO.ext fun h => ..) -/
  | ext (φ : Heap → Prop)

abbrev Hp := Addr → Option HO
def upd (H : Hp) (a : Addr) (o : HO) : Hp := fun b => if b = a then some o else H b
theorem upd_same {H : Hp} {a : Addr} {o : HO} : upd H a o a = some o := by unfold upd; rw [if_pos rfl]
theorem upd_ne {H : Hp} {a b : Addr} {o : HO} (h : b ≠ a) : upd H a o b = H b := by unfold upd; rw [if_neg h]
theorem ne_of_none {H : Hp} {a b : Addr} {o : HO} (h : H a = some o) (h' : H b = none) : a ≠ b := by
  intro e; subst e; rw [h] at h'; cases h'

section
variable (P : Program) (w : World)
def ObjOk (H : Hp) (h : Heap) (a : Addr) : HO → Prop
  | .lst xs => xs.length ≤ sizeLine ∧ ∃ (its : List Value) (n : Nat), Vals xs its ∧ h.get? a = some { cls := .type "list", data := .seq its.toArray n }
  | .tup xs => xs.length ≤ sizeLine ∧ ∃ its : List Value, Vals xs its ∧ IsTup h a its.toArray
  | .dK kvs => kvs.length ≤ sizeLine ∧ (a == sysModules) = false ∧ ∃ vs, KV kvs vs ∧ h.DictOf (mixKind P w) a vs
  | .dT kvs => kvs.length ≤ sizeLine ∧ (a == sysModules) = false ∧ ∃ xs : List (List Key × Addr × Value),
      Paired (fun (p : List Key × V) (q : List Key × Addr × Value) => p.1 = q.1 ∧ H q.2.1 = some (.tup (p.1.map kV)) ∧ RelV p.2 q.2.2) kvs xs ∧
      ∃ o es ep, h.get? a = some o ∧ o.ExactDict ∧ o.data = .dict es ep ∧ es.toList = xs.map (entryOfKey (tupleKind (mixKind P w))) ∧ (xs.map (·.1)).Nodup
  | .set S n => h.SetOf (intKind P w) a S n
  | .ins C dx fs => H dx = some (.own a) ∧ fs.length ≤ 1000 ∧ dx ≠ a ∧ h.get? a = some (PySem.W.instObj C dx) ∧
      ∃ mA, h.Ns1 dx mA ∧ (∀ f, RelO (fs.lookup f) (mA f)) ∧ PySem.Within mA (fs.map (·.1))
  | .own _ => ∃ o, h.get? a = some o
  | .xd fs => ∃ mA, h.Ns1 a mA ∧ ∀ f, RelO (fs.lookup f) (mA f)
  | .rng lo hi => ∃ t u v, h.get? a = some { cls := .type "range", data := .fields #[.int lo t, .int hi u, .int 1 v] }
  | .frz o u => h.get? a = some o ∧ ObjOk H h a u
  | .tbl ps => h.get? a = some { cls := .none, data := .fields ps }
  | .met f x => h.get? a = some (PySem.W.methodObj (.ref f) (.ref x))
  | .ext φ => φ h ∧ (∃ o, h.get? a = some o) ∧ ∀ h1 h2 : Heap, φ h1 → (∀ o, h1.get? a = some o → h2.get? a = some o) → φ h2
/-- the abstract heap is held -/
def HOk (H : Hp) (h : Heap) : Prop := ∀ a o, H a = some o → ObjOk P w H h a o
end

section
variable {P : Program} {w : World} {H H' : Hp} {h h' : Heap} {a : Addr} {o : HO}
theorem ObjOk.lt (x : ObjOk P w H h a o) : a < h.objs.size := by
  cases o with
  | lst xs => obtain ⟨_, _, _, _, e⟩ := x; exact Heap.lt_size e
  | tup xs => obtain ⟨_, _, _, p⟩ := x; exact p.lt
  | dK kvs => obtain ⟨_, _, _, _, o, _, _, e, _⟩ := x; exact Heap.lt_size e
  | dT kvs => obtain ⟨_, _, _, _, o, _, _, e, _⟩ := x; exact Heap.lt_size e
  | set S n => obtain ⟨o, _, _, _, e, _⟩ := x; exact Heap.lt_size e
  | ins C dx fs => obtain ⟨_, _, _, e, _⟩ := x; exact Heap.lt_size e
  | own y => obtain ⟨_, e⟩ := x; exact Heap.lt_size e
  | xd fs => obtain ⟨_, ⟨_, _, _, e, _⟩, _⟩ := x; exact Heap.lt_size e
  | rng lo hi => obtain ⟨_, _, _, e⟩ := x; exact Heap.lt_size e
  | frz ob u => obtain ⟨e, _⟩ := x; exact Heap.lt_size e
  | tbl ps => exact Heap.lt_size (show h.get? a = some _ from x)
  | met f y => exact Heap.lt_size (show h.get? a = some _ from x)
  | ext φ => obtain ⟨_, ⟨_, e⟩, _⟩ := x; exact Heap.lt_size e
theorem Paired.mapP {α β : Type} {F G : α → β → Prop} : ∀ {l₁ : List α} {l₂ : List β}, Paired F l₁ l₂ → (∀ a b, F a b → G a b) → Paired G l₁ l₂
  | _, _, .nil, _ => .nil
  | _, _, .cons r t, f => .cons (f _ _ r) (Paired.mapP t f)
/-- what an object's description leans on: its own object, its own dict, the tuples -/
theorem ObjOk.stay (x : ObjOk P w H h a o) (k : ∀ b u, (b = a ∨ H b = some (.own a)) → h.get? b = some u → h'.get? b = some u)
    (ho : ∀ b, H b = some (.own a) → H' b = some (.own a)) (ht : ∀ b xs, H b = some (.tup xs) → H' b = some (.tup xs)) : ObjOk P w H' h' a o := by
  induction o with
  | lst xs => obtain ⟨z, its, n, r, e⟩ := x; exact ⟨z, its, n, r, k _ _ (.inl rfl) e⟩
  | tup xs => obtain ⟨z, its, r, ob, e, c⟩ := x; exact ⟨z, its, r, ob, k _ _ (.inl rfl) e, c⟩
  | dK kvs => obtain ⟨z, y, vs, r, ob, es, ep, e, c⟩ := x; exact ⟨z, y, vs, r, ob, es, ep, k _ _ (.inl rfl) e, c⟩
  | dT kvs =>
    obtain ⟨z, y, xs, r, ob, es, ep, e, c⟩ := x
    exact ⟨z, y, xs, Paired.mapP r fun p q z => ⟨z.1, ht _ _ z.2.1, z.2.2⟩, ob, es, ep, k _ _ (.inl rfl) e, c⟩
  | set S n => obtain ⟨ob, es, ep, t, e, c⟩ := x; exact ⟨ob, es, ep, t, k _ _ (.inl rfl) e, c⟩
  | ins C dx fs =>
    obtain ⟨d, z, ne, e, mA, ⟨od, es, ep, e2, c⟩, r⟩ := x
    exact ⟨ho _ d, z, ne, k _ _ (.inl rfl) e, mA, ⟨od, es, ep, k _ _ (.inr d) e2, c⟩, r⟩
  | own y => obtain ⟨ob, e⟩ := x; exact ⟨ob, k _ _ (.inl rfl) e⟩
  | xd fs => obtain ⟨mA, ⟨od, es, ep, e, c⟩, r⟩ := x; exact ⟨mA, ⟨od, es, ep, k _ _ (.inl rfl) e, c⟩, r⟩
  | rng lo hi => obtain ⟨t, u, v, e⟩ := x; exact ⟨t, u, v, k _ _ (.inl rfl) e⟩
  | frz ob u ih => obtain ⟨e, q⟩ := x; exact ⟨k _ _ (.inl rfl) e, ih q⟩
  | tbl ps =>
    have e : h.get? a = some { cls := .none, data := .fields ps } := x
    show h'.get? a = some { cls := .none, data := .fields ps }
    exact k a _ (.inl rfl) e
  | met f y =>
    have e : h.get? a = some (PySem.W.methodObj (.ref f) (.ref y)) := x
    show h'.get? a = some (PySem.W.methodObj (.ref f) (.ref y))
    exact k a _ (.inl rfl) e
  | ext φ => obtain ⟨p, ⟨o, e⟩, st⟩ := x; exact ⟨st _ _ p fun o q => k _ _ (.inl rfl) q, ⟨o, k _ _ (.inl rfl) e⟩, st⟩
theorem HOk.lt (x : HOk P w H h) (e : H a = some o) : a < h.objs.size := (x a o e).lt
theorem HOk.fresh (x : HOk P w H h) (e : h.objs.size ≤ a) : H a = none := by
  cases q : H a with
  | none => rfl
  | some u => exact absurd (Nat.lt_of_lt_of_le (x.lt q) e) (Nat.lt_irrefl _)
/-- every object of the heap is kept -/
theorem HOk.kept (x : HOk P w H h) (k : ∀ b u, h.get? b = some u → h'.get? b = some u) : HOk P w H h' := fun a o e =>
  (x a o e).stay (fun b u _ q => k b u q) (fun _ q => q) fun _ _ q => q
/-- a new object is laid and tracked -/
theorem HOk.laid (x : HOk P w H h) (k : ∀ b u, h.get? b = some u → h'.get? b = some u) (hp : h.objs.size ≤ a) (new : ObjOk P w (upd H a o) h' a o) : HOk P w (upd H a o) h' := fun b u e => by
  have hn := x.fresh hp
  by_cases hb : b = a
  · subst hb; rw [upd_same] at e; cases e; exact new
  · rw [upd_ne hb] at e
    exact (x b u e).stay (fun c v _ q => k c v q) (fun c q => by rw [upd_ne (ne_of_none q hn)]; exact q) fun c xs q => by rw [upd_ne (ne_of_none q hn)]; exact q
end

/-- what may be read as u: it is u, or a known u -/
def Rd (H : Hp) (a : Addr) (u : HO) : Prop := H a = some u ∨ ∃ o, H a = some (.frz o u)
theorem Rd.of {H : Hp} {a : Addr} {u : HO} (h : H a = some u) : Rd H a u := .inl h
theorem Rd.ok {P : Program} {w : World} {H : Hp} {h : Heap} {a : Addr} {u : HO} (r : Rd H a u) (x : HOk P w H h) : ObjOk P w H h a u := by
  rcases r with r | ⟨o, r⟩
  · exact x a u r
  · obtain ⟨_, q⟩ := x a _ r
    exact q
/-- what may be written -/
def Mut : Option HO → Prop
  | some (.lst _) => True
  | some (.dK _) => True
  | some (.dT _) => True
  | some (.set _ _) => True
  | some (.ins _ _ _) => True
  | some (.ext _) => True
  | _ => False
section
variable {P : Program} {w : World} {H : Hp} {h h' : Heap} {x e : Addr} {o' : HO}
/-- the object at e is changed: x itself, or the dict of the instance x -/
theorem HOk.write (ok : HOk P w H h) (mu : Mut (H x)) (he : e = x ∨ H e = some (.own x)) (k : ∀ b u, b ≠ e → h.get? b = some u → h'.get? b = some u) (heo : ∃ u, h'.get? e = some u)
    (new : ObjOk P w (upd H x o') h' x o') : HOk P w (upd H x o') h' := fun b u q => by
  have nown : ∀ c y, H c = some (.own y) → c ≠ x := fun c y r z => by subst z; rw [r] at mu; exact mu
  have ntup : ∀ c xs, H c = some (.tup xs) → c ≠ x := fun c xs r z => by subst z; rw [r] at mu; exact mu
  by_cases hb : b = x
  · subst hb; rw [upd_same] at q; cases q; exact new
  · rw [upd_ne hb] at q
    by_cases hbe : b = e
    · have q' : H b = some (.own x) := by
        rcases he with z | z
        · exact absurd (hbe.trans z) hb
        · rw [hbe]; exact z
      rw [q] at q'; cases q'
      obtain ⟨v, hv⟩ := heo
      exact ⟨v, by rw [hbe]; exact hv⟩
    · refine (ok b u q).stay (fun c v hc r => k c v ?_ r) (fun c r => by rw [upd_ne (nown c b r)]; exact r) fun c xs r => by rw [upd_ne (ntup c xs r)]; exact r
      rcases hc with rfl | hc
      · exact hbe
      · rintro rfl
        rcases he with z | z
        · exact nown c b hc z
        · rw [hc] at z; cases z; exact hb rfl
end

/-! ### kept unless tracked; of the frames at fs (the callers') the slots may change (an exception that passes writes there); of the records at ex (iterators) nothing is said -/
structure Un (fs ex : List Addr) (H H' : Hp) (h h' : Heap) : Prop where
  keep : ∀ b o, h.get? b = some o → H b = none → b ∉ fs → b ∉ ex → h'.get? b = some o
  slot : ∀ b o, h.get? b = some o → H b = none → b ∈ fs → b ∉ ex → ∃ sl, h'.get? b = some { o with slots := sl }
  free : ∀ b o, h.get? b = some o → H b = none → b ∉ ex → H' b = none
  there : ∀ b o, h.get? b = some o → b ∉ ex → ∃ o', h'.get? b = some o'
  tups : ∀ b xs, H b = some (.tup xs) → H' b = some (.tup xs)
  frzs : ∀ b o u, H b = some (.frz o u) → H' b = some (.frz o u)
  tbls : ∀ b ps, H b = some (.tbl ps) → ∃ more, H' b = some (.tbl (ps ++ more))
section
variable {fs fs' ex ex' : List Addr} {H H1 H2 : Hp} {h h1 h2 h' : Heap} {a x e : Addr} {o : HO}
theorem Un.any (u : Un fs ex H H1 h h1) {b : Addr} {ob : Obj} (q : h.get? b = some ob) (n : H b = none) (hx : b ∉ ex) : ∃ sl, h1.get? b = some { ob with slots := sl } := by
  by_cases hb : b ∈ fs
  · exact u.slot b ob q n hb hx
  · exact ⟨ob.slots, u.keep b ob q n hb hx⟩
theorem Un.trans (a : Un fs ex H H1 h h1) (b : Un fs ex H1 H2 h1 h2) : Un fs ex H H2 h h2 where
  keep := fun c ob q n hc hx => b.keep c ob (a.keep c ob q n hc hx) (a.free c ob q n hx) hc hx
  slot := fun c ob q n hc hx => by
    obtain ⟨sl, e1⟩ := a.slot c ob q n hc hx
    obtain ⟨sl', e2⟩ := b.slot c _ e1 (a.free c ob q n hx) hc hx
    exact ⟨sl', e2⟩
  free := fun c ob q n hx => by
    obtain ⟨o', e1⟩ := a.there c ob q hx
    exact b.free c o' e1 (a.free c ob q n hx) hx
  there := fun c ob q hx => by
    obtain ⟨o', e1⟩ := a.there c ob q hx
    exact b.there c o' e1 hx
  tups := fun c xs q => b.tups c xs (a.tups c xs q)
  frzs := fun c ob xs q => b.frzs c ob xs (a.frzs c ob xs q)
  tbls := fun c ps q => by
    obtain ⟨m1, e1⟩ := a.tbls c ps q
    obtain ⟨m2, e2⟩ := b.tbls c _ e1
    exact ⟨m1 ++ m2, by rw [e2, Array.append_assoc]⟩
theorem Un.kept (k : ∀ b u, h.get? b = some u → h'.get? b = some u) : Un fs ex H H h h' :=
  ⟨fun b ob q _ _ _ => k b ob q, fun b ob q _ _ _ => ⟨ob.slots, k b ob q⟩, fun _ _ _ n _ => n, fun b ob q _ => ⟨ob, k b ob q⟩, fun _ _ q => q, fun _ _ _ q => q, fun _ ps q => ⟨#[], by rw [q]; simp⟩⟩
theorem Un.refl : Un fs ex H H h h := Un.kept fun _ _ q => q
theorem Un.laid (k : ∀ b u, h.get? b = some u → h'.get? b = some u) (hp : h.objs.size ≤ a) (hn : H a = none) : Un fs ex H (upd H a o) h h' where
  keep := fun b u q _ _ _ => k b u q
  slot := fun b u q _ _ _ => ⟨u.slots, k b u q⟩
  free := fun b u q n _ => by rw [upd_ne (Nat.ne_of_lt (Nat.lt_of_lt_of_le (Heap.lt_size q) hp))]; exact n
  there := fun b u q _ => ⟨u, k b u q⟩
  tups := fun b xs q => by rw [upd_ne (ne_of_none q hn)]; exact q
  frzs := fun b u xs q => by rw [upd_ne (ne_of_none q hn)]; exact q
  tbls := fun b ps q => ⟨#[], by rw [upd_ne (ne_of_none q hn), q]; simp⟩
theorem Un.write (mu : Mut (H x)) (he : e = x ∨ H e = some (.own x)) (k : ∀ b u, b ≠ e → h.get? b = some u → h'.get? b = some u) (heo : ∃ u, h'.get? e = some u) : Un fs ex H (upd H x o) h h' := by
  have hx : ∀ b, H b = none → b ≠ x := fun b n z => by subst z; rw [n] at mu; exact mu
  have hb : ∀ b, H b = none → b ≠ e := fun b n z => by
    subst z
    rcases he with r | r
    · exact hx b n r
    · rw [n] at r; cases r
  have hm : ∀ b u, H b = some u → ¬ Mut (some u) → b ≠ x := fun b u q nm z => by subst z; rw [q] at mu; exact nm mu
  refine ⟨fun b u q n _ _ => k b u (hb b n) q, fun b u q n _ _ => ⟨u.slots, k b u (hb b n) q⟩, fun b u q n _ => by rw [upd_ne (hx b n)]; exact n, fun b u q _ => ?_,
    fun b xs q => by rw [upd_ne (hm b _ q fun z => z)]; exact q, fun b u xs q => by rw [upd_ne (hm b _ q fun z => z)]; exact q, fun b ps q => ⟨#[], by rw [upd_ne (hm b _ q fun z => z), q]; simp⟩⟩
  by_cases hbe : b = e
  · subst hbe; exact heo
  · exact ⟨u, k b u hbe q⟩
theorem Un.mono (u : Un fs ex H H1 h h1) (hs : ∀ b ∈ fs, b ∈ fs') (hx : ∀ b ∈ ex, b ∈ ex') : Un fs' ex' H H1 h h1 :=
  ⟨fun b ob q n hb he => u.keep b ob q n (fun z => hb (hs b z)) fun z => he (hx b z), fun _ _ q n _ he => u.any q n fun z => he (hx _ z), fun b ob q n he => u.free b ob q n fun z => he (hx b z), fun b ob q he => u.there b ob q fun z => he (hx b z), u.tups, u.frzs, u.tbls⟩
end

/-! ### the heap without what is tracked -/
def trk (h : Heap) (H : Hp) : List Addr := (List.range h.objs.size).filter fun a => (H a).isSome
def hidT (h : Heap) (H : Hp) : Heap := PySem.W.hideAll h (trk h H)
theorem hidT_size (h : Heap) (H : Hp) : (hidT h H).objs.size = h.objs.size := PySem.W.hideAll_size _ _
theorem hidT_get {h : Heap} {H : Hp} {b : Addr} {o : Obj} (e : h.get? b = some o) (n : H b = none) : (hidT h H).get? b = some o :=
  PySem.W.hideAll_get _ e fun hm => by
    have q : (H b).isSome = true := (List.mem_filter.mp hm).2
    rw [n] at q; simp at q
theorem of_hidT {h : Heap} {H : Hp} {b : Addr} {o : Obj} (e : (hidT h H).get? b = some o) : h.get? b = some o ∧ H b = none := by
  have e' : h.get? b = some o := PySem.W.of_hideAll (trk h H) e
  refine ⟨e', ?_⟩
  cases q : H b with
  | none => rfl
  | some x =>
    have hm : b ∈ trk h H := List.mem_filter.mpr ⟨List.mem_range.mpr (Heap.lt_size e'), by simp [q]⟩
    have z : (hidT h H).get? b = none := PySem.W.hideAll_none (trk h H) hm
    rw [z] at e; cases e

/-! ### OpenK's ledger, filled with every new object but one -/
def allNews (g h : Heap) (L : Addr) : List (Addr × Obj) := (List.range h.objs.size).filterMap fun a => if a = L ∨ (g.get? a).isSome = true then none else (h.get? a).map fun o => (a, o)
def rest (g h : Heap) (L d : Addr) : List (Addr × Obj) := (allNews g h L).filter fun p => decide (p.1 ≠ d)
end L2

namespace L2
open PySem PySem.Spec PyProof.Rows

/-- the module's facts, over the base: the heap at the law's entry without what is tracked there -/
structure Mod (K : PySem.W.Frag) (mg : Str → Option Value) (base : Heap) : Prop where
  kin : K.In base
  glob : base.Ns mainGlobals mg
  blt : ∃ mb, base.Ns builtinsNs mb ∧ ∀ x : Str, x ≠ "__name__" → mb x = bootBuiltins x
  nolimit : base.NoLimit

/-- the context: a def's body (or a comprehension's block) running. base: fixed through the whole law; s₀, H₀: the entry; outer: the frames whose slots others may change (a def's callers); stack: all frames that run;
   ex: iterators that were made ahead of the entry and are walked here (a comprehension's); fn: the names whose cells were made at the entry (a def: all; a comprehension's block: its own); calm: not within an except suite; pn: pins that every state bears; xe: what is wanted of an exception that leaves the code -/
structure Cx where
  prog : Program
  w : World
  K : PySem.W.Frag
  mg : Str → Option Value
  base : Heap
  A : Around
  N : List Str
  s₀ : Shared
  H₀ : Hp
  env : Env
  outer : List Env
  stack : List Env
  ex : List Addr
  fn : Str → Bool
  calm : Bool
  pn : List (Addr × Obj)
  xe : Value → Shared → Prop
/-- the callers' frames -/
def frs (l : List Env) : List Addr := l.filterMap (·.frame)
abbrev Cx.fs (X : Cx) : List Addr := frs X.outer

def Vis (sc : Scope) (x : Str) : Prop := sc.names.lookup x = some .local ∨ sc.names.lookup x = some .cell ∨ sc.names.lookup x = some .free
def Loc (sc : Scope) (x : Str) : Prop := sc.names.lookup x = some .local ∨ sc.names.lookup x = some .cell
def Look (env : Env) (h : Heap) (m : Str → Option Value) (x : Str) (u : Value) : Prop :=
  (env.kindOf x = some .local ∧ m x = some u) ∨ ((env.kindOf x = some .cell ∨ env.kindOf x = some .free) ∧ ∃ c, env.cells.lookup x = some c ∧ h.IsCell c (some u))

structure Cx.Ok (X : Cx) : Prop where
  mod : Mod X.K X.mg X.base
  kind : X.env.scope.kind = .function
  glob : X.env.globals = mainGlobals
  blt : X.env.builtins = builtinsNs
  above : X.s₀.heap.objs.size ≤ X.env.locals
  inj : ∀ x y c, X.env.cells.lookup x = some c → X.env.cells.lookup y = some c → x = y
  has : ∀ x, (X.env.kindOf x = some .cell ∨ X.env.kindOf x = some .free) → ∃ c, X.env.cells.lookup x = some c
  cab : ∀ x c, X.fn x = true → X.env.cells.lookup x = some c → X.s₀.heap.objs.size ≤ c
  hd : X.calm = true → X.A.handled = none
  frames : X.A.frames = some X.stack
  stk : X.stack = X.outer ∨ (X.stack = X.env :: X.outer ∧ X.env.frame = some X.env.locals)
  exf : ∀ b ∈ X.ex, b ≠ X.env.locals ∧ ∀ x c, X.env.cells.lookup x = some c → c ≠ b
  bs : ∀ b o, X.base.get? b = some o → X.s₀.heap.get? b = some o ∧ X.H₀ b = none
  bsz : X.base.objs.size ≤ X.s₀.heap.objs.size
  noex : ∀ b o, X.base.get? b = some o → b ∉ X.ex
  exfs : ∀ b ∈ X.ex, b ∉ X.fs
  funs : X.s₀.heap.FunFrames X.base X.outer
  frf : ∀ b ∈ X.fs, X.H₀ b = none

structure Inv (X : Cx) (pins : List (Addr × Obj)) (σ : List (Option V)) (H : Hp) (s : Shared) : Prop where
  ok : X.Ok
  os : s.os = X.s₀.os
  bare : AllBare s.gens
  base : Un X.fs X.ex X.H₀ H X.s₀.heap s.heap
  loc : ∃ m, s.heap.Ns X.env.locals m ∧ ∀ (i : Nat) (x : Str) (v : V), X.N[i]? = some x → σ[i]? = some (some v) → Vis X.env.scope x → ∃ u, RelV v u ∧ Look X.env s.heap m x u
  cell : ∀ x c, X.env.cells.lookup x = some c → ∃ v, s.heap.IsCell c v
  free : H X.env.locals = none
  freeC : ∀ x c, X.env.cells.lookup x = some c → H c = none
  pin : ∀ p ∈ X.pn ++ pins, s.heap.get? p.1 = some p.2 ∧ H p.1 = none ∧ p.1 ≠ X.env.locals ∧ p.1 ∉ X.fs ∧ ∀ v, p.2.data ≠ .cell v
  hok : HOk X.prog X.w H s.heap
  len : σ.length = X.N.length

section
variable {X : Cx} {pins : List (Addr × Obj)} {σ : List (Option V)} {H H' : Hp} {s : Shared} {h' : Heap}

theorem Cx.Ok.nofr (ok : X.Ok) {b : Addr} {o : Obj} (e : X.base.get? b = some o) : b ∉ X.fs := fun hb => by
  have := (ok.funs.mem hb).1
  rw [e] at this; cases this
theorem Inv.bs (I : Inv X pins σ H s) : ∀ b o, X.base.get? b = some o → s.heap.get? b = some o ∧ H b = none := fun b o e =>
  ⟨I.base.keep b o (I.ok.bs b o e).1 (I.ok.bs b o e).2 (I.ok.nofr e) (I.ok.noex b o e), I.base.free b o (I.ok.bs b o e).1 (I.ok.bs b o e).2 (I.ok.noex b o e)⟩
theorem Inv.bk (I : Inv X pins σ H s) : ∀ b o, X.base.get? b = some o → s.heap.get? b = some o := fun b o e => (I.bs b o e).1
theorem Inv.mod (I : Inv X pins σ H s) : Mod X.K X.mg X.base := I.ok.mod
theorem Inv.kIn (I : Inv X pins σ H s) : X.K.In s.heap := I.ok.mod.kin.keeps I.bk
theorem Inv.nolimit (I : Inv X pins σ H s) : s.heap.NoLimit := I.ok.mod.nolimit.keeps I.bk
/-- the frame over the base: for OpenK's rules (K.In X.base is I.mod.kin) -/
theorem Inv.fr (I : Inv X pins σ H s) : ∃ m, Fr X.base X.env.locals s.heap m :=
  let ⟨m, hn, _⟩ := I.loc
  ⟨m, hn, I.bk, Nat.le_trans I.ok.bsz I.ok.above⟩
theorem Inv.lt (I : Inv X pins σ H s) : X.env.locals < s.heap.objs.size := let ⟨_, hn, _⟩ := I.loc; hn.lt
theorem Inv.sz (I : Inv X pins σ H s) : X.s₀.heap.objs.size ≤ s.heap.objs.size := Nat.le_trans I.ok.above (Nat.le_of_lt I.lt)
theorem Inv.nofs (I : Inv X pins σ H s) {a : Addr} (h : s.heap.objs.size ≤ a) : a ∉ X.fs := fun hb => by
  obtain ⟨_, o, ho, _⟩ := I.ok.funs.mem hb
  exact absurd (Nat.lt_of_lt_of_le (Heap.lt_size ho) (Nat.le_trans I.sz h)) (Nat.lt_irrefl _)
theorem Inv.cne (I : Inv X pins σ H s) : ∀ x c, X.env.cells.lookup x = some c → c ≠ X.env.locals := fun x c e z => by
  obtain ⟨v, o, ho, hd⟩ := I.cell x c e
  obtain ⟨m, ⟨o', es, ep, ho', hd', _⟩, _⟩ := I.loc
  rw [z, ho'] at ho; cases ho; rw [hd'] at hd; cases hd
theorem Inv.funs (I : Inv X pins σ H s) : s.heap.FunFrames X.base X.outer := by
  have all : ∀ (l : List Env), (∀ b ∈ frs l, b ∈ X.fs) → X.s₀.heap.FunFrames X.base l → s.heap.FunFrames X.base l := by
    intro l
    induction l with
    | nil => intro _ _; trivial
    | cons env r ih =>
      intro hs hl
      obtain ⟨hk, ⟨L, o, hf, hn, ho, hd⟩, hr⟩ := hl
      have hL : L ∈ X.fs := hs L (by unfold frs; rw [List.filterMap_cons, hf]; exact List.mem_cons_self)
      obtain ⟨sl, e⟩ := I.base.slot L o ho (I.ok.frf L hL) hL fun z => I.ok.exfs L z hL
      exact ⟨hk, ⟨L, _, hf, hn, e, hd⟩, ih (fun b hb => hs b (by unfold frs; rw [List.filterMap_cons, hf]; exact List.mem_cons_of_mem _ hb)) hr⟩
  exact all X.outer (fun _ hb => hb) I.ok.funs

/-- the frames that run, for a call -/
theorem Inv.stack (I : Inv X pins σ H s) : s.heap.FunFrames X.base X.stack := by
  rcases I.ok.stk with e | ⟨e, hf⟩
  · rw [e]; exact I.funs
  · rw [e]
    obtain ⟨m, hn, _⟩ := I.loc
    refine .cons (by rw [I.ok.kind]; decide) hf hn ?_ I.funs
    exact Heap.get?_none_of_le (Nat.le_trans I.ok.bsz I.ok.above)
theorem Inv.stkSub (I : Inv X pins σ H s) : ∀ b ∈ frs X.stack, b ∈ X.env.locals :: X.fs := fun b hb => by
  rcases I.ok.stk with e | ⟨e, hf⟩
  · rw [e] at hb; exact List.mem_cons_of_mem _ hb
  · rw [e] at hb
    unfold frs at hb
    rw [List.filterMap_cons, hf] at hb
    exact hb
theorem Inv.stkFree (I : Inv X pins σ H s) : ∀ b ∈ frs X.stack, H b = none := fun b hb => by
  rcases List.mem_cons.mp (I.stkSub b hb) with e | hb
  · rw [e]; exact I.free
  · obtain ⟨_, o, ho, _⟩ := I.ok.funs.mem hb
    exact I.base.free b o ho (I.ok.frf b hb) fun z => I.ok.exfs b z hb

/-- THE STEP: the untracked objects but the frame and the records at ch are kept (the callers' frames up to slots), the frame's map is kept, the new abstract heap is held -/
theorem Inv.step {g' : Array GenState} {t' : Nat} {d' : Drawn} {ch : List Addr} (I : Inv X pins σ H s)
    (hch : ∀ b ∈ ch, (b ∈ X.ex ∨ X.s₀.heap.objs.size ≤ b) ∧ b ≠ X.env.locals ∧ (∀ x c, X.env.cells.lookup x = some c → c ≠ b) ∧ ∀ p ∈ X.pn ++ pins, p.1 ≠ b)
    (keep : ∀ b o, b ≠ X.env.locals → b ∉ X.fs → b ∉ ch → s.heap.get? b = some o → H b = none → h'.get? b = some o)
    (slot : ∀ b o, b ≠ X.env.locals → b ∈ X.fs → b ∉ ch → s.heap.get? b = some o → H b = none → ∃ sl, h'.get? b = some { o with slots := sl }) (free : ∀ b o, b ∉ ch → s.heap.get? b = some o → H b = none → H' b = none)
    (there : ∀ b o, b ∉ ch → s.heap.get? b = some o → ∃ o', h'.get? b = some o')
    (tups : ∀ b xs, H b = some (.tup xs) → H' b = some (.tup xs)) (frzs : ∀ b o u, H b = some (.frz o u) → H' b = some (.frz o u)) (tbls : ∀ b ps, H b = some (.tbl ps) → ∃ more, H' b = some (.tbl (ps ++ more)))
    (ns : ∀ m, s.heap.Ns X.env.locals m → h'.Ns X.env.locals m) (hok : HOk X.prog X.w H' h') (hg : AllBare g') :
    Inv X pins σ H' { s with heap := h', gens := g', drawn := d', toks := t' } := by
  have neL : ∀ b o, X.s₀.heap.get? b = some o → b ≠ X.env.locals := fun b o e => Nat.ne_of_lt (Nat.lt_of_lt_of_le (Heap.lt_size e) I.ok.above)
  have neC : ∀ b o, X.s₀.heap.get? b = some o → b ∉ X.ex → b ∉ ch := fun b o e hx hb => by
    rcases (hch b hb).1 with z | z
    · exact hx z
    · exact absurd (Nat.lt_of_lt_of_le (Heap.lt_size e) z) (Nat.lt_irrefl _)
  have cellK : ∀ x c, X.env.cells.lookup x = some c → ∀ v, s.heap.IsCell c v → h'.IsCell c v := fun x c e v ⟨o, ho, hd⟩ => by
    have nch : c ∉ ch := fun z => (hch c z).2.2.1 x c e rfl
    by_cases hc : c ∈ X.fs
    · obtain ⟨sl, q⟩ := slot c o (I.cne x c e) hc nch ho (I.freeC x c e)
      exact ⟨_, q, hd⟩
    · exact ⟨o, keep c o (I.cne x c e) hc nch ho (I.freeC x c e), hd⟩
  refine ⟨I.ok, I.os, hg, ⟨fun b o e n hb hx => ?_, fun b o e n hb hx => ?_, fun b o e n hx => ?_, fun b o e hx => ?_, fun b xs e => tups b xs (I.base.tups b xs e), fun b o xs e => frzs b o xs (I.base.frzs b o xs e), fun b ps e => ?_⟩, ?_, fun x c e => ?_, ?_, fun x c e => ?_, fun p hp => ?_, hok, I.len⟩
  · exact keep b o (neL b o e) hb (neC b o e hx) (I.base.keep b o e n hb hx) (I.base.free b o e n hx)
  · obtain ⟨sl, e1⟩ := I.base.slot b o e n hb hx
    obtain ⟨sl', e2⟩ := slot b _ (neL b o e) hb (neC b o e hx) e1 (I.base.free b o e n hx)
    exact ⟨sl', e2⟩
  · obtain ⟨o', e1⟩ := I.base.there b o e hx
    exact free b o' (neC b o e hx) e1 (I.base.free b o e n hx)
  · obtain ⟨o', e1⟩ := I.base.there b o e hx
    exact there b o' (neC b o e hx) e1
  · obtain ⟨m1, e1⟩ := I.base.tbls b ps e
    obtain ⟨m2, e2⟩ := tbls b _ e1
    exact ⟨m1 ++ m2, by rw [e2, Array.append_assoc]⟩
  · obtain ⟨m, hn, hl⟩ := I.loc
    refine ⟨m, ns m hn, fun i x v e1 e2 e3 => ?_⟩
    obtain ⟨u, r, l⟩ := hl i x v e1 e2 e3
    refine ⟨u, r, ?_⟩
    rcases l with l | ⟨k, c, e, z⟩
    · exact .inl l
    · exact .inr ⟨k, c, e, cellK x c e _ z⟩
  · obtain ⟨v, z⟩ := I.cell x c e
    exact ⟨v, cellK x c e v z⟩
  · obtain ⟨m, ⟨o, _, _, ho, _⟩, _⟩ := I.loc
    exact free _ o (fun z => (hch _ z).2.1 rfl) ho I.free
  · obtain ⟨v, o, ho, hd⟩ := I.cell x c e
    exact free c o (fun z => (hch c z).2.2.1 x c e rfl) ho (I.freeC x c e)
  · obtain ⟨e, n, ne, nf, d⟩ := I.pin p hp
    have nch : p.1 ∉ ch := fun z => (hch p.1 z).2.2.2 p hp rfl
    exact ⟨keep p.1 p.2 ne nf nch e n, free p.1 p.2 nch e n, ne, nf, d⟩
/-- .. where the frame's own object is kept too -/
theorem Inv.un {t' : Nat} (I : Inv X pins σ H s) (u : Un X.fs [] H H' s.heap h') (hok : HOk X.prog X.w H' h') : Inv X pins σ H' { s with heap := h', toks := t' } := by
  obtain ⟨m, ⟨o, es, ep, ho, r⟩, _⟩ := id I.loc
  obtain ⟨sl, hL⟩ := u.any ho I.free (by simp)
  exact I.step (g' := s.gens) (d' := s.drawn) (ch := []) (fun _ z => nomatch z) (fun b o _ hb _ e n => u.keep b o e n hb (by simp)) (fun b o _ hb _ e n => u.slot b o e n hb (by simp)) (fun b o _ e n => u.free b o e n (by simp)) (fun b o _ e => u.there b o e (by simp)) u.tups u.frzs u.tbls (fun m' hm => by
    obtain ⟨o', es', ep', ho', r'⟩ := hm
    rw [ho] at ho'; cases ho'
    exact ⟨_, es', ep', hL, r'⟩) hok I.bare
/-- behind a call (or a comprehension's block): the slots of this frame may have changed too, the records at ch may have turned -/
theorem Inv.call {g' : Array GenState} {t' : Nat} {d' : Drawn} {ch : List Addr} (I : Inv X pins σ H s) (u : Un (frs X.stack) ch H H' s.heap h') (hok : HOk X.prog X.w H' h') (hg : AllBare g')
    (hch : ∀ b ∈ ch, (b ∈ X.ex ∨ X.s₀.heap.objs.size ≤ b) ∧ b ≠ X.env.locals ∧ (∀ x c, X.env.cells.lookup x = some c → c ≠ b) ∧ ∀ p ∈ X.pn ++ pins, p.1 ≠ b) :
    Inv X pins σ H' { s with heap := h', gens := g', drawn := d', toks := t' } := by
  obtain ⟨m, ⟨o, es, ep, ho, r⟩, _⟩ := id I.loc
  obtain ⟨sl, hL⟩ := u.any ho I.free fun z => (hch _ z).2.1 rfl
  exact I.step (ch := ch) hch (fun b o hL hb hc e n => u.keep b o e n (fun z => (List.mem_cons.mp (I.stkSub b z)).elim hL hb) hc) (fun b o _ _ hc e n => u.any e n hc) (fun b o hc e n => u.free b o e n hc) (fun b o hc e => u.there b o e hc) u.tups u.frzs u.tbls (fun m' hm => by
    obtain ⟨o', es', ep', ho', r'⟩ := hm
    rw [ho] at ho'; cases ho'
    exact ⟨_, es', ep', hL, r'⟩) hok hg
/-- an untracked record of ours (an iterator) has turned -/
theorem Inv.turned {t' : Nat} {it : Addr} (I : Inv X pins σ H s) (k : ∀ b o, b ≠ it → s.heap.get? b = some o → h'.get? b = some o) (hn : H it = none) (hL : it ≠ X.env.locals)
    (h1 : it ∈ X.ex ∨ X.s₀.heap.objs.size ≤ it) (h2 : ∀ x c, X.env.cells.lookup x = some c → c ≠ it) (h3 : ∀ p ∈ X.pn ++ pins, p.1 ≠ it) : Inv X pins σ H { s with heap := h', toks := t' } := by
  have nit : ∀ b u, H b = some u → b ≠ it := fun b u e z => by rw [z, hn] at e; cases e
  refine I.step (g' := s.gens) (d' := s.drawn) (ch := [it]) (fun b hb => ?_) (fun b o _ _ hc e _ => k b o (fun z => hc (by simp [z])) e) (fun b o _ _ hc e _ => ⟨o.slots, k b o (fun z => hc (by simp [z])) e⟩) (fun _ _ _ _ n => n)
    (fun b o hc e => ⟨o, k b o (fun z => hc (by simp [z])) e⟩) (fun _ _ e => e) (fun _ _ _ e => e) (fun b ps e => ⟨#[], by rw [e]; simp⟩) (fun m hm => ?_) (fun b u e => ?_) I.bare
  · have e : b = it := by simpa using hb
    subst e
    exact ⟨h1, hL, h2, h3⟩
  · obtain ⟨o, es, ep, ho, r⟩ := hm
    exact ⟨o, es, ep, k _ o (Ne.symm hL) ho, r⟩
  · refine (I.hok b u e).stay (fun c v hc q => k c v ?_ q) (fun _ q => q) fun _ _ q => q
    rcases hc with z | z
    · rw [z]; exact nit b u e
    · exact nit c _ z
theorem Inv.tok (I : Inv X pins σ H s) (t : Nat) : Inv X pins σ H { s with toks := t } := I.un (h' := s.heap) (t' := t) Un.refl I.hok
/-- all objects kept -/
theorem Inv.kept {t' : Nat} (I : Inv X pins σ H s) (k : ∀ b u, s.heap.get? b = some u → h'.get? b = some u) : Inv X pins σ H { s with heap := h', toks := t' } := I.un (Un.kept k) (I.hok.kept k)
/-- a new object laid and tracked -/
theorem Inv.laid {a : Addr} {o : HO} {t' : Nat} (I : Inv X pins σ H s) (k : ∀ b u, s.heap.get? b = some u → h'.get? b = some u) (hp : s.heap.objs.size ≤ a) (new : ObjOk X.prog X.w (upd H a o) h' a o) :
    Inv X pins σ (upd H a o) { s with heap := h', toks := t' } := I.un (Un.laid k hp (I.hok.fresh hp)) (I.hok.laid k hp new)
/-- an object written -/
theorem Inv.write {x e : Addr} {o : HO} {t' : Nat} (I : Inv X pins σ H s) (mu : Mut (H x)) (he : e = x ∨ H e = some (.own x)) (k : ∀ b u, b ≠ e → s.heap.get? b = some u → h'.get? b = some u) (heo : ∃ u, h'.get? e = some u)
    (new : ObjOk X.prog X.w (upd H x o) h' x o) : Inv X pins σ (upd H x o) { s with heap := h', toks := t' } := I.un (Un.write mu he k heo) (I.hok.write mu he k heo new)
/-- forgetting slots, pins -/
theorem Inv.weak {σ' : List (Option V)} (I : Inv X pins σ H s) (hl : σ'.length = σ.length) (w : ∀ (i : Nat) v, σ'[i]? = some (some v) → σ[i]? = some (some v)) : Inv X pins σ' H s :=
  ⟨I.ok, I.os, I.bare, I.base, let ⟨m, hn, hl'⟩ := I.loc; ⟨m, hn, fun i x v e1 e2 e3 => hl' i x v e1 (w i v e2) e3⟩, I.cell, I.free, I.freeC, I.pin, I.hok, hl.trans I.len⟩
theorem Inv.pins_of {pins' : List (Addr × Obj)} (I : Inv X pins σ H s) (h : ∀ p ∈ pins', s.heap.get? p.1 = some p.2 ∧ H p.1 = none ∧ p.1 ≠ X.env.locals ∧ p.1 ∉ X.fs ∧ ∀ v, p.2.data ≠ .cell v) : Inv X pins' σ H s :=
  ⟨I.ok, I.os, I.bare, I.base, I.loc, I.cell, I.free, I.freeC, fun p hp => (List.mem_append.mp hp).elim (fun z => I.pin p (List.mem_append_left _ z)) (h p), I.hok, I.len⟩

theorem nodup_ix {N : List Str} (hN : N.Nodup) {i j : Nat} {x : Str} (a : N[i]? = some x) (b : N[j]? = some x) : i = j := by
  obtain ⟨h1, e1⟩ := List.getElem?_eq_some_iff.mp a
  obtain ⟨h2, e2⟩ := List.getElem?_eq_some_iff.mp b
  exact (List.getElem_inj hN).mp (e1.trans e2.symm)

/-- a name is stored; what changed -/
theorem store_ok2 {M : Model} {A : Around} {E : Value → Shared → Prop} {i : Nat} {x : Str} {v : V} {u : Value} {Q : Unit → Shared → Prop} (I : Inv X pins σ H s) (hN : X.N.Nodup) (hi : X.N[i]? = some x) (hx : Loc X.env.scope x) (r : RelV v u)
    (h : ∀ s', Inv X pins (σ.set i (some v)) H s' → (∃ a, Heap.SameBut a s.heap s'.heap ∧ (a = X.env.locals ∨ X.env.cells.lookup x = some a)) → Q () s') (hf : X.fn x = true ∨ X.env.scope.names.lookup x = some .local := by first | exact .inl rfl | exact .inr rfl | assumption) : wpAny M A (storeName X.env x u) Q E s := by
  obtain ⟨m, hn, hl⟩ := id I.loc
  have hcls : (X.env.scope.kind == .class || (X.env.scope.kind == .module && X.env.locals != X.env.globals)) = false := by rw [I.ok.kind]; rfl
  have hiσ : i < σ.length := by rw [I.len]; exact (List.getElem?_eq_some_iff.mp hi).1
  have cne := I.cne
  have tracked : ∀ {a : Addr} {h' : Heap}, (∃ o, s.heap.get? a = some o ∧ H a = none) → Heap.SameBut a s.heap h' → HOk X.prog X.w H h' := fun {a h'} ha hs b ob e => by
    obtain ⟨_, _, hfree⟩ := ha
    refine (I.hok b ob e).stay (fun c w' hc q => (hs.2 c ?_).trans q) (fun _ q => q) fun _ _ q => q
    rintro rfl
    rcases hc with rfl | hc
    · rw [hfree] at e; cases e
    · rw [hfree] at hc; cases hc
  rcases hx with hk | hk
  · refine wpAny_storeName_local hk hn (fun h' hn' hs => ?_) hcls
    obtain ⟨oL, _, _, hoL, _⟩ := id hn
    refine h _ ⟨I.ok, I.os, I.bare, ⟨fun b o e n hb hx => ?_, fun b o e n hb hx => ?_, I.base.free, fun b o e hx => ?_, I.base.tups, I.base.frzs, I.base.tbls⟩, ⟨_, hn', fun j y v' e1 e2 e3 => ?_⟩, fun y c e => ?_, I.free, I.freeC, fun p hp => ?_, tracked ⟨oL, hoL, I.free⟩ hs, by simpa using I.len⟩ ⟨_, hs, .inl rfl⟩
    · exact (hs.2 b (Nat.ne_of_lt (Nat.lt_of_lt_of_le (Heap.lt_size e) I.ok.above))).trans (I.base.keep b o e n hb hx)
    · obtain ⟨sl, e1⟩ := I.base.slot b o e n hb hx
      exact ⟨sl, (hs.2 b (Nat.ne_of_lt (Nat.lt_of_lt_of_le (Heap.lt_size e) I.ok.above))).trans e1⟩
    · obtain ⟨o', e1⟩ := I.base.there b o e hx
      exact ⟨o', (hs.2 b (Nat.ne_of_lt (Nat.lt_of_lt_of_le (Heap.lt_size e) I.ok.above))).trans e1⟩
    · by_cases hj : j = i
      · subst hj
        rw [hi] at e1; cases e1
        rw [List.getElem?_set_self hiσ] at e2
        cases e2
        exact ⟨u, r, .inl ⟨hk, by simp⟩⟩
      · rw [List.getElem?_set_ne (Ne.symm hj)] at e2
        obtain ⟨u', r', q⟩ := hl j y v' e1 e2 e3
        refine ⟨u', r', ?_⟩
        rcases q with ⟨k, e⟩ | ⟨k, c, e, z⟩
        · refine .inl ⟨k, ?_⟩
          have : y ≠ x := fun e => hj (nodup_ix hN e1 (e ▸ hi))
          simp [this, e]
        · exact .inr ⟨k, c, e, z.sameBut hs (cne y c e)⟩
    · obtain ⟨w', z⟩ := I.cell y c e
      exact ⟨w', z.sameBut hs (cne y c e)⟩
    · obtain ⟨e, n, ne, nf, d⟩ := I.pin p hp
      exact ⟨(hs.2 p.1 ne).trans e, n, ne, nf, d⟩
  · have hfn : X.fn x = true := by
      rcases hf with z | z
      · exact z
      · rw [z] at hk; cases hk
    obtain ⟨c, hc⟩ := I.ok.has x (.inl hk)
    obtain ⟨w', z⟩ := I.cell x c hc
    refine wpAny_storeName_cell I.ok.kind hk hc z (fun h' hc' hs => ?_)
    obtain ⟨oc, hoc, hocd⟩ := id z
    refine h { s with heap := h' } ⟨I.ok, I.os, I.bare, ⟨fun b o e n hb hx => ?_, fun b o e n hb hx => ?_, I.base.free, fun b o e hx => ?_, I.base.tups, I.base.frzs, I.base.tbls⟩, ⟨m, hn.sameBut hs (Ne.symm (cne x c hc)), fun j y v' e1 e2 e3 => ?_⟩, fun y c' e => ?_, I.free, I.freeC, fun p hp => ?_, tracked ⟨oc, hoc, I.freeC x c hc⟩ hs, by simpa using I.len⟩ ⟨c, hs, .inr hc⟩
    · exact (hs.2 b (Nat.ne_of_lt (Nat.lt_of_lt_of_le (Heap.lt_size e) (I.ok.cab x c hfn hc)))).trans (I.base.keep b o e n hb hx)
    · obtain ⟨sl, e1⟩ := I.base.slot b o e n hb hx
      exact ⟨sl, (hs.2 b (Nat.ne_of_lt (Nat.lt_of_lt_of_le (Heap.lt_size e) (I.ok.cab x c hfn hc)))).trans e1⟩
    · obtain ⟨o', e1⟩ := I.base.there b o e hx
      exact ⟨o', (hs.2 b (Nat.ne_of_lt (Nat.lt_of_lt_of_le (Heap.lt_size e) (I.ok.cab x c hfn hc)))).trans e1⟩
    · by_cases hj : j = i
      · subst hj
        rw [hi] at e1; cases e1
        rw [List.getElem?_set_self hiσ] at e2
        cases e2
        exact ⟨u, r, .inr ⟨.inl hk, c, hc, hc'⟩⟩
      · rw [List.getElem?_set_ne (Ne.symm hj)] at e2
        obtain ⟨u', r', q⟩ := hl j y v' e1 e2 e3
        refine ⟨u', r', ?_⟩
        rcases q with q | ⟨k, c', e, z'⟩
        · exact .inl q
        · refine .inr ⟨k, c', e, z'.sameBut hs ?_⟩
          rintro rfl
          exact hj (nodup_ix hN e1 (I.ok.inj _ _ _ e hc ▸ hi))
    · by_cases hcc : c' = c
      · subst hcc; exact ⟨_, hc'⟩
      · obtain ⟨w2, z2⟩ := I.cell y c' e
        exact ⟨w2, z2.sameBut hs hcc⟩
    · obtain ⟨e, n, ne, nf, d⟩ := I.pin p hp
      refine ⟨(hs.2 p.1 ?_).trans e, n, ne, nf, d⟩
      intro q
      rw [q, hoc] at e
      have q' : oc = p.2 := Option.some.inj e
      exact d w' (by rw [← q']; exact hocd)
theorem store_ok {M : Model} {A : Around} {E : Value → Shared → Prop} {i : Nat} {x : Str} {v : V} {u : Value} {Q : Unit → Shared → Prop} (I : Inv X pins σ H s) (hN : X.N.Nodup) (hi : X.N[i]? = some x) (hx : Loc X.env.scope x) (r : RelV v u)
    (h : ∀ s', Inv X pins (σ.set i (some v)) H s' → Q () s') (hf : X.fn x = true ∨ X.env.scope.names.lookup x = some .local := by first | exact .inl rfl | exact .inr rfl | assumption) : wpAny M A (storeName X.env x u) Q E s :=
  store_ok2 I hN hi hx r (fun s' I' _ => h s' I') hf
/-- behind a call or a block, the state as it is -/
theorem Inv.call' {s' : Shared} {ch : List Addr} (I : Inv X pins σ H s) (ho : s'.os = s.os) (u : Un (frs X.stack) ch H H' s.heap s'.heap) (hok : HOk X.prog X.w H' s'.heap) (hg : AllBare s'.gens)
    (hch : ∀ b ∈ ch, (b ∈ X.ex ∨ X.s₀.heap.objs.size ≤ b) ∧ b ≠ X.env.locals ∧ (∀ x c, X.env.cells.lookup x = some c → c ≠ b) ∧ ∀ p ∈ X.pn ++ pins, p.1 ≠ b) : Inv X pins σ H' s' := by
  obtain ⟨h', g', d', t', o'⟩ := s'
  have e : o' = s.os := ho
  subst e
  exact I.call (g' := g') (t' := t') (d' := d') u hok hg hch
end

/-! ### the judgements -/
/-- an exception: its class, its own dict's address (where it has one), the abstract heap behind it -/
abbrev XK := Value → Option Addr → Hp → Prop
abbrev St := List (Option V)
abbrev VK := V → Hp → Prop
/-- an expression's reading; a test's; an argument list's -/
abbrev TE := St → Hp → VK → Prop
abbrev TT := St → Hp → (Bool → Hp → Prop) → Prop
abbrev TA := St → Hp → (List V → Hp → Prop) → Prop
/-- what is wanted behind a statement -/
structure Ends where
  nx : St → Hp → Prop
  rt : VK
  bk : St → Hp → Prop := fun _ _ => False
  ct : St → Hp → Prop := fun _ _ => False
abbrev TS := Ends → St → Hp → Prop

def EP (X : Cx) (pins : List (Addr × Obj)) (σ : St) (Q : VK) (u : Value) (s' : Shared) : Prop := ∃ v H', Inv X pins σ H' s' ∧ RelV v u ∧ Q v H'
def TP (X : Cx) (pins : List (Addr × Obj)) (σ : St) (Q : Bool → Hp → Prop) (b : Bool) (s' : Shared) : Prop := ∃ H', Inv X pins σ H' s' ∧ Q b H'
def AP (X : Cx) (pins : List (Addr × Obj)) (σ : St) (Q : List V → Hp → Prop) (us : List Value) (s' : Shared) : Prop := ∃ vs H', Inv X pins σ H' s' ∧ Vals vs us ∧ Q vs H'
def SP (X : Cx) (pins : List (Addr × Obj)) (D : Ends) (f : Flow) (s' : Shared) : Prop :=
  match f with
  | .next => ∃ σ' H', Inv X pins σ' H' s' ∧ D.nx σ' H'
  | .brk => ∃ σ' H', Inv X pins σ' H' s' ∧ D.bk σ' H'
  | .cont => ∃ σ' H', Inv X pins σ' H' s' ∧ D.ct σ' H'
  | .ret u => ∃ v σ' H', Inv X pins σ' H' s' ∧ RelV v u ∧ D.rt v H'

def PE (X : Cx) (e : Expr) (t : TE) : Prop :=
  ∀ (pins : List (Addr × Obj)) (s : Shared) (σ : St) (H : Hp) (Q : VK), Inv X pins σ H s → t σ H Q → wpAny (model X.prog X.w) X.A (eval e X.env) (EP X pins σ Q) X.xe s
def PT (X : Cx) (e : Expr) (t : TT) : Prop :=
  ∀ (pins : List (Addr × Obj)) (s : Shared) (σ : St) (H : Hp) (Q : Bool → Hp → Prop), Inv X pins σ H s → t σ H Q → wpAny (model X.prog X.w) X.A (isTrue e X.env (eval e X.env)) (TP X pins σ Q) X.xe s
/-- a test whatever its 'whole' is (and, or) -/
def PW (X : Cx) (e : Expr) (t : TT) : Prop :=
  ∀ (whole : Sem Value) (pins : List (Addr × Obj)) (s : Shared) (σ : St) (H : Hp) (Q : Bool → Hp → Prop), Inv X pins σ H s → t σ H Q → wpAny (model X.prog X.w) X.A (isTrue e X.env whole) (TP X pins σ Q) X.xe s
theorem PW.pt {X : Cx} {e : Expr} {t : TT} (h : PW X e t) : PT X e t := h _
/-- an argument list (no star), from the left -/
def PA (X : Cx) (es : List Expr) (t : TA) : Prop :=
  ∀ (pos : Pos) (pins : List (Addr × Obj)) (s : Shared) (σ : St) (H : Hp) (Q : List V → Hp → Prop), Inv X pins σ H s → t σ H Q → wpAny (model X.prog X.w) X.A (spliced (backTo pos (starEach es X.env))) (AP X pins σ Q) X.xe s
def PS (X : Cx) (st : Stmt) (t : TS) : Prop :=
  ∀ (pins : List (Addr × Obj)) (s : Shared) (σ : St) (H : Hp) (D : Ends), Inv X pins σ H s → t D σ H → wpAny (model X.prog X.w) X.A (exec st X.env) (SP X pins D) X.xe s
def PSs (X : Cx) (st : List Stmt) (t : TS) : Prop :=
  ∀ (pins : List (Addr × Obj)) (s : Shared) (σ : St) (H : Hp) (D : Ends), Inv X pins σ H s → t D σ H → wpAny (model X.prog X.w) X.A (execs st X.env) (SP X pins D) X.xe s
/-- weaken the end -/
theorem thn {α : Type} {t : Sem α} {Q Q' : α → Shared → Prop} {M : Model} {A : Around} {E : Value → Shared → Prop} {s : Shared} (h : wpAny M A t Q E s) (hQ : ∀ a s, Q a s → Q' a s) : wpAny M A t Q' E s := wpAny_mono h hQ fun _ _ x => x
end L2

namespace L2
open PySem PySem.Spec PyProof.Rows
section
variable {X : Cx}

/-! ### names and constants -/
def tVar (i : Nat) : TE := fun σ H Q => ∃ v, σ[i]? = some (some v) ∧ Q v H
def tC (v : V) : TE := fun _ H Q => Q v H
theorem pe_var {i : Nat} {x : Str} {pos : Pos} (hN : X.N[i]? = some x) (hv : Vis X.env.scope x) (hd : (x == ("__debug__" : Str)) = false := by decide) (hcd : (x == ("__classdict__" : Str)) = false := by decide) : PE X (.Name x pos) (tVar i) := by
  intro pins s σ H Q I h
  obtain ⟨v, e, h⟩ := h
  obtain ⟨m, hn, hl⟩ := I.loc
  obtain ⟨u, r, l⟩ := hl i x v hN e hv
  have fin : EP X pins σ Q u s := ⟨v, H, I, r, h⟩
  rcases l with ⟨hk, hm⟩ | ⟨hk, c, hc, hcell⟩
  · exact wpAny_Name (wpAny_loadName_local I.ok.kind hk hn hm fin) hd
  · rcases hk with hk | hk
    · exact wpAny_Name (wpAny_loadName_cell I.ok.kind hk hc hcell fin) hd
    · exact wpAny_Name (wpAny_loadName_free I.ok.kind hk hc hcell fin hcd) hd
theorem pe_int {i j pos} : PE X (.Constant (.int i) j pos) (tC (.int i)) := fun _ _ _ H _ I h => wpAny_Constant_int ⟨.int i, H, I.tok _, ⟨_, rfl⟩, h⟩
theorem pe_bl {b j pos} : PE X (.Constant (.bool b) j pos) (tC (.bl b)) := fun _ _ _ H _ I h => Constant_bool ⟨.bl b, H, I, rfl, h⟩
theorem pe_non {j pos} : PE X (.Constant .none j pos) (tC .non) := fun _ _ _ H _ I h => Constant_none ⟨.non, H, I, rfl, h⟩
theorem pe_str {x j pos} : PE X (.Constant (.str x) j pos) (tC (.str x)) := fun _ _ _ H _ I h => Calls.Constant_str ⟨.str x, H, I.tok _, ⟨_, rfl⟩, h⟩

/-- a global name of the def -/
def Gl (X : Cx) (x : Str) : Prop := X.env.kindOf x = some .globalImplicit
theorem ld_glob {E : Value → Shared → Prop} {pins : List (Addr × Obj)} {s : Shared} {σ : St} {H : Hp} {x : Str} {u : Value} {pos : Pos} {Q : Value → Shared → Prop} (I : Inv X pins σ H s) (hg : Gl X x) (hm : X.mg x = some u) (h : Q u s)
    (hd : (x == ("__debug__" : Str)) = false := by decide) : wpAny (model X.prog X.w) X.A (eval (.Name x pos) X.env) Q E s :=
  Calls.Name_function_global I.ok.kind hg (Calls.loadGlobal_global (by rw [I.ok.glob]; exact I.mod.glob.keeps I.bk) hm h) hd
theorem ld_blt {E : Value → Shared → Prop} {pins : List (Addr × Obj)} {s : Shared} {σ : St} {H : Hp} {x : Str} {u : Value} {pos : Pos} {Q : Value → Shared → Prop} (I : Inv X pins σ H s) (hg : Gl X x) (hm : X.mg x = none) (hv : bootBuiltins x = some u) (h : Q u s)
    (hn : x ≠ "__name__" := by decide) (hd : (x == ("__debug__" : Str)) = false := by decide) : wpAny (model X.prog X.w) X.A (eval (.Name x pos) X.env) Q E s := by
  obtain ⟨mb, h1, h2⟩ := I.mod.blt
  exact Calls.Name_function_global I.ok.kind hg (Calls.loadGlobal_builtin (by rw [I.ok.glob]; exact I.mod.glob.keeps I.bk) hm (by rw [I.ok.blt]; exact h1.keeps I.bk) ((h2 x hn).trans hv) h) hd
/-- a module's constant, a class, a function, as a value -/
theorem pe_glob {x : Str} {v : V} {u : Value} {pos : Pos} (hg : Gl X x) (hm : X.mg x = some u) (r : RelV v u) (hd : (x == ("__debug__" : Str)) = false := by decide) : PE X (.Name x pos) (tC v) :=
  fun _ _ _ H _ I h => ld_glob I hg hm ⟨v, H, I, r, h⟩ hd
theorem pe_bltn {x : Str} {v : V} {u : Value} {pos : Pos} (hg : Gl X x) (hm : X.mg x = none) (hv : bootBuiltins x = some u) (r : RelV v u) (hn : x ≠ "__name__" := by decide) (hd : (x == ("__debug__" : Str)) = false := by decide) : PE X (.Name x pos) (tC v) :=
  fun _ _ _ H _ I h => ld_blt I hg hm hv ⟨v, H, I, r, h⟩ hn hd

/-! ### arithmetic -/
variable {a b : Expr} {ta tb : TE} {pos : Pos}
/-! ### comparisons -/
/-- a comparison as a value, as a test -/
def tB (t : TE) : TT := fun σ H Q => t σ H fun x H1 => ∃ c, x = .bl c ∧ Q c H1
/-- an expression whose value is a bool, as a test -/
theorem pt_val {e : Expr} {t : TE} (h : PE X e t) (he : ∀ whole, isTrue e X.env whole = (do let v ← whole; standAt e.pos; holding [v] (truthy v)) := by intro _; rfl) : PT X e (tB t) := by
  intro pins s σ H Q I hw
  refine isTrue_plain (thn (h pins s σ H _ I hw) fun v s1 ⟨x, H1, I1, r1, q1⟩ => ?_) (he _)
  obtain ⟨d, rfl, q⟩ := q1
  cases r1
  exact wpAny_truthy_bool ⟨H1, I1, q⟩

/-! ### and, or, not -/
variable {tA tB' : TT} {rest : List Expr}
def tOr (t u : TT) : TT := fun σ H Q => t σ H fun c H1 => if c = true then Q true H1 else u σ H1 Q
def tNot (t : TT) : TT := fun σ H Q => t σ H fun c H1 => Q (!c) H1
theorem pw_or1 (ha : PT X a tA) : PW X (.BoolOp .Or [a] pos) tA := by
  intro wh pins s σ H Q I h
  refine isTrue_or (thn (ha pins s σ H Q I h) fun c s1 e => ?_)
  cases c with
  | false => exact isTrue_or_nil e
  | true => exact e
theorem pw_or (ha : PT X a tA) (hb : PW X (.BoolOp .Or (b :: rest) pos) tB') : PW X (.BoolOp .Or (a :: b :: rest) pos) (tOr tA tB') := by
  intro wh pins s σ H Q I h
  refine isTrue_or (thn (ha pins s σ H _ I h) fun c s1 ⟨H1, I1, q1⟩ => ?_)
  cases c with
  | true => exact ⟨H1, I1, q1⟩
  | false => exact hb wh pins s1 σ H1 Q I1 q1
theorem pt_not (ha : PT X a tA) : PT X (.UnaryOp .Not a pos) (tNot tA) := by
  intro pins s σ H Q I h
  exact isTrue_not (ha pins s σ H (fun c H1 => Q (!c) H1) I h)
/-- .. as values (bools) -/
def tAndV (ta tb : TE) : TE := fun σ H Q => ta σ H fun x H1 => ∃ c, x = .bl c ∧ if c = true then tb σ H1 Q else Q (.bl false) H1
def tOrV (ta tb : TE) : TE := fun σ H Q => ta σ H fun x H1 => ∃ c, x = .bl c ∧ if c = true then Q (.bl true) H1 else tb σ H1 Q
theorem pe_one {op} {t : TE} (h : PE X a t) : PE X (.BoolOp op [a] pos) t := fun pins s σ H Q I hw => BoolOp_one (h pins s σ H Q I hw)
theorem pe_and (ha : PE X a ta) (hb : PE X (.BoolOp .And (b :: rest) pos) tb) : PE X (.BoolOp .And (a :: b :: rest) pos) (tAndV ta tb) := by
  intro pins s σ H Q I h
  refine BoolOp_and (thn (ha pins s σ H _ I h) fun v s1 ⟨x, H1, I1, r1, q1⟩ => ?_)
  obtain ⟨c, rfl, q1⟩ := q1
  cases r1
  refine wpAny_truthy_bool ?_
  cases c with
  | true => exact hb pins s1 σ H1 Q I1 q1
  | false => exact ⟨.bl false, H1, I1, rfl, q1⟩
theorem pe_or (ha : PE X a ta) (hb : PE X (.BoolOp .Or (b :: rest) pos) tb) : PE X (.BoolOp .Or (a :: b :: rest) pos) (tOrV ta tb) := by
  intro pins s σ H Q I h
  refine BoolOp_or (thn (ha pins s σ H _ I h) fun v s1 ⟨x, H1, I1, r1, q1⟩ => ?_)
  obtain ⟨c, rfl, q1⟩ := q1
  cases r1
  refine wpAny_truthy_bool ?_
  cases c with
  | false => exact hb pins s1 σ H1 Q I1 q1
  | true => exact ⟨.bl true, H1, I1, rfl, q1⟩
end
end L2

namespace L2
open PySem PySem.Spec PyProof.Rows

/-! ### a list, a tuple that is read: tracked, frozen, or an object of the module -/
def SqL (K : PySem.W.Frag) (H : Hp) (a : Addr) (xs : List V) : Prop :=
  Rd H a (.lst xs) ∨
    ∃ (o : Obj) (its : Array Value) (n : Nat), K.lookup a = some o ∧ o.cls = .type "list" ∧ o.dict = none ∧ o.data = .seq its n ∧ its.size ≤ sizeLine ∧ Vals xs its.toList
def SqT (K : PySem.W.Frag) (H : Hp) (a : Addr) (xs : List V) : Prop :=
  Rd H a (.tup xs) ∨
    ∃ (o : Obj) (its : Array Value) (n : Nat), K.lookup a = some o ∧ o.cls = .type "tuple" ∧ o.data = .seq its n ∧ its.size ≤ sizeLine ∧ Vals xs its.toList
def absV : Value → Option V
  | .none => some .non
  | .bool b => some (.bl b)
  | .int i _ => some (.int i)
  | .str x _ => some (.str x)
  | .bytes b _ => some (.byt b)
  | .float b _ => some (.flt b)
  | .ref a => some (.ref a)
  | .type n => some (.ty n)
  | _ => none
theorem RelV.abs {x : V} {u : Value} (r : RelV x u) : absV u = some x := by
  cases x with
  | non => cases r; rfl
  | bl _ => cases r; rfl
  | int _ => obtain ⟨t, rfl⟩ := r; rfl
  | str _ => obtain ⟨t, rfl⟩ := r; rfl
  | byt _ => obtain ⟨t, rfl⟩ := r; rfl
  | flt _ => obtain ⟨t, rfl⟩ := r; rfl
  | ref _ => cases r; rfl
  | ty _ => cases r; rfl
theorem RelV.inj {x y : V} {u : Value} (r : RelV x u) (q : RelV y u) : x = y := Option.some.inj (r.abs.symm.trans q.abs)
theorem Vals.inj : ∀ {xs ys : List V} {us : List Value}, Vals xs us → Vals ys us → xs = ys
  | _, _, _, .nil, .nil => rfl
  | _, _, _, .cons r t, .cons r' t' => by rw [r.inj r', Vals.inj t t']
section
variable {X : Cx} {pins : List (Addr × Obj)} {σ : St} {H : Hp} {s : Shared} {a : Addr} {xs ys : List V}
theorem SqL.of {K : PySem.W.Frag} (h : H a = some (.lst xs)) : SqL K H a xs := .inl (.inl h)
theorem SqT.of {K : PySem.W.Frag} (h : H a = some (.tup xs)) : SqT K H a xs := .inl (.inl h)
theorem Inv.list (I : Inv X pins σ H s) (h : SqL X.K H a xs) : ∃ its : List Value, Vals xs its ∧ PlainL s.heap a its.toArray ∧ xs.length ≤ sizeLine := by
  rcases h with h | ⟨o, its, n, hk, hc, hd, hs, hz, r⟩
  · obtain ⟨z, its, n, r, e⟩ := h.ok I.hok
    exact ⟨its, r, ⟨_, n, e, rfl, rfl, rfl⟩, z⟩
  · refine ⟨its.toList, r, ⟨o, n, I.kIn a o hk, hc, hd, by simpa using hs⟩, ?_⟩
    have e := r.length
    simp only [Array.length_toList] at e
    omega
theorem Inv.tuple (I : Inv X pins σ H s) (h : SqT X.K H a xs) : ∃ its : List Value, Vals xs its ∧ IsTup s.heap a its.toArray ∧ xs.length ≤ sizeLine := by
  rcases h with h | ⟨o, its, n, hk, hc, hs, hz, r⟩
  · obtain ⟨z, its, r, p⟩ := h.ok I.hok
    exact ⟨its, r, p, z⟩
  · refine ⟨its.toList, r, ⟨o, I.kIn a o hk, hc, n, by simpa using hs⟩, ?_⟩
    have e := r.length
    simp only [Array.length_toList] at e
    omega
theorem Inv.list_inj (I : Inv X pins σ H s) (h : SqL X.K H a xs) (h' : SqL X.K H a ys) : xs = ys := by
  obtain ⟨its, r, ⟨o, n, e, _, _, d⟩, _⟩ := I.list h
  obtain ⟨its', r', ⟨o', n', e', _, _, d'⟩, _⟩ := I.list h'
  rw [e] at e'; cases e'
  rw [d] at d'
  injection d' with d1 _
  have : its = its' := by simpa using congrArg Array.toList d1
  subst this
  exact r.inj r'
theorem Inv.tuple_inj (I : Inv X pins σ H s) (h : SqT X.K H a xs) (h' : SqT X.K H a ys) : xs = ys := by
  obtain ⟨its, r, ⟨o, e, _, n, d⟩, _⟩ := I.tuple h
  obtain ⟨its', r', ⟨o', e', _, n', d'⟩, _⟩ := I.tuple h'
  rw [e] at e'; cases e'
  rw [d] at d'
  injection d' with d1 _
  have : its = its' := by simpa using congrArg Array.toList d1
  subst this
  exact r.inj r'
end

/-! ### another wish about exceptions -/
abbrev Cx.wish (X : Cx) (E : Value → Shared → Prop) : Cx := { X with xe := E }
/-- no exception leaves -/
abbrev Cx.nox (X : Cx) : Cx := X.wish fun _ _ => False
theorem Cx.Ok.wish {X : Cx} (ok : X.Ok) (E : Value → Shared → Prop) : (X.wish E).Ok :=
  ⟨ok.mod, ok.kind, ok.glob, ok.blt, ok.above, ok.inj, ok.has, ok.cab, ok.hd, ok.frames, ok.stk, ok.exf, ok.bs, ok.bsz, ok.noex, ok.exfs, ok.funs, ok.frf⟩
theorem Cx.Ok.unwish {X : Cx} {E : Value → Shared → Prop} (ok : (X.wish E).Ok) : X.Ok :=
  ⟨ok.mod, ok.kind, ok.glob, ok.blt, ok.above, ok.inj, ok.has, ok.cab, ok.hd, ok.frames, ok.stk, ok.exf, ok.bs, ok.bsz, ok.noex, ok.exfs, ok.funs, ok.frf⟩
section
variable {X : Cx} {pins : List (Addr × Obj)} {σ : St} {H : Hp} {s : Shared} {E : Value → Shared → Prop}
theorem Inv.wish (I : Inv X pins σ H s) (E : Value → Shared → Prop) : Inv (X.wish E) pins σ H s := ⟨I.ok.wish E, I.os, I.bare, I.base, I.loc, I.cell, I.free, I.freeC, I.pin, I.hok, I.len⟩
theorem Inv.unwish (I : Inv (X.wish E) pins σ H s) : Inv X pins σ H s := ⟨I.ok.unwish, I.os, I.bare, I.base, I.loc, I.cell, I.free, I.freeC, I.pin, I.hok, I.len⟩
theorem SP.unwish {D : Ends} {f : Flow} {s' : Shared} (h : SP (X.wish E) pins D f s') : SP X pins D f s' := by
  cases f with
  | next => obtain ⟨σ', H', I, q⟩ := h; exact ⟨σ', H', I.unwish, q⟩
  | brk => obtain ⟨σ', H', I, q⟩ := h; exact ⟨σ', H', I.unwish, q⟩
  | cont => obtain ⟨σ', H', I, q⟩ := h; exact ⟨σ', H', I.unwish, q⟩
  | ret u => obtain ⟨v, σ', H', I, r, q⟩ := h; exact ⟨v, σ', H', I.unwish, r, q⟩
theorem PE.nox {e : Expr} {t : TE} (h : PE X.nox e t) : PE X e t := fun pins s σ H Q I hw =>
  wpAny_mono (h pins s σ H Q (I.wish _) hw) (fun _ _ ⟨v, H', I', r, q⟩ => ⟨v, H', I'.unwish, r, q⟩) fun _ _ z => False.elim z
theorem PT.nox {e : Expr} {t : TT} (h : PT X.nox e t) : PT X e t := fun pins s σ H Q I hw =>
  wpAny_mono (h pins s σ H Q (I.wish _) hw) (fun _ _ ⟨H', I', q⟩ => ⟨H', I'.unwish, q⟩) fun _ _ z => False.elim z
theorem PSs.nox {st : List Stmt} {t : TS} (h : PSs X.nox st t) : PSs X st t := fun pins s σ H D I hw =>
  wpAny_mono (h pins s σ H D (I.wish _) hw) (fun _ _ q => q.unwish) fun _ _ z => False.elim z
end

/-! ### blocks and small statements -/
section
variable {X : Cx} {st : Stmt} {rest : List Stmt} {t u : TS} {e : Expr} {te : TE} {pos : Pos}
def tNext : TS := fun D σ H => D.nx σ H
def tSeq (t u : TS) : TS := fun D σ H => t { D with nx := u D } σ H
theorem pss_nil : PSs X [] tNext := fun _ _ σ H _ I h => wpAny_execs_nil ⟨σ, H, I, h⟩
theorem pss_cons (h1 : PS X st t) (h2 : PSs X rest u) : PSs X (st :: rest) (tSeq t u) := by
  intro pins s σ H D I h
  refine wpAny_execs_cons (thn (h1 pins s σ H { D with nx := u D } I h) fun f s1 q => ?_)
  cases f with
  | next =>
    obtain ⟨σ', H', I', q⟩ := q
    exact h2 pins s1 σ' H' D I' q
  | ret v => exact q
  | brk => exact q
  | cont => exact q
theorem pss_one (h1 : PS X st t) : PSs X [st] t := by
  intro pins s σ H D I h
  refine wpAny_execs_cons (thn (h1 pins s σ H D I h) fun f s1 q => ?_)
  cases f with
  | next => exact wpAny_execs_nil q
  | ret v => exact q
  | brk => exact q
  | cont => exact q
/-- in a def's body nothing is shown -/
theorem Inv.quiet {pins : List (Addr × Obj)} {σ : St} {H : Hp} {s : Shared} (I : Inv X pins σ H s) : interactive X.env = false := by simp [interactive, I.ok.kind]
/-- an expression whose value is dropped -/
def tDrop (te : TE) : TS := fun D σ H => te σ H fun _ H1 => D.nx σ H1
theorem ps_expr (he : PE X e te) (hs : swapsWith e none pos.line X.env = pure false := by rfl) : PS X (.Expr e pos) (tDrop te) := by
  intro pins s σ H D I h
  exact wpAny_Expr_any (thn (he pins s σ H _ I h) fun v s1 ⟨x, H1, I1, r1, q1⟩ => ⟨σ, H1, I1, q1⟩) I.quiet hs
def tRet (te : TE) : TS := fun D σ H => te σ H D.rt
theorem ps_ret (he : PE X e te) : PS X (.Return (some e) pos) (tRet te) := by
  intro pins s σ H D I h
  exact wpAny_Return_some (thn (he pins s σ H _ I h) fun v s1 ⟨x, H1, I1, r1, q1⟩ => ⟨x, σ, H1, I1, r1, q1⟩)
def tIfS (c : TT) (t u : TS) : TS := fun D σ H => c σ H fun b H1 => if b = true then t D σ H1 else u D σ H1
theorem ps_if {c : Expr} {a b : List Stmt} {tc : TT} (hc : PT X c tc) (ha : PSs X a t) (hb : PSs X b u) : PS X (.If c a b pos) (tIfS tc t u) := by
  intro pins s σ H D I h
  refine wpAny_If (thn (hc pins s σ H _ I h) fun d s1 ⟨H1, I1, q1⟩ => ?_)
  cases d with
  | true => exact ha pins s1 σ H1 D I1 q1
  | false => exact hb pins s1 σ H1 D I1 q1
/-- code that the proof never comes to -/
def tNever : TS := fun _ _ _ => False
theorem ps_never : PS X st tNever := fun _ _ _ _ _ _ h => h.elim
theorem pss_never {sts : List Stmt} : PSs X sts tNever := fun _ _ _ _ _ _ h => h.elim
end

/-! ### targets -/
abbrev TG := V → St → Hp → (St → Hp → Prop) → Prop
abbrev TGs := List V → St → Hp → (St → Hp → Prop) → Prop
def PG (X : Cx) (target : Expr) (t : TG) : Prop :=
  ∀ (pins : List (Addr × Obj)) (s : Shared) (σ : St) (H : Hp) (v : V) (u : Value) (Q : St → Hp → Prop), Inv X pins σ H s → RelV v u → t v σ H Q →
    wpAny (model X.prog X.w) X.A (assign target X.env u) (fun _ s' => ∃ σ' H', Inv X pins σ' H' s' ∧ Q σ' H') X.xe s
/-- several targets, one after another -/
def PGs (X : Cx) (ts : List Expr) (t : TGs) : Prop :=
  ∀ (pins : List (Addr × Obj)) (s : Shared) (σ : St) (H : Hp) (vs : List V) (us : List Value) (Q : St → Hp → Prop), Inv X pins σ H s → Vals vs us → t vs σ H Q →
    wpAny (model X.prog X.w) X.A (assignInOrder ((assignEach ts X.env).map (·.2)) us) (fun _ s' => ∃ σ' H', Inv X pins σ' H' s' ∧ Q σ' H') X.xe s
/-- o[i] = v, by values -/
abbrev TSet := V → V → V → Hp → (Hp → Prop) → Prop
def PSet (X : Cx) (t : TSet) : Prop :=
  ∀ (pins : List (Addr × Obj)) (s : Shared) (σ : St) (H : Hp) (o i v : V) (ov iv u : Value) (Q : Hp → Prop), Inv X pins σ H s → RelV o ov → RelV i iv → RelV v u → t o i v H Q →
    wpAny (model X.prog X.w) X.A (setItem ov iv u) (fun _ s' => ∃ H', Inv X pins σ H' s' ∧ Q H') X.xe s
section
variable {X : Cx} {pos : Pos}
def gName (i : Nat) : TG := fun v σ H Q => Q (σ.set i (some v)) H
theorem pg_name {i : Nat} {x : Str} (hN : X.N.Nodup) (hi : X.N[i]? = some x) (hx : Loc X.env.scope x) (hf : X.fn x = true ∨ X.env.scope.names.lookup x = some .local := by first | exact .inl rfl | exact .inr rfl | assumption) : PG X (.Name x pos) (gName i) := by
  intro pins s σ H v u Q I r h
  exact wpAny_assign_Name (store_ok I hN hi hx r (fun s' I' => ⟨_, H, I', h⟩) hf)
def gNil : TGs := fun vs σ H Q => vs = [] ∧ Q σ H
def gCons (t : TG) (u : TGs) : TGs := fun vs σ H Q => ∃ v r, vs = v :: r ∧ t v σ H fun σ' H' => u r σ' H' Q
theorem pgs_nil : PGs X [] gNil := by
  intro pins s σ H vs us Q I r h
  obtain ⟨e, h⟩ := h
  subst e
  cases r
  exact assignInOrder_nil ⟨σ, H, I, h⟩
theorem pgs_cons {e : Expr} {es : List Expr} {t : TG} {u : TGs} (h1 : PG X e t) (h2 : PGs X es u)
    (hs : (assignEach (e :: es) X.env).map (·.2) = assign e X.env :: (assignEach es X.env).map (·.2) := by rfl) : PGs X (e :: es) (gCons t u) := by
  intro pins s σ H vs us Q I r h
  obtain ⟨v, vr, e1, h⟩ := h
  subst e1
  cases r with
  | cons r rr =>
    rw [hs]
    refine assignInOrder_cons (thn (h1 pins s σ H _ _ _ I r h) fun _ s1 ⟨σ1, H1, I1, q1⟩ => ?_)
    exact h2 pins s1 σ1 H1 _ _ Q I1 rr q1
/-- (a, b, ..) = a tuple of that length -/
def gTup (K : PySem.W.Frag) (n : Nat) (t : TGs) : TG := fun v σ H Q => ∃ a xs, v = .ref a ∧ SqT K H a xs ∧ xs.length = n ∧ t xs σ H Q
theorem pg_tup {es : List Expr} {k : Nat} {t : TGs} {n : Nat} (hc : X.calm = true) (h : PGs X es t)
    (hn : (assignEach es X.env).length = n := by rfl) (hst : (assignEach es X.env).findIdx? (·.1) = none := by rfl) : PG X (.Tuple es k pos) (gTup X.K n t) := by
  intro pins s σ H v u Q I r hw
  obtain ⟨a, xs, e1, hq, hl, hw⟩ := hw
  subst e1
  cases r
  obtain ⟨its, rv, ht, hz⟩ := I.tuple hq
  refine assign_Tuple_tuple (I.ok.hd hc) ht (by simp [hn, ← hl, rv.length]) hst fun h' hx => ?_
  have I1 : Inv X pins σ H { s with heap := h' } := I.kept (t' := s.toks) fun b o e => hx b o (Nat.ne_of_lt (Heap.lt_size e)) e
  exact h pins _ σ H xs _ Q I1 (by simpa using rv) hw
/-- o[i] = .. -/
def gSub (to ti : TE) (t : TSet) : TG := fun v σ H Q => to σ H fun o H1 => ti σ H1 fun i H2 => t o i v H2 fun H3 => Q σ H3
theorem pg_sub {o i : Expr} {to ti : TE} {t : TSet} (ho : PE X o to) (hi : PE X i ti) (hs : PSet X t)
    (ha : ∀ v, assign (.Subscript o i pos) X.env v = (do
      let ov ← holding [v] (eval o X.env)
      let iv ← holding [v, ov] (eval i X.env)
      standAt pos
      holding [v, ov, iv] (setItem ov iv v)
      release [v, ov, iv] []) := by intro _; rfl) : PG X (.Subscript o i pos) (gSub to ti t) := by
  intro pins s σ H v u Q I r h
  rw [ha]
  refine wpAny_bind (wpAny_holding (thn (ho pins s σ H _ I h) fun ov s1 ⟨x, H1, I1, r1, q1⟩ => ?_))
  refine wpAny_bind (wpAny_holding (thn (hi pins s1 σ H1 _ I1 q1) fun iv s2 ⟨y, H2, I2, r2, q2⟩ => ?_))
  refine wpAny_bind (wpAny_standAt (wpAny_bind (wpAny_holding (thn (hs pins s2 σ H2 x y v ov iv u _ I2 r1 r2 r q2) fun _ s3 ⟨H3, I3, q3⟩ => ?_))))
  exact wpAny_release ⟨σ, H3, I3, q3⟩
/-- target = value -/
def tAsg (te : TE) (g : TG) : TS := fun D σ H => te σ H fun x H1 => g x σ H1 D.nx
theorem ps_asg {tg e : Expr} {te : TE} {g : TG} (he : PE X e te) (hg : PG X tg g) (hs : swapsWithSole [tg] e pos.line X.env = pure false := by rfl) (hw : swappedStores [tg] e X.env = pure none := by rfl)
    (h1 : (assignEach [tg] X.env).map (·.2) = [assign tg X.env] := by rfl) : PS X (.Assign [tg] e pos) (tAsg te g) := by
  intro pins s σ H D I h
  refine wpAny_Assign_stores (thn (he pins s σ H _ I h) fun v s1 ⟨x, H1, I1, r1, q1⟩ => ?_) hs hw
  rw [h1]
  exact thn (hg pins s1 σ H1 x v _ I1 r1 q1) fun _ s2 q => q
/-- name = value -/
theorem ps_set {i : Nat} {x : Str} {e : Expr} {te : TE} {pos' : Pos} (hN : X.N.Nodup) (hi : X.N[i]? = some x) (hx : Loc X.env.scope x) (he : PE X e te) (hs : swapsWith e (some (.Name x pos')) pos.line X.env = pure false := by rfl) (hf : X.fn x = true ∨ X.env.scope.names.lookup x = some .local := by first | exact .inl rfl | exact .inr rfl | assumption) :
    PS X (.Assign [.Name x pos'] e pos) (tAsg te (gName i)) := by
  intro pins s σ H D I h
  refine wpAny_Assign_Name (thn (he pins s σ H _ I h) fun v s1 ⟨y, H1, I1, r1, q1⟩ => ?_) hs
  exact store_ok I1 hN hi hx r1 (fun s2 I2 => ⟨_, H1, I2, q1⟩) hf
end

/-! ### while -/
section
variable {X : Cx} {pos : Pos}
/-- the invariant W with its measure -/
def tWhile (c : TT) (tb : TS) : TS := fun D σ H => ∃ W : Nat → St → Hp → Prop, (∃ m, W m σ H) ∧ ∀ m σ H, W m σ H →
  c σ H fun b H1 => if b = true then ∃ N : St → Hp → Prop, (∀ σ' H', N σ' H' → ∃ m', m' < m ∧ W m' σ' H') ∧ tb { D with nx := N, ct := N, bk := D.nx } σ H1 else D.nx σ H1
theorem ps_while {c : Expr} {body : List Stmt} {tc : TT} {tb : TS} (hp : PassesOwn (model X.prog X.w) X.A X.env X.xe) (hc : PT X c tc) (hb : PSs X body tb) : PS X (.While c body [] pos) (tWhile tc tb) := by
  intro pins s σ H D I h
  obtain ⟨W, ⟨m0, w0⟩, turn⟩ := h
  refine wpAny_While (codeAny_whileLoop (fun n s' => ∃ σ' H', Inv X pins σ' H' s' ∧ W n σ' H') ?_ m0 ⟨σ, H, I, w0⟩)
  rintro n s1 ⟨σ1, H1, I1, w1⟩
  refine wpAny_passesOwn hp (thn (hc pins s1 σ1 H1 _ I1 (turn n σ1 H1 w1)) fun b s2 ⟨H2, I2, q2⟩ => ?_)
  cases b with
  | true =>
    obtain ⟨N, hN, q2⟩ := q2
    rw [if_pos rfl]
    refine wpAny_passesOwn hp (thn (hb pins s2 σ1 H2 _ I2 q2) fun f s3 q3 => ?_)
    cases f with
    | next =>
      obtain ⟨σ3, H3, I3, n3⟩ := q3
      obtain ⟨m', hm, w3⟩ := hN σ3 H3 n3
      exact ⟨m', hm, σ3, H3, I3, w3⟩
    | cont =>
      obtain ⟨σ3, H3, I3, n3⟩ := q3
      obtain ⟨m', hm, w3⟩ := hN σ3 H3 n3
      exact ⟨m', hm, σ3, H3, I3, w3⟩
    | brk => exact q3
    | ret v => exact q3
  | false =>
    rw [if_neg Bool.false_ne_true]
    exact wpAny_execs_nil ⟨σ1, H2, I2, q2⟩
end

/-! ### what a loop or a comprehension walks -/
/-- at turn i: it yields x (the heap may grow), or it stops -/
structure It where
  go : Nat → Hp → Prop
  yld : Nat → Hp → V → Hp → Prop
  stop : Nat → Hp → Prop
/-- the iterator's own objects may turn: they are not the frame's, not pinned, younger than the entry (or a comprehension's own) -/
def FpOk (X : Cx) (pins : List (Addr × Obj)) (H : Hp) (b : Addr) : Prop :=
  H b = none ∧ b ≠ X.env.locals ∧ b ∉ X.fs ∧ (b ∈ X.ex ∨ X.s₀.heap.objs.size ≤ b) ∧ (∀ x c, X.env.cells.lookup x = some c → c ≠ b) ∧ ∀ p ∈ X.pn ++ pins, p.1 ≠ b
theorem Inv.fpOk {X : Cx} {pins : List (Addr × Obj)} {σ : St} {H H' : Hp} {s : Shared} {b : Addr} (I : Inv X pins σ H s) (hb : s.heap.objs.size ≤ b) (hn : H' b = none) : FpOk X pins H' b := by
  refine ⟨hn, Nat.ne_of_gt (Nat.lt_of_lt_of_le I.lt hb), I.nofs hb, .inr (Nat.le_trans I.sz hb), fun x c e z => ?_, fun p hp z => ?_⟩
  · obtain ⟨v, q⟩ := I.cell x c e
    exact absurd (Nat.lt_of_lt_of_le q.lt (by rw [z]; exact hb)) (Nat.lt_irrefl _)
  · exact absurd (Nat.lt_of_lt_of_le (Heap.lt_size (I.pin p hp).1) (by rw [z]; exact hb)) (Nat.lt_irrefl _)
structure Turn (P : Program) (w : World) (K : PySem.W.Frag) (tg : Expr) (J : It) (fp : List Addr) (it : Addr) (tn : Nat → Heap → Prop) : Prop where
  mem : it ∈ fp
  obj : ∀ i h, tn i h → ∀ b ∈ fp, ∃ o, h.get? b = some o ∧ ∀ v, o.data ≠ .cell v
  keep : ∀ i h h', tn i h → (∀ b ∈ fp, ∀ o, h.get? b = some o → h'.get? b = some o) → tn i h'
  item : ∀ (X : Cx), X.prog = P → X.w = w → X.K = K → X.calm = true → ∀ (i : Nat) (pins : List (Addr × Obj)) (s : Shared) (σ : St) (H : Hp) (E : Value → Shared → Prop), Inv X pins σ H s → (∀ b ∈ fp, FpOk X pins H b) → tn i s.heap → J.go i H →
    wpAny (model P w) X.A (pyNext (.ref it)) (fun r s1 => ∃ u, r = some u ∧
      wpAny (model P w) X.A (letOwnedTupleGo tg (.ref it) u) (fun _ s2 => ∃ x H', Inv X pins σ H' s2 ∧ RelV x u ∧ J.yld i H x H' ∧ tn (i + 1) s2.heap ∧ ∀ b ∈ fp, H' b = none) E s1) E s
  done : ∀ (X : Cx), X.prog = P → X.w = w → X.K = K → X.calm = true → ∀ (i : Nat) (pins : List (Addr × Obj)) (s : Shared) (σ : St) (H : Hp) (E : Value → Shared → Prop), Inv X pins σ H s → (∀ b ∈ fp, FpOk X pins H b) → tn i s.heap → J.stop i H →
    wpAny (model P w) X.A (pyNext (.ref it)) (fun r s1 => r = none ∧ Inv X pins σ H s1) E s
  self : ∀ (A : Around) (i : Nat) (s : Shared) (Q : Value → Shared → Prop) (E : Value → Shared → Prop), tn i s.heap → Q (.ref it) s → wpAny (model P w) A (pyIter (.ref it)) Q E s
abbrev TI := St → Hp → (It → Hp → Prop) → Prop
/-- an iterator has come -/
def PIE (X : Cx) (pins : List (Addr × Obj)) (σ : St) (tg : Expr) (R : It → Hp → Prop) (itv : Value) (s2 : Shared) : Prop :=
  ∃ (it : Addr) (fp : List Addr) (tn : Nat → Heap → Prop) (J : It) (H' : Hp), itv = .ref it ∧ Inv X pins σ H' s2 ∧ Turn X.prog X.w X.K tg J fp it tn ∧ tn 0 s2.heap ∧ (∀ b ∈ fp, FpOk X pins H' b) ∧ R J H'
def PI (X : Cx) (tg iter : Expr) (wi : TI) : Prop :=
  ∀ (pins : List (Addr × Obj)) (s : Shared) (σ : St) (H : Hp) (R : It → Hp → Prop), Inv X pins σ H s → wi σ H R →
    wpAny (model X.prog X.w) X.A (eval iter X.env) (fun v s1 => wpAny (model X.prog X.w) X.A (pyIter v) (PIE X pins σ tg R) X.xe s1) X.xe s

/-- the step ahead of the store is nothing for an iterator that keeps no tuple -/
theorem go_of {M : Model} {A : Around} {E : Value → Shared → Prop} {s : Shared} {tg : Expr} {it : Addr} {u : Value} {o : Obj} {n : String} {vs : Array Value} {Q : Unit → Shared → Prop} (ho : s.heap.get? it = some o) (hc : o.cls = .type n) (hd : o.data = .fields vs)
    (hn : ["enumerate", "zip", "dict_itemiterator", "dict_reverseitemiterator", "odict_iterator", "itertools.zip_longest", "itertools.pairwise"].contains n = false) (hQ : Q () s) : wpAny M A (letOwnedTupleGo tg (.ref it) u) Q E s := by
  unfold letOwnedTupleGo
  cases tg <;> first
    | exact wpAny_pure hQ
    | (cases u <;> first
        | exact wpAny_pure hQ
        | (refine wpAny_bind (wpAny_load ho ?_)
           rw [hc, hd]
           show wpAny M A (if (["enumerate", "zip", "dict_itemiterator", "dict_reverseitemiterator", "odict_iterator", "itertools.zip_longest", "itertools.pairwise"].contains n && vs[0]? == some (rawInt _)) = true then _ else _) Q E s
           rw [if_neg (by intro h; rw [hn, Bool.false_and] at h; cases h)]
           exact wpAny_pure hQ))

/-- the list at a, as it stands at each turn (a loop may append to it) -/
def Itl (K : PySem.W.Frag) (a : Addr) : It :=
  ⟨fun i H => ∃ xs x, SqL K H a xs ∧ xs[i]? = some x, fun i H x H' => H' = H ∧ ∀ xs, SqL K H a xs → xs[i]? = some x, fun i H => ∃ xs, SqL K H a xs ∧ xs.length ≤ i⟩
def Itt (K : PySem.W.Frag) (a : Addr) : It :=
  ⟨fun i H => ∃ xs x, SqT K H a xs ∧ xs[i]? = some x, fun i H x H' => H' = H ∧ ∀ xs, SqT K H a xs → xs[i]? = some x, fun i H => ∃ xs, SqT K H a xs ∧ xs.length ≤ i⟩
/-- lo, lo + 1, .. (n of them) -/
def Itr (lo : Int) (n : Nat) : It := ⟨fun i _ => i < n, fun i H x H' => H' = H ∧ x = .int (lo + i), fun i _ => n ≤ i⟩
theorem turn_list {P : Program} {w : World} {K : PySem.W.Frag} {tg : Expr} (a it : Addr) : Turn P w K tg (Itl K a) [it] it (fun i h => h.IsListIter it a i) where
  mem := by simp
  obj := fun i h st b hb => by
    have e : b = it := by simpa using hb
    subst e
    obtain ⟨o, e, c, d⟩ := st
    exact ⟨o, e, fun v z => by rw [d] at z; cases z⟩
  keep := fun i h h' st k => st.at fun o e => k it (by simp) o e
  item := by
    intro X hP hw hK hc i pins s σ H E I hf st hg
    subst hP hw hK
    obtain ⟨xs, x, hq, hx⟩ := hg
    obtain ⟨its, rv, p, hz⟩ := I.list hq
    obtain ⟨u, hu, ru⟩ := rv.get hx
    obtain ⟨f0, f1, f2, f3, f4, f5⟩ := hf it (by simp)
    refine wpAny_pyNext_list_item st p.isList (x := u) (by simpa using hu) fun h' st' sb => ?_
    have I1 : Inv X pins σ H { s with heap := h' } := I.turned (t' := s.toks) (fun b o hb e => (sb.2 b hb).trans e) f0 f1 f3 f4 f5
    obtain ⟨o, e, c, d⟩ := id st'
    exact ⟨u, rfl, go_of (s := { s with heap := h' }) e c d (by decide) ⟨x, H, I1, ru, ⟨rfl, fun ys hy => by rw [I.list_inj hy hq]; exact hx⟩, st', fun b hb => (hf b hb).1⟩⟩
  done := by
    intro X hP hw hK hc i pins s σ H E I hf st hg
    subst hP hw hK
    obtain ⟨xs, hq, hx⟩ := hg
    obtain ⟨its, rv, p, hz⟩ := I.list hq
    obtain ⟨f0, f1, f2, f3, f4, f5⟩ := hf it (by simp)
    have hl := rv.length
    exact wpAny_pyNext_list_end (I.ok.hd hc) st p.isList (by simp; omega) fun h' eb => ⟨rfl, I.turned (t' := s.toks) (fun b o hb e => eb b o hb e) f0 f1 f3 f4 f5⟩
  self := fun _ _ _ _ _ st h => wpAny_pyIter_listiter st h
theorem turn_tuple {P : Program} {w : World} {K : PySem.W.Frag} {tg : Expr} (a it : Addr) : Turn P w K tg (Itt K a) [it] it (fun i h => h.IsTupleIter it a i) where
  mem := by simp
  obj := fun i h st b hb => by
    have e : b = it := by simpa using hb
    subst e
    obtain ⟨o, e, c, d⟩ := st
    exact ⟨o, e, fun v z => by rw [d] at z; cases z⟩
  keep := fun i h h' st k => st.at fun o e => k it (by simp) o e
  item := by
    intro X hP hw hK hc i pins s σ H E I hf st hg
    subst hP hw hK
    obtain ⟨xs, x, hq, hx⟩ := hg
    obtain ⟨its, rv, p, hz⟩ := I.tuple hq
    obtain ⟨u, hu, ru⟩ := rv.get hx
    obtain ⟨f0, f1, f2, f3, f4, f5⟩ := hf it (by simp)
    refine wpAny_pyNext_tuple_item st (show s.heap.IsTuple a its.toArray from p) (x := u) (by simpa using hu) fun h' st' sb => ?_
    have I1 : Inv X pins σ H { s with heap := h' } := I.turned (t' := s.toks) (fun b o hb e => (sb.2 b hb).trans e) f0 f1 f3 f4 f5
    obtain ⟨o, e, c, d⟩ := id st'
    exact ⟨u, rfl, go_of (s := { s with heap := h' }) e c d (by decide) ⟨x, H, I1, ru, ⟨rfl, fun ys hy => by rw [I.tuple_inj hy hq]; exact hx⟩, st', fun b hb => (hf b hb).1⟩⟩
  done := by
    intro X hP hw hK hc i pins s σ H E I hf st hg
    subst hP hw hK
    obtain ⟨xs, hq, hx⟩ := hg
    obtain ⟨its, rv, p, hz⟩ := I.tuple hq
    obtain ⟨f0, f1, f2, f3, f4, f5⟩ := hf it (by simp)
    have hl := rv.length
    exact wpAny_pyNext_tuple_end (I.ok.hd hc) st (show s.heap.IsTuple a its.toArray from p) (by simp; omega) fun h' eb => ⟨rfl, I.turned (t' := s.toks) (fun b o hb e => eb b o hb e) f0 f1 f3 f4 f5⟩
  self := fun _ _ _ _ _ st h => wpAny_pyIter_tupleiter st h
theorem turn_range {P : Program} {w : World} {K : PySem.W.Frag} {tg : Expr} (it : Addr) (lo : Int) (n : Nat) : Turn P w K tg (Itr lo n) [it] it (fun i h => IsRangeIter h it (lo + (i : Nat) * 1) ((n : Int) - (i : Nat)) 1) where
  mem := by simp
  obj := fun i h st b hb => by
    have e : b = it := by simpa using hb
    subst e
    exact ⟨_, st, fun v z => by
      have z' : Data.fields _ = Data.cell v := z
      cases z'⟩
  keep := fun i h h' st k => k it (by simp) _ st
  item := by
    intro X hP hw hK hc i pins s σ H E I hf st hg
    subst hP hw hK
    obtain ⟨f0, f1, f2, f3, f4, f5⟩ := hf it (by simp)
    have W := Walks.range (prog := X.prog) (w := X.w) (I.ok.hd hc) it lo 1 n
    refine W.item i s _ _ hg st fun v h' tk hv st' kk => ?_
    obtain ⟨t, rfl⟩ := hv
    have I1 : Inv X pins σ H { s with heap := h', toks := tk } := I.turned (fun b o hb e => kk b o (by simpa using hb) e) f0 f1 f3 f4 f5
    refine ⟨_, rfl, go_of (s := { s with heap := h', toks := tk }) (n := "range_iterator") st' rfl rfl (by decide) ⟨.int (lo + i), H, I1, ⟨t, ?_⟩, ⟨rfl, rfl⟩, st', fun b hb => (hf b hb).1⟩⟩
    rw [Int.mul_one]
  done := by
    intro X hP hw hK hc i pins s σ H E I hf st hg
    subst hP hw hK
    obtain ⟨f0, f1, f2, f3, f4, f5⟩ := hf it (by simp)
    exact wpAny_pyNext_range_end (I.ok.hd hc) st (by have : n ≤ i := hg; omega) fun h' eb => ⟨rfl, I.turned (t' := s.toks) (fun b o hb e => eb b o hb e) f0 f1 f3 f4 f5⟩
  self := fun _ _ _ _ _ st h => wpAny_pyIter_rangeiter st h
end L2

namespace L2
open PySem PySem.Spec PyProof.Rows
section
variable {X : Cx} {tg : Expr}
def iList (K : PySem.W.Frag) (tl : TE) : TI := fun σ H R => tl σ H fun x H1 => ∃ a, x = .ref a ∧ (∃ xs, SqL K H1 a xs) ∧ R (Itl K a) H1
def iTup (K : PySem.W.Frag) (tl : TE) : TI := fun σ H R => tl σ H fun x H1 => ∃ a, x = .ref a ∧ (∃ xs, SqT K H1 a xs) ∧ R (Itt K a) H1
theorem pi_list {l : Expr} {tl : TE} (hl : PE X l tl) : PI X tg l (iList X.K tl) := by
  intro pins s σ H R I h
  refine thn (hl pins s σ H _ I h) fun v s1 ⟨x, H1, I1, r1, q1⟩ => ?_
  obtain ⟨a, e, ⟨xs, hq⟩, q⟩ := q1
  subst e
  cases r1
  obtain ⟨its, rv, p, hz⟩ := I1.list hq
  refine wpAny_pyIter_list p.isList ?_
  refine ⟨s1.heap.objs.size, [s1.heap.objs.size], _, _, H1, rfl, I1.kept (t' := s1.toks) fun b o e => Heap.get?_push_of_some _ e, turn_list a _, ⟨_, Heap.get?_push_size _ rfl, rfl, rfl⟩, fun b hb => ?_, q⟩
  have e : b = s1.heap.objs.size := by simpa using hb
  subst e
  exact I1.fpOk (Nat.le_refl _) (I1.hok.fresh (Nat.le_refl _))
theorem pi_tup {l : Expr} {tl : TE} (hl : PE X l tl) : PI X tg l (iTup X.K tl) := by
  intro pins s σ H R I h
  refine thn (hl pins s σ H _ I h) fun v s1 ⟨x, H1, I1, r1, q1⟩ => ?_
  obtain ⟨a, e, ⟨xs, hq⟩, q⟩ := q1
  subst e
  cases r1
  obtain ⟨its, rv, p, hz⟩ := I1.tuple hq
  refine wpAny_pyIter_tuple (show s1.heap.IsTuple a its.toArray from p) ?_
  refine ⟨s1.heap.objs.size, [s1.heap.objs.size], _, _, H1, rfl, I1.kept (t' := s1.toks) fun b o e => Heap.get?_push_of_some _ e, turn_tuple a _, ⟨_, Heap.get?_push_size _ rfl, rfl, rfl⟩, fun b hb => ?_, q⟩
  have e : b = s1.heap.objs.size := by simpa using hb
  subst e
  exact I1.fpOk (Nat.le_refl _) (I1.hok.fresh (Nat.le_refl _))
/-- a range object just made, walked -/
theorem range_it {pins : List (Addr × Obj)} {σ : St} {H : Hp} {s : Shared} {R : It → Hp → Prop} {E : Value → Shared → Prop} {lo hi : Int} {t u v : Tok} {tk : Nat} (I : Inv X pins σ H s) (h1 : -(2 ^ 62) ≤ lo) (h2 : lo < 2 ^ 62) (h3 : -(2 ^ 62) ≤ hi) (h4 : hi < 2 ^ 62)
    (q : R (Itr lo (hi - lo).toNat) H) : wpAny (model X.prog X.w) X.A (pyIter (.ref s.heap.objs.size)) (PIE X pins σ tg R) E { s with heap := s.heap.push { cls := .type "range", data := .fields #[.int lo t, .int hi u, .int 1 v] }, toks := tk } := by
  refine wpAny_pyIter_range (IsRange.new ..) (small_one h1 h2 h3 h4) ?_
  have I1 : Inv X pins σ H { s with heap := s.heap.push { cls := .type "range", data := .fields #[.int lo t, .int hi u, .int 1 v] }, toks := tk } := I.kept fun b o e => Heap.get?_push_of_some _ e
  refine ⟨(s.heap.push { cls := .type "range", data := .fields #[.int lo t, .int hi u, .int 1 v] }).objs.size, [(s.heap.push { cls := .type "range", data := .fields #[.int lo t, .int hi u, .int 1 v] }).objs.size], _, _, H, rfl,
    I1.kept (t' := tk) fun b o e => Heap.get?_push_of_some _ e, turn_range _ lo (hi - lo).toNat, ?_, fun b hb => ?_, q⟩
  · have e1 : lo + ((0 : Nat) : Int) * 1 = lo := by simp
    have e2 : (((hi - lo).toNat : Nat) : Int) - ((0 : Nat) : Int) = Builtin.Range.rangeSize lo hi 1 := by rw [rangeSize_one]; split <;> omega
    show IsRangeIter _ _ (lo + ((0 : Nat) : Int) * 1) ((((hi - lo).toNat : Nat) : Int) - ((0 : Nat) : Int)) 1
    rw [e1, e2]
    exact Heap.get?_push_size _ rfl
  · have e : b = (s.heap.push { cls := .type "range", data := .fields #[.int lo t, .int hi u, .int 1 v] }).objs.size := by simpa using hb
    subst e
    exact I1.fpOk (Nat.le_refl _) (I1.hok.fresh (Nat.le_refl _))
def iRng2 (ta : TA) : TI := fun σ H R => ta σ H fun vs H1 => ∃ i j : Int, vs = [.int i, .int j] ∧ (-(2 ^ 62) ≤ i ∧ i < 2 ^ 62 ∧ -(2 ^ 62) ≤ j ∧ j < 2 ^ 62) ∧ R (Itr i (j - i).toNat) H1
theorem pi_range2 {a b : Expr} {ta : TA} {p pos : Pos} (hg : Gl X "range") (hm : X.mg "range" = none) (ha : PA X [a, b] ta) (hs : starEach [a, b] X.env = [(false, eval a X.env), (false, eval b X.env)] := by rfl) (hs2 : starEach [b] X.env = [(false, eval b X.env)] := by rfl) :
    PI X tg (.Call (.Name "range" p) [a, b] [] pos) (iRng2 ta) := by
  intro pins s σ H R I h
  refine Call_ (ld_blt I hg hm boot_range (PyProof.Rows.callWith_type1 (thn (ha pos pins s σ H _ I h) fun us s1 ⟨vs, H1, I1, r1, q1⟩ => ?_) (by rw [hs, hs2]) (by rw [hs2]; rfl)))
  obtain ⟨i, j, e, ⟨q1, q2, q3, q4⟩, q⟩ := q1
  subst e
  cases r1 with
  | cons r rr =>
    cases rr with
    | cons r' rr =>
      cases rr
      obtain ⟨t, rfl⟩ := r
      obtain ⟨t', rfl⟩ := r'
      exact call_range_2 (range_it I1 q1 q2 q3 q4 q)

/-! ### for -/
/-- W: the invariant by the turn and a measure; N: what the body is to reach -/
def tFor (wi : TI) (g : TG) (tb : TS) : TS := fun D σ H => wi σ H fun J H1 => ∃ W : Nat → Nat → St → Hp → Prop, (∃ m, W 0 m σ H1) ∧ ∀ i m σ H, W i m σ H →
  (J.stop i H ∧ D.nx σ H) ∨ (J.go i H ∧ ∃ N : St → Hp → Prop, (∀ σ' H', N σ' H' → ∃ m', m' < m ∧ W (i + 1) m' σ' H') ∧ ∀ x H', J.yld i H x H' → g x σ H' fun σ2 H2 => tb { D with nx := N, ct := N, bk := D.nx } σ2 H2)
/-- the records at fp as they stand -/
def pinsAt (fp : List Addr) (h : Heap) : List (Addr × Obj) := fp.filterMap fun b => (h.get? b).map fun o => (b, o)
theorem mem_pinsAt {fp : List Addr} {h : Heap} {b : Addr} {o : Obj} (hb : b ∈ fp) (e : h.get? b = some o) : (b, o) ∈ pinsAt fp h := List.mem_filterMap.mpr ⟨b, hb, by rw [e]; rfl⟩
theorem of_pinsAt {fp : List Addr} {h : Heap} {p : Addr × Obj} (hp : p ∈ pinsAt fp h) : p.1 ∈ fp ∧ h.get? p.1 = some p.2 := by
  obtain ⟨b, hb, e⟩ := List.mem_filterMap.mp hp
  cases q : h.get? b with
  | none => rw [q] at e; cases e
  | some o =>
    rw [q] at e
    have e' : (b, o) = p := Option.some.inj e
    subst e'
    exact ⟨hb, q⟩
theorem Inv.pinned {pins : List (Addr × Obj)} {σ : St} {H : Hp} {s : Shared} {fp : List Addr} (I : Inv X pins σ H s) (hf : ∀ b ∈ fp, FpOk X pins H b) (ho : ∀ b ∈ fp, ∃ o, s.heap.get? b = some o ∧ ∀ v, o.data ≠ .cell v) : Inv X (pins ++ pinsAt fp s.heap) σ H s :=
  I.pins_of fun p hp => (List.mem_append.mp hp).elim (fun z => I.pin p (List.mem_append_right _ z)) fun z => by
    obtain ⟨hb, e⟩ := of_pinsAt z
    obtain ⟨f0, f1, f2, _⟩ := hf p.1 hb
    obtain ⟨o, e', d⟩ := ho p.1 hb
    rw [e] at e'; cases e'
    exact ⟨e, f0, f1, f2, d⟩
theorem Inv.unpinned {pins pl : List (Addr × Obj)} {σ : St} {H : Hp} {s : Shared} (I : Inv X (pins ++ pl) σ H s) : Inv X pins σ H s := I.pins_of fun p hp => I.pin p (List.mem_append_right _ (List.mem_append_left _ hp))
theorem ps_for {iter : Expr} {body : List Stmt} {wi : TI} {g : TG} {tb : TS} {pos : Pos} (hp : PassesOwn (model X.prog X.w) X.A X.env X.xe) (hc : X.calm = true) (hi : PI X tg iter wi) (hg : PG X tg g) (hb : PSs X body tb)
    (hs : ∀ x, foldedSetIterable iter X.env x = pure x := by intro _; rfl) : PS X (.For tg iter body [] pos) (tFor wi g tb) := by
  intro pins s σ H D I h
  refine wpAny_For (thn (hi pins s σ H _ I h) fun v s1 h1 => thn h1 fun itv s2 h2 => ?_) hs
  obtain ⟨it, fp, tn, J, H2, e, I2, T, st2, f2, W, ⟨m0, w0⟩, turn⟩ := h2
  subst e
  -- what stays true of the iterator's objects through the loop
  have stat : ∀ {H' : Hp}, (∀ b ∈ fp, H' b = none) → ∀ b ∈ fp, FpOk X pins H' b := fun hn b hb => ⟨hn b hb, (f2 b hb).2⟩
  refine codeAny_forLoop_any (fun n s' => ∃ i σ' H', Inv X pins σ' H' s' ∧ tn i s'.heap ∧ (∀ b ∈ fp, H' b = none) ∧ W i n σ' H') ?_ m0 ⟨0, σ, H2, I2, st2, fun b hb => (f2 b hb).1, w0⟩
  rintro n s3 ⟨i, σ3, H3, I3, st3, fr3, w3⟩
  rcases turn i n σ3 H3 w3 with ⟨stop, qn⟩ | ⟨go, N, hN, step⟩
  · refine wpAny_passesOwn hp (thn (T.done X rfl rfl rfl hc i pins s3 σ3 H3 X.xe I3 (stat fr3) st3 stop) fun r s4 ⟨hr, I4⟩ => ?_)
    subst hr
    exact wpAny_execs_nil ⟨σ3, H3, I4, qn⟩
  · refine wpAny_passesOwn hp (thn (T.item X rfl rfl rfl hc i pins s3 σ3 H3 X.xe I3 (stat fr3) st3 go) fun r s4 ⟨u, hr, h4⟩ => ?_)
    subst hr
    refine wpAny_passesOwn hp (thn h4 fun _ s5 ⟨x, H5, I5, r5, y5, st5, fr5⟩ => ?_)
    have I5' := I5.pinned (stat fr5) (T.obj _ _ st5)
    refine wpAny_passesOwn hp (thn (hg _ s5 σ3 H5 x u _ I5' r5 (step x H5 y5)) fun _ s6 ⟨σ6, H6, I6, q6⟩ => ?_)
    refine wpAny_passesOwn hp (thn (hb _ s6 σ6 H6 _ I6 q6) fun f s7 q7 => ?_)
    have again : ∀ {σ7 : St} {H7 : Hp}, Inv X (pins ++ pinsAt fp s5.heap) σ7 H7 s7 → N σ7 H7 → ∃ m, m < n ∧ ∃ i σ' H', Inv X pins σ' H' s7 ∧ tn i s7.heap ∧ (∀ b ∈ fp, H' b = none) ∧ W i m σ' H' := fun {σ7 H7} I7 n7 => by
      obtain ⟨m', hm, w7⟩ := hN σ7 H7 n7
      refine ⟨m', hm, i + 1, σ7, H7, I7.unpinned, T.keep _ _ _ st5 fun b hb o e => (I7.pin (b, o) (List.mem_append_right _ (List.mem_append_right _ (mem_pinsAt hb e)))).1, fun b hb => ?_, w7⟩
      obtain ⟨o, e, d⟩ := T.obj _ _ st5 b hb
      exact (I7.pin (b, o) (List.mem_append_right _ (List.mem_append_right _ (mem_pinsAt hb e)))).2.1
    cases f with
    | next => obtain ⟨σ7, H7, I7, n7⟩ := q7; exact again I7 n7
    | cont => obtain ⟨σ7, H7, I7, n7⟩ := q7; exact again I7 n7
    | brk => obtain ⟨σ7, H7, I7, q7⟩ := q7; exact ⟨σ7, H7, I7.unpinned, q7⟩
    | ret v => obtain ⟨x7, σ7, H7, I7, r7, q7⟩ := q7; exact ⟨x7, σ7, H7, I7.unpinned, r7, q7⟩
end

/-! ### the forms one uses -/
/-- over a list that the body leaves as it is -/
theorem for_list {K : PySem.W.Frag} {a : Addr} {xs : List V} {g : TG} {tb : TS} {D : Ends} {σ : St} {H : Hp} (Pv : Nat → St → Hp → Prop) (h0 : Pv 0 σ H) (hl : ∀ i σ H, i ≤ xs.length → Pv i σ H → SqL K H a xs)
    (hs : ∀ i x σ H, xs[i]? = some x → Pv i σ H → g x σ H fun σ2 H2 => tb { D with nx := Pv (i + 1), ct := Pv (i + 1), bk := D.nx } σ2 H2) (hd : ∀ σ H, Pv xs.length σ H → D.nx σ H) :
    ∃ W : Nat → Nat → St → Hp → Prop, (∃ m, W 0 m σ H) ∧ ∀ i m σ H, W i m σ H →
      ((Itl K a).stop i H ∧ D.nx σ H) ∨ ((Itl K a).go i H ∧ ∃ N : St → Hp → Prop, (∀ σ' H', N σ' H' → ∃ m', m' < m ∧ W (i + 1) m' σ' H') ∧ ∀ x H', (Itl K a).yld i H x H' → g x σ H' fun σ2 H2 => tb { D with nx := N, ct := N, bk := D.nx } σ2 H2) := by
  refine ⟨fun i m σ H => m = xs.length - i ∧ i ≤ xs.length ∧ Pv i σ H, ⟨xs.length, by simp, Nat.zero_le _, h0⟩, ?_⟩
  rintro i m σ H ⟨rfl, hi, p⟩
  have q := hl i σ H hi p
  by_cases hlt : i < xs.length
  · refine .inr ⟨⟨xs, xs[i], q, by simp [hlt]⟩, Pv (i + 1), fun σ' H' p' => ⟨xs.length - (i + 1), by omega, rfl, hlt, p'⟩, fun x H' y => ?_⟩
    obtain ⟨e, y⟩ := y
    subst e
    exact hs i x σ _ (y xs q) p
  · have e : i = xs.length := by omega
    subst e
    exact .inl ⟨⟨xs, q, Nat.le_refl _⟩, hd σ H p⟩
theorem for_tup {K : PySem.W.Frag} {a : Addr} {xs : List V} {g : TG} {tb : TS} {D : Ends} {σ : St} {H : Hp} (Pv : Nat → St → Hp → Prop) (h0 : Pv 0 σ H) (hl : ∀ i σ H, i ≤ xs.length → Pv i σ H → SqT K H a xs)
    (hs : ∀ i x σ H, xs[i]? = some x → Pv i σ H → g x σ H fun σ2 H2 => tb { D with nx := Pv (i + 1), ct := Pv (i + 1), bk := D.nx } σ2 H2) (hd : ∀ σ H, Pv xs.length σ H → D.nx σ H) :
    ∃ W : Nat → Nat → St → Hp → Prop, (∃ m, W 0 m σ H) ∧ ∀ i m σ H, W i m σ H →
      ((Itt K a).stop i H ∧ D.nx σ H) ∨ ((Itt K a).go i H ∧ ∃ N : St → Hp → Prop, (∀ σ' H', N σ' H' → ∃ m', m' < m ∧ W (i + 1) m' σ' H') ∧ ∀ x H', (Itt K a).yld i H x H' → g x σ H' fun σ2 H2 => tb { D with nx := N, ct := N, bk := D.nx } σ2 H2) := by
  refine ⟨fun i m σ H => m = xs.length - i ∧ i ≤ xs.length ∧ Pv i σ H, ⟨xs.length, by simp, Nat.zero_le _, h0⟩, ?_⟩
  rintro i m σ H ⟨rfl, hi, p⟩
  have q := hl i σ H hi p
  by_cases hlt : i < xs.length
  · refine .inr ⟨⟨xs, xs[i], q, by simp [hlt]⟩, Pv (i + 1), fun σ' H' p' => ⟨xs.length - (i + 1), by omega, rfl, hlt, p'⟩, fun x H' y => ?_⟩
    obtain ⟨e, y⟩ := y
    subst e
    exact hs i x σ _ (y xs q) p
  · have e : i = xs.length := by omega
    subst e
    exact .inl ⟨⟨xs, q, Nat.le_refl _⟩, hd σ H p⟩
theorem for_range {lo : Int} {n : Nat} {g : TG} {tb : TS} {D : Ends} {σ : St} {H : Hp} (Pv : Nat → St → Hp → Prop) (h0 : Pv 0 σ H)
    (hs : ∀ i σ H, i < n → Pv i σ H → g (.int (lo + i)) σ H fun σ2 H2 => tb { D with nx := Pv (i + 1), ct := Pv (i + 1), bk := D.nx } σ2 H2) (hd : ∀ σ H, Pv n σ H → D.nx σ H) :
    ∃ W : Nat → Nat → St → Hp → Prop, (∃ m, W 0 m σ H) ∧ ∀ i m σ H, W i m σ H →
      ((Itr lo n).stop i H ∧ D.nx σ H) ∨ ((Itr lo n).go i H ∧ ∃ N : St → Hp → Prop, (∀ σ' H', N σ' H' → ∃ m', m' < m ∧ W (i + 1) m' σ' H') ∧ ∀ x H', (Itr lo n).yld i H x H' → g x σ H' fun σ2 H2 => tb { D with nx := N, ct := N, bk := D.nx } σ2 H2) := by
  refine ⟨fun i m σ H => m = n - i ∧ i ≤ n ∧ Pv i σ H, ⟨n, by simp, Nat.zero_le _, h0⟩, ?_⟩
  rintro i m σ H ⟨rfl, hi, p⟩
  by_cases hlt : i < n
  · refine .inr ⟨hlt, Pv (i + 1), fun σ' H' p' => ⟨n - (i + 1), by omega, rfl, hlt, p'⟩, fun x H' y => ?_⟩
    obtain ⟨e, y⟩ := y
    subst e y
    exact hs i σ _ hlt p
  · have e : i = n := by omega
    subst e
    exact .inl ⟨Nat.le_refl _, hd σ H p⟩
end L2

namespace L2
open PySem PySem.Spec PyProof.Rows

abbrev R2 := V → V → Hp → VK → Prop
/-- a two-place operation on values: f is binaryOp op, inplaceOp op or compareOp op -/
def OpR (X : Cx) (f : Value → Value → Sem Value) (r : R2) : Prop :=
  ∀ (pins : List (Addr × Obj)) (s : Shared) (σ : St) (H : Hp) (x y : V) (v u : Value) (Q : VK), Inv X pins σ H s → RelV x v → RelV y u → r x y H Q →
    wpAny (model X.prog X.w) X.A (f v u) (EP X pins σ Q) X.xe s
/-- a one-place operation -/
def UnR (X : Cx) (f : Value → Sem Value) (r : V → Hp → VK → Prop) : Prop :=
  ∀ (pins : List (Addr × Obj)) (s : Shared) (σ : St) (H : Hp) (x : V) (v : Value) (Q : VK), Inv X pins σ H s → RelV x v → r x H Q →
    wpAny (model X.prog X.w) X.A (f v) (EP X pins σ Q) X.xe s
/-- a call of a value that is known (a builtin, a type) with values -/
def CallR (X : Cx) (f : Value) (r : List V → Hp → VK → Prop) : Prop :=
  ∀ (pins : List (Addr × Obj)) (s : Shared) (σ : St) (H : Hp) (xs : List V) (us : List Value) (Q : VK), Inv X pins σ H s → Vals xs us → r xs H Q →
    wpAny (model X.prog X.w) X.A (call f us) (EP X pins σ Q) X.xe s
def tOp (r : R2) (ta tb : TE) : TE := fun σ H Q => ta σ H fun x H1 => tb σ H1 fun y H2 => r x y H2 Q
def tUn (r : V → Hp → VK → Prop) (ta : TE) : TE := fun σ H Q => ta σ H fun x H1 => r x H1 Q
/-- ints in, under C, and a value out -/
def rI (C : Int → Int → Prop) (g : Int → Int → V) : R2 := fun x y H Q => ∃ i j, x = .int i ∧ y = .int j ∧ C i j ∧ Q (g i j) H
def rI0 (g : Int → Int → V) : R2 := fun x y H Q => ∃ i j, x = .int i ∧ y = .int j ∧ Q (g i j) H
def rU (g : Int → V) : V → Hp → VK → Prop := fun x H Q => ∃ i, x = .int i ∧ Q (g i) H

section
variable {X : Cx} {a b c : Expr} {ta tb tc : TE} {pos : Pos}

theorem binT (ha : PE X a ta) (hb : PE X b tb) {pins : List (Addr × Obj)} {s : Shared} {σ : St} {H : Hp} {R : V → V → Hp → Prop} (I : Inv X pins σ H s)
    (h : ta σ H fun x H1 => tb σ H1 fun y H2 => R x y H2) {Q : Value → Shared → Prop} {f : Value → Value → Sem Value}
    (hf : ∀ v u s2 x y H2, Inv X pins σ H2 s2 → RelV x v → RelV y u → R x y H2 → wpAny (model X.prog X.w) X.A (f v u) Q X.xe s2) :
    wpAny (model X.prog X.w) X.A (eval a X.env) (fun v s₁ => wpAny (model X.prog X.w) X.A (eval b X.env) (fun u s₂ => wpAny (model X.prog X.w) X.A (f v u) Q X.xe s₂) X.xe s₁) X.xe s := by
  refine thn (ha pins s σ H _ I h) fun v s1 ⟨x, H1, I1, r1, q1⟩ => ?_
  refine thn (hb pins s1 σ H1 _ I1 q1) fun u s2 ⟨y, H2, I2, r2, q2⟩ => ?_
  exact hf v u s2 x y H2 I2 r1 r2 q2

theorem pe_op {op : Operator} {r : R2} (ho : OpR X (binaryOp op) r) (ha : PE X a ta) (hb : PE X b tb) : PE X (.BinOp a op b pos) (tOp r ta tb) := by
  intro pins s σ H Q I h
  exact wpAny_BinOp (binT ha hb I h fun v u s2 x y H2 I2 rx ry q => ho pins s2 σ H2 x y v u Q I2 rx ry q)
theorem pe_un {op : UnaryOp} {r : V → Hp → VK → Prop} (ho : UnR X (unaryOp op) r) (ha : PE X a ta) : PE X (.UnaryOp op a pos) (tUn r ta) := by
  intro pins s σ H Q I h
  exact UnaryOp_ (thn (ha pins s σ H _ I h) fun v s1 ⟨x, H1, I1, r1, q1⟩ => ho pins s1 σ H1 x v Q I1 r1 q1)
/-! ### ints -/
theorem opI {f : Value → Value → Sem Value} {C : Int → Int → Prop} {g : Int → Int → Int}
    (rule : ∀ (i j : Int) (t u : Tok) (s : Shared) (Q : Value → Shared → Prop) (E : Value → Shared → Prop), C i j → Q (.int (g i j) s.toks) { s with toks := s.toks + 1 } → wpAny (model X.prog X.w) X.A (f (.int i t) (.int j u)) Q E s) :
    OpR X f (rI C fun i j => .int (g i j)) := by
  intro pins s σ H x y v u Q I rx ry h
  obtain ⟨i, j, rfl, rfl, hc, q⟩ := h
  obtain ⟨t, rfl⟩ := rx
  obtain ⟨t', rfl⟩ := ry
  exact rule i j t t' s _ _ hc ⟨.int (g i j), H, I.tok _, ⟨_, rfl⟩, q⟩
theorem opI0 {f : Value → Value → Sem Value} {g : Int → Int → Int}
    (rule : ∀ (i j : Int) (t u : Tok) (s : Shared) (Q : Value → Shared → Prop) (E : Value → Shared → Prop), Q (.int (g i j) s.toks) { s with toks := s.toks + 1 } → wpAny (model X.prog X.w) X.A (f (.int i t) (.int j u)) Q E s) :
    OpR X f (rI0 fun i j => .int (g i j)) := by
  intro pins s σ H x y v u Q I rx ry h
  obtain ⟨i, j, rfl, rfl, q⟩ := h
  obtain ⟨t, rfl⟩ := rx
  obtain ⟨t', rfl⟩ := ry
  exact rule i j t t' s _ _ ⟨.int (g i j), H, I.tok _, ⟨_, rfl⟩, q⟩
theorem opB0 {f : Value → Value → Sem Value} {g : Int → Int → Bool}
    (rule : ∀ (i j : Int) (t u : Tok) (s : Shared) (Q : Value → Shared → Prop) (E : Value → Shared → Prop), Q (.bool (g i j)) s → wpAny (model X.prog X.w) X.A (f (.int i t) (.int j u)) Q E s) :
    OpR X f (rI0 fun i j => .bl (g i j)) := by
  intro pins s σ H x y v u Q I rx ry h
  obtain ⟨i, j, rfl, rfl, q⟩ := h
  obtain ⟨t, rfl⟩ := rx
  obtain ⟨t', rfl⟩ := ry
  exact rule i j t t' s _ _ ⟨.bl (g i j), H, I, rfl, q⟩

def CDiv (i j : Int) : Prop := 0 < j ∧ j < 1073741824
def CPow (i j : Int) : Prop := 0 ≤ j ∧ j ≤ 1000000 ∧ i.natAbs < 2 ^ 64
def CMul (i j : Int) : Prop := (-(2 ^ 64) < i ∧ i < 2 ^ 64) ∨ (-(2 ^ 64) < j ∧ j < 2 ^ 64)
theorem CMul.ok {i j : Int} (h : CMul i j) : IntMulOk i j := by
  rcases h with ⟨h1, h2⟩ | ⟨h1, h2⟩
  · exact .of_left (intBits_le_64 h1 h2)
  · exact .of_right (intBits_le_64 h1 h2)
theorem op_add : OpR X (binaryOp .Add) (rI0 fun i j => .int (i + j)) := opI0 fun _ _ _ _ _ _ _ q => add_int q
theorem op_sub : OpR X (binaryOp .Sub) (rI0 fun i j => .int (i - j)) := opI0 fun _ _ _ _ _ _ _ q => sub_int q
theorem op_mul : OpR X (binaryOp .Mult) (rI CMul fun i j => .int (i * j)) := opI fun _ _ _ _ _ _ _ hc q => mul_int q hc.ok
/-- // by a positive divisor -/
theorem op_fdiv : OpR X (binaryOp .FloorDiv) (rI CDiv fun i j => .int (i / j)) := opI fun i j _ _ _ _ _ hc q => by
  have h1 : (0 : Int) < j := hc.1
  have h2 : j < 1073741824 := hc.2
  exact floordiv_int (by omega) (by rw [Int.fdiv_eq_ediv_of_nonneg i (by omega)]; exact q) (.inl (PyProof.noPylong_small (by omega)))
/-- % by a positive divisor of any size -/
theorem op_mod : OpR X (binaryOp .Mod) (rI (fun _ j => 0 < j) fun i j => .int (i % j)) := opI fun i j _ _ _ _ _ hc q => by
  have h1 : (0 : Int) < j := hc
  exact mod_int' (by omega) (by rw [Int.fmod_eq_emod_of_nonneg i (by omega)]; exact q)
theorem op_pow : OpR X (binaryOp .Pow) (rI CPow fun i j => .int (i ^ j.toNat)) := opI fun _ _ _ _ _ _ _ hc q => pow_int_small hc.1 hc.2.1 hc.2.2 q
theorem unI {f : Value → Sem Value} {g : Int → Int}
    (rule : ∀ (i : Int) (t : Tok) (s : Shared) (Q : Value → Shared → Prop) (E : Value → Shared → Prop), Q (.int (g i) s.toks) { s with toks := s.toks + 1 } → wpAny (model X.prog X.w) X.A (f (.int i t)) Q E s) :
    UnR X f (rU fun i => .int (g i)) := by
  intro pins s σ H x v Q I rx h
  obtain ⟨i, rfl, q⟩ := h
  obtain ⟨t, rfl⟩ := rx
  exact rule i t s _ _ ⟨.int (g i), H, I.tok _, ⟨_, rfl⟩, q⟩
theorem un_neg : UnR X (unaryOp .USub) (rU fun i => .int (-i)) := unI fun _ _ _ _ _ q => neg_int q
/-! ### bools among ints: n += (a < b) -/
end

/-! ### comparisons -/
/-- the scalars that == tells apart as data does -/
def scal : V → V → Bool
  | .non, .non => true | .non, .int _ => true | .int _, .non => true | .non, .bl _ => true | .bl _, .non => true | .non, .str _ => true | .str _, .non => true
  | .int _, .int _ => true | .bl _, .bl _ => true | .str _, .str _ => true | .byt _, .byt _ => true
  | .int _, .str _ => true | .str _, .int _ => true | .bl _, .str _ => true | .str _, .bl _ => true
  | _, _ => false
def rEq : R2 := fun x y H Q => scal x y = true ∧ Q (.bl (decide (x = y))) H
def rNe : R2 := fun x y H Q => scal x y = true ∧ Q (.bl (!decide (x = y))) H

theorem dec_int {i j : Int} : decide (V.int i = V.int j) = (i == j) := by
  rw [Bool.eq_iff_iff]
  simp
theorem dec_bl {i j : Bool} : decide (V.bl i = V.bl j) = (i == j) := by
  rw [Bool.eq_iff_iff]
  simp
theorem dec_str {i j : Str} : decide (V.str i = V.str j) = (i == j) := by
  rw [Bool.eq_iff_iff]
  simp
theorem dec_byt {i j : Array UInt8} : decide (V.byt i = V.byt j) = (i.toList == j.toList) := by
  rw [Bool.eq_iff_iff]
  cases i
  cases j
  simp

section
variable {X : Cx} {a b c : Expr} {ta tb tc : TE} {pos : Pos}
theorem fin_bl {pins : List (Addr × Obj)} {σ : St} {H : Hp} {s : Shared} {Q : VK} {k k' : Bool} (I : Inv X pins σ H s) (q : Q (.bl k) H) (e : k = k') : EP X pins σ Q (.bool k') s := by
  subst e
  exact ⟨.bl k, H, I, rfl, q⟩
theorem op_eq : OpR X (compareOp .Eq) rEq := by
  intro pins s σ H x y v u Q I rx ry h
  obtain ⟨hs, q⟩ := h
  cases x with
  | non =>
    cases rx
    cases y with
    | non => cases ry; exact PySem.EqNone.eq_none_none (fin_bl I q (by simp))
    | bl j => cases ry; exact PySem.EqNone.eq_none_bool (fin_bl I q (by simp))
    | int j => obtain ⟨t', rfl⟩ := ry; exact PySem.EqNone.eq_none_int (fin_bl I q (by simp))
    | str j => obtain ⟨t', rfl⟩ := ry; exact PySem.EqNone.eq_none_str (fin_bl I q (by simp))
    | _ => exact absurd (show false = true from hs) Bool.false_ne_true
  | bl i =>
    cases rx
    cases y with
    | non => cases ry; exact PySem.EqNone.eq_bool_none (fin_bl I q (by simp))
    | bl j => cases ry; exact eq_bool (fin_bl I q dec_bl)
    | str j => obtain ⟨t', rfl⟩ := ry; exact PySem.EqMixed.eq_bool_str (fin_bl I q (by simp))
    | _ => exact absurd (show false = true from hs) Bool.false_ne_true
  | int i =>
    obtain ⟨t, rfl⟩ := rx
    cases y with
    | non => cases ry; exact PySem.EqNone.eq_int_none (fin_bl I q (by simp))
    | int j => obtain ⟨t', rfl⟩ := ry; exact eq_int (fin_bl I q dec_int)
    | str j => obtain ⟨t', rfl⟩ := ry; exact PySem.EqMixed.eq_int_str (fin_bl I q (by simp))
    | _ => exact absurd (show false = true from hs) Bool.false_ne_true
  | str i =>
    obtain ⟨t, rfl⟩ := rx
    cases y with
    | non => cases ry; exact PySem.EqNone.eq_str_none (fin_bl I q (by simp))
    | bl j => cases ry; exact PySem.EqMixed.eq_str_bool (fin_bl I q (by simp))
    | int j => obtain ⟨t', rfl⟩ := ry; exact PySem.EqMixed.eq_str_int (fin_bl I q (by simp))
    | str j => obtain ⟨t', rfl⟩ := ry; exact eq_str (fin_bl I q dec_str)
    | _ => exact absurd (show false = true from hs) Bool.false_ne_true
  | byt i =>
    obtain ⟨t, rfl⟩ := rx
    cases y with
    | byt j => obtain ⟨t', rfl⟩ := ry; exact PySem.W.eq_bytes (fin_bl I q dec_byt)
    | _ => exact absurd (show false = true from hs) Bool.false_ne_true
  | _ => cases y <;> exact absurd (show false = true from hs) Bool.false_ne_true
theorem op_ne : OpR X (compareOp .NotEq) rNe := by
  intro pins s σ H x y v u Q I rx ry h
  obtain ⟨hs, q⟩ := h
  cases x with
  | non =>
    cases rx
    cases y with
    | non => cases ry; exact PySem.EqNone.ne_none_none (fin_bl I q (by simp))
    | bl j => cases ry; exact PySem.EqNone.ne_none_bool (fin_bl I q (by simp))
    | int j => obtain ⟨t', rfl⟩ := ry; exact PySem.EqNone.ne_none_int (fin_bl I q (by simp))
    | str j => obtain ⟨t', rfl⟩ := ry; exact PySem.EqNone.ne_none_str (fin_bl I q (by simp))
    | _ => exact absurd (show false = true from hs) Bool.false_ne_true
  | bl i =>
    cases rx
    cases y with
    | non => cases ry; exact PySem.EqNone.ne_bool_none (fin_bl I q (by simp))
    | bl j => cases ry; exact ne_bool (fin_bl I q (congrArg not dec_bl))
    | str j => obtain ⟨t', rfl⟩ := ry; exact PySem.EqMixed.ne_bool_str (fin_bl I q (by simp))
    | _ => exact absurd (show false = true from hs) Bool.false_ne_true
  | int i =>
    obtain ⟨t, rfl⟩ := rx
    cases y with
    | non => cases ry; exact PySem.EqNone.ne_int_none (fin_bl I q (by simp))
    | int j => obtain ⟨t', rfl⟩ := ry; exact ne_int (fin_bl I q (congrArg not dec_int))
    | str j => obtain ⟨t', rfl⟩ := ry; exact PySem.EqMixed.ne_int_str (fin_bl I q (by simp))
    | _ => exact absurd (show false = true from hs) Bool.false_ne_true
  | str i =>
    obtain ⟨t, rfl⟩ := rx
    cases y with
    | non => cases ry; exact PySem.EqNone.ne_str_none (fin_bl I q (by simp))
    | bl j => cases ry; exact PySem.EqMixed.ne_str_bool (fin_bl I q (by simp))
    | int j => obtain ⟨t', rfl⟩ := ry; exact PySem.EqMixed.ne_str_int (fin_bl I q (by simp))
    | str j => obtain ⟨t', rfl⟩ := ry; exact ne_str (fin_bl I q (congrArg not dec_str))
    | _ => exact absurd (show false = true from hs) Bool.false_ne_true
  | byt i =>
    obtain ⟨t, rfl⟩ := rx
    cases y with
    | byt j => obtain ⟨t', rfl⟩ := ry; exact PySem.W.ne_bytes (fin_bl I q (congrArg not dec_byt))
    | _ => exact absurd (show false = true from hs) Bool.false_ne_true
  | _ => cases y <;> exact absurd (show false = true from hs) Bool.false_ne_true

theorem op_lt : OpR X (compareOp .Lt) (rI0 fun i j => .bl (decide (i < j))) := opB0 fun _ _ _ _ _ _ _ q => lt_int q
theorem op_le : OpR X (compareOp .LtE) (rI0 fun i j => .bl (decide (i ≤ j))) := opB0 fun _ _ _ _ _ _ _ q => le_int q
theorem op_gt : OpR X (compareOp .Gt) (rI0 fun i j => .bl (decide (j < i))) := opB0 fun _ _ _ _ _ _ _ q => gt_int q
theorem op_ge : OpR X (compareOp .GtE) (rI0 fun i j => .bl (decide (j ≤ i))) := opB0 fun _ _ _ _ _ _ _ q => ge_int q
/-- is None, is not None: the right side a value none -/
theorem op_isN : OpR X (compareOp .Is) (fun x y H Q => y = .non ∧ Q (.bl (decide (x = .non))) H) := by
  intro pins s σ H x y v u Q I rx ry h
  obtain ⟨rfl, q⟩ := h
  cases ry
  refine is_none_gen (fin_bl I q ?_)
  cases x <;> first
    | (cases rx; rfl)
    | (obtain ⟨t, rfl⟩ := rx; rfl)
/-- two rules for one operation: by cases -/
theorem OpR.or {f : Value → Value → Sem Value} {r r' : R2} (h : OpR X f r) (h' : OpR X f r') : OpR X f (fun x y H Q => r x y H Q ∨ r' x y H Q) := by
  intro pins s σ H x y v u Q I rx ry q
  rcases q with q | q
  · exact h pins s σ H x y v u Q I rx ry q
  · exact h' pins s σ H x y v u Q I rx ry q

theorem nomark (b : Expr) {op : CmpOp} (h : op ≠ .In := by decide) (h2 : op ≠ .NotIn := by decide) : behindInMarks op b = false := by
  have e1 : (op == CmpOp.In) = false := by cases op <;> first | rfl | exact absurd rfl h
  have e2 : (op == CmpOp.NotIn) = false := by cases op <;> first | rfl | exact absurd rfl h2
  cases b <;> simp [behindInMarks, e1, e2]
/-- a comparison as a value; hm: nomark b, or (for in, not in) by with_unfolding_all rfl -/
theorem pe_cmpR {op : CmpOp} {r : R2} (ho : OpR X (compareOp op) r) (ha : PE X a ta) (hb : PE X b tb) (hm : behindInMarks op b = false) : PE X (.Compare a [op] [b] pos) (tOp r ta tb) := by
  intro pins s σ H Q I h
  exact wpAny_Compare1 (binT ha hb I h fun v u s2 x y H2 I2 rx ry q => ho pins s2 σ H2 x y v u Q I2 rx ry q) hm
/-- a reading of a value as a test -/
def tTest (t : TE) : TT := fun σ H Q => t σ H fun x H' => ∃ k, x = .bl k ∧ Q k H'
theorem pt_cmpR {op : CmpOp} {r : R2} (ho : OpR X (compareOp op) r) (ha : PE X a ta) (hb : PE X b tb) (hm : behindInMarks op b = false) : PT X (.Compare a [op] [b] pos) (tTest (tOp r ta tb)) := by
  intro pins s σ H Q I h
  refine wpAny_isTrue_Compare1 (thn (ha pins s σ H _ I h) fun v s1 ⟨x, H1, I1, r1, q1⟩ => thn (hb pins s1 σ H1 _ I1 q1) fun u s2 ⟨y, H2, I2, r2, q2⟩ =>
    thn (ho pins s2 σ H2 x y v u _ I2 r1 r2 q2) fun c s3 ⟨z, H3, I3, r3, k, e, q3⟩ => ?_) hm
  subst e
  cases r3
  exact wpAny_truthy_bool ⟨H3, I3, q3⟩
/-! ### truth -/
theorem line63 : (sizeLine : Nat) < 2 ^ 63 := by rw [sizeLine_eq]; decide
/-! ### strs and bytes -/
/-! ### scalar builtins, by CallR -/
theorem vals1 {x : V} {us : List Value} (r : Vals [x] us) : ∃ u, us = [u] ∧ RelV x u := by
  cases r with
  | cons r1 r2 => cases r2; exact ⟨_, rfl, r1⟩
theorem vals2 {x y : V} {us : List Value} (r : Vals [x, y] us) : ∃ u w', us = [u, w'] ∧ RelV x u ∧ RelV y w' := by
  cases r with
  | cons r1 r2 =>
    cases r2 with
    | cons r3 r4 => cases r4; exact ⟨_, _, rfl, r1, r3⟩
theorem call_max2 (hc : X.calm = true) : CallR X (.builtin "max") (fun xs H Q => ∃ i j, xs = [.int i, .int j] ∧ Q (.int (if j > i then j else i)) H) := by
  intro pins s σ H xs us Q I r h
  obtain ⟨i, j, rfl, q⟩ := h
  obtain ⟨u, w', rfl, ⟨t, rfl⟩, ⟨t', rfl⟩⟩ := vals2 r
  refine max_two_ints (I.ok.hd hc) fun h' tk k => ⟨_, H, I.kept k, ?_, q⟩
  by_cases hj : j > i
  · rw [if_pos hj, if_pos hj]; exact ⟨_, rfl⟩
  · rw [if_neg hj, if_neg hj]; exact ⟨_, rfl⟩
theorem call_int1 : CallR X (.type "int") (fun xs H Q => (∃ i, xs = [.int i] ∧ Q (.int i) H) ∨ ∃ k, xs = [.bl k] ∧ Q (.int (if k then 1 else 0)) H) := by
  intro pins s σ H xs us Q I r h
  rcases h with ⟨i, rfl, q⟩ | ⟨k, rfl, q⟩
  · obtain ⟨u, rfl, t, rfl⟩ := vals1 r
    exact call_int_int ⟨.int i, H, I, ⟨_, rfl⟩, q⟩
  · obtain ⟨u, rfl, r1⟩ := vals1 r
    cases r1
    exact call_int_bool ⟨.int (if k then 1 else 0), H, I.tok _, ⟨_, rfl⟩, q⟩
end
end L2

namespace L2
open PySem PySem.Spec PyProof.Rows

/-! ### an instance, its attributes a map -/
structure ObjM (h : Heap) (x dx C : Addr) (mA : Str → Option Value) : Prop where
  obj : h.get? x = some (PySem.W.instObj C dx)
  ns : h.Ns1 dx mA
  ne : dx ≠ x

theorem lookIn_ns {h : Heap} {dx : Addr} {mA : Str → Option Value} (n : h.Ns1 dx mA) : ∃ od, h.get? dx = some od ∧ ∀ name, PySem.W.lookIn name od = some (mA name) := by
  obtain ⟨o, es, ep, ho, hd, hk, _, hm⟩ := n
  refine ⟨o, ho, fun name => ?_⟩
  have e := hm name
  unfold nsFind findBy at e
  rw [← Array.find?_toList] at e
  unfold PySem.W.lookIn
  rw [hd]
  dsimp only
  split
  · rename_i y q
    rw [q] at e
    exact congrArg some e
  · rename_i q
    rw [q] at e
    have a : es.toList.any (·.refKey) = false := by
      rw [List.any_eq_false]
      intro y hy
      obtain ⟨z, t, hkey⟩ := hk y (Array.mem_toList_iff.mp hy)
      simp [DictEntry.refKey, hkey]
    have a' : ¬ es.toList.any (·.refKey) = true := by rw [a]; exact Bool.false_ne_true
    rw [if_neg a']
    exact congrArg some e

theorem ObjM.look {h : Heap} {x dx C : Addr} {mA : Str → Option Value} (I : ObjM h x dx C mA) : ∃ od, PySem.W.InstAt h x (PySem.W.instObj C dx) C (some od) ∧ ∀ name, PySem.W.lookIn name od = some (mA name) :=
  let ⟨od, ho, hl⟩ := lookIn_ns I.ns
  ⟨od, ⟨I.obj, rfl, rfl, ho⟩, hl⟩

section
variable {prog : Program} {w : World} {A : Around} {E : Value → Shared → Prop} {s : Shared} {K : PySem.W.Frag} {x dx C f : Addr} {mA : Str → Option Value} {name : Str} {v : Value}

theorem get_map {expr : Bool} {Q : Value → Shared → Prop} (X : K.In s.heap) (I : ObjM s.heap x dx C mA) (hg : PySem.W.plainGet K C name = true) (hh : PySem.W.hasDictIn K C = true)
    (ha : PySem.W.findIn K (.ref C) name = some none) (hv : mA name = some v) (hv' : PySem.W.handedIn v = true) (h : Q v { s with toks := s.toks + 1 }) :
    wpAny (model prog w) A (getAttr (.ref x) name expr) Q E s := by
  obtain ⟨od, J, hl⟩ := I.look
  exact PySem.W.get_value X J (PySem.W.plainGet_of hg).1 (PySem.W.findObj_own hh ha rfl (by rw [hl, hv])) hv' h

theorem get_meth {pl : Sem Bool} {Q : Value × List Value → Shared → Prop} (X : K.In s.heap) (I : ObjM s.heap x dx C mA) (hg : PySem.W.plainGet K C name = true)
    (hf : PySem.W.findIn K (.ref C) name = some (some (.ref f))) (ht : PySem.W.isFn K (.ref f) = true) (hv : mA name = none) (h : Q (.ref f, [.ref x]) s) :
    wpAny (model prog w) A (getMethod (.ref x) name pl) Q E s := by
  obtain ⟨od, J, hl⟩ := I.look
  exact PySem.W.method_fn X J (PySem.W.plainGet_of hg).1 (PySem.W.plainGet_of hg).2 hf (beq_iff_eq.mp ht) (by show (PySem.W.lookIn name od).map (·.isSome) = some false; rw [hl, hv]; rfl) h

theorem set_map {ns : List Str} {Q : Unit → Shared → Prop} (X : K.In s.heap) (I : ObjM s.heap x dx C mA)
    (hs : PySem.W.findIn K (.ref C) "__setattr__" = some (some (.builtin "object.__setattr__"))) (hp : PySem.W.plainOver K C = true) (ht : PySem.W.takerIn K C name = some none) (hh : PySem.W.hasDictIn K C = true)
    (hw : PySem.Within mA ns) (hsz : ns.length ≤ sizeLine)
    (h : ∀ h', ObjM h' x dx C (fun y => if y = name then some v else mA y) → Heap.SameBut dx s.heap h' → Q () { s with heap := h', toks := s.toks + 2 }) :
    wpAny (model prog w) A (setAttr (.ref x) name v) Q E s := by
  obtain ⟨od, J, hl⟩ := I.look
  refine PySem.W.set_plain X J hs (PySem.W.osa_open (s := { s with toks := s.toks + 1 }) (r := none) X J hp ht fun b => ?_)
  obtain ⟨cd, hc, hd'⟩ := PySem.W.any_some hh
  have hx : s.heap.get? x = some ⟨.ref C, some dx, .plain, #[]⟩ := I.obj
  refine wpAny_bind (wpAny_pure (wpAny_bind (wpAny_bind (wpAny_loadPart hx (wpAny_bind (PySem.W.Looks.here (s := { s with toks := s.toks + 1 }) (PySem.W.looks_clsIn X hc) ?_))))))
  rw [hd']
  refine wpAny_pure (a := some dx) (wpAny_bind (wpAny_pure (wpAny_bind ?_)))
  refine wpAny_nsSet1 (s := { s with toks := s.toks + 1 }) I.ns fun h' hn2 hs2 => ?_
  obtain ⟨oD, esD, epD, hoD, hdD, hcD⟩ := hn2.count (PySem.Within.cons name v hw)
  refine wpAny_bind (wpAny_lookBehind hoD (by rw [hdD]; exact pastItsLine_dict (Nat.le_trans hcD (by rw [List.length_cons]; omega))) ?_)
  exact wpAny_pure (h _ ⟨(hs2.2 _ (Ne.symm I.ne)).trans I.obj, hn2, I.ne⟩ hs2)

/-- C(..): the dict at the heap's end, the instance behind it; then its __init__ -/
theorem make_map {R : Result → Shared → Prop} {vs : List Value} {kw : List (Str × Value)} (X : K.In s.heap) (hm : PySem.W.makesIn K C = true)
    (hi : PySem.W.findIn K (.ref C) "__init__" = some (some (.ref f))) (hf : PySem.W.typeIn K (.ref f) = some (.type "function"))
    (h : codeAny (model prog w) (A.under (.builtin "type.__call__" ⟨.ref C :: vs, kw⟩)) (.call (.ref f) ⟨.ref (s.heap.objs.size + 1) :: vs, kw⟩) (PySem.W.InitBack (s.heap.objs.size + 1) R)
      { s with heap := (s.heap.push PySem.W.emptyDict).push (PySem.W.instObj C s.heap.objs.size) }) :
    codeAny (model prog w) A (.call (.ref C) ⟨vs, kw⟩) R s := by
  obtain ⟨hh, g, d, t, os⟩ := s
  exact PySem.W.make_core (PySem.W.makes_of X hm) (PySem.W.looks_findIn X hi) (fun self => PySem.W.bind_fn X self hf) (.inl rfl) h
end

/-! ### the attributes as a list of pairs -/
def putF (f : Str) (v : V) : List (Str × V) → List (Str × V)
  | [] => [(f, v)]
  | (g, x) :: r => if g = f then (g, v) :: r else (g, x) :: putF f v r
theorem lookup_putF (f g : Str) (v : V) : ∀ fs : List (Str × V), (putF f v fs).lookup g = if g = f then some v else fs.lookup g
  | [] => by
    show List.lookup g [(f, v)] = _
    by_cases h : g = f
    · have hb : (g == f) = true := beq_iff_eq.mpr h
      simp only [List.lookup, hb, if_pos h]
    · have hb : (g == f) = false := beq_eq_false_iff_ne.mpr h
      simp only [List.lookup, hb, if_neg h]
  | (k, x) :: r => by
    have ih := lookup_putF f g v r
    rw [show putF f v ((k, x) :: r) = (if k = f then (k, v) :: r else (k, x) :: putF f v r) from rfl]
    by_cases hk : k = f
    · rw [if_pos hk]
      by_cases h : g = k
      · have hb : (g == k) = true := beq_iff_eq.mpr h
        simp only [List.lookup, hb, if_pos (h.trans hk)]
      · have hb : (g == k) = false := beq_eq_false_iff_ne.mpr h
        simp only [List.lookup, hb, if_neg (fun e : g = f => h (e.trans hk.symm))]
    · rw [if_neg hk]
      by_cases h : g = k
      · have hb : (g == k) = true := beq_iff_eq.mpr h
        simp only [List.lookup, hb, if_neg (fun e : g = f => hk (h.symm.trans e))]
      · have hb : (g == k) = false := beq_eq_false_iff_ne.mpr h
        simp only [List.lookup, hb]
        exact ih
theorem keys_putF (f : Str) (v : V) : ∀ fs : List (Str × V), f ∈ (putF f v fs).map (·.1) ∧ ∀ g, g ∈ fs.map (·.1) → g ∈ (putF f v fs).map (·.1)
  | [] => ⟨by simp [putF], fun g h => by simp at h⟩
  | (k, x) :: r => by
    obtain ⟨i1, i2⟩ := keys_putF f v r
    rw [show putF f v ((k, x) :: r) = (if k = f then (k, v) :: r else (k, x) :: putF f v r) from rfl]
    by_cases hk : k = f
    · rw [if_pos hk]
      subst hk
      exact ⟨by simp, fun g h => by simpa using h⟩
    · rw [if_neg hk]
      refine ⟨?_, fun g h => ?_⟩
      · rw [List.map_cons]
        exact List.mem_cons_of_mem _ i1
      · rw [List.map_cons] at h ⊢
        rcases List.mem_cons.mp h with e | e
        · exact List.mem_cons.mpr (.inl e)
        · exact List.mem_cons_of_mem _ (i2 g e)
theorem length_putF (f : Str) (v : V) : ∀ fs : List (Str × V), (putF f v fs).length ≤ fs.length + 1
  | [] => by simp [putF]
  | (k, x) :: r => by
    have ih := length_putF f v r
    rw [show putF f v ((k, x) :: r) = (if k = f then (k, v) :: r else (k, x) :: putF f v r) from rfl]
    by_cases hk : k = f
    · rw [if_pos hk, List.length_cons, List.length_cons]; omega
    · rw [if_neg hk, List.length_cons, List.length_cons]; omega

theorem RelO.some_of {v : V} {o : Option Value} (r : RelO (some v) o) : ∃ u, o = some u ∧ RelV v u := by
  cases o with
  | none => exact (show False from r).elim
  | some u => exact ⟨u, rfl, r⟩
theorem RelO.none_of {o : Option Value} (r : RelO none o) : o = none := by
  cases o with
  | none => rfl
  | some u => exact (show False from r).elim
theorem handed_of {v : V} {u : Value} (r : RelV v u) : PySem.W.handedIn u = true := by
  cases v with
  | non => cases (show u = Value.none from r); rfl
  | bl b => cases (show u = Value.bool b from r); rfl
  | int i => obtain ⟨t, e⟩ := (show ∃ t, u = Value.int i t from r); cases e; rfl
  | str x => obtain ⟨t, e⟩ := (show ∃ t, u = Value.str x t from r); cases e; rfl
  | byt b => obtain ⟨t, e⟩ := (show ∃ t, u = Value.bytes b t from r); cases e; rfl
  | flt b => obtain ⟨t, e⟩ := (show ∃ t, u = Value.float b t from r); cases e; rfl
  | ref a => cases (show u = Value.ref a from r); rfl
  | ty n => cases (show u = Value.type n from r); rfl

section
variable {P : Program} {w : World} {H H' : Hp} {h h' : Heap} {a C dx : Addr} {fs fs' : List (Str × V)}
theorem ins_get (hok : HOk P w H h) (e : H a = some (.ins C dx fs)) : ∃ mA, ObjM h a dx C mA ∧ (∀ f, RelO (fs.lookup f) (mA f)) ∧ PySem.Within mA (fs.map (·.1)) ∧ fs.length ≤ 1000 ∧ H dx = some (.own a) := by
  obtain ⟨d, z, ne, ob, mA, n, r, q⟩ := (show ObjOk P w H h a (.ins C dx fs) from hok a _ e)
  exact ⟨mA, ⟨ob, n, ne⟩, r, q, z, d⟩
end

/-! ### what of the text a class must have -/
structure Cls (K : PySem.W.Frag) (C : Addr) : Prop where
  pg : PySem.W.plainGet K C Str.empty = true
  hd : PySem.W.hasDictIn K C = true
  po : PySem.W.plainOver K C = true
  sa : PySem.W.findIn K (.ref C) "__setattr__" = some (some (.builtin "object.__setattr__"))
theorem Cls.get {K : PySem.W.Frag} {C : Addr} (c : Cls K C) (f : Str) : PySem.W.plainGet K C f = true := c.pg
/-- no class of it has the name -/
def NoAttr (K : PySem.W.Frag) (C : Addr) (f : Str) : Prop := PySem.W.findIn K (.ref C) f = some none
theorem NoAttr.taker {K : PySem.W.Frag} {C : Addr} {f : Str} (n : NoAttr K C f) : PySem.W.takerIn K C f = some none := by
  unfold PySem.W.takerIn
  rw [show PySem.W.findIn K (.ref C) f = some none from n]
  rfl
/-- a constant of the class -/
structure Con (K : PySem.W.Frag) (C : Addr) (f : Str) (v : V) (u : Value) : Prop where
  at_ : PySem.W.findIn K (.ref C) f = some (some u)
  rel : RelV v u
  get : PySem.W.specialIn K u "__get__" = some none
  cp : PySem.W.copiedNames.contains f = false
/-- a method: a plain def of the class or of one above it -/
structure Meth (K : PySem.W.Frag) (C : Addr) (m : Str) (f : Addr) : Prop where
  at_ : PySem.W.findIn K (.ref C) m = some (some (.ref f))
  fn : PySem.W.isFn K (.ref f) = true
  kp : PySem.W.keepIn K (.ref f) = true

section
variable {X : Cx} {pins : List (Addr × Obj)} {σ : St} {H : Hp} {s : Shared} {a C dx : Addr} {fs : List (Str × V)} {f : Str} {v : V} {A : Around} {E : Value → Shared → Prop}

theorem getattr_ok {b : Bool} {Q : Value → Shared → Prop} (I : Inv X pins σ H s) (e : H a = some (.ins C dx fs)) (c : Cls X.K C) (n : NoAttr X.K C f) (l : fs.lookup f = some v)
    (h : ∀ u s', Inv X pins σ H s' → RelV v u → Q u s') : wpAny (model X.prog X.w) A (getAttr (.ref a) f b) Q E s := by
  obtain ⟨mA, O, r, _, _, _⟩ := ins_get I.hok e
  obtain ⟨u, hu, ru⟩ := RelO.some_of (v := v) (o := mA f) (by rw [← l]; exact r f)
  exact get_map I.kIn O (c.get f) c.hd n hu (handed_of ru) (h u _ (I.tok _) ru)

theorem getmeth_ok {m : Str} {g : Addr} {pl : Sem Bool} {Q : Value × List Value → Shared → Prop} (I : Inv X pins σ H s) (e : H a = some (.ins C dx fs)) (c : Cls X.K C) (k : Meth X.K C m g) (l : fs.lookup m = none)
    (h : Q (.ref g, [.ref a]) s) : wpAny (model X.prog X.w) A (getMethod (.ref a) m pl) Q E s := by
  obtain ⟨mA, O, r, _, _, _⟩ := ins_get I.hok e
  have hn : mA m = none := RelO.none_of (by rw [← l]; exact r m)
  exact get_meth I.kIn O (c.get m) k.at_ k.fn hn h

theorem setattr_ok {y : V} {u : Value} {Q : Unit → Shared → Prop} (I : Inv X pins σ H s) (e : H a = some (.ins C dx fs)) (c : Cls X.K C) (n : NoAttr X.K C f) (hl : fs.length < 1000) (ry : RelV y u)
    (h : ∀ s', Inv X pins σ (upd H a (.ins C dx (putF f y fs))) s' → Q () s') : wpAny (model X.prog X.w) A (setAttr (.ref a) f u) Q E s := by
  obtain ⟨mA, O, r, wi, _, ho⟩ := ins_get I.hok e
  have hz : (fs.map (·.1)).length ≤ sizeLine := by rw [List.length_map, sizeLine_eq]; omega
  refine set_map I.kIn O c.sa c.po n.taker c.hd wi hz fun h' O' sb => h _ ?_
  have hd : ∃ o, h'.get? dx = some o := let ⟨o, _, _, e', _⟩ := O'.ns; ⟨o, e'⟩
  refine I.write (x := a) (e := dx) (by rw [e]; exact True.intro) (.inr ho) (fun b q hb z => (sb.2 b hb).trans z) hd ?_
  refine ⟨by rw [upd_ne O.ne]; exact ho, ?_, O.ne, O'.obj, _, O'.ns, fun g => ?_, fun g hg => ?_⟩
  · have := length_putF f y fs; omega
  · show RelO ((putF f y fs).lookup g) (if g = f then some u else mA g)
    rw [lookup_putF]
    by_cases q : g = f
    · rw [if_pos q, if_pos q]; exact ry
    · rw [if_neg q, if_neg q]; exact r g
  · by_cases q : g = f
    · rw [q]; exact (keys_putF f y fs).1
    · refine (keys_putF f y fs).2 g (wi g fun z => hg ?_)
      show (if g = f then some u else mA g) = none
      rw [if_neg q]; exact z

/-- a new instance, tracked, without attributes -/
theorem Inv.made (I : Inv X pins σ H s) : Inv X pins σ (upd (upd H s.heap.objs.size (.own (s.heap.objs.size + 1))) (s.heap.objs.size + 1) (.ins C s.heap.objs.size []))
    { s with heap := (s.heap.push PySem.W.emptyDict).push (PySem.W.instObj C s.heap.objs.size) } := by
  have e1 : (s.heap.push PySem.W.emptyDict).get? s.heap.objs.size = some PySem.W.emptyDict := Heap.get?_push_size s.heap rfl
  have e2 : ((s.heap.push PySem.W.emptyDict).push (PySem.W.instObj C s.heap.objs.size)).get? (s.heap.objs.size + 1) = some (PySem.W.instObj C s.heap.objs.size) := by
    have := Heap.get?_push_size (s.heap.push PySem.W.emptyDict) (o := PySem.W.instObj C s.heap.objs.size) rfl
    rwa [Heap.size_push] at this
  have e3 : (s.heap.push PySem.W.emptyDict).Ns s.heap.objs.size (fun _ => none) := ⟨PySem.W.emptyDict, #[], _, e1, rfl, (fun e he => absurd he (by simp)), fun _ => rfl⟩
  have I1 := I.laid (a := s.heap.objs.size) (o := .own (s.heap.objs.size + 1)) (h' := s.heap.push PySem.W.emptyDict) (t' := s.toks) (fun b u q => Heap.get?_push_of_some _ q) (Nat.le_refl _) ⟨_, e1⟩
  refine I1.laid (a := s.heap.objs.size + 1) (o := .ins C s.heap.objs.size []) (t' := s.toks) (fun b u q => Heap.get?_push_of_some _ q) (Nat.le_of_eq (Heap.size_push _ _)) ?_
  have ne : s.heap.objs.size ≠ s.heap.objs.size + 1 := Nat.ne_of_lt (Nat.lt_succ_self _)
  refine ⟨by rw [upd_ne ne, upd_same], Nat.zero_le _, ne, e2, fun _ => none, (Heap.Ns1.of_empty e3).at fun o q => Heap.get?_push_of_some _ q, fun _ => True.intro, fun y hy => absurd rfl hy⟩

/-- e.f where nothing but the object is asked: through attributeBase (super) and the last hold -/
theorem attr_of {prog : Program} {w : World} {env : Env} {e : Expr} {f : Str} {pos : Pos} {s : Shared} {Q : Value → Shared → Prop} (hb : attributeBase e f env (eval e env) = eval e env)
    (h : wpAny (model prog w) A (eval e env) (fun o s₁ => wpAny (model prog w) A (getAttr o f true) Q E s₁) E s) : wpAny (model prog w) A (eval (.Attribute e f pos) env) Q E s :=
  Attribute_any_ h (by rw [arm_eval_Attribute, hb])
end

/-! ### readings and rules -/
/-- e.f, an attribute of the instance -/
def tFld (K : PySem.W.Frag) (ta : TE) (f : Str) : TE := fun σ H Q => ta σ H fun x H1 => ∃ a C dx fs v, x = .ref a ∧ H1 a = some (.ins C dx fs) ∧ Cls K C ∧ NoAttr K C f ∧ fs.lookup f = some v ∧ Q v H1
/-- e.f = value -/
def sFld (K : PySem.W.Frag) (ta tv : TE) (f : Str) : TS := fun D σ H => tv σ H fun y H1 => ta σ H1 fun x H2 => ∃ a C dx fs, x = .ref a ∧ H2 a = some (.ins C dx fs) ∧ Cls K C ∧ NoAttr K C f ∧ fs.length < 1000 ∧
  D.nx σ (upd H2 a (.ins C dx (putF f y fs)))
section
variable {X : Cx} {o e value : Expr} {f : Str} {pos pos' tpos : Pos} {ta tv : TE}
theorem pe_fld (he : PE X e ta) (hb : attributeBase e f X.env (eval e X.env) = eval e X.env) : PE X (.Attribute e f pos) (tFld X.K ta f) := by
  intro pins s σ H Q I h
  refine attr_of hb (thn (he pins s σ H _ I h) fun u s1 ⟨x, H1, I1, rx, a, C, dx, fs, v, ex, ea, c, n, l, q⟩ => ?_)
  subst ex
  obtain rfl : u = Value.ref a := rx
  exact getattr_ok I1 ea c n l fun u' s2 I2 ru => ⟨v, H1, I2, ru, q⟩
theorem ps_fld (ha : PE X o ta) (hv : PE X value tv) (hs : swapsWith value (some (.Attribute o f pos')) pos.line X.env = pure false) : PS X (.Assign [.Attribute o f pos'] value pos) (sFld X.K ta tv f) := by
  intro pins s σ H D I h
  refine plainObj_wpAny_Assign_Attribute (thn (hv pins s σ H _ I h) fun u s1 ⟨y, H1, I1, ry, q⟩ => thn (ha pins s1 σ H1 _ I1 q) fun ov s2 ⟨x, H2, I2, rx, a, C, dx, fs, ex, ea, c, n, l, q2⟩ => ?_) hs
  subst ex
  obtain rfl : ov = Value.ref a := rx
  exact setattr_ok I2 ea c n l ry fun s3 I3 => ⟨σ, _, I3, q2⟩
end

/-! ### isinstance -/
section
variable {X : Cx} {pins : List (Addr × Obj)} {σ : St} {H : Hp} {s : Shared} {A : Around} {E : Value → Shared → Prop} {Q : Value → Shared → Prop} {c : Value} {b : Bool}
/-- the type of a value, as the fragment's deciders take it; for an instance its class -/
inductive TyOf (K : PySem.W.Frag) (H : Hp) : V → Value → Prop where
  | non : TyOf K H .non (.type "NoneType")
  | bl (x : Bool) : TyOf K H (.bl x) (.type "bool")
  | int (i : Int) : TyOf K H (.int i) (.type "int")
  | str (x : Str) : TyOf K H (.str x) (.type "str")
  | flt (x : UInt64) : TyOf K H (.flt x) (.type "float")
  | lst {a : Addr} {xs : List V} (e : H a = some (.lst xs)) : TyOf K H (.ref a) (.type "list")
  | frz {a : Addr} {o : Obj} {xs : List V} (e : H a = some (.frz o (.lst xs))) : TyOf K H (.ref a) (.type "list")
  | tup {a : Addr} {xs : List V} (e : H a = some (.tup xs)) : TyOf K H (.ref a) (.type "tuple")
  | dK {a : Addr} {kvs : List (Key × V)} (e : H a = some (.dK kvs)) : TyOf K H (.ref a) (.type "dict")
  | dT {a : Addr} {kvs : List (List Key × V)} (e : H a = some (.dT kvs)) : TyOf K H (.ref a) (.type "dict")
  | ins {a C dx : Addr} {fs : List (Str × V)} (e : H a = some (.ins C dx fs)) (cl : Cls K C) (ha : PySem.W.findIn K (.ref C) "__class__" = some (some (.builtin "object.__class__")))
      (hn : PySem.W.specialIn K (.builtin "object.__class__") "__get__" = some (some (.builtin "getset_descriptor.__get__"))) (htk : PySem.W.takesIn K (.builtin "object.__class__") = some true)
      (hm : PySem.W.mroIn K C (.type "object") = some true) : TyOf K H (.ref a) (.ref C)
/-- isinstance(x, c) for one class c, a built-in or an own one: kitOne's answer -/
theorem isinst_ok {x : V} {u t : Value} (I : Inv X pins σ H s) (rx : RelV x u) (ty : TyOf X.K H x t) (e : PySem.W.kitOne X.K t c = some b) (h : ∀ tk, Q (.bool b) { s with toks := tk }) :
    wpAny (model X.prog X.w) A (call (.builtin "isinstance") [u, c]) Q E s := by
  cases ty with
  | non => cases (show u = Value.none from rx); exact PySem.W.kia_one PySem.W.kitx_none I.kIn True.intro e (fun z => nomatch z) h
  | bl y => cases (show u = Value.bool y from rx); exact PySem.W.kia_one PySem.W.kitx_bool I.kIn True.intro e (fun z => nomatch z) h
  | int i => obtain ⟨t, q⟩ := (show ∃ t, u = Value.int i t from rx); cases q; exact PySem.W.kia_one PySem.W.kitx_int I.kIn True.intro e (fun z => nomatch z) h
  | str y => obtain ⟨t, q⟩ := (show ∃ t, u = Value.str y t from rx); cases q; exact PySem.W.kia_one PySem.W.kitx_str I.kIn True.intro e (fun z => nomatch z) h
  | flt y => obtain ⟨t, q⟩ := (show ∃ t, u = Value.float y t from rx); cases q; exact PySem.W.kia_one PySem.W.kitx_float I.kIn True.intro e (fun z => nomatch z) h
  | @lst a xs ea =>
    cases (show u = Value.ref a from rx)
    obtain ⟨_, _, n, _, h1⟩ := (show ObjOk X.prog X.w H s.heap a (.lst xs) from I.hok a _ ea)
    exact PySem.W.kia_one PySem.W.kitx_list I.kIn ⟨_, h1, rfl⟩ e (fun z => nomatch z) h
  | @frz a ob xs ea =>
    cases (show u = Value.ref a from rx)
    obtain ⟨_, _, _, n, _, h1⟩ := (show ObjOk X.prog X.w H s.heap a (.frz ob (.lst xs)) from I.hok a _ ea)
    exact PySem.W.kia_one PySem.W.kitx_list I.kIn ⟨_, h1, rfl⟩ e (fun z => nomatch z) h
  | @tup a xs ea =>
    cases (show u = Value.ref a from rx)
    obtain ⟨_, _, _, p⟩ := (show ObjOk X.prog X.w H s.heap a (.tup xs) from I.hok a _ ea)
    obtain ⟨o, h1, h2, _⟩ := p
    exact PySem.W.kia_one PySem.W.kitx_tuple I.kIn ⟨o, h1, h2⟩ e (fun z => nomatch z) h
  | @dK a kvs ea =>
    cases (show u = Value.ref a from rx)
    obtain ⟨_, _, vs, _, p⟩ := (show ObjOk X.prog X.w H s.heap a (.dK kvs) from I.hok a _ ea)
    obtain ⟨o, es, ep, h1, h2, _⟩ := p
    exact PySem.W.kia_one PySem.W.kitx_dict I.kIn ⟨o, h1, h2.1⟩ e (fun z => nomatch z) h
  | @dT a kvs ea =>
    cases (show u = Value.ref a from rx)
    obtain ⟨_, _, xs, _, o, es, ep, h1, h2, _⟩ := (show ObjOk X.prog X.w H s.heap a (.dT kvs) from I.hok a _ ea)
    exact PySem.W.kia_one PySem.W.kitx_dict I.kIn ⟨o, h1, h2.1⟩ e (fun z => nomatch z) h
  | @ins a C dx fs ea cl ha hn htk hm =>
    cases (show u = Value.ref a from rx)
    obtain ⟨mA, O, _⟩ := ins_get I.hok ea
    obtain ⟨od, J, _⟩ := O.look
    exact PySem.W.kia_one (PySem.W.kitx_own (cl.get _) cl.hd ha hn htk hm) I.kIn J e (fun z => nomatch z) h
end
end L2

namespace L2
open PySem PySem.Spec PyProof.Rows

/-! ### room -/
structure Room (k : Nat) (A : Around) : Prop where
  hd : A.handled = none
  dp : A.depth + 3 * k + 5 < recursionLimit
  un : A.units + 16 * k + 200 < cLine
theorem Room.mono {j k : Nat} {A : Around} (r : Room k A) (h : j ≤ k) : Room j A := ⟨r.hd, by have := r.dp; omega, by have := r.un; omega⟩
theorem Room.deeper {k : Nat} {A : Around} (r : Room (k + 1) A) (env : Env) : Room k (A.deeper env) :=
  ⟨r.hd, by have := r.dp; show A.depth + 1 + 3 * k + 5 < _; omega, by have := r.un; show A.units + 3 + 16 * k + 200 < _; omega⟩
theorem Room.in1 {k : Nat} {A : Around} (r : Room (k + 1) A) : Room k A.in1 :=
  ⟨r.hd, by have := r.dp; show A.depth + 3 * k + 5 < _; omega, by have := r.un; show A.units + 1 + 16 * k + 200 < _; omega⟩
theorem make_depth {A : Around} {C : Addr} {us : List Value} {kw : List (Str × Value)} : (A.under (.builtin "type.__call__" ⟨.ref C :: us, kw⟩)).depth = A.depth + 1 := by
  first | rfl | simp [Around.under, Code.weight, Code.isCreation, Code.isGuard, Code.isCaller, Code.frames, Code.isFrame, guardIds]
theorem make_units {A : Around} {C : Addr} {us : List Value} {kw : List (Str × Value)} : (A.under (.builtin "type.__call__" ⟨.ref C :: us, kw⟩)).units = A.units + 1 := by
  first | rfl | simp [Around.under, Code.cUnits, Code.frames, Code.isFrame]
theorem Room.make {k : Nat} {A : Around} (r : Room (k + 1) A) (C : Addr) (us : List Value) (kw : List (Str × Value)) : Room k (A.under (.builtin "type.__call__" ⟨.ref C :: us, kw⟩)) :=
  ⟨r.hd, by have := r.dp; rw [make_depth]; omega, by have := r.un; rw [make_units]; omega⟩
theorem Room.depth {k : Nat} {A : Around} (r : Room k A) : A.depth < recursionLimit := by have := r.dp; omega
theorem Room.units {k : Nat} {A : Around} (r : Room k A) : A.units + 64 < cLine := by have := r.un; omega
theorem Room.units0 {k : Nat} {A : Around} (r : Room k A) : A.units < cLine := by have := r.un; omega

/-! ### argument lists and displays -/
def tNil : TA := fun _ H Q => Q [] H
def tCons (ta : TE) (tr : TA) : TA := fun σ H Q => ta σ H fun x H1 => tr σ H1 fun xs H2 => Q (x :: xs) H2
section
variable {X : Cx} {e : Expr} {es : List Expr} {te : TE} {t : TA} {pos : Pos}
theorem pa_nil : PA X [] tNil := fun _ _ _ _ H Q I h => Calls.spliced_nil ⟨[], H, I, .nil, h⟩
theorem pa_cons (ha : PE X e te) (hr : PA X es t) (hs : starEach (e :: es) X.env = (false, eval e X.env) :: starEach es X.env := by rfl) : PA X (e :: es) (tCons te t) := by
  intro pos pins s σ H Q I h
  rw [hs]
  show wpAny _ _ (spliced ((false, eval e X.env) :: backTo pos (starEach es X.env))) _ _ s
  refine Calls.spliced_cons (thn (ha pins s σ H _ I h) fun u s1 ⟨x, H1, I1, r1, q1⟩ => ?_)
  exact thn (hr pos pins s1 σ H1 _ I1 q1) fun us s2 ⟨xs, H2, I2, r2, q2⟩ => ⟨x :: xs, H2, I2, .cons r1 r2, q2⟩

/-- a tuple, a list of written items -/
def tTup (t : TA) : TE := fun σ H Q => t σ H fun xs H1 => xs.length ≤ sizeLine ∧ ∀ p, H1 p = none → Q (.ref p) (upd H1 p (.tup xs))
def tLst (t : TA) : TE := fun σ H Q => t σ H fun xs H1 => xs.length ≤ sizeLine ∧ ∀ p, H1 p = none → Q (.ref p) (upd H1 p (.lst xs))
theorem pe_tup {x1} (h : PA X es t) : PE X (.Tuple es x1 pos) (tTup t) := by
  intro pins s σ H Q I hq
  refine wpAny_Tuple_spliced (thn (h pos pins s σ H _ I hq) fun us s1 ⟨xs, H1, I1, r, z, q⟩ => ⟨by rw [← r.length]; exact z, ?_⟩)
  have hf : H1 s1.heap.objs.size = none := I1.hok.fresh (Nat.le_refl _)
  refine ⟨.ref s1.heap.objs.size, upd H1 s1.heap.objs.size (.tup xs), I1.laid (t' := s1.toks) (fun b u e => Heap.get?_push_of_some _ e) (Nat.le_refl _) ?_, rfl, q _ hf⟩
  exact ⟨z, us, r, ⟨_, Heap.get?_push_size _ rfl, rfl, _, rfl⟩⟩
theorem pe_lst (h : PA X es t) : PE X (.List es pos) (tLst t) := by
  intro pins s σ H Q I hq
  refine wpAny_List_spliced (thn (h pos pins s σ H _ I hq) fun us s1 ⟨xs, H1, I1, r, z, q⟩ => ⟨by rw [← r.length]; exact z, ?_⟩)
  have hf : H1 s1.heap.objs.size = none := I1.hok.fresh (Nat.le_refl _)
  refine ⟨.ref s1.heap.objs.size, upd H1 s1.heap.objs.size (.lst xs), I1.laid (t' := s1.toks) (fun b u e => Heap.get?_push_of_some _ e) (Nat.le_refl _) ?_, rfl, q _ hf⟩
  exact ⟨z, us, 0, r, Heap.get?_push_size _ rfl⟩
end

/-! ### what a def promises -/
/-- a def's promise: the bound arguments in the parameters' order, the heap, the wanted end, the wanted exception -/
abbrev Sp := List V → Hp → VK → XK → Prop
/-- how an exception lies behind a call (file 08 gives it): the callers' frames, abstract heap and state ahead of the call, the wish, the exception, the state -/
abbrev CXT := List Env → Hp → Shared → XK → Value → Shared → Prop

/-- the state at a call -/
structure Env0 (P : Program) (w : World) (K : PySem.W.Frag) (mg : Str → Option Value) (base : Heap) (A : Around) (outer : List Env) (s : Shared) (H : Hp) : Prop where
  frames : A.frames = some outer
  mod : Mod K mg base
  bs : ∀ b o, base.get? b = some o → s.heap.get? b = some o ∧ H b = none
  bsz : base.objs.size ≤ s.heap.objs.size
  funs : s.heap.FunFrames base outer
  frf : ∀ b ∈ frs outer, H b = none
  hok : HOk P w H s.heap
  bare : AllBare s.gens
/-- a call's end -/
def CE (outer : List Env) (P : Program) (w : World) (H : Hp) (s : Shared) (Q : VK) (u : Value) (s' : Shared) : Prop :=
  ∃ v H', s'.os = s.os ∧ AllBare s'.gens ∧ Un (frs outer) [] H H' s.heap s'.heap ∧ HOk P w H' s'.heap ∧ RelV v u ∧ Q v H'
def CR (CX : CXT) (outer : List Env) (P : Program) (w : World) (H : Hp) (s : Shared) (Q : VK) (E : XK) (r : Result) (s' : Shared) : Prop :=
  match r with
  | .ok (.ret u) => CE outer P w H s Q u s'
  | .ok _ => False
  | .error e => CX outer H s E e s'
structure FnOk (P : Program) (w : World) (K : PySem.W.Frag) (mg : Str → Option Value) (base : Heap) (CX : CXT) (k : Nat) (f : Addr) (fd : FuncData) (ps : List Str) (sp : Sp) : Prop where
  len : ∀ vs H Q E, sp vs H Q E → vs.length = ps.length
  run : ∀ (A : Around) (outer : List Env) (s : Shared) (H : Hp) (args : Args) (us : List Value) (vs : List V) (Q : VK) (E : XK), Room k A → Env0 P w K mg base A outer s H → BindsTo s fd args (ps.zip us) → Vals vs us → sp vs H Q E →
    codeAny (model P w) A (.call (.ref f) args) (CR CX outer P w H s Q E) s
theorem FnOk.mono {P : Program} {w : World} {K : PySem.W.Frag} {mg : Str → Option Value} {base : Heap} {CX : CXT} {j k : Nat} {f : Addr} {fd : FuncData} {ps : List Str} {sp : Sp} (F : FnOk P w K mg base CX j f fd ps sp) (h : j ≤ k) :
    FnOk P w K mg base CX k f fd ps sp := ⟨F.len, fun A outer s H args us vs Q E hr => F.run A outer s H args us vs Q E (hr.mono h)⟩
/-- a weaker promise -/
theorem FnOk.imp {P : Program} {w : World} {K : PySem.W.Frag} {mg : Str → Option Value} {base : Heap} {CX : CXT} {k : Nat} {f : Addr} {fd : FuncData} {ps : List Str} {sp sp' : Sp} (F : FnOk P w K mg base CX k f fd ps sp)
    (h : ∀ vs H Q E, sp' vs H Q E → sp vs H Q E) : FnOk P w K mg base CX k f fd ps sp' :=
  ⟨fun vs H Q E q => F.len vs H Q E (h _ _ _ _ q), fun A outer s H args us vs Q E hr he hb hv hs => F.run A outer s H args us vs Q E hr he hb hv (h _ _ _ _ hs)⟩

theorem Env0.make {P : Program} {w : World} {K : PySem.W.Frag} {mg : Str → Option Value} {base : Heap} {A : Around} {outer : List Env} {s : Shared} {H : Hp} (e : Env0 P w K mg base A outer s H) (C : Addr) (us : List Value) (kw : List (Str × Value)) :
    Env0 P w K mg base (A.under (.builtin "type.__call__" ⟨.ref C :: us, kw⟩)) outer s H := ⟨by first | exact e.frames | (simpa [Around.under, Code.envs, Code.isFrame, pushEnvs] using e.frames), e.mod, e.bs, e.bsz, e.funs, e.frf, e.hok, e.bare⟩
theorem Env0.in1 {P : Program} {w : World} {K : PySem.W.Frag} {mg : Str → Option Value} {base : Heap} {A : Around} {outer : List Env} {s : Shared} {H : Hp} (e : Env0 P w K mg base A outer s H) :
    Env0 P w K mg base A.in1 outer s H := ⟨e.frames, e.mod, e.bs, e.bsz, e.funs, e.frf, e.hok, e.bare⟩

section
variable {X : Cx} {pins : List (Addr × Obj)} {σ : St} {H : Hp} {s s' : Shared}
/-- from a body: what a callee wants -/
theorem Inv.env0 (I : Inv X pins σ H s) : Env0 X.prog X.w X.K X.mg X.base X.A X.stack s H :=
  ⟨I.ok.frames, I.ok.mod, I.bs, Nat.le_trans I.ok.bsz I.sz, I.stack, I.stkFree, I.hok, I.bare⟩
/-- behind a call -/
theorem Inv.after {Q : VK} {u : Value} (I : Inv X pins σ H s) (h : CE X.stack X.prog X.w H s Q u s') : EP X pins σ Q u s' := by
  obtain ⟨v, H', os, bare, un, hok, r, q⟩ := h
  obtain ⟨hh, g, d, t, os'⟩ := s'
  obtain rfl : os' = s.os := os
  exact ⟨v, H', I.call (h' := hh) (g' := g) (d' := d) (t' := t) (ch := []) un hok bare (fun b z => absurd z (by simp)), r, q⟩
end

/-! ### calls -/
/-- f(..): the written arguments, then the defaults dvs; E: what is wanted of an exception -/
def tCall (sp : Sp) (dvs : List V) (E : XK) (t : TA) : TE := fun σ H Q => t σ H fun vs H1 => sp (vs ++ dvs) H1 Q E
/-- o.m(..) of an instance of the class at C -/
def tMeth (C : Addr) (m : Str) (sp : Sp) (dvs : List V) (E : XK) (ta : TE) (t : TA) : TE := fun σ H Q => ta σ H fun x H1 => ∃ a dx fs, x = .ref a ∧ H1 a = some (.ins C dx fs) ∧ fs.lookup m = none ∧
  t σ H1 fun vs H2 => sp (x :: (vs ++ dvs)) H2 Q E
/-- C(..): a new instance and its dict, then __init__ -/
def tMake (C : Addr) (sp : Sp) (dvs : List V) (E : XK) (t : TA) : TE := fun σ H Q => t σ H fun vs H1 => ∀ x dx, H1 x = none → H1 dx = none → dx ≠ x →
  sp (.ref x :: (vs ++ dvs)) (upd (upd H1 dx (.own x)) x (.ins C dx [])) (fun v H2 => v = .non ∧ Q (.ref x) H2) E

/-- how the parameters are bound: us the positional arguments, kw the keywords' values by name, ds the defaults that fill up -/
def Binds (K : PySem.W.Frag) (fd : FuncData) (ps : List Str) (ds : List Value) : Prop :=
  ∀ (s : Shared) (us : List Value), K.In s.heap → (us ++ ds).length = ps.length → BindsTo s fd ⟨us, []⟩ (ps.zip (us ++ ds))
/-- every parameter is given -/
theorem Binds.all {K : PySem.W.Frag} {fd : FuncData} {ps : List Str} (h : ∀ us : List Value, us.length = ps.length → bindArgs fd ⟨us, []⟩ = pure (ps.zip us)) : Binds K fd ps [] := fun s us _ hl => by
  rw [List.append_nil] at hl ⊢
  exact .of_eq (h us hl)

/-- an exception of a callee reaches what this body wants of exceptions -/
def Passes (CX : CXT) (X : Cx) (E : XK) : Prop := ∀ (pins : List (Addr × Obj)) (σ : St) (H : Hp) (s : Shared) (e : Value) (s' : Shared), Inv X pins σ H s → CX X.stack H s E e s' → X.xe e s'

section
variable {X : Cx} {CX : CXT} {k : Nat} {f C : Addr} {fd : FuncData} {ps : List Str} {sp : Sp} {dvs : List V} {ds : List Value} {E : XK} {x m : Str} {p pos apos : Pos} {e o : Expr} {es : List Expr} {ta : TE} {t : TA}

/-- the callee runs -/
theorem run_fn {pins : List (Addr × Obj)} {σ : St} {H : Hp} {s : Shared} {Q : VK} {us : List Value} {vs : List V} (F : FnOk X.prog X.w X.K X.mg X.base CX k f fd ps sp) (hr : Room k X.A) (hb : Binds X.K fd ps ds) (hd : Vals dvs ds) (hx : Passes CX X E)
    (I : Inv X pins σ H s) (r : Vals vs us) (h : sp (vs ++ dvs) H Q E) : wpAny (model X.prog X.w) X.A (call (.ref f) us) (EP X pins σ Q) X.xe s := by
  have r2 : Vals (vs ++ dvs) (us ++ ds) := r.append hd
  have hl : (us ++ ds).length = ps.length := by rw [← r2.length]; exact F.len _ _ _ _ h
  refine wpAny_call (codeAny_mono (F.run X.A X.stack s H ⟨us, []⟩ (us ++ ds) (vs ++ dvs) Q E hr I.env0 (hb s us I.kIn hl) r2 h) fun r s' hq => ?_)
  cases r with
  | error e => exact hx pins σ H s e s' I hq
  | ok fl =>
    cases fl with
    | ret u => exact I.after hq
    | next => exact False.elim hq
    | brk => exact False.elim hq
    | cont => exact False.elim hq

theorem pe_call (F : FnOk X.prog X.w X.K X.mg X.base CX k f fd ps sp) (hr : Room k X.A) (hg : Gl X x) (hm : X.mg x = some (.ref f)) (hk : PySem.W.keepIn X.K (.ref f) = true) (hb : Binds X.K fd ps ds) (hd : Vals dvs ds) (hx : Passes CX X E)
    (ha : PA X (e :: es) t) (hdb : (x == ("__debug__" : Str)) = false := by decide) (he : starEach (e :: es) X.env = (false, eval e X.env) :: starEach es X.env := by rfl) (hpl : (backTo pos (starEach es X.env)).any (·.1) = false := by rfl) :
    PE X (.Call (.Name x p) (e :: es) [] pos) (tCall sp dvs E t) := by
  intro pins s σ H Q I h
  refine wpAny_Call_Name_kw (ld_glob I hg hm ?_ hdb)
  refine PySem.W.callWith_K (h₀ := X.base) I.ok.mod.kin hk (thn (ha pos pins s σ H _ I h) fun us s1 ⟨vs, H1, I1, r, q⟩ => ⟨I1.kIn, ?_⟩) he hpl
  exact run_fn F hr hb hd hx I1 r q
theorem pe_call0 (F : FnOk X.prog X.w X.K X.mg X.base CX k f fd ps sp) (hr : Room k X.A) (hg : Gl X x) (hm : X.mg x = some (.ref f)) (hk : PySem.W.keepIn X.K (.ref f) = true) (hb : Binds X.K fd ps ds) (hd : Vals dvs ds) (hx : Passes CX X E)
    (hdb : (x == ("__debug__" : Str)) = false := by decide) : PE X (.Call (.Name x p) [] [] pos) (tCall sp dvs E tNil) := by
  intro pins s σ H Q I h
  refine wpAny_Call_Name_kw (ld_glob I hg hm ?_ hdb)
  exact PySem.W.callWith_K0 I.kIn hk (run_fn (us := []) F hr hb hd hx I .nil h)

/-- o.m(e, ..) -/
theorem pe_meth {pl : Sem Bool} (he : PE X o ta) (c : Cls X.K C) (hm : Meth X.K C m f) (F : FnOk X.prog X.w X.K X.mg X.base CX k f fd ps sp) (hr : Room k X.A) (hb : Binds X.K fd ps ds) (hd : Vals dvs ds) (hx : Passes CX X E) (ha : PA X (e :: es) t)
    (hst : starEach (e :: es) X.env = (false, eval e X.env) :: starEach es X.env := by rfl) (hpl : (backTo pos (starEach es X.env)).any (·.1) = false := by rfl)
    (ht : eval (.Call (.Attribute o m apos) (e :: es) [] pos) X.env = (do
      let ov ← eval o X.env
      standAt apos.atName
      let (f, first) ← holding [ov] (getMethod ov m pl)
      callWith pos f first (backTo pos (starEach (e :: es) X.env)) (backToKw pos (keywordEach [] X.env))) := by rfl) :
    PE X (.Call (.Attribute o m apos) (e :: es) [] pos) (tMeth C m sp dvs E ta t) := by
  intro pins s σ H Q I h
  refine PySem.W.methodCall_KW (pl := pl) (thn (he pins s σ H _ I h) fun u s1 ⟨x, H1, I1, rx, a, dx, fs, ex, ea, l, q⟩ => ?_) ht
  subst ex
  obtain rfl : u = Value.ref a := rx
  refine getmeth_ok I1 ea c hm l ?_
  refine PySem.W.callWith_K (first := [.ref a]) (h₀ := X.base) I.ok.mod.kin hm.kp (thn (ha pos pins s1 σ H1 _ I1 q) fun us s2 ⟨vs, H2, I2, r, q2⟩ => ⟨I2.kIn, ?_⟩) hst hpl
  exact run_fn (us := .ref a :: us) (vs := .ref a :: vs) F hr hb hd hx I2 (.cons rfl r) q2
/-- o.m() -/
theorem pe_meth0 {pl : Sem Bool} (he : PE X o ta) (c : Cls X.K C) (hm : Meth X.K C m f) (F : FnOk X.prog X.w X.K X.mg X.base CX k f fd ps sp) (hr : Room k X.A) (hb : Binds X.K fd ps ds) (hd : Vals dvs ds) (hx : Passes CX X E)
    (ht : eval (.Call (.Attribute o m apos) [] [] pos) X.env = (do
      let ov ← eval o X.env
      standAt apos.atName
      let (f, first) ← holding [ov] (getMethod ov m pl)
      callWith pos f first (backTo pos (starEach [] X.env)) (backToKw pos (keywordEach [] X.env))) := by rfl) :
    PE X (.Call (.Attribute o m apos) [] [] pos) (tMeth C m sp dvs E ta tNil) := by
  intro pins s σ H Q I h
  refine PySem.W.methodCall_KW (pl := pl) (thn (he pins s σ H _ I h) fun u s1 ⟨x, H1, I1, rx, a, dx, fs, ex, ea, l, q⟩ => ?_) ht
  subst ex
  obtain rfl : u = Value.ref a := rx
  refine getmeth_ok I1 ea c hm l ?_
  exact PySem.W.callWith_K0 (first := [.ref a]) I1.kIn hm.kp (run_fn (us := [.ref a]) (vs := [.ref a]) F hr hb hd hx I1 (.cons rfl .nil) q)

/-- what a class must have to be made -/
structure Mk (K : PySem.W.Frag) (C f : Addr) : Prop where
  makes : PySem.W.makesIn K C = true
  init : PySem.W.findIn K (.ref C) "__init__" = some (some (.ref f))
  fn : PySem.W.isFn K (.ref f) = true
  kp : PySem.W.keepIn K (.ref C) = true

theorem run_make {pins : List (Addr × Obj)} {σ : St} {H : Hp} {s : Shared} {Q : VK} {us : List Value} {vs : List V} (M : Mk X.K C f) (F : FnOk X.prog X.w X.K X.mg X.base CX k f fd ps sp) (hr : Room (k + 1) X.A) (hb : Binds X.K fd ps ds) (hd : Vals dvs ds)
    (hx : Passes CX X E) (I : Inv X pins σ H s) (r : Vals vs us)
    (h : ∀ x dx, H x = none → H dx = none → dx ≠ x → sp (.ref x :: (vs ++ dvs)) (upd (upd H dx (.own x)) x (.ins C dx [])) (fun v H2 => v = .non ∧ Q (.ref x) H2) E) :
    wpAny (model X.prog X.w) X.A (call (.ref C) us) (EP X pins σ Q) X.xe s := by
  have hq := h (s.heap.objs.size + 1) s.heap.objs.size (I.hok.fresh (Nat.le_succ _)) (I.hok.fresh (Nat.le_refl _)) (Nat.ne_of_lt (Nat.lt_succ_self _))
  have I2 := Inv.made (C := C) I
  have r2 : Vals (V.ref (s.heap.objs.size + 1) :: (vs ++ dvs)) (Value.ref (s.heap.objs.size + 1) :: (us ++ ds)) := .cons rfl (r.append hd)
  have hl : (Value.ref (s.heap.objs.size + 1) :: us ++ ds).length = ps.length := by
    have e := r2.length
    rw [F.len _ _ _ _ hq] at e
    exact e.symm
  refine wpAny_call (make_map (f := f) I.kIn M.makes M.init (beq_iff_eq.mp M.fn) (codeAny_mono (F.run _ X.stack _ _ ⟨Value.ref (s.heap.objs.size + 1) :: us, []⟩ (Value.ref (s.heap.objs.size + 1) :: (us ++ ds)) _ _ E (hr.make C us [])
    (I2.env0.make C us []) (hb _ (Value.ref (s.heap.objs.size + 1) :: us) I2.kIn hl) r2 hq) fun r s' hq' => ?_))
  cases r with
  | error e => exact hx pins σ _ _ e s' I2 hq'
  | ok fl =>
    cases fl with
    | ret u =>
      obtain ⟨v, H', I3, rv, ev, q3⟩ := I2.after hq'
      subst ev
      exact ⟨rv, ⟨V.ref (s.heap.objs.size + 1), H', I3, rfl, q3⟩⟩
    | next => exact False.elim hq'
    | brk => exact False.elim hq'
    | cont => exact False.elim hq'
theorem pe_make (M : Mk X.K C f) (F : FnOk X.prog X.w X.K X.mg X.base CX k f fd ps sp) (hr : Room (k + 1) X.A) (hg : Gl X x) (hm : X.mg x = some (.ref C)) (hb : Binds X.K fd ps ds) (hd : Vals dvs ds) (hx : Passes CX X E)
    (ha : PA X (e :: es) t) (hdb : (x == ("__debug__" : Str)) = false := by decide) (he : starEach (e :: es) X.env = (false, eval e X.env) :: starEach es X.env := by rfl) (hpl : (backTo pos (starEach es X.env)).any (·.1) = false := by rfl) :
    PE X (.Call (.Name x p) (e :: es) [] pos) (tMake C sp dvs E t) := by
  intro pins s σ H Q I h
  refine wpAny_Call_Name_kw (ld_glob I hg hm ?_ hdb)
  refine PySem.W.callWith_K (h₀ := X.base) I.ok.mod.kin M.kp (thn (ha pos pins s σ H _ I h) fun us s1 ⟨vs, H1, I1, r, q⟩ => ⟨I1.kIn, ?_⟩) he hpl
  exact run_make M F hr hb hd hx I1 r q
end

/-! ### keywords -/
/-- the values of the keywords, from the left -/
def PK (X : Cx) (kws : List Keyword) (t : TA) : Prop :=
  ∀ (pos : Pos) (pins : List (Addr × Obj)) (s : Shared) (σ : St) (H : Hp) (Q : List V → Hp → Prop), Inv X pins σ H s → t σ H Q → wpAny (model X.prog X.w) X.A (evalAll ((backToKw pos (keywordEach kws X.env)).map (·.2))) (AP X pins σ Q) X.xe s
section
variable {X : Cx} {CX : CXT} {k : Nat} {f C : Addr} {fd : FuncData} {ps ks : List Str} {sp : Sp} {E : XK} {x m : Str} {p pos apos kpos : Pos} {e o : Expr} {es : List Expr} {kws : List Keyword} {te ta : TE} {t tk : TA} {nm : Option Str}
theorem pk_nil : PK X [] tNil := fun _ _ _ _ H Q I h => wpAny_evalAll_nil ⟨[], H, I, .nil, h⟩
theorem pk_cons (ha : PE X e te) (hr : PK X kws t) : PK X (⟨nm, e, kpos⟩ :: kws) (tCons te t) := by
  intro pos pins s σ H Q I h
  show wpAny _ _ (evalAll ((do let v ← eval e X.env; standAt pos; pure v) :: (backToKw pos (keywordEach kws X.env)).map (·.2))) _ _ s
  refine wpAny_evalAll_cons (wpAny_bind (thn (ha pins s σ H _ I h) fun u s1 ⟨x, H1, I1, r1, q1⟩ => wpAny_bind (wpAny_standAt (wpAny_pure ?_))))
  exact thn (hr pos pins s1 σ H1 _ I1 q1) fun us s2 ⟨xs, H2, I2, r2, q2⟩ => ⟨x :: xs, H2, I2, .cons r1 r2, q2⟩

/-- how a call with keywords binds: g puts the positional values us and the keywords' values ws (names ks) in the parameters' order, defaults among them -/
structure KBinds (K : PySem.W.Frag) (fd : FuncData) (ps ks : List Str) (g : List Value → List Value → List Value) (gV : List V → List V → List V) : Prop where
  to : ∀ (s : Shared) (us ws : List Value), K.In s.heap → (g us ws).length = ps.length → BindsTo s fd ⟨us, ks.zip ws⟩ (ps.zip (g us ws))
  rel : ∀ {vs : List V} {us : List Value} {zs : List V} {ws : List Value}, Vals vs us → Vals zs ws → Vals (gV vs zs) (g us ws)
variable {g : List Value → List Value → List Value} {gV : List V → List V → List V}
end

/-! ### a def's body keeps its promise -/
/-- names: the parameters first -/
structure FnScope (N P : List Str) (sc : Scope) : Prop where
  kind : sc.kind = .function
  co : sc.isCoroutine = false
  gen : sc.isGenerator = false
  nd : N.Nodup
  pre : N.take P.length = P
  par : ∀ x ∈ P, sc.names.lookup x = some .local ∨ sc.names.lookup x = some .cell
  nofree : ∀ y ∈ sc.names, y.2 ≠ .free

theorem bindL_out {kindOf : Str → Option NameKind} {x : Str} : ∀ {binds : List (Str × Value)} {m : Str → Option Value}, (∀ v, (x, v) ∉ binds) → bindL kindOf binds m x = m x
  | [], _, _ => rfl
  | (n, v) :: r, m, h => by
    unfold bindL
    rw [bindL_out fun w hw => h w (List.mem_cons_of_mem _ hw)]
    split
    · have : x ≠ n := by rintro rfl; exact h v List.mem_cons_self
      simp [this]
    · rfl
theorem bindC_out {kindOf : Str → Option NameKind} {x : Str} : ∀ {binds : List (Str × Value)} {m : Str → Option Value}, (∀ v, (x, v) ∉ binds) → bindC kindOf binds m x = m x
  | [], _, _ => rfl
  | (n, v) :: r, m, h => by
    unfold bindC
    rw [bindC_out fun w hw => h w (List.mem_cons_of_mem _ hw)]
    split
    · rfl
    · have : x ≠ n := by rintro rfl; exact h v List.mem_cons_self
      simp [this]
theorem bindL_get {kindOf : Str → Option NameKind} {x : Str} {v : Value} : ∀ {P : List Str} {vs : List Value} {i : Nat} {m : Str → Option Value}, P.Nodup → P[i]? = some x → vs[i]? = some v → kindOf x = some .local →
    bindL kindOf (P.zip vs) m x = some v
  | [], _, _, _, _, h, _, _ => by simp at h
  | _ :: _, [], _, _, _, _, h, _ => by simp at h
  | p :: P, w :: vs, 0, m, nd, h1, h2, hk => by
    simp at h1 h2; subst h1; subst h2
    show bindL kindOf ((p, w) :: P.zip vs) m p = _
    unfold bindL
    rw [bindL_out fun v hv => (List.nodup_cons.mp nd).1 (List.of_mem_zip hv).1, if_pos hk]
    simp
  | p :: P, w :: vs, i + 1, m, nd, h1, h2, hk => by
    show bindL kindOf ((p, w) :: P.zip vs) m x = _
    unfold bindL
    exact bindL_get (i := i) (List.nodup_cons.mp nd).2 (by simpa using h1) (by simpa using h2) hk
theorem bindC_get {kindOf : Str → Option NameKind} {x : Str} {v : Value} : ∀ {P : List Str} {vs : List Value} {i : Nat} {m : Str → Option Value}, P.Nodup → P[i]? = some x → vs[i]? = some v → kindOf x ≠ some .local →
    bindC kindOf (P.zip vs) m x = some v
  | [], _, _, _, _, h, _, _ => by simp at h
  | _ :: _, [], _, _, _, _, h, _ => by simp at h
  | p :: P, w :: vs, 0, m, nd, h1, h2, hk => by
    simp at h1 h2; subst h1; subst h2
    show bindC kindOf ((p, w) :: P.zip vs) m p = _
    unfold bindC
    rw [bindC_out fun v hv => (List.nodup_cons.mp nd).1 (List.of_mem_zip hv).1, if_neg hk]
    simp
  | p :: P, w :: vs, i + 1, m, nd, h1, h2, hk => by
    show bindC kindOf ((p, w) :: P.zip vs) m x = _
    unfold bindC
    exact bindC_get (i := i) (List.nodup_cons.mp nd).2 (by simpa using h1) (by simpa using h2) hk

/-- the names' values at the entry -/
def start (N : List Str) (vs : List V) : St := vs.map some ++ List.replicate (N.length - vs.length) none

/-- the context of a def's body, at its entry; an exception leaves the frame, then lies as CX says -/
def cxOf (CX : CXT) (P : Program) (w : World) (K : PySem.W.Frag) (mg : Str → Option Value) (base : Heap) (N : List Str) (qual : Str) (scope : Scope) (f : Addr) (cd : Value) (A : Around) (outer : List Env) (s : Shared) (H : Hp) (E : XK) : Cx where
  prog := P
  w := w
  K := K
  mg := mg
  base := base
  A := A.deeper (envOfC qual scope s.heap.objs.size f cd)
  N := N
  s₀ := s
  H₀ := H
  env := envOfC qual scope s.heap.objs.size f cd
  outer := outer
  stack := envOfC qual scope s.heap.objs.size f cd :: outer
  ex := []
  calm := true
  fn := fun _ => true
  pn := []
  xe := fun e s' => wpAny (model P w) (A.deeper (envOfC qual scope s.heap.objs.size f cd)) (leaving (envOfC qual scope s.heap.objs.size f cd) e) (fun _ s'' => CX outer H s E e s'') (fun e' s'' => CX outer H s E e' s'') s'

theorem cell_has {sc : Scope} {n : Nat} {x : Str} (h : sc.names.lookup x = some .cell) : ∃ c, (cellsFrom n sc.names []).lookup x = some c := by
  have q := PySem.W.cellsFrom_some sc.names n [] (.inl h)
  exact Option.isSome_iff_exists.mp q

theorem inv_start {CX : CXT} {P : Program} {w : World} {K : PySem.W.Frag} {mg : Str → Option Value} {base : Heap} {N ps : List Str} {qual : Str} {scope : Scope} {f : Addr} {cd : Value} {A : Around} {outer : List Env} {s s1 : Shared} {H : Hp} {E : XK} {us : List Value} {vs : List V}
    (S : FnScope N ps scope) (hd : A.handled = none) (e0 : Env0 P w K mg base A outer s H) (hl : vs.length = ps.length) (r : Vals vs us)
    (x : InCallC s s.heap.objs.size (bindL (envOfC qual scope s.heap.objs.size f cd).kindOf (ps.zip us) fun _ => none) (cellsFrom (s.heap.objs.size + 1) scope.names []) (bindC (envOfC qual scope s.heap.objs.size f cd).kindOf (ps.zip us) fun _ => none) s1) :
    Inv (cxOf CX P w K mg base N qual scope f cd A outer s H E) [] (start N vs) H s1 := by
  have hpl : ps.length ≤ N.length := by have := congrArg List.length S.pre; rw [List.length_take] at this; omega
  obtain ⟨h1, tk, rfl, hk⟩ := x.done
  have noA : ∀ b : Addr, b ∉ (cxOf CX P w K mg base N qual scope f cd A outer s H E).ex := fun b z => absurd (show b ∈ ([] : List Addr) from z) (by simp)
  refine ⟨⟨e0.mod, S.kind, rfl, rfl, Nat.le_refl _, fun y z c h1 h2 => ?_, fun y hy => ?_, fun y c _ h => ?_, fun _ => hd, Around.frames_deeper e0.frames, .inr ⟨rfl, rfl⟩, fun b z => absurd z (noA b), e0.bs, e0.bsz, fun b _ _ => noA b, fun b z => absurd z (noA b), e0.funs, e0.frf⟩,
    rfl, e0.bare, Un.kept hk, ⟨_, x.toInCall.ns, fun i y v h1 h2 h3 => ?_⟩, fun y c h => ⟨_, x.cell y c h⟩, e0.hok.fresh (Nat.le_refl _), fun y c h => ?_, fun p hp => absurd (show p ∈ ([] : List (Addr × Obj)) from hp) (by simp), e0.hok.kept hk, ?_⟩
  · exact name_of_addr x.apart (PySem.mem_of_lookup h1) (PySem.mem_of_lookup h2)
  · have hy : scope.names.lookup y = some .cell ∨ scope.names.lookup y = some .free := hy
    rcases hy with hy | hy
    · exact cell_has hy
    · exact absurd rfl (S.nofree _ (PySem.mem_of_lookup hy))
  · exact Nat.le_of_lt (x.above y c (PySem.mem_of_lookup h))
  · have hi : i < vs.length := by
      unfold start at h2
      by_cases hi : i < vs.length
      · exact hi
      · rw [List.getElem?_append_right (by simpa using hi)] at h2
        rw [List.getElem?_replicate] at h2
        split at h2 <;> cases h2
    have ha : vs[i]? = some v := by
      unfold start at h2
      rw [List.getElem?_append_left (by simpa using hi), List.getElem?_map] at h2
      cases e : vs[i]? with
      | none => rw [e] at h2; cases h2
      | some a => rw [e] at h2; cases h2; rfl
    obtain ⟨u, hu, rv⟩ := r.get ha
    have hp : ps[i]? = some y := by
      rw [← S.pre, List.getElem?_take_of_lt (by omega)]; exact h1
    have ndP : ps.Nodup := by rw [← S.pre]; exact S.nd.sublist (List.take_sublist _ _)
    refine ⟨u, rv, ?_⟩
    rcases S.par y (List.mem_of_getElem? hp) with k | k
    · exact .inl ⟨k, bindL_get ndP hp hu k⟩
    · obtain ⟨c, e⟩ := cell_has (n := s.heap.objs.size + 1) k
      refine .inr ⟨.inl k, c, e, ?_⟩
      have q := x.cell y c e
      rw [bindC_get ndP hp hu (by show scope.names.lookup y ≠ _; rw [k]; decide)] at q
      exact q
  · exact e0.hok.fresh (Nat.le_of_lt (x.above y c (PySem.mem_of_lookup h)))
  · unfold start
    show _ = N.length
    rw [List.length_append, List.length_map, List.length_replicate]
    omega

/-- THE RULE: a def (or a method) of the text, by its body. The body's reading t is chosen for each entry; it is run at the parameters' values -/
theorem fn_of {CX : CXT} {P : Program} {w : World} {K : PySem.W.Frag} {mg : Str → Option Value} {base : Heap} {k : Nat} {f : Addr} {name qual : Str} {params : Arguments} {body : List Stmt} {scope : Scope} {dV kV doc pm cdv ct oc : Value} {an od : Option Addr}
    {osl : Array (Option Value)} {N ps : List Str} {sp : Sp} (lk : K.lookup f = some ⟨oc, od, .func (PySem.W.fnOf name qual params body scope dV kV doc pm an cdv ct), osl⟩) (hcd : PySem.W.codeIn K cdv qual = true) (S : FnScope N ps scope)
    (len : ∀ vs H Q E, sp vs H Q E → vs.length = ps.length)
    (hbody : ∀ (A : Around) (outer : List Env) (s : Shared) (H : Hp) (vs : List V) (Q : VK) (E : XK), Room k (A.deeper (envOfC qual scope s.heap.objs.size f cdv)) → sp vs H Q E →
      ∃ t, PSs (cxOf CX P w K mg base N qual scope f cdv A outer s H E) body t ∧ t { nx := fun _ H' => Q .non H', rt := Q } (start N vs) H) :
    FnOk P w K mg base CX (k + 1) f (PySem.W.fnOf name qual params body scope dV kV doc pm an cdv ct) ps sp := by
  refine ⟨len, fun A outer s H args us vs Q E hr e0 hb r hsp => ?_⟩
  have hl := len _ _ _ _ hsp
  have KX : K.In s.heap := e0.mod.kin.keeps fun b o e => (e0.bs b o e).1
  have lim : s.heap.NoLimit := e0.mod.nolimit.keeps fun b o e => (e0.bs b o e).1
  have hkind : ∀ y ∈ ps.zip us, scope.names.lookup y.1 = some .local ∨ (scope.names.lookup y.1 = some .cell ∧ ((cellsFrom (s.heap.objs.size + 1) scope.names []).lookup y.1).isSome = true) := fun ⟨n, v⟩ hy => by
    rcases S.par n (List.of_mem_zip hy).1 with q | q
    · exact .inl q
    · exact .inr ⟨q, PySem.W.cellsFrom_some _ _ _ (.inl q)⟩
  refine codeAny_call_function hr.depth (KX _ _ lk) rfl S.co S.gen rfl (PySem.W.codeRec_of KX hcd) (hb _ _ _ _ ?_)
  refine wpAny_newFunctionEnv_cells S.kind hkind fun env he s1 x => ?_
  subst he
  refine ⟨lim.keeps x.toInCall.keep, codeAny_func ?_⟩
  obtain ⟨t, ht, hq⟩ := hbody A outer s H vs Q E (hr.deeper _) hsp
  have I : Inv (cxOf CX P w K mg base N qual scope f cdv A outer s H E) [] (start N vs) H s1 := inv_start S hr.hd e0 hl r x
  refine wpAny_mono (ht [] s1 (start N vs) H _ I hq) (fun fl s' hs => ?_) fun e s' hs => hs
  have fin : ∀ {σ' : St} {H' : Hp} {v : V} {u : Value}, Inv (cxOf CX P w K mg base N qual scope f cdv A outer s H E) [] σ' H' s' → RelV v u → Q v H' → CE outer P w H s Q u s' :=
    fun {σ' H' v u} J rv q => ⟨v, H', J.os, J.bare, J.base, J.hok, rv, q⟩
  cases fl with
  | ret u =>
    obtain ⟨v, σ', H', J, rv, q⟩ := hs
    exact fin J rv q
  | next =>
    obtain ⟨σ', H', J, q⟩ := hs
    exact fin (v := V.non) (u := Value.none) J rfl q
  | brk =>
    obtain ⟨_, _, _, q⟩ := hs
    exact False.elim q
  | cont =>
    obtain ⟨_, _, _, q⟩ := hs
    exact False.elim q
end L2

namespace L2
open PySem PySem.Spec PyProof.Rows
section
variable {X : Cx} {x : Str} {p pos : Pos} {e : Expr} {es : List Expr} {t : TA} {id T : String} {r : List V → Hp → VK → Prop}

def tCB (r : List V → Hp → VK → Prop) (t : TA) : TE := fun σ H Q => t σ H fun vs H1 => r vs H1 Q
/-- f(e, ..), f a built-in function -/
theorem pe_callB (hc : CallR X (.builtin id) r) (hg : Gl X x) (hm : X.mg x = none) (hv : bootBuiltins x = some (.builtin id)) (ha : PA X (e :: es) t) (hn : x ≠ "__name__" := by decide) (hdb : (x == ("__debug__" : Str)) = false := by decide)
    (he : starEach (e :: es) X.env = (false, eval e X.env) :: starEach es X.env := by rfl) (hpl : (backTo pos (starEach es X.env)).any (·.1) = false := by rfl) : PE X (.Call (.Name x p) (e :: es) [] pos) (tCB r t) := by
  intro pins s σ H Q I h
  refine wpAny_Call_Name_kw (ld_blt I hg hm hv ?_ hn hdb)
  exact PyProof.Rows.callWith_builtin1 (thn (ha pos pins s σ H _ I h) fun us s1 ⟨vs, H1, I1, r1, q1⟩ => hc pins s1 σ H1 vs us Q I1 r1 q1) he hpl
/-- T(e, ..), T a built-in type -/
theorem pe_callTy (hc : CallR X (.type T) r) (hg : Gl X x) (hm : X.mg x = none) (hv : bootBuiltins x = some (.type T)) (ha : PA X (e :: es) t) (hn : x ≠ "__name__" := by decide) (hdb : (x == ("__debug__" : Str)) = false := by decide)
    (he : starEach (e :: es) X.env = (false, eval e X.env) :: starEach es X.env := by rfl) (hpl : (backTo pos (starEach es X.env)).any (·.1) = false := by rfl) : PE X (.Call (.Name x p) (e :: es) [] pos) (tCB r t) := by
  intro pins s σ H Q I h
  refine wpAny_Call_Name_kw (ld_blt I hg hm hv ?_ hn hdb)
  exact PyProof.Rows.callWith_type1 (thn (ha pos pins s σ H _ I h) fun us s1 ⟨vs, H1, I1, r1, q1⟩ => hc pins s1 σ H1 vs us Q I1 r1 q1) he hpl
end
end L2

namespace HT
open PySem PyProof.Rows

section
open PySem.SeqAt
open PySem.AutoSeq1 (wpAny_loadPart')
open PySem.MeetsSeq PySem.MeetsSeq2 PySem.MeetsSeq3

end

section
variable {prog : Program} {w : World} {A : Around} {E : Value → Shared → Prop} {s : Shared}

/-- t + u, t not empty -/
theorem cat_tup {t b : Addr} {vs ws : List Value} {Q : Value → Shared → Prop} (ht : IsTup s.heap t vs.toArray) (hb : IsTup s.heap b ws.toArray) (hv : vs ≠ [])
    (h1 : ws = [] → Q (.ref t) s) (h2 : ws ≠ [] → Q (.ref s.heap.objs.size) { s with heap := s.heap.push { cls := .type "tuple", data := .seq (vs ++ ws).toArray } })
    (hsz : vs.length + ws.length ≤ sizeLine) : wpAny (model prog w) A (binaryOp .Add (.ref t) (.ref b)) Q E s := by
  obtain ⟨⟨cls, dd, data, sl⟩, ho, hc, n, hd⟩ := id ht
  obtain ⟨⟨cls2, dd2, data2, sl2⟩, ho2, hc2, n2, hd2⟩ := id hb
  simp only at hc hd hc2 hd2
  subst hc hd hc2 hd2
  have e : vs.toArray ++ ws.toArray = (vs ++ ws).toArray := by simp
  by_cases hw : ws = []
  · exact concat_meets ⟨_, ho, rfl⟩ ⟨_, ho2, rfl⟩ noFill_tuple_add seq_tuple_add PySem.F.slot_tuple_add PySem.F.entry_tuple_add (PySem.F.args_tuple_add_2 _ _)
      (tuple_addW1 t b vs.toArray ws.toArray n n2 dd dd2 sl sl2 (by simpa using hv) (by simp [hw])) ⟨ho, ho2, h1 hw⟩
  · refine concat_meets ⟨_, ho, rfl⟩ ⟨_, ho2, rfl⟩ noFill_tuple_add seq_tuple_add PySem.F.slot_tuple_add PySem.F.entry_tuple_add (PySem.F.args_tuple_add_2 _ _)
      (tuple_addW2 t b vs.toArray ws.toArray n n2 dd dd2 sl sl2 (by simpa using hv) (by simpa using hw) (by rw [List.size_toArray, List.size_toArray]; exact hsz)) ⟨ho, ho2, ?_⟩
    rw [e]
    exact h2 hw

/-! ### t[a:b], not the whole -/
/-- a slice's bound as a place among n (d where it is left out) -/
def sIx (n d : Nat) : Option Int → Nat
  | none => d
  | some v => if v < 0 then (v + (n : Int)).toNat else min v.toNat n
theorem sIx_none (n d : Nat) : sIx n d none = d := rfl
theorem sIx_nat (n d k : Nat) : sIx n d (some (k : Int)) = min k n := by
  show (if (k : Int) < 0 then ((k : Int) + (n : Int)).toNat else min (k : Int).toNat n) = min k n
  rw [if_neg (by omega), Int.toNat_natCast]
theorem sIx_le (n d : Nat) (hd : d ≤ n) (o : Option Int) : sIx n d o ≤ n := by
  cases o with
  | none => exact hd
  | some v =>
    show (if v < 0 then (v + (n : Int)).toNat else min v.toNat n) ≤ n
    by_cases hv : v < 0
    · rw [if_pos hv]; omega
    · rw [if_neg hv]; exact Nat.min_le_right _ _
theorem clip_eq (v : Int) (n d : Nat) : (if v < 0 then max (v + (n : Int)) 0 else min v (n : Int)) = ((sIx n d (some v) : Nat) : Int) := by
  show (if v < 0 then max (v + (n : Int)) 0 else min v (n : Int)) = (((if v < 0 then (v + (n : Int)).toNat else min v.toNat n) : Nat) : Int)
  by_cases hv : v < 0
  · simp only [if_pos hv]; omega
  · simp only [if_neg hv]; omega
theorem adjust_gen (lo hi : Option Int) (n : Nat) : Builtin.Slice.sliceAdjust lo hi 1 (n : Int) = (((sIx n 0 lo : Nat) : Int), ((sIx n n hi : Nat) : Int)) := by
  have h1 : ¬ ((1 : Int) < 0) := by omega
  unfold Builtin.Slice.sliceAdjust
  simp only [h1, if_false]
  refine Prod.ext ?_ ?_
  · cases lo with
    | none => rfl
    | some v => exact clip_eq v n 0
  · cases hi with
    | none => rfl
    | some v => exact clip_eq v n n
theorem places_gen (i j : Nat) : Builtin.Slice.slicePlaces (i : Int) (j : Int) 1 = j - i := by
  unfold Builtin.Slice.slicePlaces
  have h1 : (1 : Int) > 0 := by omega
  simp only [h1, if_true, Int.ediv_one]
  split <;> omega
theorem slicePart_ {v : Value} {o : Option Int} {Q : Option Int → Shared → Prop} (p : IsPart v o) (h : Q o s) : wpAny (model prog w) A (Builtin.Slice.slicePartIndex v) Q E s := by
  cases p with
  | none => exact slicePart_none h
  | int i t => exact slicePart_int h
theorem sliceApplied_gen {sl : Addr} {vl vu : Value} {lo hi : Option Int} {n : Nat} {Q : Int × Int × Nat → Shared → Prop} (hs : s.heap.IsSliceOf sl vl vu .none) (pl : IsPart vl lo) (pu : IsPart vu hi)
    (h : Q (((sIx n 0 lo : Nat) : Int), 1, sIx n n hi - sIx n 0 lo) s) : wpAny (model prog w) A (Builtin.Slice.sliceApplied (.ref sl) (pure (n : Int))) Q E s := by
  obtain ⟨os, hos, hcs, hds⟩ := id hs
  unfold Builtin.Slice.sliceApplied Builtin.Slice.sliceFields
  refine wpAny_bind (wpAny_bind (wpAny_field hos hds (x := vl) rfl (wpAny_bind (wpAny_field hos hds (x := vu) rfl (wpAny_bind (wpAny_field hos hds (x := .none) rfl (wpAny_pure ?_)))))))
  refine wpAny_bind (slicePart_none ?_)
  show wpAny _ _ (if ((1 : Int) == 0) = true then _ else _) _ _ s
  rw [if_neg (by decide)]
  refine wpAny_bind (slicePart_ pl (wpAny_bind (slicePart_ pu (wpAny_bind (wpAny_pure ?_)))))
  show wpAny _ _ (match Builtin.Slice.sliceAdjust lo hi 1 (n : Int) with | (lo, hi) => pure (lo, (1 : Int), Builtin.Slice.slicePlaces lo hi 1)) _ _ s
  rw [adjust_gen lo hi n]
  show wpAny _ _ (pure (((sIx n 0 lo : Nat) : Int), (1 : Int), Builtin.Slice.slicePlaces ((sIx n 0 lo : Nat) : Int) ((sIx n n hi : Nat) : Int) 1)) _ _ s
  rw [places_gen]
  exact wpAny_pure h
theorem pick_gen (xs : Array Value) (i k : Nat) : ((List.range k).filterMap fun (m : Nat) => xs[((i : Int) + (m : Int) * 1).toNat]?).toArray = ((xs.toList.drop i).take k).toArray := by
  have e : (fun (m : Nat) => xs[((i : Int) + (m : Int) * 1).toNat]?) = fun m => xs[i + m]? := by
    funext m
    have : ((i : Int) + (m : Int) * 1).toNat = i + m := by omega
    rw [this]
  rw [e]
  have := pick_run xs i k
  rw [List.filterMap_map] at this
  have e2 : ((fun x => xs[x]?) ∘ fun x => i + x) = fun m => xs[i + m]? := rfl
  rw [e2] at this
  rw [this]

theorem getItem_tuple_cut {t sl : Addr} {items : Array Value} {vl vu : Value} {lo hi : Option Int} {Q : Value → Shared → Prop} (ht : IsTup s.heap t items) (hs : s.heap.IsSliceOf sl vl vu .none) (pl : IsPart vl lo) (pu : IsPart vu hi)
    (hw : ¬ (sIx items.size 0 lo = 0 ∧ sIx items.size items.size hi = items.size))
    (h : Q (.ref s.heap.objs.size) { s with heap := s.heap.push { cls := .type "tuple", data := .seq ((items.toList.drop (sIx items.size 0 lo)).take (sIx items.size items.size hi - sIx items.size 0 lo)).toArray } })
    (hsz : items.size ≤ sizeLine) : wpAny (model prog w) A (getItem (.ref t) (.ref sl)) Q E s := by
  have htake : sizeOk (.seq ((items.toList.drop (sIx items.size 0 lo)).take (sIx items.size items.size hi - sIx items.size 0 lo)).toArray) := by
    show ((items.toList.drop (sIx items.size 0 lo)).take (sIx items.size items.size hi - sIx items.size 0 lo)).toArray.size ≤ sizeLine
    rw [List.size_toArray, List.length_take, List.length_drop, Array.length_toList]
    omega
  have hj : sIx items.size items.size hi ≤ items.size := sIx_le _ _ (Nat.le_refl _) hi
  obtain ⟨os, hos, hcs, hds⟩ := id hs
  have hTs : s.TypeIs (.ref sl) "slice" := ⟨os, hos, hcs⟩
  unfold getItem
  try with_reducible refine wpAny_holding ?_
  first | refine wpAny_bind (wpAny_pure ?_) | skip
  refine wpAny_bind (wpAny_sequenceKey ht.typeIs (by decide) ?_)
  refine wpAny_bind (wpAny_callSpecial?_slot (name := Str.ofString "__getitem__") ht.typeIs PyProof.Rows.slot_tuple_getitem
    (wpAny_call_entry PyProof.Rows.slot_tuple_getitem ht.typeIs entry_tuple_getitem ?_ (args_tuple_getitem _ _)))
  show wpAny _ _ (Builtin.Tuple.tupleItemsOf (.ref t) >>= _) _ _ s
  refine wpAny_bind (tupleItemsOf_ ht ?_)
  refine wpAny_bind (wpAny_typeOf hTs ?_)
  rw [if_pos (by decide)]
  refine wpAny_bind (sliceApplied_gen hs pl pu ?_)
  have hno : ¬ ((((sIx items.size 0 lo : Nat) : Int) == 0 && (1 : Int) == 1 && (sIx items.size items.size hi - sIx items.size 0 lo) == items.size) = true) := by
    intro q
    rw [Bool.and_eq_true, Bool.and_eq_true] at q
    have q1 : ((sIx items.size 0 lo : Nat) : Int) = 0 := eq_of_beq q.1.1
    have q2 : sIx items.size items.size hi - sIx items.size 0 lo = items.size := eq_of_beq q.2
    exact hw ⟨by omega, by omega⟩
  show wpAny _ _ (if (((sIx items.size 0 lo : Nat) : Int) == 0 && (1 : Int) == 1 && (sIx items.size items.size hi - sIx items.size 0 lo) == items.size) = true then _ else _) _ _ s
  rw [if_neg hno, pick_gen]
  first
    | exact wpAny_bind (m := Builtin.Tuple.tupleExact _) (wpAny_newObj_type (wpAny_pure ⟨_, rfl, wpAny_pure h⟩) htake)
    | exact wpAny_bind (m := Builtin.Tuple.tupleExact _) (wpAny_newObj_type (wpAny_bind (wpAny_pure (wpAny_pure ⟨_, rfl, wpAny_pure h⟩))) htake)
    | exact wpAny_bind (wpAny_bind (m := Builtin.Tuple.tupleExact _) (wpAny_newObj_type (wpAny_pure (wpAny_pure ⟨_, rfl, wpAny_pure h⟩)) htake))
    | exact wpAny_bind (wpAny_bind (m := Builtin.Tuple.tupleExact _) (wpAny_newObj_type (wpAny_pure ⟨_, rfl, wpAny_pure h⟩) htake))
end
end HT

namespace L2
open PySem PySem.Spec PyProof.Rows

/-! ### the parts of a slice -/
abbrev TO := St → Hp → (Option Int → Hp → Prop) → Prop
/-- a slice's part (left out, or an int) -/
def PO (X : Cx) (e : Option Expr) (t : TO) : Prop :=
  ∀ (pins : List (Addr × Obj)) (s : Shared) (σ : St) (H : Hp) (Q : Option Int → Hp → Prop), Inv X pins σ H s → t σ H Q →
    wpAny (model X.prog X.w) X.A (evalPart e X.env) (fun u s' => ∃ o H', Inv X pins σ H' s' ∧ IsPart u o ∧ Q o H') X.xe s
def tNoPart : TO := fun _ H Q => Q none H
def tPart (t : TE) : TO := fun σ H Q => t σ H fun x H1 => ∃ i, x = .int i ∧ Q (some i) H1

section
variable {X : Cx} {e : Expr} {te : TE} {lo hi : Option Expr} {tl th : TO} {pos p2 : Pos}

theorem po_none : PO X none tNoPart := by
  intro pins s σ H Q I h
  rw [evalPart_none]
  exact wpAny_pure ⟨none, H, I, .none, h⟩
theorem po_some (h : PE X e te) : PO X (some e) (tPart te) := by
  intro pins s σ H Q I hw
  rw [evalPart_some]
  refine thn (h pins s σ H _ I hw) fun u s1 ⟨x, H1, I1, r1, q1⟩ => ?_
  obtain ⟨i, rfl, q⟩ := q1
  obtain ⟨t, rfl⟩ := r1
  exact ⟨some i, H1, I1, .int i t, q⟩

/-- what a slice of a value is, by values: the slice object stands at sl -/
def SlR (X : Cx) (r : V → Option Int → Option Int → Hp → VK → Prop) : Prop :=
  ∀ (pins : List (Addr × Obj)) (s : Shared) (σ : St) (H : Hp) (x : V) (v vl vu : Value) (lo hi : Option Int) (sl : Addr) (Q : VK), Inv X pins σ H s → RelV x v → s.heap.IsSliceOf sl vl vu .none → IsPart vl lo → IsPart vu hi → r x lo hi H Q →
    ∃ T id, typeLookup (.type T) "__getitem__" = pure (some (.builtin id)) ∧ s.TypeIs v T ∧ wpAny (model X.prog X.w) X.A (getItem v (.ref sl)) (EP X pins σ Q) X.xe s
theorem SlR.or {r r' : V → Option Int → Option Int → Hp → VK → Prop} (h : SlR X r) (h' : SlR X r') : SlR X (fun x lo hi H Q => r x lo hi H Q ∨ r' x lo hi H Q) := by
  intro pins s σ H x v vl vu lo hi sl Q I rx hs pl pu q
  rcases q with q | q
  · exact h pins s σ H x v vl vu lo hi sl Q I rx hs pl pu q
  · exact h' pins s σ H x v vl vu lo hi sl Q I rx hs pl pu q
def tSl (r : V → Option Int → Option Int → Hp → VK → Prop) (te : TE) (tl th : TO) : TE := fun σ H Q => te σ H fun x H1 => tl σ H1 fun l H2 => th σ H2 fun u H3 => r x l u H3 Q
/-- a[lo:hi], any a -/
theorem pe_slice {r : V → Option Int → Option Int → Hp → VK → Prop} (hr : SlR X r) (he : PE X e te) (hl : PO X lo tl) (hu : PO X hi th) : PE X (.Subscript e (.Slice lo hi none p2) pos) (tSl r te tl th) := by
  intro pins s σ H Q I h
  refine Subscript_ (thn (he pins s σ H _ I h) fun v s1 ⟨x, H1, I1, r1, q1⟩ => ?_)
  refine wpAny_Slice (thn (hl pins s1 σ H1 _ I1 q1) fun vl s2 ⟨l, H2, I2, pl, q2⟩ => thn (hu pins s2 σ H2 _ I2 q2) fun vu s3 ⟨u, H3, I3, pu, q3⟩ => ?_)
  rw [evalPart_none]
  refine wpAny_pure ?_
  have I4 : Inv X pins σ H3 { s3 with heap := s3.heap.push { cls := .type "slice", data := .fields #[vl, vu, .none] } } := I3.kept (t' := s3.toks) fun b ob q => Heap.get?_push_of_some _ q
  obtain ⟨T, id, hT, ht, hg⟩ := hr pins { s3 with heap := s3.heap.push { cls := .type "slice", data := .fields #[vl, vu, .none] } } σ H3 x v vl vu l u s3.heap.objs.size Q I4 r1 (Heap.IsSliceOf.new ..) pl pu q3
  show wpAny (model X.prog X.w) X.A (subscriptTail e (.Slice lo hi none p2) v (.ref s3.heap.objs.size)) (EP X pins σ Q) X.xe { s3 with heap := s3.heap.push { cls := .type "slice", data := .fields #[vl, vu, .none] } }
  exact tail_any (ops := [.ref s3.heap.objs.size, v]) ht hT hg (by with_unfolding_all rfl)

/-- the items of xs[lo:hi] -/
def cutV (xs : List V) (lo hi : Option Int) : List V := (xs.drop (HT.sIx xs.length 0 lo)).take (HT.sIx xs.length xs.length hi - HT.sIx xs.length 0 lo)
theorem cutV_length (xs : List V) (lo hi : Option Int) : (cutV xs lo hi).length ≤ xs.length := by
  unfold cutV
  rw [List.length_take, List.length_drop]
  omega
/-- t[lo:hi], not the whole of it (the whole would be t itself) -/
def rSlT (K : PySem.W.Frag) : V → Option Int → Option Int → Hp → VK → Prop := fun x lo hi H Q => ∃ a xs, x = .ref a ∧ SqT K H a xs ∧
  ¬ (HT.sIx xs.length 0 lo = 0 ∧ HT.sIx xs.length xs.length hi = xs.length) ∧ ∀ p, H p = none → Q (.ref p) (upd H p (.tup (cutV xs lo hi)))
theorem sl_tup : SlR X (rSlT X.K) := by
  intro pins s σ H x v vl vu lo hi sl Q I rx hs pl pu h
  obtain ⟨a, xs, rfl, hx, hw, q⟩ := h
  cases rx
  obtain ⟨its, r, ht, hz⟩ := I.tuple hx
  have hlen : its.toArray.size = xs.length := by rw [List.size_toArray]; exact r.length.symm
  refine ⟨"tuple", _, PyProof.Rows.slot_tuple_getitem.lookup, ht.typeIs, ?_⟩
  refine HT.getItem_tuple_cut ht hs pl pu (by rw [hlen]; exact hw) ?_ (by rw [hlen]; exact hz)
  rw [hlen]
  refine ⟨.ref s.heap.objs.size, _, I.laid (t' := s.toks) (o := .tup (cutV xs lo hi)) (fun b ob q => Heap.get?_push_of_some _ q) (Nat.le_refl _) ?_, rfl, q _ (I.hok.fresh (Nat.le_refl _))⟩
  exact ⟨Nat.le_trans (cutV_length xs lo hi) hz, _, (r.drop (HT.sIx xs.length 0 lo)).take (HT.sIx xs.length xs.length hi - HT.sIx xs.length 0 lo), IsTup.new _ _⟩

/-! ### t < u, t + u -/
/-- t + u, t not empty: u empty gives t itself -/
def rCatT (K : PySem.W.Frag) : R2 := fun x y H Q => ∃ a b xs ys, x = .ref a ∧ y = .ref b ∧ SqT K H a xs ∧ SqT K H b ys ∧ xs ≠ [] ∧ xs.length + ys.length ≤ sizeLine ∧
  (ys = [] → Q (.ref a) H) ∧ (ys ≠ [] → ∀ p, H p = none → Q (.ref p) (upd H p (.tup (xs ++ ys))))
theorem Vals.nil_iff {xs : List V} {us : List Value} (r : Vals xs us) : us = [] ↔ xs = [] := by
  cases r with
  | nil => simp
  | cons _ _ => simp
theorem op_catT : OpR X (binaryOp .Add) (rCatT X.K) := by
  intro pins s σ H x y v u Q I rx ry h
  obtain ⟨a, b, xs, ys, rfl, rfl, ha, hb, hx, hz, q1, q2⟩ := h
  cases rx
  cases ry
  obtain ⟨its, r1, p1, _⟩ := I.tuple ha
  obtain ⟨its2, r2, p2, _⟩ := I.tuple hb
  refine HT.cat_tup p1 p2 (fun z => hx (r1.nil_iff.mp z)) (fun z => ⟨.ref a, H, I, rfl, q1 (r2.nil_iff.mp z)⟩) (fun z => ?_) (by rw [← r1.length, ← r2.length]; exact hz)
  refine ⟨.ref s.heap.objs.size, _, I.laid (t' := s.toks) (o := .tup (xs ++ ys)) (fun b ob q => Heap.get?_push_of_some _ q) (Nat.le_refl _) ?_, rfl, q2 (fun w => z (r2.nil_iff.mpr w)) _ (I.hok.fresh (Nat.le_refl _))⟩
  exact ⟨by rw [List.length_append]; exact hz, _, r1.append r2, IsTup.new _ _⟩
end
end L2

namespace L2
open PySem PySem.Spec PyProof.Rows

/-! ### places -/
/-- the place that an index of any sign means -/
def ixN (n : Nat) (i : Int) : Option Nat := if 0 ≤ i then (if i < n then some i.toNat else none) else if -(n : Int) ≤ i then some (i + n).toNat else none
def atI {α : Type} (xs : List α) (i : Int) : Option α := (ixN xs.length i).bind fun j => xs[j]?
theorem ixN_seq {n : Nat} {i : Int} {j : Nat} (h : ixN n i = some j) : seqIndex? i n = some j ∧ j < n ∧ -(n : Int) ≤ i ∧ i < n := by
  unfold ixN at h
  by_cases h0 : 0 ≤ i
  · rw [if_pos h0] at h
    by_cases h1 : i < n
    · rw [if_pos h1] at h
      have e : i.toNat = j := Option.some.inj h
      exact ⟨by rw [seqIndex_of h0 h1, e], by omega, by omega, h1⟩
    · rw [if_neg h1] at h; cases h
  · rw [if_neg h0] at h
    by_cases h1 : -(n : Int) ≤ i
    · rw [if_pos h1] at h
      have e : (i + n).toNat = j := Option.some.inj h
      exact ⟨by rw [seqIndex_neg (by omega) h1, e], by omega, h1, by omega⟩
    · rw [if_neg h1] at h; cases h
theorem atI_get {α : Type} {xs : List α} {i : Int} {v : α} (h : atI xs i = some v) : ∃ j, seqIndex? i xs.length = some j ∧ xs[j]? = some v ∧ j < xs.length ∧ -(xs.length : Int) ≤ i ∧ i < xs.length := by
  unfold atI at h
  cases e : ixN xs.length i with
  | none => rw [e] at h; cases h
  | some j =>
    rw [e] at h
    obtain ⟨h1, h2, h3, h4⟩ := ixN_seq e
    exact ⟨j, h1, h, h2, h3, h4⟩
theorem atI_nat {α : Type} {xs : List α} {j : Nat} {v : α} (h : xs[j]? = some v) : atI xs (j : Int) = some v := by
  have hj : j < xs.length := (List.getElem?_eq_some_iff.mp h).1
  have e : ixN xs.length (j : Int) = some j := by
    unfold ixN
    rw [if_pos (by omega), if_pos (by omega)]; simp
  unfold atI; rw [e]; exact h
/-! ### what may be subscripted -/
/-- what stands as an index of a plain subscript -/
def PlainIx (b : Expr) : Prop := ∀ o i, subscripted b false o i = operate [o, i] (getItem o i)
/-- a subscript by values -/
def IxR (X : Cx) (r : R2) : Prop :=
  ∀ (value slice : Expr) (pins : List (Addr × Obj)) (s : Shared) (σ : St) (H : Hp) (x y : V) (v u : Value) (Q : VK), Inv X pins σ H s → RelV x v → RelV y u → r x y H Q →
    subscripted slice false v u = operate [v, u] (getItem v u) → wpAny (model X.prog X.w) X.A (subscriptTail value slice v u) (EP X pins σ Q) X.xe s
/-- a call of a builtin's method by values: the receiver, the arguments -/
def MtR (X : Cx) (id : String) (r : V → List V → Hp → VK → Prop) : Prop :=
  ∀ (pins : List (Addr × Obj)) (s : Shared) (σ : St) (H : Hp) (x : V) (xs : List V) (v : Value) (us : List Value) (Q : VK), Inv X pins σ H s → RelV x v → Vals xs us → r x xs H Q →
    wpAny (model X.prog X.w) X.A (call (.builtin id) (v :: us)) (EP X pins σ Q) X.xe s
section
variable {X : Cx} {a b : Expr} {ta tb : TE} {pos : Pos}
theorem IxR.or {r r' : R2} (h : IxR X r) (h' : IxR X r') : IxR X (fun x y H Q => r x y H Q ∨ r' x y H Q) := by
  intro value slice pins s σ H x y v u Q I rx ry q hs
  rcases q with q | q
  · exact h value slice pins s σ H x y v u Q I rx ry q hs
  · exact h' value slice pins s σ H x y v u Q I rx ry q hs
theorem MtR.or {id : String} {r r' : V → List V → Hp → VK → Prop} (h : MtR X id r) (h' : MtR X id r') : MtR X id (fun x xs H Q => r x xs H Q ∨ r' x xs H Q) := by
  intro pins s σ H x xs v us Q I rx rs q
  rcases q with q | q
  · exact h pins s σ H x xs v us Q I rx rs q
  · exact h' pins s σ H x xs v us Q I rx rs q
/-- a[b] -/
theorem pe_ix {r : R2} (hr : IxR X r) (ha : PE X a ta) (hb : PE X b tb) (hs : PlainIx b) : PE X (.Subscript a b pos) (tOp r ta tb) := by
  intro pins s σ H Q I h
  exact Subscript_ (binT ha hb I h fun v u s2 x y H2 I2 rx ry q => hr a b pins s2 σ H2 x y v u Q I2 rx ry q (hs _ _))

def rIxL (K : PySem.W.Frag) : R2 := fun x y H Q => ∃ p xs i v, x = .ref p ∧ y = .int i ∧ SqL K H p xs ∧ atI xs i = some v ∧ Q v H
def rIxT (K : PySem.W.Frag) : R2 := fun x y H Q => ∃ p xs i v, x = .ref p ∧ y = .int i ∧ SqT K H p xs ∧ atI xs i = some v ∧ Q v H
theorem ix_list : IxR X (rIxL X.K) := by
  intro value slice pins s σ H x y v u Q I rx ry h hs
  obtain ⟨p, xs, i, z, rfl, rfl, hq, he, q⟩ := h
  cases rx
  obtain ⟨t, rfl⟩ := ry
  obtain ⟨its, r, pl, hz⟩ := I.list hq
  obtain ⟨j, h1, h2, h3, h4, h5⟩ := atI_get he
  obtain ⟨w, ew, rw'⟩ := r.get h2
  have hl := r.length
  have hn := line63
  have fin : EP X pins σ Q w s := ⟨z, H, I, rw', q⟩
  by_cases h0 : 0 ≤ i
  · have hj : i.toNat = j := by
      rw [seqIndex_of h0 h5] at h1
      exact Option.some.inj h1
    exact item_listR pl.isList h0 (by omega) (by rw [hj]; simpa using ew) fin hs
  · have hj : (i + (its.toArray.size : Int)).toNat = j := by
      rw [seqIndex_neg (by omega) h4] at h1
      rw [List.size_toArray, ← hl]
      exact Option.some.inj h1
    exact subscriptTail_builtinR (x := w) pl.isList.typeIs slot_list_getitem.lookup
      (wpAny_getItem_list_neg (Q := fun r s' => r = w ∧ EP X pins σ Q r s') pl.isList (by omega) (by rw [List.size_toArray] <;> omega) (by omega) (by rw [hj]; simpa using ew) ⟨rfl, fin⟩) hs
theorem ix_tup : IxR X (rIxT X.K) := by
  intro value slice pins s σ H x y v u Q I rx ry h hs
  obtain ⟨p, xs, i, z, rfl, rfl, hq, he, q⟩ := h
  cases rx
  obtain ⟨t, rfl⟩ := ry
  obtain ⟨its, r, pl, hz⟩ := I.tuple hq
  obtain ⟨j, h1, h2, h3, h4, h5⟩ := atI_get he
  obtain ⟨w, ew, rw'⟩ := r.get h2
  have hl := r.length
  have hn := line63
  have fin : EP X pins σ Q w s := ⟨z, H, I, rw', q⟩
  exact subscriptTail_builtinR (x := w) pl.typeIs slot_tuple_getitem.lookup
    (getItem_tuple (j := j) (Q := fun r s' => r = w ∧ EP X pins σ Q r s') pl (by omega) (by omega) (by rw [List.size_toArray, ← hl]; exact h1) (by simpa using ew) ⟨rfl, fin⟩) hs
/-! ### xs[i] = v, any sign -/
/-- the list's object behind a store -/
theorem mapSeq_set (its : List Value) (n j : Nat) (u : Value) : Obj.mapSeq (·.setIfInBounds j u) { cls := .type "list", data := .seq its.toArray n } = { cls := .type "list", data := .seq (its.set j u).toArray n } := by
  simp [Obj.mapSeq]
theorem Inv.lst {pins : List (Addr × Obj)} {σ : St} {H : Hp} {s : Shared} {p : Addr} {xs : List V} (I : Inv X pins σ H s) (h : H p = some (.lst xs)) :
    ∃ (its : List Value) (n : Nat), Vals xs its ∧ s.heap.get? p = some { cls := .type "list", data := .seq its.toArray n } ∧ xs.length ≤ sizeLine := by
  obtain ⟨z, its, n, r, e⟩ := I.hok p _ h
  exact ⟨its, n, r, e, z⟩
/-- the list at p is written by an update of its object -/
theorem Inv.lstUpd {pins : List (Addr × Obj)} {σ : St} {H : Hp} {s : Shared} {p : Addr} {xs ys : List V} {its its' : List Value} {n n' : Nat} {f : Obj → Obj} (I : Inv X pins σ H s) (h : H p = some (.lst xs))
    (ho : s.heap.get? p = some { cls := .type "list", data := .seq its.toArray n }) (hf : f { cls := .type "list", data := .seq its.toArray n } = { cls := .type "list", data := .seq its'.toArray n' }) (r : Vals ys its') (hz : ys.length ≤ sizeLine) (t : Nat) :
    Inv X pins σ (upd H p (.lst ys)) { s with heap := s.heap.update p f, toks := t } := by
  have e : (s.heap.update p f).get? p = some { cls := .type "list", data := .seq its'.toArray n' } := by
    rw [Heap.get?_update_self f ho (by rw [hf] <;> rfl), hf]
  refine I.write (x := p) (e := p) (by rw [h]; trivial) (.inl rfl) (fun b u hb q => (Heap.get?_update_other _ _ (Ne.symm hb)).trans q) ⟨_, e⟩ ?_
  exact ⟨hz, its', n', r, e⟩
def rSetL : V → V → V → Hp → (Hp → Prop) → Prop := fun o i v H Q => ∃ p xs k j, o = .ref p ∧ i = .int k ∧ H p = some (.lst xs) ∧ ixN xs.length k = some j ∧ Q (upd H p (.lst (xs.set j v)))
theorem set_list : PSet X rSetL := by
  intro pins s σ H o i v ov iv u Q I ro ri rv h
  obtain ⟨p, xs, k, j, rfl, rfl, hp, hj, q⟩ := h
  cases ro
  obtain ⟨t, rfl⟩ := ri
  obtain ⟨its, n, r, ho, hz⟩ := I.lst hp
  obtain ⟨h1, h2, h3, h4⟩ := ixN_seq hj
  have hl := r.length
  have hn := line63
  have I' : Inv X pins σ (upd H p (.lst (xs.set j v))) { s with heap := s.heap.update p (Obj.mapSeq (·.setIfInBounds j u)) } :=
    I.lstUpd hp ho (mapSeq_set its n j u) (r.set rv j) (by rw [List.length_set]; exact hz) s.toks
  by_cases h0 : 0 ≤ k
  · have hk : k.toNat = j := by
      rw [seqIndex_of h0 h4] at h1
      exact Option.some.inj h1
    exact PySem.W.ki_setAt ho h0 (by omega) (by rw [List.size_toArray, ← hl]; exact h4) (by rw [hk]; exact ⟨_, I', q⟩)
  · have hk : (k + (its.toArray.size : Int)).toNat = j := by
      rw [seqIndex_neg (by omega) h3] at h1
      rw [List.size_toArray, ← hl]
      exact Option.some.inj h1
    exact PySem.W.ki_setBack ho (by omega) (by rw [List.size_toArray, ← hl]; exact h3) (by omega) (by rw [hk]; exact ⟨_, I', q⟩)

/-! ### slices -/
/-! ### in, not in: flat items -/
def flatV : V → Bool
  | .non => true
  | .bl _ => true
  | .int _ => true
  | .str _ => true
  | _ => false
/-- == of flat values -/
def eqV : V → V → Bool
  | .non, .non => true
  | .bl a, .bl b => a == b
  | .bl a, .int b => (if a then 1 else 0) == b
  | .int a, .bl b => a == (if b then 1 else 0)
  | .int a, .int b => a == b
  | .str a, .str b => a == b
  | _, _ => false
theorem eqAt_V {A : Around} {s : Shared} {y x : V} {u v : Value} (ry : RelV y u) (rx : RelV x v) (fy : flatV y = true) (fx : flatV x = true) : SeqAt.EqAt A s u v (eqV y x) := by
  cases y with
  | non =>
    cases ry
    cases x with
    | non => cases rx; exact SeqAt.EqAt.same _
    | bl b => cases rx; exact SeqAt.EqAt.none_bool b
    | int b => obtain ⟨t, rfl⟩ := rx; exact SeqAt.EqAt.none_int b t
    | str b => obtain ⟨t, rfl⟩ := rx; exact SeqAt.EqAt.none_str b t
    | _ => exact absurd (show false = true from fx) Bool.false_ne_true
  | bl a =>
    cases ry
    cases x with
    | non => cases rx; exact SeqAt.EqAt.bool_none a
    | bl b => cases rx; exact SeqAt.EqAt.bool_bool a b
    | int b => obtain ⟨t, rfl⟩ := rx; exact SeqAt.EqAt.bool_int a b t
    | str b => obtain ⟨t, rfl⟩ := rx; exact SeqAt.EqAt.bool_str a b t
    | _ => exact absurd (show false = true from fx) Bool.false_ne_true
  | int a =>
    obtain ⟨t', rfl⟩ := ry
    cases x with
    | non => cases rx; exact SeqAt.EqAt.int_none a t'
    | bl b => cases rx; exact SeqAt.EqAt.int_bool a t' b
    | int b => obtain ⟨t, rfl⟩ := rx; exact SeqAt.EqAt.int_int a t' b t
    | str b => obtain ⟨t, rfl⟩ := rx; exact SeqAt.EqAt.int_str a t' b t
    | _ => exact absurd (show false = true from fx) Bool.false_ne_true
  | str a =>
    obtain ⟨t', rfl⟩ := ry
    cases x with
    | non => cases rx; exact SeqAt.EqAt.str_none a t'
    | bl b => cases rx; exact SeqAt.EqAt.str_bool a t' b
    | int b => obtain ⟨t, rfl⟩ := rx; exact SeqAt.EqAt.str_int a t' b t
    | str b => obtain ⟨t, rfl⟩ := rx; exact SeqAt.EqAt.str_str a t' b t
    | _ => exact absurd (show false = true from fx) Bool.false_ne_true
  | _ => exact absurd (show false = true from fy) Bool.false_ne_true
/-- the items' answers, read off the values (a value's own answer does not lean on its token) -/
def eqU (x : V) (u : Value) : Bool := match u with
  | .none => eqV .non x
  | .bool b => eqV (.bl b) x
  | .int i _ => eqV (.int i) x
  | .str z _ => eqV (.str z) x
  | _ => false
theorem eqU_of {x y : V} {u : Value} (r : RelV y u) (f : flatV y = true) : eqU x u = eqV y x := by
  cases y with
  | non => cases r; rfl
  | bl b => cases r; rfl
  | int i => obtain ⟨t, rfl⟩ := r; rfl
  | str z => obtain ⟨t, rfl⟩ := r; rfl
  | _ => exact absurd (show false = true from f) Bool.false_ne_true
theorem any_eqU {x : V} : ∀ {xs : List V} {us : List Value}, Vals xs us → xs.all flatV = true → us.any (eqU x) = xs.any fun y => eqV y x
  | _, _, .nil, _ => rfl
  | y :: xs, u :: us, .cons r t, f => by
    rw [List.all_cons, Bool.and_eq_true] at f
    rw [List.any_cons, List.any_cons, eqU_of r f.1, any_eqU t f.2]
theorem mem_eqAt {A : Around} {s : Shared} {x : V} {v : Value} (rx : RelV x v) (fx : flatV x = true) : ∀ {xs : List V} {us : List Value}, Vals xs us → xs.all flatV = true → ∀ u ∈ us, SeqAt.EqAt A s u v (eqU x u)
  | _, _, .nil, _ => fun u hu => by cases hu
  | y :: xs, u :: us, .cons r t, f => fun u' hu => by
    rw [List.all_cons, Bool.and_eq_true] at f
    rcases List.mem_cons.mp hu with rfl | hu
    · rw [eqU_of r f.1]; exact eqAt_V r rx f.1 fx
    · exact mem_eqAt rx fx t f.2 u' hu
def inV (x : V) (xs : List V) : Bool := xs.any fun y => eqV y x
/-- x in a list or tuple of flat items -/
def rIn (K : PySem.W.Frag) (neg : Bool) : R2 := fun x y H Q => ∃ p xs, y = .ref p ∧ (SqL K H p xs ∨ SqT K H p xs) ∧ flatV x = true ∧ xs.all flatV = true ∧ Q (.bl (if neg then !inV x xs else inV x xs)) H
theorem op_in_seq : OpR X (compareOp .In) (rIn X.K false) := by
  intro pins s σ H x y v u Q I rx ry h
  obtain ⟨p, xs, rfl, hq, fx, fs, q⟩ := h
  cases ry
  rcases hq with hq | hq
  · obtain ⟨its, r, pl, hz⟩ := I.list hq
    refine SeqAt.in_listAt (eqU x) pl.isList (fun w hw => mem_eqAt rx fx r fs w (by simpa using hw)) ⟨.bl _, H, I, rfl, ?_⟩
    rw [show its.toArray.any (eqU x) = its.any (eqU x) by simp, any_eqU r fs]
    exact q
  · obtain ⟨its, r, pl, hz⟩ := I.tuple hq
    refine SeqAt.in_tupleAt (eqU x) pl (fun w hw => mem_eqAt rx fx r fs w (by simpa using hw)) ⟨.bl _, H, I, rfl, ?_⟩
    rw [show its.toArray.any (eqU x) = its.any (eqU x) by simp, any_eqU r fs]
    exact q
theorem op_notIn_seq : OpR X (compareOp .NotIn) (rIn X.K true) := by
  intro pins s σ H x y v u Q I rx ry h
  obtain ⟨p, xs, rfl, hq, fx, fs, q⟩ := h
  cases ry
  rcases hq with hq | hq
  · obtain ⟨its, r, pl, hz⟩ := I.list hq
    refine SeqAt.notIn_listAt (eqU x) pl.isList (fun w hw => mem_eqAt rx fx r fs w (by simpa using hw)) ⟨.bl _, H, I, rfl, ?_⟩
    rw [show its.toArray.any (eqU x) = its.any (eqU x) by simp, any_eqU r fs]
    exact q
  · obtain ⟨its, r, pl, hz⟩ := I.tuple hq
    refine SeqAt.notIn_tupleAt (eqU x) pl (fun w hw => mem_eqAt rx fx r fs w (by simpa using hw)) ⟨.bl _, H, I, rfl, ?_⟩
    rw [show its.toArray.any (eqU x) = its.any (eqU x) by simp, any_eqU r fs]
    exact q
/-! ### len, list(x), tuple(x) of any list or tuple that is read -/
theorem call_len_seq : CallR X (.builtin "len") (fun xs H Q => ∃ p ys, xs = [.ref p] ∧ (SqL X.K H p ys ∨ SqT X.K H p ys) ∧ Q (.int ys.length) H) := by
  intro pins s σ H xs us Q I r h
  obtain ⟨p, ys, rfl, hq, q⟩ := h
  obtain ⟨u, rfl, rx⟩ := vals1 r
  cases rx
  have hn := line63
  rcases hq with hq | hq
  · obtain ⟨its, r', pl, hz⟩ := I.list hq
    have hlen := r'.length
    exact Calls.call_len_list pl.isList (by simp only [List.size_toArray] <;> omega) ⟨.int ys.length, H, I.tok _, ⟨s.toks + 1, by rw [List.size_toArray, hlen]⟩, q⟩
  · obtain ⟨its, r', pl, hz⟩ := I.tuple hq
    have hlen := r'.length
    exact len_tuple pl (by simp only [List.size_toArray] <;> omega) ⟨.int ys.length, H, I.tok _, ⟨s.toks + 1, by rw [List.size_toArray, hlen]⟩, q⟩
theorem CallR.or {f : Value} {r r' : List V → Hp → VK → Prop} (h : CallR X f r) (h' : CallR X f r') : CallR X f (fun xs H Q => r xs H Q ∨ r' xs H Q) := by
  intro pins s σ H xs us Q I rs q
  rcases q with q | q
  · exact h pins s σ H xs us Q I rs q
  · exact h' pins s σ H xs us Q I rs q
theorem call_tuple_of : CallR X (.type "tuple") (fun xs H Q => ∃ p ys, xs = [.ref p] ∧ ((SqL X.K H p ys ∧ ∀ l, H l = none → Q (.ref l) (upd H l (.tup ys))) ∨ (SqT X.K H p ys ∧ Q (.ref p) H))) := by
  intro pins s σ H xs us Q I r h
  obtain ⟨p, ys, rfl, h⟩ := h
  obtain ⟨u, rfl, rx⟩ := vals1 r
  cases rx
  rcases h with ⟨hq, q⟩ | ⟨hq, q⟩
  · obtain ⟨its, r', pl, hz⟩ := I.list hq
    have hlen := r'.length
    refine call_tuple_list pl.isList (fun h' kp => ?_) (by simp only [List.size_toArray] <;> omega)
    have I1 : Inv X pins σ H { s with heap := h' } := I.kept (t' := s.toks) kp
    have I2 : Inv X pins σ (upd H h'.objs.size (.tup ys)) { s with heap := h'.push { cls := .type "tuple", data := .seq its.toArray } } :=
      I1.laid (t' := s.toks) (fun b o e => Heap.get?_push_of_some _ e) (Nat.le_refl _) (show ObjOk X.prog X.w _ _ _ (.tup ys) from ⟨hz, its, r', IsTup.new _ _⟩)
    exact ⟨.ref h'.objs.size, _, I2, rfl, q _ (I1.hok.fresh (Nat.le_refl _))⟩
  · obtain ⟨its, r', pl, hz⟩ := I.tuple hq
    exact call_tuple_same pl ⟨.ref p, H, I, rfl, q⟩

/-! ### the call of a builtin's method: o.m(..) -/
/-- the value is of that builtin type -/
def tyV (K : PySem.W.Frag) (T : String) (x : V) (H : Hp) : Prop := match x with
  | .str _ => T = "str"
  | .int _ => T = "int"
  | .ref p => (T = "list" ∧ ∃ xs, SqL K H p xs) ∨ (T = "tuple" ∧ ∃ o, K.lookup p = some o ∧ o.cls = .type "tuple" ∧ o.dict = none) ∨
      (T = "dict" ∧ ((∃ kvs, H p = some (.dK kvs)) ∨ ∃ kvs, H p = some (.dT kvs))) ∨ (T = "set" ∧ ∃ S n, H p = some (.set S n))
  | _ => False
theorem tyV_is {pins : List (Addr × Obj)} {σ : St} {H : Hp} {s : Shared} {T : String} {x : V} {v : Value} (I : Inv X pins σ H s) (r : RelV x v) (ty : tyV X.K T x H) :
    s.TypeIs v T ∧ ∀ a, v = .ref a → ∃ ob, s.heap.get? a = some ob ∧ ob.dict = none := by
  cases x with
  | str z =>
    obtain ⟨t, rfl⟩ := r
    cases (show T = "str" from ty)
    exact ⟨typeIs_str s z t, fun _ e => nomatch e⟩
  | int i =>
    obtain ⟨t, rfl⟩ := r
    cases (show T = "int" from ty)
    exact ⟨typeIs_int s i t, fun _ e => nomatch e⟩
  | ref p =>
    cases r
    rcases ty with ⟨rfl, xs, hq⟩ | ⟨rfl, o, hk, hc, hd⟩ | ⟨rfl, hk⟩ | ⟨rfl, S, n, hk⟩
    · obtain ⟨its, _, pl, _⟩ := I.list hq
      refine ⟨pl.isList.typeIs, fun a e => ?_⟩
      cases e
      obtain ⟨o, n, e, c, hd, _⟩ := pl
      exact ⟨o, e, hd⟩
    · refine ⟨⟨o, I.kIn p o hk, hc⟩, fun a e => ?_⟩
      cases e
      exact ⟨o, I.kIn _ o hk, hd⟩
    · have z : ∃ o, s.heap.get? p = some o ∧ o.ExactDict := by
        rcases hk with ⟨kvs, hk⟩ | ⟨kvs, hk⟩
        · obtain ⟨_, _, _, _, o, _, _, e, ex, _⟩ := I.hok p _ hk
          exact ⟨o, e, ex⟩
        · obtain ⟨_, _, _, _, o, _, _, e, ex, _⟩ := I.hok p _ hk
          exact ⟨o, e, ex⟩
      obtain ⟨o, e, ex⟩ := z
      refine ⟨⟨o, e, ex.1⟩, fun a e2 => ?_⟩
      cases e2
      exact ⟨o, e, ex.2.1⟩
    · obtain ⟨o, _, _, _, e, ex, _⟩ := I.hok p _ hk
      refine ⟨⟨o, e, ex.1⟩, fun a e2 => ?_⟩
      cases e2
      exact ⟨o, e, ex.2.1⟩
  | _ => exact False.elim ty
def tBM (K : PySem.W.Frag) (T : String) (r : V → List V → Hp → VK → Prop) (to : TE) (t : TA) : TE := fun σ H Q => to σ H fun x H1 => tyV K T x H1 ∧ t σ H1 fun xs H2 => r x xs H2 Q
variable {o e : Expr} {es : List Expr} {to : TE} {t : TA} {name : Str} {apos cpos : Pos} {T id : String} {r : V → List V → Hp → VK → Prop}
theorem pe_bm (pa : PlainAttrs T) (slot : Slot T name id) (hty : typeOf (.builtin id) = pure (.type "method_descriptor")) (hm : MtR X id r) (ho : PE X o to) (ha : PA X (e :: es) t)
    (hbase : attributeBase o name X.env (eval o X.env) = eval o X.env := by rfl)
    (hfew : ((backTo cpos (starEach (e :: es) X.env)).all (fun x => !x.1) && (backToKw cpos (keywordEach [] X.env)).all (fun x => x.1.isSome)
      && decide ((e :: es).length + ([] : List Keyword).length + (if ([] : List Keyword).isEmpty then 0 else 1) < 30)) = true := by rfl)
    (hline : (apos.endLine == cpos.line) = true := by rfl) (hs : starEach (e :: es) X.env = (false, eval e X.env) :: starEach es X.env := by rfl) (hplain : (backTo cpos (starEach es X.env)).any (·.1) = false := by rfl) :
    PE X (.Call (.Attribute o name apos) (e :: es) [] cpos) (tBM X.K T r to t) := by
  intro pins s σ H Q I h
  refine wpAny_Call_method_late hbase hfew hline rfl (thn (ho pins s σ H _ I h) fun v s1 ⟨x, H1, I1, r1, ty, q1⟩ => ?_)
  obtain ⟨h1, h2⟩ := tyV_is I1 r1 ty
  refine ⟨T, id, pa, slot, hty, h1, h2, ?_⟩
  have hA := ha cpos pins s1 σ H1 _ I1 q1
  rw [hs] at hA ⊢
  refine Calls.callWith_builtin (by show (false || (backTo cpos (starEach es X.env)).any (·.1)) = false; rw [hplain] <;> rfl) (Calls.evalArgs_plain ?_)
  exact thn hA fun us s2 ⟨vs, H2, I2, r2, q2⟩ => hm pins s2 σ H2 x vs v us Q I2 r1 r2 q2
/- xs.append(e), list.index on a module's tuple .. are MtR facts of 06m -/
end
end L2

namespace L2
open PySem PySem.Spec PyProof.Rows

def MtM (X : Cx) (id : String) (r : V → List V → Hp → VK → Prop) : Prop :=
  ∀ (pins : List (Addr × Obj)) (s : Shared) (σ : St) (H : Hp) (x : V) (xs : List V) (v : Value) (us : List Value) (Q : VK), Inv X pins σ H s → RelV x v → Vals xs us → r x xs H Q →
    wpAny (model X.prog X.w) X.A (call (.builtin id) (v :: us)) (EP X pins σ Q) X.xe s

/-! ### lists of values -/
theorem Vals.one : ∀ {x : V} {us : List Value}, Vals [x] us → ∃ u, us = [u] ∧ RelV x u
  | _, _, .cons r .nil => ⟨_, rfl, r⟩
theorem Vals.two : ∀ {x y : V} {us : List Value}, Vals [x, y] us → ∃ u v, us = [u, v] ∧ RelV x u ∧ RelV y v
  | _, _, _, .cons r (.cons q .nil) => ⟨_, _, rfl, r, q⟩
theorem Vals.zero : ∀ {us : List Value}, Vals [] us → us = []
  | _, .nil => rfl
theorem Vals.eraseIdx : ∀ {xs : List V} {us : List Value} (i : Nat), Vals xs us → Vals (xs.eraseIdx i) (us.eraseIdx i)
  | _, _, _, .nil => .nil
  | _, _, 0, .cons _ t => t
  | _, _, i + 1, .cons r t => .cons r (Vals.eraseIdx i t)
theorem Vals.reverse {xs : List V} {us : List Value} (h : Vals xs us) : Vals xs.reverse us.reverse := by
  induction h with
  | nil => exact .nil
  | cons r t ih => rw [List.reverse_cons, List.reverse_cons]; exact Vals.append ih (.cons r .nil)
theorem Vals.rep {xs : List V} {us : List Value} (h : Vals xs us) : ∀ k : Nat, Vals (List.replicate k xs).flatten (List.replicate k us).flatten
  | 0 => .nil
  | k + 1 => by
    rw [List.replicate_succ, List.replicate_succ, List.flatten_cons, List.flatten_cons]
    exact Vals.append h (Vals.rep h k)
theorem foldl_rep (its : List Value) : ∀ (k : Nat) (acc : List Value),
    List.foldl (fun x1 x2 => x1 ++ x2) acc.toArray (List.replicate k its.toArray) = (acc ++ (List.replicate k its).flatten).toArray
  | 0, acc => by simp
  | k + 1, acc => by
    have e : acc.toArray ++ its.toArray = (acc ++ its).toArray := by simp
    have e2 : (acc ++ its) ++ (List.replicate k its).flatten = acc ++ (List.replicate (k + 1) its).flatten := by
      rw [List.replicate_succ, List.flatten_cons, List.append_assoc]
    rw [← e2, ← foldl_rep its k (acc ++ its), ← e, List.replicate_succ, List.foldl_cons]

section
variable {X : Cx} {pins : List (Addr × Obj)} {σ : St} {H : Hp} {s : Shared} {l b : Addr} {xs ys zs : List V}

/-! ### the two steps: a tracked list is rewritten, a new list is laid -/
theorem Inv.lset {its its' : List Value} {n : Nat} {f : Array Value → Array Value} {t' : Nat} (I : Inv X pins σ H s) (hH : H l = some (.lst xs))
    (e : s.heap.get? l = some { cls := .type "list", data := .seq its.toArray n }) (hf : f its.toArray = its'.toArray) (hv : Vals ys its') (hz : ys.length ≤ sizeLine) :
    Inv X pins σ (upd H l (.lst ys)) { s with heap := s.heap.update l (Obj.mapSeq f), toks := t' } := by
  have q := PySem.IsL.update e f
  rw [hf] at q
  refine I.write (x := l) (e := l) (by rw [hH]; exact trivial) (.inl rfl) (fun b' u hb hu => (Heap.get?_update_other s.heap (Obj.mapSeq f) (Ne.symm hb)).trans hu) ⟨_, q⟩ ?_
  exact ⟨hz, its', _, hv, q⟩
theorem Inv.lnew {its : List Value} {t' : Nat} (I : Inv X pins σ H s) (hv : Vals ys its) (hz : ys.length ≤ sizeLine) :
    Inv X pins σ (upd H s.heap.objs.size (.lst ys)) { s with heap := s.heap.push { cls := .type "list", data := .seq its.toArray }, toks := t' } :=
  I.laid (fun _ _ q => Heap.get?_push_of_some _ q) (Nat.le_refl _) ⟨hz, its, 0, hv, Heap.get?_push_size _ rfl⟩
theorem Inv.fresh (I : Inv X pins σ H s) : H s.heap.objs.size = none := I.hok.fresh (Nat.le_refl _)
theorem Inv.lstM (I : Inv X pins σ H s) (hH : H l = some (.lst xs)) : xs.length ≤ sizeLine ∧ ∃ (its : List Value) (n : Nat), Vals xs its ∧ xs.length = its.length ∧ s.heap.get? l = some { cls := .type "list", data := .seq its.toArray n } := by
  obtain ⟨z, its, n, r, e⟩ := I.hok l _ hH
  exact ⟨z, its, n, r, r.length, e⟩

theorem notLongL {n : Nat} (h : n ≤ sizeLine) : Builtin.List.listTooLong n = false := by
  unfold Builtin.List.listTooLong
  exact decide_eq_false (by omega)
end

section
variable {X : Cx}

/-! ### methods -/
def rAppend : V → List V → Hp → VK → Prop := fun x vs H Q => ∃ l xs y, x = .ref l ∧ vs = [y] ∧ H l = some (.lst xs) ∧ xs.length < sizeLine ∧ Q .non (upd H l (.lst (xs ++ [y])))
theorem mt_append : MtM X "list.append" rAppend := by
  intro pins s σ H x vs v us Q I rx rv h
  obtain ⟨l, xs, y, rfl, rfl, hH, hz, q⟩ := h
  cases rx
  obtain ⟨u, rfl, ru⟩ := rv.one
  obtain ⟨z, its, n, r, hl, e⟩ := I.lstM hH
  refine call_meets F.slot_list_append ⟨_, e, rfl⟩ F.entry_list_append (F.args_list_append_2 _ _) (PySem.list_append l its.toArray n u (by rw [List.size_toArray]; omega)) ⟨e, ?_⟩
  refine ⟨.non, _, I.lset (its' := its ++ [u]) hH e (by simp) (r.append (.cons ru .nil)) ?_, rfl, q⟩
  rw [List.length_append, List.length_singleton]
  omega

def rExtend : V → List V → Hp → VK → Prop := fun x vs H Q => ∃ l b xs zs, x = .ref l ∧ vs = [.ref b] ∧ H l = some (.lst xs) ∧ H b = some (.lst zs) ∧ xs.length + zs.length ≤ sizeLine ∧ Q .non (upd H l (.lst (xs ++ zs)))
theorem mt_extend : MtM X "list.extend" rExtend := by
  intro pins s σ H x vs v us Q I rx rv h
  obtain ⟨l, b, xs, zs, rfl, rfl, hH, hB, hz, q⟩ := h
  cases rx
  obtain ⟨u, rfl, ru⟩ := rv.one
  cases ru
  obtain ⟨z, its, n, r, hl, e⟩ := I.lstM hH
  obtain ⟨z2, its2, n2, r2, hl2, e2⟩ := I.lstM hB
  have hsz : its.toArray.size + its2.toArray.size ≤ sizeLine := by rw [List.size_toArray, List.size_toArray]; omega
  have hlong : ¬ (!its.toArray.isEmpty && Builtin.List.listTooLong (its.toArray.size + its2.toArray.size)) = true := by
    rw [notLongL hsz, Bool.and_false]
    exact Bool.false_ne_true
  refine call_meets F.slot_list_extend ⟨_, e, rfl⟩ F.entry_list_extend (F.args_list_extend_2 _ _)
    (AutoSeq1.list_extend_list_list_0 l its.toArray n b its2.toArray n2 hlong (by rw [List.size_toArray]; omega) (by omega)) ⟨e, e2, ?_⟩
  refine ⟨.non, _, I.lset (its' := its ++ its2) hH e (by simp) (r.append r2) ?_, rfl, q⟩
  rw [List.length_append]
  omega

/-! ### list + list, list += list, list * int -/
def rCat : R2 := fun x y H Q => ∃ l b xs zs, x = .ref l ∧ y = .ref b ∧ H l = some (.lst xs) ∧ H b = some (.lst zs) ∧ xs.length + zs.length ≤ sizeLine ∧ ∀ p, H p = none → Q (.ref p) (upd H p (.lst (xs ++ zs)))
theorem op_cat : OpR X (binaryOp .Add) rCat := by
  intro pins s σ H x y v u Q I rx ry h
  obtain ⟨l, b, xs, zs, rfl, rfl, hH, hB, hz, q⟩ := h
  cases rx
  cases ry
  obtain ⟨z, its, n, r, hl, e⟩ := I.lstM hH
  obtain ⟨z2, its2, n2, r2, hl2, e2⟩ := I.lstM hB
  refine PySem.P.add_list e e2 ?_ (by rw [List.size_toArray, List.size_toArray]; omega)
  have ea : its.toArray ++ its2.toArray = (its ++ its2).toArray := by simp
  rw [ea]
  exact ⟨.ref _, _, I.lnew (t' := s.toks) (r.append r2) (by rw [List.length_append]; omega), rfl, q _ I.fresh⟩
theorem len_rep {α : Type} (xs : List α) (k : Nat) : (List.replicate k xs).flatten.length = k * xs.length := by
  induction k with
  | zero => simp
  | succ k ih => rw [List.replicate_succ, List.flatten_cons, List.length_append, ih, Nat.succ_mul, Nat.add_comm]
/-! ### del xs[i] -/
end

/-! ### xs[a:b] = ys -/
section
variable {prog : Program} {w : World} {A : Around} {E : Value → Shared → Prop} {s : Shared}
set_option maxRecDepth 100000 in
end

section
variable {X : Cx}
end
end L2

namespace Att
open PySem PySem.W PySem.Calls PyProof.Rows

/-! ### the script -/
theorem ints_of_wellAll {P : Params} {h : Heap} : ∀ (ns : List Int) (vs : List Value), WellAll P h vs (ns.map WData.int) → IntsAre vs ns := by
  intro ns
  induction ns with
  | nil =>
    intro vs w
    rw [List.map_nil] at w
    cases w
    exact .nil
  | cons n ns ih =>
    intro vs w
    rw [List.map_cons] at w
    cases w with
    | cons a b =>
      cases a
      exact .cons _ _ (ih _ b)

theorem script_of {l : OpenLaw} {n : Nat} (hn : l.most = some n) {P : Params} {h : Heap} {args : List WData} {vals : List Value}
    (hpre : l.row.toRowW.claim.pre args = true) (hwl : WellAll P h vals args) :
    ∃ a vs ns, vals = [Value.ref a] ∧ args = [WData.list (ns.map WData.int)] ∧ h.get? a = some { cls := .type "list", data := .seq vs.toArray } ∧ IntsAre vs ns ∧ ns.length ≤ n := by
  have hsh : WShape.hasAll [] args [.list .int] = true := (pre_splitW hpre).1
  have hc : l.pre.holds [] { args := args } = true := (pre_splitW hpre).2
  obtain ⟨d, r, rfl, h1, h2⟩ := hasAllW_cons hsh
  obtain rfl := hasAllW_nil h2
  obtain ⟨xs, rfl, h3⟩ := hasW_list h1
  obtain ⟨ns, rfl⟩ := items_int h3
  have hlen : ns.length ≤ n := by
    unfold OpenLaw.pre at hc
    have h4 : (WTm.not (.lt (.lit (.int (n : Int))) (.len (.arg 0)))).holds [] { args := [.list (ns.map .int)] } = true := by
      have h4 := (holds_andW hc).1
      rw [hn] at h4
      exact h4
    have h5 := condW_of h4 (w_not (w_lt w_lit (w_len_list (w_arg rfl))))
    rw [List.length_map] at h5
    refine Nat.le_of_not_lt fun q => ?_
    have q' : (n : Int) < ((ns.length : Nat) : Int) := by omega
    first
      | (rw [decide_eq_true q'] at h5; exact absurd h5 (by decide))
      | (simp at h5; omega)
  cases hwl with
  | cons w1 w2 =>
    cases w2
    cases w1 with
    | list ho hall => exact ⟨_, _, ns, rfl, rfl, ho, ints_of_wellAll ns _ hall, hlen⟩

theorem post_true (l : OpenLaw) (args : List WData) : l.row.toRowW.claim.post args (.bool true) args = true :=
  postW_of (r := l.row.toRowW) (X := (true == true))
    (show WShape.has [] (.bool true) .bool = true by first | rfl | decide | simp [WShape.has, WShape.arms, WShape.armsAll])
    (show (WTm.eq .res (.lit (.bool true))).value [] { args := args, res := some (.bool true), after := args } = some (.bool (true == true)) from w_eq_bool (w_res rfl) w_lit) rfl

/-! ### the attachment: holds_open's last premise (the goal 'hc' behind k_head) from a wpAny of the law's body -/
/-- the same from a codeAny of the CALL (for a layer whose function contracts speak of calls) -/
theorem attach_call {l : OpenLaw} {n : Nat} {q : Program} {loose : List Str} {XP : (Str → Option Value) → Heap → Prop} {YP : World → Heap → Prop} {d : DefRec}
    (hn : l.most = some n) (hdf : d.params.defaults = [])
    (call : ∀ (w : World) (s₀ s₁ : Shared) (mg mb : Str → Option Value) (fa : Addr) (o : Obj) (pm cd doc : Value) (a : Addr) (vs : List Value) (ns : List Int),
      Ground q loose [] XP w s₀ mg mb s₁.heap → YP w s₁.heap →
      s₁.heap.get? fa = some o → o.data = .func (docDef d.name d.params d.body d.scope pm cd doc) → s₁.heap.CodeRec cd d.name → mg d.name = some (.ref fa) →
      s₁.heap.get? a = some { cls := .type "list", data := .seq vs.toArray } → IntsAre vs ns → ns.length ≤ n → s₁.gens = #[] →
      codeAny (model l.prog w) callerA (.call (.ref fa) ⟨[.ref a], []⟩) (fun r s' => r = .ok (.ret (.bool true)) ∧ OldK s₁.heap s'.heap ∧ s'.os = s₁.os ∧ AllBare s'.gens) s₁) :
    WalkO q loose XP YP l.row.toRowW d [] (fun f vs => PySem.call f vs) := by
  intro w s₀ s₁ mg mb G Y fa o pm cd doc dV kV ho hd hcd hD hmg hg args vals as hpre hlay hrd hwl hlo
  obtain rfl : dV = .none := Dflts.none hD hdf
  obtain rfl : kV = .none := Dflts.noKw hD
  obtain ⟨a, vs, ns, rfl, rfl, hobj, hints, hlen⟩ := script_of hn hpre hwl
  refine enter_call (codeAny_mono (call w s₀ s₁ mg mb fa o pm cd doc a vs ns G Y ho (fd_plain hd) hcd hmg hobj hints hlen hg) fun r s' hq => ?_)
  obtain ⟨rfl, h2, h3, h4⟩ := hq
  exact ⟨.inl ⟨.bool true, .bool true, [], rfl, fun _ => rfl, .bool true, post_true l _, fun _ => ⟨List.Pairwise.nil, fun _ hm => (nomatch hm)⟩⟩, h2, h3, h4⟩

/-! ### rules over ANY heap (no ledger) from facts about the written part K: the library's own take a ledger (News) for what they write -/
section
variable {prog : Program} {w : World} {A : Around} {E : Value → Shared → Prop} {s : Shared} {K : Frag}

/-! the whole heap as the ledger: makes every rule that writes through a ledger a rule over any heap -/
def ledger (h : Heap) (L d : Addr) : List (Addr × Obj) := (List.range h.objs.size).filterMap fun a => if a = L ∨ a = d then none else (h.get? a).map fun o => (a, o)
end
end Att

namespace L2
open PySem PySem.Spec PyProof.Rows

theorem vals_ints : ∀ {vs : List Value} {ns : List Int}, IntsAre vs ns → Vals (ns.map V.int) vs
  | _, _, .nil => .nil
  | _, _, .cons n t h => .cons ⟨t, rfl⟩ (vals_ints h)

/-- nothing is tracked but the script, known to the object (or it is an object of the module) -/
def Only (H : Hp) : Prop := ∀ b, H b = none ∨ ∃ o xs, H b = some (.frz o (.lst xs))

/-- THE HEAD: the law's promise, at the heap behind the top. F, the promise of the law's def, may use that base is part of the heap (so K.In base, base.Ns mainGlobals mg stand in Mod) -/
theorem law_call {P : Program} {w : World} {K : PySem.W.Frag} {mg mb : Str → Option Value} {CX : CXT} {k : Nat} {fa a : Addr} {fd : FuncData} {x : Str} {sp : Sp} {s₁ : Shared} {vs : List Value} {ns : List Int}
    (KX : K.In s₁.heap) (hns : s₁.heap.Ns mainGlobals mg) (hb : s₁.heap.Ns builtinsNs mb) (hbb : ∀ x : Str, x ≠ "__name__" → mb x = bootBuiltins x) (hlim : s₁.heap.NoLimit) (hg : s₁.gens = #[])
    (ha : s₁.heap.get? a = some { cls := .type "list", data := .seq vs.toArray }) (hi : IntsAre vs ns) (hl : ns.length ≤ sizeLine) (hr : Room k callerA)
    (F : ∀ base : Heap, K.In base → base.Ns mainGlobals mg → FnOk P w K mg base CX k fa fd [x] sp) (hbind : ∀ (s : Shared) (u : Value), BindsTo s fd ⟨[u], []⟩ [(x, u)])
    (hsp : ∀ H : Hp, Only H → SqL K H a (ns.map V.int) → sp [.ref a] H (fun v _ => v = .bl true) fun _ _ _ => False)
    (hCX : ∀ H e s', CX [] H s₁ (fun _ _ _ => False) e s' → False) :
    codeAny (model P w) callerA (.call (.ref fa) ⟨[.ref a], []⟩) (fun r s' => r = .ok (.ret (.bool true)) ∧ OldK s₁.heap s'.heap ∧ s'.os = s₁.os ∧ AllBare s'.gens) s₁ := by
  have rv := vals_ints hi
  have lenV := hi.length
  -- from an abstract heap in which nothing but the script may be tracked
  have core : ∀ H : Hp, Only H → SqL K H a (ns.map V.int) → HOk P w H s₁.heap → (∀ b, H b ≠ none → b = a) → (H a ≠ none → K.lookup a = none) →
      codeAny (model P w) callerA (.call (.ref fa) ⟨[.ref a], []⟩) (fun r s' => r = .ok (.ret (.bool true)) ∧ OldK s₁.heap s'.heap ∧ s'.os = s₁.os ∧ AllBare s'.gens) s₁ := by
    intro H hO hS hok hA hK
    have base_of : ∀ {b : Addr} {o : Obj}, s₁.heap.get? b = some o → H b = none → (hidT s₁.heap H).get? b = some o := fun e n => hidT_get e n
    have noA : ∀ {b : Addr} {o : Obj} {es : Array DictEntry} {ep : Nat}, s₁.heap.get? b = some o → o.data = .dict es ep → H b = none := fun {b o es ep} e d => by
      cases q : H b with
      | none => rfl
      | some u =>
        have e' : b = a := hA b (by rw [q]; simp)
        subst e'
        rw [ha] at e; cases e
        have d' : Data.seq vs.toArray _ = Data.dict es ep := d
        cases d'
    have nsK : ∀ {b : Addr} {m : Str → Option Value}, s₁.heap.Ns b m → (hidT s₁.heap H).Ns b m := fun {b m} ⟨o, es, ep, e, d, r⟩ => ⟨o, es, ep, base_of e (noA e d), d, r⟩
    have hKb : K.In (hidT s₁.heap H) := fun b o e => base_of (KX b o e) (by
      cases q : H b with
      | none => rfl
      | some u =>
        have e' : b = a := hA b (by rw [q]; simp)
        subst e'
        rw [hK (by rw [q]; simp)] at e; cases e)
    have hM : Mod K mg (hidT s₁.heap H) := ⟨hKb, nsK hns, ⟨mb, nsK hb, hbb⟩, let ⟨mc, h1, h2⟩ := hlim; ⟨mc, nsK h1, h2⟩⟩
    have e0 : Env0 P w K mg (hidT s₁.heap H) callerA [] s₁ H := ⟨rfl, hM, fun b o e => of_hidT e, Nat.le_of_eq (hidT_size _ _), trivial, fun b hb => absurd (show b ∈ ([] : List Addr) from hb) (by simp), hok, .of_eq hg⟩
    refine codeAny_mono ((F _ hKb (nsK hns)).run callerA [] s₁ H ⟨[.ref a], []⟩ [.ref a] [.ref a] _ _ hr e0 (hbind s₁ (.ref a)) (.cons rfl .nil) (hsp H hO hS)) fun r s' h => ?_
    cases r with
    | error e => exact (hCX H e s' h).elim
    | ok fl =>
      cases fl with
      | next => exact False.elim h
      | brk => exact False.elim h
      | cont => exact False.elim h
      | ret u =>
        obtain ⟨v, H', os, bare, un, hok', r', q⟩ := h
        have q' : v = .bl true := q
        subst q'
        obtain rfl : u = Value.bool true := r'
        refine ⟨rfl, OldK.of_keep fun b o e => ?_, os, bare⟩
        cases q : H b with
        | none => exact un.keep b o e q (by intro z; exact absurd (show b ∈ ([] : List Addr) from z) (by simp)) (by simp)
        | some u =>
          rcases hO b with z | ⟨ob, xs, z⟩
          · rw [q] at z; cases z
          · have z2 := un.frzs b ob _ z
            obtain ⟨e1, _⟩ := hok b _ z
            obtain ⟨e2, _⟩ := hok' b _ z2
            rw [e] at e1; cases e1
            exact e2
  cases hk : K.lookup a with
  | some o =>
    -- the script is one of the module's own objects
    have e := KX a o hk
    rw [ha] at e
    cases e
    refine core (fun _ => none) (fun _ => .inl rfl) (.inr ⟨_, vs.toArray, _, hk, rfl, rfl, rfl, by rw [List.size_toArray, lenV]; exact hl, by simpa using rv⟩) (fun b u z => by have z' : (none : Option HO) = some u := z; cases z') (fun b z => absurd rfl z) fun z => absurd rfl z
  | none =>
    refine core (fun b => if b = a then some (.frz { cls := .type "list", data := .seq vs.toArray } (.lst (ns.map V.int))) else none) (fun b => ?_) (.inl (.inr ⟨{ cls := .type "list", data := .seq vs.toArray }, if_pos rfl⟩)) (fun b u z => ?_) (fun b z => ?_) fun _ => hk
    · by_cases hb : b = a
      · exact .inr ⟨_, _, if_pos hb⟩
      · exact .inl (if_neg hb)
    · by_cases hb : b = a
      · have z' := (if_pos hb).symm.trans z
        cases z'
        subst hb
        exact ⟨ha, by rw [List.length_map]; exact hl, vs, _, rv, ha⟩
      · have z' := (if_neg hb).symm.trans z
        cases z'
    · by_cases hb : b = a
      · exact hb
      · exact absurd (if_neg hb) z
end L2

namespace L2
open PySem PySem.Spec PyProof.Rows

abbrev KOf {K : PySem.W.Frag} {h : Heap} (_ : K.In h) : PySem.W.Frag := K

/-- the goal that k_head leaves (case hc), from the law's promise. F gives the function object fd (K's own) once, then the promise over every base -/
theorem walk_of {l : PySem.W.OpenLaw} {n k : Nat} {q : Program} {loose : List Str} {XP : (Str → Option Value) → Heap → Prop} {YP : World → Heap → Prop} {d : DefRec} {K : Params → PySem.W.Frag} {CX : World → CXT} {sp : World → Sp} {x : Str}
    (hn : l.most = some n) (hn2 : n ≤ sizeLine) (hdf : d.params.defaults = []) (hr : Room k callerA)
    (hY : ∀ (w : World) (h : Heap), YP w h → (K w.params).In h)
    (F : ∀ (w : World) (mg : Str → Option Value) (fa : Addr) (h : Heap), (K w.params).In h → h.Ns mainGlobals mg → mg d.name = some (.ref fa) →
      ∃ fd : FuncData, (∀ (s : Shared) (u : Value), BindsTo s fd ⟨[u], []⟩ [(x, u)]) ∧
        ∀ base : Heap, (K w.params).In base → base.Ns mainGlobals mg → FnOk l.prog w (K w.params) mg base (CX w) k fa fd [x] (sp w))
    (hsp : ∀ (w : World) (H : Hp) (a : Addr) (ns : List Int), ns.length ≤ n → Only H → SqL (K w.params) H a (ns.map V.int) → sp w [.ref a] H (fun v _ => v = .bl true) fun _ _ _ => False)
    (hCX : ∀ (w : World) (H : Hp) (s : Shared) (e : Value) (s' : Shared), CX w [] H s (fun _ _ _ => False) e s' → False) :
    PySem.W.WalkO q loose XP YP l.row.toRowW d [] (fun f vs => PySem.call f vs) := by
  refine Att.attach_call hn hdf fun w s₀ s₁ mg mb fa o pm cd doc a vs ns G Y ho hd hcd hmg hobj hints hlen hg => ?_
  have KX := hY w _ Y
  obtain ⟨fd, hb, hF⟩ := F w mg fa _ KX G.T.g hmg
  exact law_call KX G.T.g G.T.b G.T.builtins G.T.nolimit hg hobj hints (Nat.le_trans hlen hn2) hr hF hb (fun H hO hS => hsp w H a ns hlen hO hS) fun H e s' => hCX w H s₁ e s'
end L2

/- THE LAST THEOREM (shape; LID, My.* are yours):
   My.Adr: a structure of the addresses that your layer names (classes, functions); My.Txt K t: a structure (Prop) of the equations over K;
   My.txt_mk : {K} {implicit addresses ..} (e1 : nsIn K mainGlobals "law" = some (some (.ref f))) (e2 : K.lookup f = some ⟨oc, od, .func (fnOf "law" "law" params body scope dV kV doc pm an cdv ct), sl⟩) (e3 : codeIn K cdv "law" = true) .. : ∃ t, My.Txt K t

set_option maxRecDepth 100000 in
set_option maxHeartbeats 0 in
theorem PySem.Challenge.cw_LID_holds : PySem.Challenge.rw_LID.Holds := by
  w_on; o_law; k_head; (case hw => w_witness2)
  k_fill
  refine L2.walk_of (l := PySem.Challenge.rw_LID) (n := 63) (k := 40) (x := "script") (CX := fun w => ..) (sp := fun _ => My.sp_law) rfl (by decide) rfl ⟨rfl, by decide, by decide⟩ (fun w h Y => PySem.W.kIn_of Y) ?F ?S ?C
  case F =>
    intro w mg fa h KX G hmg
    have T : ∃ t, My.Txt (L2.KOf KX) t := by
      dsimp only [L2.KOf]                          -- K must stand as «<heap const> w.params» for k_is
      refine' My.txt_mk ?e1 ?e2 ?e3 ..
      (case e1 => PySem.W.k_is)                    -- in the order: a name -> its address -> its object -> its parts
      (case e2 => PySem.W.k_is)
      ..
    obtain ⟨t, T⟩ := T
    have e0 := hmg.symm.trans (PySem.W.mg_of KX G T.law)
    cases e0                                       -- fa is the law's own address
    exact ⟨_, fun s u => .of_eq rfl, fun base kb nb => My.law_fn T kb nb⟩     -- if «.of_eq rfl» comes too early: refine' ⟨_, ?b, fun base kb nb => My.law_fn T kb nb⟩; exact fun s u => .of_eq rfl
  case S => exact fun w H a ns hl hO hS => ..
  case C => exact ..
(the tactic k_is has no namespace: write k_is) -/

/-! SHORT WORDS over the layer: a def of the text, its body, what a loop and a test want. -/
namespace L2
open PySem PySem.Spec PyProof.Rows

/-! ### the text by places -/
/-- the j-th statement of a class's body -/
def inClass (s : Stmt) (j : Nat) : Stmt := match s with
  | .ClassDef _ _ _ body _ _ _ _ _ _ _ => body.getD j (.Pass ⟨0, 0, 0, 0⟩)
  | _ => .Pass ⟨0, 0, 0, 0⟩
def defArgs (s : Stmt) : Arguments := match s with
  | .FunctionDef _ a _ _ _ _ _ _ _ _ => a
  | _ => { posonlyargs := [], args := [], vararg := none, kwonlyargs := [], kw_defaults := [], kwarg := none, defaults := [] }
def defBody (s : Stmt) : List Stmt := match s with
  | .FunctionDef _ _ b _ _ _ _ _ _ _ => b
  | _ => []
def defScope (s : Stmt) : Scope := match s with
  | .FunctionDef _ _ _ _ _ _ sc _ _ _ => sc
  | _ => { kind := .function, names := [], isGenerator := false, isCoroutine := false }

/-! ### no exception leaves a def -/
abbrev CX0 : CXT := fun _ _ _ _ _ _ => False
abbrev E0 : XK := fun _ _ _ => False
theorem pass0 {X : Cx} : Passes CX0 X E0 := fun _ _ _ _ _ _ _ h => h.elim

/-! ### a def (or method) of the text as it stands behind the top -/
structure Fun (K : PySem.W.Frag) (x qual : Str) (st : Stmt) (f : Addr) (fd : FuncData) : Prop where
  ex : ∃ (oc : Value) (od : Option Addr) (kV doc pm : Value) (an : Option Addr) (cdv ct : Value) (osl : Array (Option Value)),
    fd = PySem.W.fnOf x qual (defArgs st) (defBody st) (defScope st) .none kV doc pm an cdv ct ∧ K.lookup f = some ⟨oc, od, .func fd, osl⟩ ∧ PySem.W.codeIn K cdv qual = true
  kp : PySem.W.keepIn K (.ref f) = true
section
variable {P : Program} {w : World} {K : PySem.W.Frag} {mg : Str → Option Value} {base : Heap}
/-- THE RULE for a def: its body as a term of rules, and the reading of that term -/
theorem Fun.ok {x qual : Str} {st : Stmt} {f : Addr} {fd : FuncData} {N ps : List Str} {k : Nat} {sp : Sp} (F : Fun K x qual st f fd) (S : FnScope N ps (defScope st)) (len : ∀ vs H Q E, sp vs H Q E → vs.length = ps.length)
    (hbody : ∀ (cdv : Value) (A : Around) (outer : List Env) (s : Shared) (H : Hp) (vs : List V) (Q : VK) (E : XK), Room k (A.deeper (envOfC qual (defScope st) s.heap.objs.size f cdv)) → sp vs H Q E →
      ∃ t, PSs (cxOf CX0 P w K mg base N qual (defScope st) f cdv A outer s H E).nox (defBody st) t ∧ t { nx := fun _ H' => Q .non H', rt := Q } (start N vs) H) : FnOk P w K mg base CX0 (k + 1) f fd ps sp := by
  obtain ⟨oc, od, kV, doc, pm, an, cdv, ct, osl, rfl, lk, hcd⟩ := F.ex
  refine fn_of lk hcd S len fun A outer s H vs Q E hr hsp => ?_
  obtain ⟨t, h, q⟩ := hbody cdv A outer s H vs Q E hr hsp
  exact ⟨t, h.nox, q⟩
/-- how its arguments bind (no defaults): h is «fun _ _ _ _ _ _ us hl => match us, hl with | [_, _], _ => rfl», one _ a parameter -/
theorem Fun.binds {x qual : Str} {st : Stmt} {f : Addr} {fd : FuncData} {ps : List Str} (F : Fun K x qual st f fd)
    (h : ∀ (kV doc pm : Value) (an : Option Addr) (cdv ct : Value) (us : List Value), us.length = ps.length → bindArgs (PySem.W.fnOf x qual (defArgs st) (defBody st) (defScope st) .none kV doc pm an cdv ct) ⟨us, []⟩ = pure (ps.zip us)) : Binds K fd ps [] := by
  obtain ⟨oc, od, kV, doc, pm, an, cdv, ct, osl, rfl, lk, hcd⟩ := F.ex
  exact .all (h kV doc pm an cdv ct)
theorem fun_mk {x qual : Str} {st : Stmt} {f : Addr} {oc : Value} {od an : Option Addr} {osl : Array (Option Value)} {kV doc pm cdv ct : Value} (l : K.lookup f = some ⟨oc, od, .func (PySem.W.fnOf x qual (defArgs st) (defBody st) (defScope st) .none kV doc pm an cdv ct), osl⟩)
    (c : PySem.W.codeIn K cdv qual = true) (k : PySem.W.keepIn K (.ref f) = true) : Fun K x qual st f (PySem.W.fnOf x qual (defArgs st) (defBody st) (defScope st) .none kV doc pm an cdv ct) := ⟨⟨oc, od, kV, doc, pm, an, cdv, ct, osl, rfl, l, c⟩, k⟩
end
/-! ### expressions in short: the name that stands in the i-th slot -/
section
variable {X : Cx}
theorem pv (i : Nat) {x : Str} {pos : Pos} (hN : X.N[i]? = some x := by rfl) (hv : Vis X.env.scope x := by first | exact Or.inl rfl | exact Or.inr (Or.inl rfl) | exact Or.inr (Or.inr rfl)) (hd : (x == ("__debug__" : Str)) = false := by decide)
    (hcd : (x == ("__classdict__" : Str)) = false := by decide) : PE X (.Name x pos) (tVar i) := pe_var hN hv hd hcd
end

/-! ### tests -/
theorem iteF {A B : Prop} (h : B) : if false = true then A else B := by
  rw [if_neg Bool.false_ne_true]
  exact h
theorem iteT {A B : Prop} (h : A) : if true = true then A else B := by
  rw [if_pos rfl]
  exact h
theorem ite2 {c A B : Prop} [Decidable c] (h1 : c → A) (h2 : ¬ c → B) : if c then A else B := by
  by_cases h : c
  · rw [if_pos h]
    exact h1 h
  · rw [if_neg h]
    exact h2 h
/-! ### heaps -/
/-- all that was tracked is as it was -/
def Same (H H' : Hp) : Prop := ∀ b o, H b = some o → H' b = some o
theorem Same.refl (H : Hp) : Same H H := fun _ _ h => h
theorem Same.trans {H H1 H2 : Hp} (a : Same H H1) (b : Same H1 H2) : Same H H2 := fun c o h => b c o (a c o h)
theorem Same.free {H H' : Hp} (e : Same H H') {l : Addr} (h : H' l = Option.none) : H l = Option.none := by
  cases q : H l with
  | none => rfl
  | some o =>
    rw [e l o q] at h
    cases h
theorem Same.seq {K : PySem.W.Frag} {H H' : Hp} {a : Addr} {xs : List V} (e : Same H H') (h : SqL K H a xs) : SqL K H' a xs := by
  rcases h with (h | ⟨o, h⟩) | h
  · exact .inl (.inl (e _ _ h))
  · exact .inl (.inr ⟨o, e _ _ h⟩)
  · exact .inr h

end L2
set_option Elab.async false
set_option linter.all false
set_option maxRecDepth 100000
set_option maxHeartbeats 4000000
namespace L2
open PySem PySem.Spec PyProof.Rows

/-! ### the cells that a comprehension's block takes over -/
def clo (cells : List (Str × Addr)) : List (Str × NameKind) → List (Str × Addr) → List (Str × Addr)
  | [], cs => cs
  | p :: r, cs => clo cells r (if (p.2 == NameKind.free) = true then (match cells.lookup p.1 with | some a => (p.1, a) :: cs | none => cs) else cs)

theorem clo_run {env : Env} {f : Str × NameKind → List (Str × Addr) → Sem (ForInStep (List (Str × Addr)))}
    (hf : ∀ p cs, f p cs = if (p.2 == NameKind.free) = true then (cellOf env p.1 >>= fun a => pure (ForInStep.yield ((p.1, a) :: cs))) else pure (ForInStep.yield cs)) :
    ∀ (names : List (Str × NameKind)) (cs : List (Str × Addr)), (∀ p ∈ names, p.2 = .free → ∃ a, env.cells.lookup p.1 = some a) →
      (forIn names cs f : Sem (List (Str × Addr))) = pure (clo env.cells names cs) := by
  intro names
  induction names with
  | nil => intro cs _; rfl
  | cons p r ih =>
    intro cs h
    have hr := fun cs => ih cs fun q hq => h q (List.mem_cons_of_mem _ hq)
    rw [List.forIn_cons, hf]
    by_cases hk : p.2 = .free
    · obtain ⟨a, ha⟩ := h p List.mem_cons_self hk
      have hb : (p.2 == NameKind.free) = true := by rw [hk]; rfl
      rw [if_pos hb]
      have hc : cellOf env p.1 = pure a := by unfold cellOf; rw [ha]
      rw [hc]
      show (forIn r ((p.1, a) :: cs) f : Sem _) = _
      rw [hr, clo, if_pos hb, ha]
    · have hb : ¬ (p.2 == NameKind.free) = true := by simpa using hk
      rw [if_neg hb]
      show (forIn r cs f : Sem _) = _
      rw [hr, clo, if_neg hb]
theorem clo_for {env : Env} {scope : Scope} (h : ∀ p ∈ scope.names, p.2 = .free → ∃ a, env.cells.lookup p.1 = some a) : closureFor scope env = pure (clo env.cells scope.names []) := by
  simp only [closureFor]
  rw [clo_run (env := env) (fun p cs => by obtain ⟨n, k⟩ := p; cases hk : (k == NameKind.free) <;> simp [hk] <;> rfl) scope.names [] h]
  rfl
theorem clo_old {cells : List (Str × Addr)} {x : Str} {c : Addr} : ∀ (names : List (Str × NameKind)) (cs : List (Str × Addr)), (clo cells names cs).lookup x = some c → cells.lookup x = some c ∨ cs.lookup x = some c := by
  intro names
  induction names with
  | nil => intro cs h; exact .inr h
  | cons p r ih =>
    intro cs h
    rw [clo] at h
    rcases ih _ h with e | e
    · exact .inl e
    · split at e
      · cases ha : cells.lookup p.1 with
        | none => rw [ha] at e; exact .inr e
        | some a =>
          rw [ha] at e
          rw [List.lookup_cons] at e
          cases hx : x == p.1 with
          | true =>
            rw [hx] at e
            have : x = p.1 := by simpa using hx
            subst this
            left
            rw [ha]; exact e
          | false => rw [hx] at e; exact .inr e
      · exact .inr e
theorem clo_new {cells : List (Str × Addr)} {x : Str} {a : Addr} (ha : cells.lookup x = some a) : ∀ (names : List (Str × NameKind)) (cs : List (Str × Addr)),
    ((x, NameKind.free) ∈ names ∨ cs.lookup x = some a) → (clo cells names cs).lookup x = some a := by
  intro names
  induction names with
  | nil => intro cs h; rcases h with h | h
           · cases h
           · exact h
  | cons p r ih =>
    intro cs h
    rw [clo]
    by_cases hr : (x, NameKind.free) ∈ r
    · exact ih _ (.inl hr)
    · refine ih _ (.inr ?_)
      by_cases hb : (p.2 == NameKind.free) = true
      · rw [if_pos hb]
        by_cases hx : x = p.1
        · subst hx
          rw [ha]
          simp [List.lookup_cons]
        · have h2 : cs.lookup x = some a := by
            rcases h with h | h
            · rcases List.mem_cons.mp h with e | e
              · exact absurd (congrArg Prod.fst e) hx
              · exact absurd e hr
            · exact h
          cases hc : cells.lookup p.1 with
          | none => exact h2
          | some b =>
            have hx' : (x == p.1) = false := by simpa using hx
            simp [List.lookup_cons, hx', h2]
      · rw [if_neg hb]
        rcases h with h | h
        · rcases List.mem_cons.mp h with e | e
          · exact absurd (by rw [← e]; rfl) hb
          · exact absurd e hr
        · exact h

theorem mem_lookup {α β : Type} [BEq α] [LawfulBEq α] {x : α} {y : β} : ∀ {l : List (α × β)}, l.lookup x = some y → (x, y) ∈ l
  | [], h => by cases h
  | p :: r, h => by
    rw [List.lookup_cons] at h
    cases hx : x == p.1 with
    | true =>
      rw [hx] at h
      have e : x = p.1 := by simpa using hx
      cases h
      rw [e]
      exact List.mem_cons_self
    | false => rw [hx] at h; exact List.mem_cons_of_mem _ (mem_lookup h)

/-- how a name of the block is seen behind the relabelling -/
theorem relabG {f : Str × NameKind → Str × NameKind} (hf : ∀ p, f p = p ∨ (p.2 = .free ∧ f p = (p.1, .cell))) {x : Str} : ∀ {names : List (Str × NameKind)}, (names.map f).lookup x = names.lookup x ∨ (names.lookup x = some .free ∧ (names.map f).lookup x = some .cell)
  | [] => .inl rfl
  | p :: r => by
    have ih := @relabG f hf x r
    rw [List.map_cons]
    rcases hf p with e | ⟨e1, e2⟩
    · rw [e, List.lookup_cons, List.lookup_cons]
      cases hx : x == p.1 with
      | true => exact .inl rfl
      | false => exact ih
    · rw [e2, List.lookup_cons, List.lookup_cons]
      cases hx : x == p.1 with
      | true => exact .inr ⟨congrArg some e1, rfl⟩
      | false => exact ih
theorem relab {env : Env} {x : Str} {names : List (Str × NameKind)} :
    ((names.map fun (n, k) => if (k == NameKind.free && env.scope.kind == .function && env.kindOf n == some .cell) then (n, NameKind.cell) else (n, k)).lookup x = names.lookup x) ∨
    (names.lookup x = some .free ∧ (names.map fun (n, k) => if (k == NameKind.free && env.scope.kind == .function && env.kindOf n == some .cell) then (n, NameKind.cell) else (n, k)).lookup x = some .cell) := by
  refine relabG (fun p => ?_)
  obtain ⟨n, k⟩ := p
  by_cases hc : (k == NameKind.free && env.scope.kind == .function && env.kindOf n == some .cell) = true
  · right
    have hk : k = .free := by
      simp only [Bool.and_eq_true, beq_iff_eq] at hc
      exact hc.1.1
    exact ⟨hk, by show (if _ then _ else _) = _; rw [if_pos hc]⟩
  · left
    show (if _ then _ else _) = _
    rw [if_neg hc]

/-! ### the block's context -/
def cxB (X : Cx) (NB : List Str) (scope : Scope) (cl : List (Str × Addr)) (C : Addr) (fp : List Addr) (s : Shared) (H : Hp) : Cx where
  prog := X.prog
  w := X.w
  K := X.K
  mg := X.mg
  base := X.base
  A := X.A
  N := NB
  s₀ := s
  H₀ := H
  env := compEnvC scope cl C X.env
  outer := X.stack
  stack := X.stack
  ex := fp
  fn := fun _ => false
  calm := X.calm
  pn := []
  xe := fun _ _ => False

/-- the tests of a clause -/
def PIfs (X : Cx) (ifs : List Expr) (t : TT) : Prop :=
  ∀ (pins : List (Addr × Obj)) (s : Shared) (σ : St) (H : Hp) (Q : Bool → Hp → Prop), Inv X pins σ H s → t σ H Q →
    wpAny (model X.prog X.w) X.A (forIn ifs true fun c r => if r = true then do let ok ← isTrue c X.env (eval c X.env); pure (ForInStep.yield ok) else pure (ForInStep.yield r)) (TP X pins σ Q) X.xe s
def tYes : TT := fun _ H Q => Q true H
theorem pifs_nil {X : Cx} : PIfs X [] tYes := fun _ _ _ H _ I h => wpAny_tests_nil ⟨H, I, h⟩
theorem pifs_one {X : Cx} {c : Expr} {t : TT} (h : PT X c t) : PIfs X [c] t := fun pins s σ H Q I q => wpAny_tests_one (h pins s σ H Q I q)

section
variable {prog : Program} {w : World} {A : Around} {R : Result → Shared → Prop} {s : Shared}
/-- the loop of a list's comprehension by an invariant; nothing is raised in it -/
theorem comp_loop {elt target iter : Expr} {ifs : List Expr} {scope : Scope} {pos : Pos} {it acc : Value} {env : Env} (I : Nat → Shared → Prop)
    (turn : ∀ n s, I n s → wpAny (model prog w) A (pyNext it) (fun r s1 => (r = none ∧ R (.ok .next) s1) ∨ ∃ v, r = some v ∧
      wpAny (model prog w) A (letOwnedTupleGo target it v) (fun _ s2 => wpAny (model prog w) A (assign target env v) (fun _ s3 =>
        wpAny (model prog w) A (forIn ifs true fun c r => if r = true then do let ok ← isTrue c env (eval c env); pure (ForInStep.yield ok) else pure (ForInStep.yield r)) (fun ok s4 =>
          if ok = true then wpAny (model prog w) A (eval elt env) (fun x s5 => wpAny (model prog w) A (call (.builtin "list.append") [acc, x]) (fun _ s6 => ∃ m, m < n ∧ I m s6) (fun _ _ => False) s5) (fun _ _ => False) s4
          else ∃ m, m < n ∧ I m s4) (fun _ _ => False) s3) (fun _ _ => False) s2) (fun _ _ => False) s1) (fun _ _ => False) s)
    (n : Nat) (h : I n s) : codeAny (model prog w) A (.compLoop (.ListComp elt [⟨target, iter, ifs, 0⟩] scope pos) 0 it acc env) R s := by
  refine codeAny_loop rfl I (fun k s0 hk => ?_) n h
  show wpAny _ A (Sem.onRaise (compTurn (.ListComp elt [⟨target, iter, ifs, 0⟩] scope pos) 0 it acc env) (fun x => do noteFrame x env; theTreesLotGoes x)) _ _ s0
  refine wpAny_noted ?_
  rw [compTurn_list]
  refine wpAny_bind (wpAny_standAt (wpAny_bind (wpAny_mono (turn k s0 hk) (fun r s1 h1 => ?_) fun _ _ z => z.elim)))
  rcases h1 with ⟨rfl, h1⟩ | ⟨v, rfl, h1⟩
  · exact wpAny_pure h1
  · refine wpAny_bind (wpAny_mono h1 (fun _ s2 h2 => wpAny_bind (wpAny_mono h2 (fun _ s3 h3 => wpAny_bind (wpAny_mono h3 (fun ok s4 h4 => ?_) fun _ _ z => z.elim)) fun _ _ z => z.elim)) fun _ _ z => z.elim)
    cases ok with
    | false => exact wpAny_pure ⟨rfl, h4⟩
    | true => exact wpAny_bind (wpAny_bind (wpAny_mono h4 (fun x s5 h5 => wpAny_bind (wpAny_mono h5 (fun _ s6 h6 => wpAny_pure (wpAny_pure ⟨rfl, h6⟩)) fun _ _ z => z.elim)) fun _ _ z => z.elim))
end

/-- the tracked things stay when an untracked one is changed -/
theorem HOk.but {P : Program} {w : World} {H : Hp} {h h' : Heap} {C : Addr} (x : HOk P w H h) (hC : H C = none) (k : ∀ b o, b ≠ C → h.get? b = some o → h'.get? b = some o) : HOk P w H h' := fun b u e => by
  have nit : ∀ c v, H c = some v → c ≠ C := fun c v q z => by rw [z, hC] at q; cases q
  refine (x b u e).stay (fun c v hc q => k c v ?_ q) (fun _ q => q) fun _ _ q => q
  rcases hc with z | z
  · rw [z]; exact nit b u e
  · exact nit c _ z

/-- what a comprehension's loop wants: W the invariant, by the turn and a measure; D the list that is made -/
def CompGo (frs : St) (g : TG) (tt : TT) (te : TE) (Q : VK) (J : It) (H1 : Hp) : Prop := ∀ D, H1 D = none →
  ∃ W : Nat → Nat → List V → St → Hp → Prop, (∃ m, W 0 m [] frs (upd H1 D (.lst []))) ∧
    ∀ i m ys σ' H', W i m ys σ' H' → H' D = some (.lst ys) →
      (J.stop i H' ∧ Q (.ref D) H') ∨
      (J.go i H' ∧ ys.length < sizeLine ∧ ∀ x H2, J.yld i H' x H2 → g x σ' H2 fun σ3 H3 => tt σ3 H3 fun b H4 =>
        if b = true then te σ3 H4 fun v H5 => H5 D = some (.lst ys) ∧ ∃ m', m' < m ∧ W (i + 1) m' (ys ++ [v]) σ3 (upd H5 D (.lst (ys ++ [v])))
        else H4 D = some (.lst ys) ∧ ∃ m', m' < m ∧ W (i + 1) m' ys σ3 H4)
def tComp (n : Nat) (fr : List Nat) (wi : TI) (g : TG) (tt : TT) (te : TE) : TE := fun σ H Q => wi σ H (CompGo (List.replicate n none ++ fr.map fun k => (σ[k]?).join) g tt te Q)

section
variable {X : Cx} {elt tg iter : Expr} {ifs : List Expr} {scope : Scope} {pos : Pos} {NB : List Str} {n : Nat} {fr : List Nat} {wi : TI} {g : TG} {tt : TT} {te : TE}

structure CompOk (X : Cx) (scope : Scope) (NB : List Str) (n : Nat) (fr : List Nat) : Prop where
  kind : scope.kind = .function
  nocell : ∀ y ∈ scope.names, y.2 ≠ .cell
  names : ∀ y ∈ scope.names, y.2 = .local → scope.names.lookup y.1 = some .local
  free : ∀ y ∈ scope.names, y.2 = .free → X.env.kindOf y.1 = some .cell ∨ X.env.kindOf y.1 = some .free
  len : NB.length = n + fr.length
  own : ∀ (j k : Nat), fr[j]? = some k → ∃ x, NB[n + j]? = some x ∧ X.N[k]? = some x ∧ scope.names.lookup x = some .free

theorem blk_ok {pins : List (Addr × Obj)} {σ : St} {H : Hp} {s : Shared} {fp : List Addr} {C : Addr} (O : CompOk X scope NB n fr) (I : Inv X pins σ H s) (hf : ∀ b ∈ fp, FpOk X pins H b) (hfl : ∀ b ∈ fp, b < s.heap.objs.size) (hC : s.heap.objs.size ≤ C) :
    (cxB X NB scope (clo X.env.cells scope.names []) C fp s H).Ok where
  mod := I.ok.mod
  kind := O.kind
  glob := I.ok.glob
  blt := I.ok.blt
  above := hC
  inj := fun x y c h1 h2 => by
    have e1 := (clo_old scope.names [] h1).resolve_right (by intro z; cases z)
    have e2 := (clo_old scope.names [] h2).resolve_right (by intro z; cases z)
    exact I.ok.inj x y c e1 e2
  has := fun x hx => by
    have hx' : (relabel scope X.env).names.lookup x = some .cell ∨ (relabel scope X.env).names.lookup x = some .free := hx
    have hfree : scope.names.lookup x = some .free := by
      have r := @relab X.env x scope.names
      rcases r with r | r
      · have hx2 : scope.names.lookup x = some .cell ∨ scope.names.lookup x = some .free := by rw [← r]; exact hx'
        rcases hx2 with e | e
        · exact absurd rfl (O.nocell _ (mem_lookup e))
        · exact e
      · exact r.1
    have hm := mem_lookup hfree
    obtain ⟨c, hc⟩ := I.ok.has x (O.free _ hm rfl)
    exact ⟨c, clo_new hc scope.names [] (.inl hm)⟩
  cab := fun x c h => nomatch h
  hd := fun h => I.ok.hd h
  frames := I.ok.frames
  stk := .inl rfl
  exf := fun b hb => ⟨Nat.ne_of_lt (Nat.lt_of_lt_of_le (hfl b hb) hC), fun x c h => by
    have e1 := (clo_old scope.names [] h).resolve_right (by intro z; cases z)
    exact (hf b hb).2.2.2.2.1 x c e1⟩
  bs := I.bs
  bsz := Nat.le_trans I.ok.bsz I.sz
  noex := fun b o e hb => by
    rcases (hf b hb).2.2.2.1 with z | z
    · exact I.ok.noex b o e z
    · exact absurd (Nat.lt_of_lt_of_le (Heap.lt_size e) (Nat.le_trans I.ok.bsz z)) (Nat.lt_irrefl _)
  exfs := fun b hb z => by
    rcases List.mem_cons.mp (I.stkSub b z) with e | e
    · exact (hf b hb).2.1 e
    · exact (hf b hb).2.2.1 e
  funs := I.stack
  frf := I.stkFree

/-- a state whose block's own names are let go -/
theorem Inv.but {pins : List (Addr × Obj)} {σ : St} {H : Hp} {s : Shared} {C : Addr} {h' : Heap} (I : Inv X pins σ H s) (hC : X.s₀.heap.objs.size ≤ C) (hH : H C = none) (hL : C ≠ X.env.locals) (hcl : ∀ x c, X.env.cells.lookup x = some c → c ≠ C) (hpn : ∀ p ∈ X.pn ++ pins, p.1 ≠ C) (sb : Heap.SameBut C s.heap h') :
    Inv X pins σ H { s with heap := h' } := by
  refine I.call' (s' := { s with heap := h' }) (ch := [C]) rfl ?_ (HOk.but I.hok hH fun b o hb e => sb.extBut b o hb e) I.bare (fun b hb => ?_)
  · have ne : ∀ {b : Addr}, b ∉ [C] → b ≠ C := fun {b} h z => h (by rw [z]; exact List.mem_cons_self)
    exact ⟨fun b o e _ _ hx => sb.extBut b o (ne hx) e, fun b o e _ _ hx => ⟨o.slots, sb.extBut b o (ne hx) e⟩, fun _ _ _ n _ => n, fun b o e hx => ⟨o, sb.extBut b o (ne hx) e⟩, fun _ _ q => q, fun _ _ _ q => q, fun _ ps q => ⟨#[], by rw [q]; simp⟩⟩
  · have e : b = C := by simpa using hb
    subst e
    exact ⟨.inr hC, hL, hcl, hpn⟩
/-- the block itself, with what is done with its list -/
theorem comp_core {use : Option (Value → Sem Unit)} {QQ : Value → Shared → Prop} {pins : List (Addr × Obj)} {s : Shared} {σ : St} {H : Hp} {Q : VK} {pos2 : Pos} (O : CompOk X scope NB n fr) (hc : X.calm = true) (hi : PI X tg iter wi)
    (hg : ∀ cl C fp s H, PG (cxB X NB scope cl C fp s H) tg g) (ht : ∀ cl C fp s H, PIfs (cxB X NB scope cl C fp s H) ifs tt) (he : ∀ cl C fp s H, PE (cxB X NB scope cl C fp s H) elt te)
    (hs : ∀ x, foldedSetIterable iter X.env x = pure x) (I : Inv X pins σ H s) (h : tComp n fr wi g tt te σ H Q)
    (fin0 : ∀ (D C : Addr) (H' : Hp) (s' : Shared) (m : Str → Option Value), s'.heap.Ns C m → Inv X pins σ H' s' → X.s₀.heap.objs.size ≤ C → H' C = none → C ≠ X.env.locals → (∀ x c, X.env.cells.lookup x = some c → c ≠ C) → (∀ p ∈ X.pn ++ pins, p.1 ≠ C) → Q (.ref D) H' →
      compPost (model X.prog X.w) X.A X.xe use QQ (.ref D) C (.ok .next) s') :
    wpAny (model X.prog X.w) X.A (comprehension (.ListComp elt [⟨tg, iter, ifs, 0⟩] scope pos) scope X.env pos2 (newList []) false (eval iter X.env) use) QQ X.xe s := by
  have hcl : closureFor scope X.env = pure (clo X.env.cells scope.names []) := clo_for fun p hp hk => I.ok.has p.1 (O.free p hp hk)
  refine wpAny_comprehension_free (use := use) rfl hs hcl O.kind O.names (thn (hi pins s σ H _ I h) fun v s1 h1 => thn h1 fun itv s2 h2 => ?_)
  obtain ⟨it, fp, tn, J, H2, e, I2, T, st2, f2, R⟩ := h2
  subst e
  have fpl : ∀ b ∈ fp, b < s2.heap.objs.size := fun b hb => by
    obtain ⟨o, ho, _⟩ := T.obj 0 _ st2 b hb
    exact Heap.lt_size ho
  refine wpAny_newObj_type (wpAny_newFunctionEnv O.nocell (fun y hy => absurd hy (by simp)) (fun h1 ns1 sb1 => ?_) O.kind)
  dsimp only at ns1 sb1 ⊢
  generalize hD2 : s2.heap.push { cls := .type "list", dict := none, data := .seq ([] : List Value).toArray } = hp2 at ns1 sb1 ⊢
  have zC : hp2.objs.size = s2.heap.objs.size + 1 := by rw [← hD2, Heap.size_push]
  have kept : ∀ b o, s2.heap.get? b = some o → h1.get? b = some o := fun b o q => by
    have lt := Heap.lt_size q
    refine sb1.extBut b o (by rw [zC]; exact Nat.ne_of_lt (Nat.lt_succ_of_lt lt)) (Heap.get?_push_of_some _ ?_)
    rw [← hD2]
    exact Heap.get?_push_of_some _ q
  have gD : h1.get? s2.heap.objs.size = some { cls := .type "list", data := .seq ([] : List Value).toArray 0 } := by
    refine sb1.extBut _ _ (by rw [zC]; exact Nat.ne_of_lt (Nat.lt_succ_self _)) (Heap.get?_push_of_some _ ?_)
    rw [← hD2]
    exact Heap.get?_push_size _ rfl
  generalize hD : s2.heap.objs.size = D at *
  have fD : H2 D = none := I2.hok.fresh (Nat.le_of_eq hD)
  have fC : H2 hp2.objs.size = none := I2.hok.fresh (by rw [hD, zC]; exact Nat.le_succ _)
  have nCD : hp2.objs.size ≠ D := by rw [zC]; exact Nat.succ_ne_self _
  have hCle : s2.heap.objs.size ≤ hp2.objs.size := by rw [hD, zC]; exact Nat.le_succ _
  have ok := blk_ok (C := hp2.objs.size) O I2 f2 (fun b hb => by rw [hD]; exact fpl b hb) hCle
  obtain ⟨W, ⟨m0, w0⟩, turn⟩ := R D fD
  generalize hY : cxB X NB scope (clo X.env.cells scope.names []) hp2.objs.size fp s2 H2 = Y at ok
  have eY : Y.env = compEnvC scope (clo X.env.cells scope.names []) hp2.objs.size X.env := by rw [← hY]; rfl
  have I0 : Inv Y [] (List.replicate n none ++ fr.map fun k => (σ[k]?).join) (upd H2 D (.lst [])) { s2 with heap := h1, toks := s2.toks + ([] : List (Str × Value)).length } := by
    subst hY
    refine ⟨ok, rfl, I2.bare, Un.laid kept (Nat.le_of_eq hD) fD, ⟨_, ns1, fun i x v e1 e2 e3 => ?_⟩, fun x c h => ?_, ?_, fun x c h => ?_, fun p hp => absurd (show p ∈ ([] : List (Addr × Obj)) from hp) (by simp), ?_, ?_⟩
    · have hin : n ≤ i := by
        refine Nat.le_of_not_lt fun z => ?_
        rw [List.getElem?_append_left (by simpa using z), List.getElem?_replicate] at e2
        split at e2 <;> cases e2
      obtain ⟨j, rfl⟩ := Nat.exists_eq_add_of_le hin
      rw [List.getElem?_append_right (by simp)] at e2
      simp only [List.length_replicate, Nat.add_sub_cancel_left, List.getElem?_map] at e2
      cases hk : fr[j]? with
      | none => rw [hk] at e2; cases e2
      | some k =>
        rw [hk] at e2
        obtain ⟨x', n1, n2, n3⟩ := O.own j k hk
        have e1' : NB[n + j]? = some x := e1
        rw [n1] at e1'
        cases e1'
        have e4 : (σ[k]?).join = some v := Option.some.inj e2
        have e5 : σ[k]? = some (some v) := by
          cases q : σ[k]? with
          | none => rw [q] at e4; cases e4
          | some z => rw [q] at e4; exact congrArg some e4
        have hm := mem_lookup n3
        have kd := O.free _ hm rfl
        obtain ⟨m, hn, hl⟩ := I2.loc
        obtain ⟨u, ru, lk⟩ := hl k x v n2 e5 (by rcases kd with z | z; exact .inr (.inl z); exact .inr (.inr z))
        refine ⟨u, ru, .inr ⟨?_, ?_⟩⟩
        · show (relabel scope X.env).names.lookup x = some .cell ∨ (relabel scope X.env).names.lookup x = some .free
          rcases @relab X.env x scope.names with r | r
          · exact .inr (Eq.trans r n3)
          · exact .inl r.2
        · rcases lk with ⟨z, _⟩ | ⟨_, c, hc1, hc2⟩
          · rcases kd with q | q <;> (rw [z] at q; cases q)
          · refine ⟨c, clo_new hc1 scope.names [] (.inl hm), ?_⟩
            obtain ⟨o, ho, hd⟩ := hc2
            exact ⟨o, kept c o ho, hd⟩
    · have e1 := (clo_old scope.names [] (show (clo X.env.cells scope.names []).lookup x = some c from h)).resolve_right (by intro z; cases z)
      obtain ⟨v, o, ho, hd⟩ := I2.cell x c e1
      exact ⟨v, o, kept c o ho, hd⟩
    · show upd H2 D (.lst []) hp2.objs.size = none
      rw [upd_ne nCD]; exact fC
    · have e1 := (clo_old scope.names [] (show (clo X.env.cells scope.names []).lookup x = some c from h)).resolve_right (by intro z; cases z)
      obtain ⟨v, o, ho, hd⟩ := I2.cell x c e1
      rw [upd_ne (by rw [← hD]; exact Nat.ne_of_lt (Heap.lt_size ho))]
      exact I2.freeC x c e1
    · exact I2.hok.laid kept (Nat.le_of_eq hD) ⟨by simp, [], 0, .nil, gD⟩
    · show _ = NB.length
      rw [O.len]; simp
  have fY : ∀ {H' : Hp}, (∀ b ∈ fp, H' b = none) → ∀ b ∈ fp, FpOk Y [] H' b := fun {H'} hn b hb => by
    subst hY
    refine ⟨hn b hb, (ok.exf b hb).1, ok.exfs b hb, .inl hb, fun x c z => (ok.exf b hb).2 x c z, fun p hp => absurd (show p ∈ ([] : List (Addr × Obj)) from hp) (by simp)⟩
  have pY : Y.prog = X.prog ∧ Y.w = X.w ∧ Y.K = X.K ∧ Y.A = X.A ∧ Y.calm = true ∧ Y.xe = fun _ _ => False := by subst hY; exact ⟨rfl, rfl, rfl, rfl, hc, rfl⟩
  obtain ⟨p1, p2, p3, p4, p5, p6⟩ := pY
  have fin : ∀ {σ' : St} {H' : Hp} {s' : Shared}, Inv Y [] σ' H' s' → Q (.ref D) H' → compPost (model X.prog X.w) X.A X.xe use QQ (.ref D) hp2.objs.size (.ok .next) s' := fun {σ' H' s'} J' q => by
    subst hY
    obtain ⟨m, hn, _⟩ := J'.loc
    have fr' : H' hp2.objs.size = none := J'.free
    have neC : ∀ b o, s2.heap.get? b = some o → b ≠ hp2.objs.size := fun b o e => Nat.ne_of_lt (Nat.lt_of_lt_of_le (Heap.lt_size e) hCle)
    have J : Inv X pins σ H' s' := I2.call' (s' := s') J'.os J'.base J'.hok J'.bare fun b hb => by
      obtain ⟨_, a2, _, a4, a5, a6⟩ := f2 b hb
      exact ⟨a4, a2, a5, a6⟩
    refine fin0 D _ H' s' m hn J (Nat.le_trans I2.sz hCle) fr' (Ne.symm (Nat.ne_of_lt (Nat.lt_of_lt_of_le I2.lt hCle))) (fun x c e => ?_) (fun p hp => ?_) q
    · obtain ⟨v, o, ho, _⟩ := I2.cell x c e
      exact neC c o ho
    · exact neC _ _ (I2.pin p hp).1
  have st0 : tn 0 h1 := T.keep 0 _ _ st2 fun b hb o q => kept b o q
  have fp0 : ∀ b ∈ fp, upd H2 D (.lst []) b = none := fun b hb => by
    rw [upd_ne (Nat.ne_of_lt (fpl b hb))]; exact (f2 b hb).1
  have loop : ∀ s3 : Shared, s3 = { s2 with heap := h1, toks := s2.toks + ([] : List (Str × Value)).length } →
      codeAny (model X.prog X.w) X.A (.compLoop (.ListComp elt [⟨tg, iter, ifs, 0⟩] scope pos) 0 (.ref it) (.ref D) (compEnvC scope (clo X.env.cells scope.names []) hp2.objs.size X.env))
        (compPost (model X.prog X.w) X.A X.xe use QQ (.ref D) hp2.objs.size) s3 := by
    rintro s3 rfl
    refine comp_loop (fun k s' => ∃ i ys σ' H', Inv Y [] σ' H' s' ∧ tn i s'.heap ∧ (∀ b ∈ fp, H' b = none) ∧ H' D = some (.lst ys) ∧ W i k ys σ' H') ?_ m0 ⟨0, [], _, _, I0, st0, fp0, upd_same, w0⟩
    rintro k s4 ⟨i, ys, σ4, H4, I4, t4, fr4, d4, w4⟩
    have hgY : PG Y tg g := by subst hY; exact hg _ _ _ _ _
    have htY : PIfs Y ifs tt := by subst hY; exact ht _ _ _ _ _
    have heY : PE Y elt te := by subst hY; exact he _ _ _ _ _
    rcases turn i k ys σ4 H4 w4 d4 with ⟨stop, q⟩ | ⟨go, hlen, step⟩
    · have z := T.done Y p1 p2 p3 p5 i [] s4 σ4 H4 (fun _ _ => False) I4 (fY fr4) t4 stop
      rw [p4] at z
      exact thn z fun r s5 ⟨hr, I5⟩ => .inl ⟨hr, fin I5 q⟩
    · have z := T.item Y p1 p2 p3 p5 i [] s4 σ4 H4 (fun _ _ => False) I4 (fY fr4) t4 go
      rw [p4] at z
      refine thn z fun r s5 ⟨u, hr, h5⟩ => .inr ⟨u, hr, thn h5 fun _ s6 ⟨x, H6, I6, r6, y6, t6, fr6⟩ => ?_⟩
      have I6' := I6.pinned (fY fr6) (T.obj _ _ t6)
      have back : ∀ {σ7 : St} {H7 : Hp} {s7 : Shared}, Inv Y ([] ++ pinsAt fp s6.heap) σ7 H7 s7 → Inv Y [] σ7 H7 s7 ∧ tn (i + 1) s7.heap ∧ ∀ b ∈ fp, H7 b = none := fun {σ7 H7 s7} I7 => by
        refine ⟨I7.unpinned, T.keep _ _ _ t6 fun b hb o e => (I7.pin (b, o) (List.mem_append_right _ (List.mem_append_right _ (mem_pinsAt hb e)))).1, fun b hb => ?_⟩
        obtain ⟨o, e, _⟩ := T.obj _ _ t6 b hb
        exact (I7.pin (b, o) (List.mem_append_right _ (List.mem_append_right _ (mem_pinsAt hb e)))).2.1
      have a7 := hgY _ s6 σ4 H6 x u _ I6' r6 (step x H6 y6)
      rw [p1, p2, p4, p6, eY] at a7
      refine thn a7 fun _ s7 ⟨σ7, H7, I7, q7⟩ => ?_
      have a8 := htY _ s7 σ7 H7 _ I7 q7
      rw [p1, p2, p4, p6, eY] at a8
      refine thn a8 fun b s8 ⟨H8, I8, q8⟩ => ?_
      cases b with
      | false =>
        obtain ⟨d8, m', hm, w8⟩ := q8
        rw [if_neg Bool.false_ne_true]
        obtain ⟨b1, b2, b3⟩ := back I8
        exact ⟨m', hm, i + 1, ys, σ7, H8, b1, b2, b3, d8, w8⟩
      | true =>
        rw [if_pos rfl]
        have a9 := heY _ s8 σ7 H8 _ I8 q8
        rw [p1, p2, p4, p6, eY] at a9
        refine thn a9 fun uv s9 ⟨v, H9, I9, r9, d9, m', hm, w9⟩ => ?_
        have a10 := mt_append (X := Y) _ s9 σ7 H9 (.ref D) [v] (.ref D) [uv] (fun x H' => H' = upd H9 D (.lst (ys ++ [v]))) I9 rfl (.cons r9 .nil) ⟨D, ys, v, rfl, rfl, d9, hlen, rfl⟩
        rw [p1, p2, p4, p6] at a10
        refine thn a10 fun _ s10 ⟨_, H10, I10, _, e10⟩ => ?_
        subst e10
        obtain ⟨b1, b2, b3⟩ := back I10
        exact ⟨m', hm, i + 1, _, σ7, _, b1, b2, b3, upd_same, w9⟩
  refine codeAny_compStart_list (loop _ rfl) ?_
  exact T.self _ 0 _ _ _ st0 (loop _ rfl)
theorem pe_comp (O : CompOk X scope NB n fr) (hc : X.calm = true) (hi : PI X tg iter wi)
    (hg : ∀ cl C fp s H, PG (cxB X NB scope cl C fp s H) tg g) (ht : ∀ cl C fp s H, PIfs (cxB X NB scope cl C fp s H) ifs tt) (he : ∀ cl C fp s H, PE (cxB X NB scope cl C fp s H) elt te)
    (hs : ∀ x, foldedSetIterable iter X.env x = pure x := by intro _; rfl) : PE X (.ListComp elt [⟨tg, iter, ifs, 0⟩] scope pos) (tComp n fr wi g tt te) := by
  intro pins s σ H Q I h
  rw [eval_ListComp]
  exact comp_core (QQ := EP X pins σ Q) O hc hi hg ht he hs I h fun D C H' s' m hn J h1 h2 h3 h4 h5 q => ⟨m, hn, fun h' sb => ⟨.ref D, H', J.but h1 h2 h3 h4 h5 sb, rfl, q⟩⟩
/-- name = [ .. ] -/
theorem ps_comp {i : Nat} {x : Str} {py spos : Pos} (hN : X.N.Nodup) (hi1 : X.N[i]? = some x) (hx : Loc X.env.scope x) (O : CompOk X scope NB n fr) (hc : X.calm = true) (hi : PI X tg iter wi)
    (hg : ∀ cl C fp s H, PG (cxB X NB scope cl C fp s H) tg g) (ht : ∀ cl C fp s H, PIfs (cxB X NB scope cl C fp s H) ifs tt) (he : ∀ cl C fp s H, PE (cxB X NB scope cl C fp s H) elt te)
    (hs : ∀ x, foldedSetIterable iter X.env x = pure x := by intro _; rfl) (hsw : swapsWith (.ListComp elt [⟨tg, iter, ifs, 0⟩] scope pos) (some (.Name x py)) spos.line X.env = pure true := by rfl)
    (hf : X.fn x = true ∨ X.env.scope.names.lookup x = some .local := by first | exact .inl rfl | exact .inr rfl | assumption) :
    PS X (.Assign [.Name x py] (.ListComp elt [⟨tg, iter, ifs, 0⟩] scope pos) spos) (tAsg (tComp n fr wi g tt te) (gName i)) := by
  intro pins s σ H D I h
  rw [exec_Assign_Name_used _ _ _ _ hsw]
  refine wpAny_bind (wpAny_standAt (wpAny_bind ?_))
  show wpAny _ X.A (do let _ ← comprehension (.ListComp elt [⟨tg, iter, ifs, 0⟩] scope pos) scope X.env _ (newList []) false (eval iter X.env) (some (assign (.Name x py) X.env))) _ _ s
  refine wpAny_bind (wpAny_mono (comp_core (QQ := fun _ s' => SP X pins D .next s') (use := some (assign (.Name x py) X.env)) O hc hi hg ht he hs I h fun D1 C H' s' m hn J h1 h2 h3 h4 h5 q => ?_) (fun _ s' hq => wpAny_pure (wpAny_pure hq)) fun _ _ e => e)
  show wpAny _ X.A (assign (.Name x py) X.env (.ref D1)) _ _ _
  refine wpAny_assign_Name (store_ok2 (v := .ref D1) J hN hi1 hx rfl (fun s2 J2 ⟨a, sb, ha⟩ => ?_) hf)
  refine ⟨m, hn.sameBut sb ?_, fun h' sb2 => ⟨_, H', J2.but h1 h2 h3 h4 h5 sb2, q⟩⟩
  rcases ha with e | e
  · rw [e]; exact h3
  · exact Ne.symm (h4 _ _ e)
end
end L2
set_option Elab.async false
set_option linter.all false
set_option maxRecDepth 100000
set_option maxHeartbeats 4000000
namespace L2
open PySem PySem.Spec PyProof.Rows

/-! ### an iterator over a list (false) or a tuple (true), at place k -/
def Src (t : Bool) (h : Heap) (it l : Addr) (xs : Array Value) (k : Nat) : Prop := match t with
  | true => h.IsTupleIter it l k ∧ h.IsTuple l xs
  | false => h.IsListIter it l k ∧ h.IsList l xs
theorem Src.keep {t : Bool} {h h' : Heap} {it l : Addr} {xs : Array Value} {k : Nat} (x : Src t h it l xs k) (a : ∀ o, h.get? it = some o → h'.get? it = some o) (b : ∀ o, h.get? l = some o → h'.get? l = some o) : Src t h' it l xs k := by
  cases t with
  | true => obtain ⟨⟨o, h1, r1⟩, ⟨o2, h2, r2⟩⟩ := x; exact ⟨⟨o, a o h1, r1⟩, ⟨o2, b o2 h2, r2⟩⟩
  | false => obtain ⟨⟨o, h1, r1⟩, ⟨o2, h2, r2⟩⟩ := x; exact ⟨⟨o, a o h1, r1⟩, ⟨o2, b o2 h2, r2⟩⟩

section
variable {prog : Program} {w : World} {A : Around} {E : Value → Shared → Prop} {st : Shared}
theorem draw_tup {it l : Addr} {i : Nat} {its : Array Value} {x : Value} {Q : Value → Shared → Prop} (hit : st.heap.IsTupleIter it l i) (hl : st.heap.IsTuple l its) (hx : its[i]? = some x)
    (hQ : ∀ h', h'.IsTupleIter it l (i + 1) → Heap.SameBut it st.heap h' → Q x { st with heap := h' }) : wpAny (model prog w) A (Builtin.SmallTypes.nextOf (.ref it)) Q E st := by
  obtain ⟨o, ho, hc, hd⟩ := id hit
  obtain ⟨o2, ho2, _, n2, hd2⟩ := hl
  unfold Builtin.SmallTypes.nextOf
  refine wpAny_bind (wpAny_callSpecial?_slot (name := Str.ofString "__next__") hit.typeIs F.slot_tuple_iterator_next (wpAny_call_entry F.slot_tuple_iterator_next hit.typeIs F.entry_tuple_iterator_next ?_ (F.args_tuple_iterator_next_1 _)))
  show wpAny _ A.in1 (field (.ref it) 0 >>= _) _ _ st
  refine wpAny_bind (wpAny_field ho hd (x := .ref l) rfl ?_)
  show wpAny _ A.in1 (if (Value.ref l == Value.none) = true then _ else _) _ _ st
  rw [if_neg (fun z : (Value.ref l == Value.none) = true => Bool.false_ne_true z)]
  show wpAny _ A.in1 (field (.ref it) 1 >>= _) _ _ st
  refine wpAny_bind (wpAny_field (x := .int i 0) ho hd rfl ?_)
  show wpAny _ A.in1 (seqItems? (.ref l) >>= _) _ _ st
  refine wpAny_bind (wpAny_seqItems ho2 hd2 ?_)
  simp only [Int.toNat_natCast, hx]
  refine wpAny_bind (wpAny_setField ho hd (by simp) (wpAny_pure ⟨x, rfl, wpAny_pure (hQ _ ⟨_, Heap.get?_update_self _ ho (Obj.isFreed_of_fields (Obj.data_mapFields hd _)), (Obj.cls_mapFields ..).trans hc, ?_⟩ (Heap.SameBut.update ..))⟩))
  rw [Obj.data_mapFields hd]; simp [rawInt]
theorem draw_tup_end {it l : Addr} {i : Nat} {its : Array Value} {Q : Value → Shared → Prop} (hh : A.handled = none) (hit : st.heap.IsTupleIter it l i) (hl : st.heap.IsTuple l its) (hx : its[i]? = none)
    (hE : ∀ h' e, Heap.ExtBut it st.heap h' → (∃ o, h'.get? e = some o ∧ o.cls = .type "StopIteration") → E (.ref e) { st with heap := h' }) : wpAny (model prog w) A (Builtin.SmallTypes.nextOf (.ref it)) Q E st := by
  obtain ⟨o, ho, hc, hd⟩ := id hit
  obtain ⟨o2, ho2, _, n2, hd2⟩ := hl
  unfold Builtin.SmallTypes.nextOf
  refine wpAny_bind (wpAny_callSpecial?_slot (name := Str.ofString "__next__") hit.typeIs F.slot_tuple_iterator_next (wpAny_call_entry F.slot_tuple_iterator_next hit.typeIs F.entry_tuple_iterator_next ?_ (F.args_tuple_iterator_next_1 _)))
  show wpAny _ A.in1 (field (.ref it) 0 >>= _) _ _ st
  refine wpAny_bind (wpAny_field ho hd (x := .ref l) rfl ?_)
  show wpAny _ A.in1 (if (Value.ref l == Value.none) = true then _ else _) _ _ st
  rw [if_neg (fun z : (Value.ref l == Value.none) = true => Bool.false_ne_true z)]
  show wpAny _ A.in1 (field (.ref it) 1 >>= _) _ _ st
  refine wpAny_bind (wpAny_field (x := .int i 0) ho hd rfl ?_)
  show wpAny _ A.in1 (seqItems? (.ref l) >>= _) _ _ st
  refine wpAny_bind (wpAny_seqItems ho2 hd2 ?_)
  simp only [Int.toNat_natCast, hx]
  refine wpAny_bind (wpAny_rule (wpAny_bind (wpAny_setField ho hd (by simp) (wpAny_bind ?_))))
  show wpAny _ A.in1 (newExc (.type "StopIteration") []) _ _ _
  simp only [newTuple, newExc]
  refine wpAny_bind (wpAny_newObj_type (wpAny_bind (m := firstArgMember _ _) (wpAny_of_eq (a := Value.none) (by first | rfl | (simp only [firstArgMember]; rfl)) (wpAny_newObj_type ?_ (by size_fits)))) (by size_fits))
  simp only [raiseNew]
  refine wpAny_bind (wpAny_handled ?_)
  first | rw [hh] | rw [show A.in1.handled = none from hh]
  exact wpAny_bind (wpAny_pure (wpAny_throw (hE _ _ (((Heap.SameBut.update ..).extBut.push _).push _) ⟨_, Heap.get?_push_size _ rfl, rfl⟩)))

theorem Src.draw {t : Bool} {it l : Addr} {i : Nat} {its : Array Value} {x : Value} {Q : Value → Shared → Prop} (S : Src t st.heap it l its i) (hne : l ≠ it) (hx : its[i]? = some x)
    (hQ : ∀ h', Src t h' it l its (i + 1) → Heap.SameBut it st.heap h' → Q x { st with heap := h' }) : wpAny (model prog w) A (Builtin.SmallTypes.nextOf (.ref it)) Q E st := by
  cases t with
  | true => exact draw_tup S.1 S.2 hx fun h' a b => hQ h' ⟨a, S.2.extBut b.extBut hne⟩ b
  | false => exact wpAny_nextOf_list_item S.1 S.2 hx fun h' a b => hQ h' ⟨a, S.2.extBut b.extBut hne⟩ b
theorem Src.none {t : Bool} {it l : Addr} {i : Nat} {its : Array Value} {Q : Value → Shared → Prop} (hh : A.handled = none) (S : Src t st.heap it l its i) (hx : its[i]? = none)
    (hE : ∀ h' e, Heap.ExtBut it st.heap h' → (∃ o, h'.get? e = some o ∧ o.cls = .type "StopIteration") → E (.ref e) { st with heap := h' }) : wpAny (model prog w) A (Builtin.SmallTypes.nextOf (.ref it)) Q E st := by
  cases t with
  | true => exact draw_tup_end hh S.1 S.2 hx hE
  | false => exact wpAny_nextOf_list_end hh S.1 S.2 hx hE

/-- the five own records of a zip stand apart, and from what it walks -/
structure Apart (z TI TO i1 i2 l1 l2 : Addr) : Prop where
  a : TI ≠ z ∧ TO ≠ z ∧ i1 ≠ z ∧ i2 ≠ z
  b : TI ≠ TO ∧ TI ≠ i1 ∧ TI ≠ i2 ∧ TO ≠ i1 ∧ TO ≠ i2 ∧ i1 ≠ i2
  c : l1 ≠ z ∧ l1 ≠ TO ∧ l1 ≠ i1 ∧ l1 ≠ i2
  d : l2 ≠ z ∧ l2 ≠ TO ∧ l2 ≠ i1 ∧ l2 ≠ i2

theorem zip_item {z TI TO i1 i2 l1 l2 : Addr} {t1 t2 : Bool} {k : Nat} {xs ys : Array Value} {x y a b : Value} {Q : Value → Shared → Prop} (D : Apart z TI TO i1 i2 l1 l2)
    (hz : IsZip st.heap z TI TO .none) (hTI : IsPair st.heap TI (.ref i1) (.ref i2)) (hTO : IsPair st.heap TO a b)
    (h1 : Src t1 st.heap i1 l1 xs k) (h2 : Src t2 st.heap i2 l2 ys k) (hx : xs[k]? = some x) (hy : ys[k]? = some y)
    (hQ : ∀ h', IsZip h' z TI TO (rawInt st.heap.objs.size) → IsPair h' TO x y → Src t1 h' i1 l1 xs (k + 1) → Src t2 h' i2 l2 ys (k + 1) → IsPair h' st.heap.objs.size x y →
      (∀ c o, c ≠ z → c ≠ TO → c ≠ i1 → c ≠ i2 → st.heap.get? c = some o → h'.get? c = some o) → Q (.ref st.heap.objs.size) { st with heap := h' }) :
    wpAny (model prog w) A (Builtin.«zip.__next__» ⟨[.ref z], []⟩) (fun fin s' => ∃ v, fin = .done (.ret v) ∧ Q v s') E st := by
  obtain ⟨⟨d1, d2, d3, d4⟩, ⟨d5, d6, d7, d8, d9, d10⟩, ⟨d11, d12, d13, d14⟩, ⟨d15, d16, d17, d18⟩⟩ := D
  show wpAny _ A (field (.ref z) 2 >>= _) _ _ st
  refine wpAny_bind (wpAny_field (x := .bool false) hz rfl rfl ?_)
  show wpAny _ A (field (.ref z) 3 >>= _) _ _ st
  refine wpAny_bind (wpAny_field (x := .ref TI) hz rfl rfl (wpAny_bind (wpAny_seqItems hTI rfl ?_)))
  show wpAny _ A (Builtin.SmallTypes.ownedTupleIsFree (.ref z) >>= _) _ _ st
  refine wpAny_bind ?_
  unfold Builtin.SmallTypes.ownedTupleIsFree
  refine wpAny_bind (wpAny_field (x := .none) hz rfl rfl (wpAny_pure ?_))
  simp only [if_true]
  refine wpAny_bind (wpAny_rule (wpAny_bind (wpAny_field (x := .ref TO) hz rfl rfl (wpAny_bind (wpAny_setField_rec hz (by simp) fun g1 z1 b1 => ?_)))))
  replace z1 : IsZip g1 z TI TO .ellipsis := z1
  refine wpAny_bind ?_
  simp only [List.zipIdx_nil, List.zipIdx_cons, List.forIn_nil, List.forIn_cons]
  refine wpAny_bind (wpAny_bind (wpAny_onRaise ?_))
  show wpAny _ A (Builtin.SmallTypes.nextOf (.ref i1) >>= _) _ _ _
  have s1 : Src t1 g1 i1 l1 xs k := h1.keep (fun o e => b1.extBut _ o d3 e) (fun o e => b1.extBut _ o d11 e)
  refine wpAny_bind (Src.draw (st := { st with heap := g1 }) s1 d13 hx fun g2 s2 b2 => wpAny_pure ?_)
  have p2 : IsPair g2 TO a b := b2.extBut _ _ d8 (b1.extBut _ _ d2 hTO)
  refine wpAny_bind (wpAny_seqItems p2 rfl (wpAny_bind (wpAny_updateSeq_pair p2 fun g3 p3 b3 => ?_)))
  replace p3 : IsPair g3 TO x b := p3
  refine wpAny_bind (wpAny_letGo (wpAny_pure ?_))
  refine wpAny_bind (wpAny_bind (wpAny_onRaise ?_))
  show wpAny _ A (Builtin.SmallTypes.nextOf (.ref i2) >>= _) _ _ _
  have s3 : Src t2 g3 i2 l2 ys k := h2.keep (fun o e => b3.extBut _ o d9.symm (b2.extBut _ o d10.symm (b1.extBut _ o d4 e))) (fun o e => b3.extBut _ o d16 (b2.extBut _ o d17 (b1.extBut _ o d15 e)))
  refine wpAny_bind (Src.draw (st := { st with heap := g3 }) s3 d18 hy fun g4 s4 b4 => wpAny_pure ?_)
  have p4 : IsPair g4 TO x b := b4.extBut _ _ d9 p3
  refine wpAny_bind (wpAny_seqItems p4 rfl (wpAny_bind (wpAny_updateSeq_pair p4 fun g5 p5 b5 => ?_)))
  replace p5 : IsPair g5 TO x y := p5
  refine wpAny_bind (wpAny_letGo (wpAny_pure (wpAny_pure ?_)))
  refine wpAny_bind (wpAny_seqItems p5 rfl (wpAny_bind (wpAny_newTuple ?_)))
  have sz : g5.objs.size = st.heap.objs.size := by rw [b5.1, b4.1, b3.1, b2.1, b1.1]
  have z5 : IsZip g5 z TI TO .ellipsis := b5.extBut _ _ d2.symm (b4.extBut _ _ d4.symm (b3.extBut _ _ d2.symm (b2.extBut _ _ d3.symm z1)))
  have kp : ∀ c o, c ≠ z → c ≠ TO → c ≠ i1 → c ≠ i2 → st.heap.get? c = some o → g5.get? c = some o := fun c o c1 c2 c3 c4 e => b5.extBut _ _ c2 (b4.extBut _ _ c4 (b3.extBut _ _ c2 (b2.extBut _ _ c3 (b1.extBut _ _ c1 e))))
  have s5 : Src t1 g5 i1 l1 xs (k + 1) := s2.keep (fun o e => b5.extBut _ o d8.symm (b4.extBut _ o d10 (b3.extBut _ o d8.symm e))) (fun o e => b5.extBut _ o d12 (b4.extBut _ o d14 (b3.extBut _ o d12 e)))
  have r5 : Src t2 g5 i2 l2 ys (k + 1) := s4.keep (fun o e => b5.extBut _ o d9.symm e) (fun o e => b5.extBut _ o d16 e)
  have zlt : z < g5.objs.size := Heap.lt_size z5
  show wpAny _ A (Builtin.SmallTypes.ownedTupleHandOut (.ref z) (.ref g5.objs.size) >>= _) _ _ _
  refine wpAny_bind ?_
  unfold Builtin.SmallTypes.ownedTupleHandOut
  have z6 : IsZip (g5.push { cls := .type "tuple", data := .seq #[x, y] }) z TI TO .ellipsis := Heap.get?_push_of_some _ z5
  refine wpAny_bind (wpAny_setField_rec z6 (by simp) fun g7 z7 b7 => ?_)
  replace z7 : IsZip g7 z TI TO (rawInt g5.objs.size) := z7
  refine wpAny_setField_rec z7 (by simp) fun g8 z8 b8 => ?_
  replace z8 : IsZip g8 z TI TO (rawInt g5.objs.size) := z8
  have up : ∀ c o, c ≠ z → g5.get? c = some o → g8.get? c = some o := fun c o c1 e => b8.extBut _ _ c1 (b7.extBut _ _ c1 (Heap.get?_push_of_some _ e))
  have t8 : IsPair g8 g5.objs.size x y := b8.extBut _ _ (Nat.ne_of_gt zlt) (b7.extBut _ _ (Nat.ne_of_gt zlt) (Heap.get?_push_size _ rfl))
  rw [sz] at z8 t8
  refine wpAny_pure ⟨_, rfl, ?_⟩
  show Q (.ref g5.objs.size) _
  rw [sz]
  exact hQ g8 z8 (up _ _ d2 p5) (s5.keep (fun o e => up _ o d3 e) fun o e => up _ o d11 e) (r5.keep (fun o e => up _ o d4 e) fun o e => up _ o d15 e) t8 fun c o c1 c2 c3 c4 e => up c o c1 (kp c o c1 c2 c3 c4 e)

theorem zip_end {z TI TO i1 i2 l1 l2 : Addr} {t1 t2 : Bool} {k : Nat} {xs ys : Array Value} {a b : Value} {Q : Fin → Shared → Prop} (hh : A.handled = none) (D : Apart z TI TO i1 i2 l1 l2)
    (hz : IsZip st.heap z TI TO .none) (hTI : IsPair st.heap TI (.ref i1) (.ref i2)) (hTO : IsPair st.heap TO a b)
    (h1 : Src t1 st.heap i1 l1 xs k) (h2 : Src t2 st.heap i2 l2 ys k) (hend : xs[k]? = none ∨ ys[k]? = none)
    (hE : ∀ h' e, (∀ c o, c ≠ z → c ≠ TO → c ≠ i1 → c ≠ i2 → st.heap.get? c = some o → h'.get? c = some o) → (∃ o, h'.get? e = some o ∧ o.cls = .type "StopIteration") → E (.ref e) { st with heap := h' }) :
    wpAny (model prog w) A (Builtin.«zip.__next__» ⟨[.ref z], []⟩) Q E st := by
  obtain ⟨⟨d1, d2, d3, d4⟩, ⟨d5, d6, d7, d8, d9, d10⟩, ⟨d11, d12, d13, d14⟩, ⟨d15, d16, d17, d18⟩⟩ := D
  show wpAny _ A (field (.ref z) 2 >>= _) _ _ st
  refine wpAny_bind (wpAny_field (x := .bool false) hz rfl rfl ?_)
  show wpAny _ A (field (.ref z) 3 >>= _) _ _ st
  refine wpAny_bind (wpAny_field (x := .ref TI) hz rfl rfl (wpAny_bind (wpAny_seqItems hTI rfl ?_)))
  show wpAny _ A (Builtin.SmallTypes.ownedTupleIsFree (.ref z) >>= _) _ _ st
  refine wpAny_bind ?_
  unfold Builtin.SmallTypes.ownedTupleIsFree
  refine wpAny_bind (wpAny_field (x := .none) hz rfl rfl (wpAny_pure ?_))
  simp only [if_true]
  refine wpAny_bind (wpAny_rule (wpAny_bind (wpAny_field (x := .ref TO) hz rfl rfl (wpAny_bind (wpAny_setField_rec hz (by simp) fun g1 z1 b1 => ?_)))))
  replace z1 : IsZip g1 z TI TO .ellipsis := z1
  refine wpAny_bind ?_
  simp only [List.zipIdx_nil, List.zipIdx_cons, List.forIn_nil, List.forIn_cons]
  refine wpAny_bind (wpAny_bind (wpAny_onRaise ?_))
  show wpAny _ A (Builtin.SmallTypes.nextOf (.ref i1) >>= _) _ _ _
  have s1 : Src t1 g1 i1 l1 xs k := h1.keep (fun o e => b1.extBut _ o d3 e) (fun o e => b1.extBut _ o d11 e)
  cases hx : xs[k]? with
  | none =>
    refine wpAny_bind (Src.none (st := { st with heap := g1 }) hh s1 hx fun g2 e b2 he => ?_)
    obtain ⟨oe, hoe, hce⟩ := he
    have z2 : IsZip g2 z TI TO .ellipsis := b2 _ _ d3.symm z1
    have ez : e ≠ z := fun q => by subst q; rw [z2] at hoe; cases hoe; simp at hce
    refine wpAny_setField_rec z2 (by simp) fun g3 _ b3 => hE g3 e (fun c o c1 _ c3 _ q => b3.extBut _ _ c1 (b2 _ _ c3 (b1.extBut _ _ c1 q))) ⟨oe, b3.extBut _ _ ez hoe, hce⟩
  | some x =>
    have hy : ys[k]? = none := by rcases hend with h | h; rw [hx] at h; cases h; exact h
    refine wpAny_bind (Src.draw (st := { st with heap := g1 }) s1 d13 hx fun g2 s2 b2 => wpAny_pure ?_)
    have p2 : IsPair g2 TO a b := b2.extBut _ _ d8 (b1.extBut _ _ d2 hTO)
    refine wpAny_bind (wpAny_seqItems p2 rfl (wpAny_bind (wpAny_updateSeq_pair p2 fun g3 p3 b3 => ?_)))
    refine wpAny_bind (wpAny_letGo (wpAny_pure ?_))
    refine wpAny_bind (wpAny_bind (wpAny_onRaise ?_))
    show wpAny _ A (Builtin.SmallTypes.nextOf (.ref i2) >>= _) _ _ _
    have s3 : Src t2 g3 i2 l2 ys k := h2.keep (fun o e => b3.extBut _ o d9.symm (b2.extBut _ o d10.symm (b1.extBut _ o d4 e))) (fun o e => b3.extBut _ o d16 (b2.extBut _ o d17 (b1.extBut _ o d15 e)))
    refine wpAny_bind (Src.none (st := { st with heap := g3 }) hh s3 hy fun g4 e b4 he => ?_)
    obtain ⟨oe, hoe, hce⟩ := he
    have z4 : IsZip g4 z TI TO .ellipsis := b4 _ _ d4.symm (b3.extBut _ _ d2.symm (b2.extBut _ _ d3.symm z1))
    have ez : e ≠ z := fun q => by subst q; rw [z4] at hoe; cases hoe; simp at hce
    refine wpAny_setField_rec z4 (by simp) fun g5 _ b5 => hE g5 e (fun c o c1 c2 c3 c4 q => b5.extBut _ _ c1 (b4 _ _ c4 (b3.extBut _ _ c2 (b2.extBut _ _ c3 (b1.extBut _ _ c1 q))))) ⟨oe, b5.extBut _ _ ez hoe, hce⟩

end
section
def SqK (t : Bool) (h : Heap) (l : Addr) (xs : Array Value) : Prop := match t with
  | true => h.IsTuple l xs
  | false => h.IsList l xs
def itObj (t : Bool) (l : Addr) : Obj := { cls := .type (if t then "tuple_iterator" else "list_iterator"), data := .fields #[.ref l, .int 0 0] }
theorem SqK.push {t : Bool} {h : Heap} {l : Addr} {xs : Array Value} (x : SqK t h l xs) (o : Obj) : SqK t (h.push o) l xs := by
  cases t with
  | true => exact Heap.IsTuple.push x o
  | false => exact Heap.IsList.push x o
theorem Src.new {t : Bool} {h : Heap} {it l : Addr} {xs : Array Value} (e : h.get? it = some (itObj t l)) (q : SqK t h l xs) : Src t h it l xs 0 := by
  cases t with
  | true => exact ⟨⟨_, e, rfl, rfl⟩, q⟩
  | false => exact ⟨⟨_, e, rfl, rfl⟩, q⟩
variable {prog : Program} {w : World} {A : Around} {E : Value → Shared → Prop} {st : Shared}
theorem iter_sq {t : Bool} {l : Addr} {its : Array Value} {Q : Value → Shared → Prop} (hl : SqK t st.heap l its) (hQ : Q (.ref st.heap.objs.size) { st with heap := st.heap.push (itObj t l) }) : wpAny (model prog w) A (pyIter (.ref l)) Q E st := by
  cases t with
  | true => exact wpAny_pyIter_tuple hl hQ
  | false => exact wpAny_pyIter_list hl hQ
abbrev zp1 (h : Heap) (t1 : Bool) (l1 : Addr) : Heap := h.push (itObj t1 l1)
abbrev zp2 (h : Heap) (t1 t2 : Bool) (l1 l2 : Addr) : Heap := (zp1 h t1 l1).push (itObj t2 l2)
abbrev zp3 (h : Heap) (t1 t2 : Bool) (l1 l2 : Addr) : Heap := (zp2 h t1 t2 l1 l2).push { cls := .type "tuple", data := .seq #[.ref h.objs.size, .ref (zp1 h t1 l1).objs.size] }
abbrev zp4 (h : Heap) (t1 t2 : Bool) (l1 l2 : Addr) : Heap := (zp3 h t1 t2 l1 l2).push { cls := .type "tuple", data := .seq #[.none, .none] }
abbrev zp5 (h : Heap) (t1 t2 : Bool) (l1 l2 : Addr) : Heap := (zp4 h t1 t2 l1 l2).push { cls := .type "zip", data := .fields #[.none, .bool false, .bool false, .ref (zp2 h t1 t2 l1 l2).objs.size, .ref (zp3 h t1 t2 l1 l2).objs.size] }
theorem meets_zipK (t1 t2 : Bool) (l1 l2 : Addr) (xs ys : Array Value) :
    Meets (Builtin.«zip.__new__» ⟨[.type "zip", .ref l1, .ref l2], []⟩) (fun _ R s => SqK t1 s.heap l1 xs ∧ SqK t2 s.heap l2 ys ∧ R (.ok (.ret (.ref (zp4 s.heap t1 t2 l1 l2).objs.size))) { s with heap := zp5 s.heap t1 t2 l1 l2 }) :=
  .of_wp fun prog w A R s h => by
    obtain ⟨hp, g, d, tk, os⟩ := s
    obtain ⟨q1, q2, h⟩ := h
    have hsub := sub_zip
    have r1 : SqK t1 (Shared.heap ⟨hp, g, d, tk, os⟩) l1 xs := q1
    have r2 : SqK t2 (Shared.heap ⟨hp.push (itObj t1 l1), g, d, tk, os⟩) l2 ys := q2.push _
    wp_walk using iter_sq r1, iter_sq r2
    exact ⟨_, rfl, h⟩
theorem call_zipK {t1 t2 : Bool} {l1 l2 : Addr} {xs ys : Array Value} {Q : Value → Shared → Prop} (q1 : SqK t1 st.heap l1 xs) (q2 : SqK t2 st.heap l2 ys)
    (h : ∀ h', IsZip h' (st.heap.objs.size + 4) (st.heap.objs.size + 2) (st.heap.objs.size + 3) .none → IsPair h' (st.heap.objs.size + 2) (.ref st.heap.objs.size) (.ref (st.heap.objs.size + 1)) →
      IsPair h' (st.heap.objs.size + 3) .none .none → Src t1 h' st.heap.objs.size l1 xs 0 → Src t2 h' (st.heap.objs.size + 1) l2 ys 0 →
      (∀ c o, st.heap.get? c = some o → h'.get? c = some o) → Q (.ref (st.heap.objs.size + 4)) { st with heap := h' }) :
    wpAny (model prog w) A (call (.type "zip") [.ref l1, .ref l2]) Q E st := by
  refine callType_new F.called_zip (by decide) (F.typeCall_zip_2 _ _) (F.newCall_zip_2 _ _) (fun obj => F.args_object_init_3 obj _ _) F.entry_zip_new (meets_zipK t1 t2 l1 l2 xs ys) ⟨q1, q2, ?_⟩
  have n1 : (zp1 st.heap t1 l1).objs.size = st.heap.objs.size + 1 := Heap.size_push ..
  have n2 : (zp2 st.heap t1 t2 l1 l2).objs.size = st.heap.objs.size + 2 := by rw [Heap.size_push, n1]
  have n3 : (zp3 st.heap t1 t2 l1 l2).objs.size = st.heap.objs.size + 3 := by rw [Heap.size_push, n2]
  have n4 : (zp4 st.heap t1 t2 l1 l2).objs.size = st.heap.objs.size + 4 := by rw [Heap.size_push, n3]
  have g5 : (zp5 st.heap t1 t2 l1 l2).get? (zp4 st.heap t1 t2 l1 l2).objs.size = some _ := Heap.get?_push_size _ rfl
  have g4 : (zp5 st.heap t1 t2 l1 l2).get? (zp3 st.heap t1 t2 l1 l2).objs.size = some _ := Heap.get?_push_of_some _ (Heap.get?_push_size _ rfl)
  have g3 : (zp5 st.heap t1 t2 l1 l2).get? (zp2 st.heap t1 t2 l1 l2).objs.size = some _ := Heap.get?_push_of_some _ (Heap.get?_push_of_some _ (Heap.get?_push_size _ rfl))
  have g2 : (zp5 st.heap t1 t2 l1 l2).get? (zp1 st.heap t1 l1).objs.size = some _ := Heap.get?_push_of_some _ (Heap.get?_push_of_some _ (Heap.get?_push_of_some _ (Heap.get?_push_size _ rfl)))
  have g1 : (zp5 st.heap t1 t2 l1 l2).get? st.heap.objs.size = some _ := Heap.get?_push_of_some _ (Heap.get?_push_of_some _ (Heap.get?_push_of_some _ (Heap.get?_push_of_some _ (Heap.get?_push_size _ rfl))))
  show _ ∧ _
  rw [n2, n3, n4] at g5
  rw [n1, n2] at g3
  rw [n3] at g4
  rw [n1] at g2
  rw [n4]
  exact ⟨⟨_, g5, rfl⟩, h _ g5 g3 g4 (Src.new g1 ((((q1.push _).push _).push _).push _ |>.push _)) (Src.new g2 ((((q2.push _).push _).push _).push _ |>.push _)) fun c o x =>
    Heap.get?_push_of_some _ (Heap.get?_push_of_some _ (Heap.get?_push_of_some _ (Heap.get?_push_of_some _ (Heap.get?_push_of_some _ x))))⟩
end
end L2
set_option Elab.async false
set_option linter.all false
set_option maxRecDepth 100000
set_option maxHeartbeats 4000000
namespace L2
open PySem PySem.Spec PyProof.Rows

/-! ### for sign in text -/
/-! ### for a, b in zip(x, y) -/
def SqB (t : Bool) (K : PySem.W.Frag) (H : Hp) (a : Addr) (xs : List V) : Prop := match t with
  | true => SqT K H a xs
  | false => SqL K H a xs
section
variable {X : Cx} {pins : List (Addr × Obj)} {σ : St} {H : Hp} {s : Shared}
theorem Inv.sq {t : Bool} {a : Addr} {xs : List V} (I : Inv X pins σ H s) (h : SqB t X.K H a xs) : ∃ its : List Value, Vals xs its ∧ SqK t s.heap a its.toArray ∧ xs.length ≤ sizeLine := by
  cases t with
  | true => obtain ⟨its, r, p, z⟩ := I.tuple h; exact ⟨its, r, p, z⟩
  | false => obtain ⟨its, r, p, z⟩ := I.list h; exact ⟨its, r, p.isList, z⟩
theorem Inv.sq_inj {t : Bool} {a : Addr} {xs ys : List V} (I : Inv X pins σ H s) (h : SqB t X.K H a xs) (h' : SqB t X.K H a ys) : xs = ys := by
  cases t with
  | true => exact I.tuple_inj h h'
  | false => exact I.list_inj h h'
/-- what is read is no record of an iterator -/
theorem Inv.sq_ne {t : Bool} {a b : Addr} {xs : List V} (I : Inv X pins σ H s) (h : SqB t X.K H a xs) (f : FpOk X pins H b) : a ≠ b := by
  intro z
  subst z
  obtain ⟨f0, _, _, f3, _⟩ := f
  have nob : ∀ o, X.base.get? a = some o → False := fun o e => by
    rcases f3 with q | q
    · exact I.ok.noex a o e q
    · exact absurd (Nat.lt_of_lt_of_le (Heap.lt_size e) (Nat.le_trans I.ok.bsz q)) (Nat.lt_irrefl _)
  cases t with
  | true =>
    rcases (show SqT X.K H a xs from h) with (q | ⟨o, q⟩) | q
    · rw [f0] at q; cases q
    · rw [f0] at q; cases q
    · obtain ⟨o, q⟩ := q
      first
        | exact nob _ (I.mod.kin a o q.1)
        | (obtain ⟨_, _, q, _⟩ := q; exact nob _ (I.mod.kin a _ q))
        | (obtain ⟨_, q, _⟩ := q; exact nob _ (I.mod.kin a _ q))
  | false =>
    rcases (show SqL X.K H a xs from h) with (q | ⟨o, q⟩) | q
    · rw [f0] at q; cases q
    · rw [f0] at q; cases q
    · obtain ⟨o, q⟩ := q
      first
        | exact nob _ (I.mod.kin a o q.1)
        | (obtain ⟨_, _, q, _⟩ := q; exact nob _ (I.mod.kin a _ q))
        | (obtain ⟨_, q, _⟩ := q; exact nob _ (I.mod.kin a _ q))
end
def Itz (K : PySem.W.Frag) (t1 t2 : Bool) (a b : Addr) : It :=
  ⟨fun i H => ∃ xs ys x y, SqB t1 K H a xs ∧ SqB t2 K H b ys ∧ xs[i]? = some x ∧ ys[i]? = some y,
   fun i H v H' => ∃ p x y, v = .ref p ∧ H p = none ∧ H' = upd H p (.tup [x, y]) ∧ (∀ xs, SqB t1 K H a xs → xs[i]? = some x) ∧ ∀ ys, SqB t2 K H b ys → ys[i]? = some y,
   fun i H => ∃ xs ys, SqB t1 K H a xs ∧ SqB t2 K H b ys ∧ (xs.length ≤ i ∨ ys.length ≤ i)⟩
def ItB (t : Bool) (h : Heap) (it l : Addr) (k : Nat) : Prop := match t with
  | true => h.IsTupleIter it l k
  | false => h.IsListIter it l k
theorem ItB.src {t : Bool} {h : Heap} {it l : Addr} {k : Nat} {xs : Array Value} (a : ItB t h it l k) (b : SqK t h l xs) : Src t h it l xs k := by cases t <;> exact ⟨a, b⟩
theorem Src.it {t : Bool} {h : Heap} {it l : Addr} {k : Nat} {xs : Array Value} (a : Src t h it l xs k) : ItB t h it l k := by cases t <;> exact a.1
theorem ItB.ob {t : Bool} {h : Heap} {it l : Addr} {k : Nat} (a : ItB t h it l k) : ∃ o, h.get? it = some o ∧ ∀ v, o.data ≠ .cell v := by
  cases t <;> (obtain ⟨o, e, _, d⟩ := a; exact ⟨o, e, fun v z => by rw [d] at z; cases z⟩)
theorem ItB.keep {t : Bool} {h h' : Heap} {it l : Addr} {k : Nat} (a : ItB t h it l k) (e : ∀ o, h.get? it = some o → h'.get? it = some o) : ItB t h' it l k := by
  cases t <;> (obtain ⟨o, q, r⟩ := a; exact ⟨o, e o q, r⟩)

theorem turn_zip {P : Program} {w : World} {K : PySem.W.Frag} {es : List Expr} {k0 : Nat} {tp : Pos} {t1 t2 : Bool} {a b z TI TO i1 i2 : Addr}
    (D : (TI ≠ z ∧ TO ≠ z ∧ i1 ≠ z ∧ i2 ≠ z) ∧ TI ≠ TO ∧ TI ≠ i1 ∧ TI ≠ i2 ∧ TO ≠ i1 ∧ TO ≠ i2 ∧ i1 ≠ i2) :
    Turn P w K (.Tuple es k0 tp) (Itz K t1 t2 a b) [z, TI, TO, i1, i2] z (fun i h => IsZip h z TI TO .none ∧ IsPair h TI (.ref i1) (.ref i2) ∧ (∃ u v, IsPair h TO u v) ∧ ItB t1 h i1 a i ∧ ItB t2 h i2 b i) where
  mem := by simp
  obj := fun i h st c hc => by
    obtain ⟨h1, h2, ⟨u, v, h3⟩, h4, h5⟩ := st
    simp only [List.mem_cons, List.not_mem_nil, or_false] at hc
    rcases hc with rfl | rfl | rfl | rfl | rfl
    · exact ⟨_, h1, fun v z => by cases z⟩
    · exact ⟨_, h2, fun v z => by cases z⟩
    · exact ⟨_, h3, fun v z => by cases z⟩
    · exact h4.ob
    · exact h5.ob
  keep := fun i h h' st k => by
    obtain ⟨h1, h2, ⟨u, v, h3⟩, h4, h5⟩ := st
    exact ⟨k z (by simp) _ h1, k TI (by simp) _ h2, ⟨u, v, k TO (by simp) _ h3⟩, h4.keep fun o e => k i1 (by simp) o e, h5.keep fun o e => k i2 (by simp) o e⟩
  item := by
    intro X hP hw hK hc i pins s σ H E I hf st hg
    subst hP hw hK
    obtain ⟨h1, h2, ⟨u, v, h3⟩, h4, h5⟩ := st
    obtain ⟨xs, ys, x, y, q1, q2, hx, hy⟩ := hg
    obtain ⟨its, r1, p1, _⟩ := I.sq q1
    obtain ⟨jts, r2, p2, _⟩ := I.sq q2
    obtain ⟨ux, ex, rx⟩ := r1.get hx
    obtain ⟨uy, ey, ry⟩ := r2.get hy
    have fz := hf z (by simp)
    have fTI := hf TI (by simp)
    have fTO := hf TO (by simp)
    have f1 := hf i1 (by simp)
    have f2 := hf i2 (by simp)
    have Dd : Apart z TI TO i1 i2 a b := ⟨D.1, D.2, ⟨I.sq_ne q1 fz, I.sq_ne q1 fTO, I.sq_ne q1 f1, I.sq_ne q1 f2⟩, ⟨I.sq_ne q2 fz, I.sq_ne q2 fTO, I.sq_ne q2 f1, I.sq_ne q2 f2⟩⟩
    have hT : s.TypeIs (.ref z) "zip" := ⟨_, h1, rfl⟩
    unfold pyNext
    refine wpAny_bind (wpAny_attempt (wpAny_callSpecial?_slot (name := Str.ofString "__next__") hT F.slot_zip_next (wpAny_call_entry F.slot_zip_next hT F.entry_zip_next (zip_item Dd h1 h2 h3 (h4.src p1) (h5.src p2) (by simpa using ex) (by simpa using ey) fun h' a1 a2 a3 a4 a5 a6 => wpAny_pure ?_) (F.args_zip_next_1 _))))
    refine ⟨_, rfl, wpAny_letOwnedTupleGo_zip a1 fun h2' b1 b2 => ?_⟩
    have lt : ∀ {c o}, s.heap.get? c = some o → s.heap.objs.size ≠ c := fun e => Nat.ne_of_gt (Heap.lt_size e)
    have nz := lt h1
    have hk : ∀ c o, c ∉ [z, TI, TO, i1, i2] → s.heap.get? c = some o → h2'.get? c = some o := fun c o hcn e => by
      simp only [List.mem_cons, List.not_mem_nil, or_false, not_or] at hcn
      exact b2.extBut c o hcn.1 (a6 c o hcn.1 hcn.2.2.1 hcn.2.2.2.1 hcn.2.2.2.2 e)
    have hTI' : h2'.get? TI = s.heap.get? TI := by
      rw [h2]
      exact b2.extBut _ _ D.1.1 (a6 TI _ D.1.1 D.2.1 D.2.2.1 D.2.2.2.1 h2)
    -- the own records have turned
    have I1 : Inv X pins σ H { s with heap := h2' } := by
      refine I.step (g' := s.gens) (d' := s.drawn) (t' := s.toks) (ch := [z, TI, TO, i1, i2]) (fun c hcm => ?_) (fun c o _ _ hcn e _ => hk c o hcn e) (fun c o _ _ hcn e _ => ⟨o.slots, hk c o hcn e⟩) (fun _ _ _ _ n => n)
        (fun c o hcn e => ⟨o, hk c o hcn e⟩) (fun _ _ e => e) (fun _ _ _ e => e) (fun c ps e => ⟨#[], by rw [e]; simp⟩) (fun m hm => ?_) (fun c u' e => ?_) I.bare
      · obtain ⟨_, g1, _, g3, g4, g5⟩ := hf c hcm
        exact ⟨g3, g1, g4, g5⟩
      · obtain ⟨o, es', ep, ho, r⟩ := hm
        exact ⟨o, es', ep, hk _ o (fun hm' => (hf _ hm').2.1 rfl) ho, r⟩
      · have nin : ∀ c' u'', H c' = some u'' → c' ∉ [z, TI, TO, i1, i2] := fun c' u'' e' hm' => by rw [(hf _ hm').1] at e'; cases e'
        refine (I.hok c u' e).stay (fun c' v' hc' q => hk c' v' ?_ q) (fun _ q => q) fun _ _ q => q
        rcases hc' with rfl | hc'
        · exact nin _ _ e
        · exact nin _ _ hc'
    have hp : IsPair h2' s.heap.objs.size ux uy := b2.extBut _ _ nz a5
    have fp0 : H s.heap.objs.size = none := I.hok.fresh (Nat.le_refl _)
    -- the pair is tracked
    have nfp : s.heap.objs.size ∉ [z, TI, TO, i1, i2] := fun hm => by
      obtain ⟨o, e, _⟩ : ∃ o, s.heap.get? s.heap.objs.size = some o ∧ True := by
        simp only [List.mem_cons, List.not_mem_nil, or_false] at hm
        rcases hm with q | q | q | q | q
        · exact ⟨_, by rw [q]; exact h1, trivial⟩
        · exact ⟨_, by rw [q]; exact h2, trivial⟩
        · exact ⟨_, by rw [q]; exact h3, trivial⟩
        · obtain ⟨o, e, _⟩ := h4.ob; exact ⟨o, by rw [q]; exact e, trivial⟩
        · obtain ⟨o, e, _⟩ := h5.ob; exact ⟨o, by rw [q]; exact e, trivial⟩
      exact absurd (Heap.lt_size e) (Nat.lt_irrefl _)
    have I2 : Inv X pins σ (upd H s.heap.objs.size (.tup [x, y])) { s with heap := h2' } := by
      refine I1.step (s := { s with heap := h2' }) (g' := s.gens) (d' := s.drawn) (t' := s.toks) (h' := h2') (ch := [s.heap.objs.size]) (fun c hcm => ?_) (fun c o _ _ _ e _ => e) (fun c o _ _ _ e _ => ⟨o.slots, e⟩) (fun c o hcn e n => ?_)
        (fun c o _ e => ⟨o, e⟩) (fun c xs' e => ?_) (fun c o u' e => ?_) (fun c ps e => ⟨#[], ?_⟩) (fun m hm => hm) (fun c u' e => ?_) I.bare
      · have e : c = s.heap.objs.size := by simpa using hcm
        subst e
        obtain ⟨_, g1, _, g3, g4, g5⟩ := I.fpOk (Nat.le_refl _) fp0
        exact ⟨g3, g1, g4, g5⟩
      · rw [upd_ne (by simpa using hcn)]; exact n
      · rw [upd_ne (ne_of_none e fp0)]; exact e
      · rw [upd_ne (ne_of_none e fp0)]; exact e
      · rw [upd_ne (ne_of_none e fp0), e]; simp
      · by_cases hcs : c = s.heap.objs.size
        · subst hcs
          rw [upd_same] at e
          cases e
          exact ⟨by simp [sizeLine_eq], [ux, uy], .cons rx (.cons ry .nil), ⟨_, hp, rfl, _, rfl⟩⟩
        · rw [upd_ne hcs] at e
          exact (I1.hok c u' e).stay (fun _ _ _ q => q) (fun c' q => by rw [upd_ne (ne_of_none q fp0)]; exact q) fun c' xs' q => by rw [upd_ne (ne_of_none q fp0)]; exact q
    refine ⟨.ref s.heap.objs.size, _, I2, rfl, ⟨s.heap.objs.size, x, y, rfl, fp0, rfl, fun xs' q' => by rw [I.sq_inj q' q1]; exact hx, fun ys' q' => by rw [I.sq_inj q' q2]; exact hy⟩, ?_, fun c hcm => ?_⟩
    · exact ⟨b1, hTI'.trans h2, ⟨ux, uy, b2.extBut _ _ D.1.2.1 a2⟩, (Src.it a3).keep fun o e => b2.extBut _ o D.1.2.2.1 e, (Src.it a4).keep fun o e => b2.extBut _ o D.1.2.2.2 e⟩
    · rw [upd_ne (fun q => nfp (by rw [← q]; exact hcm))]; exact (hf c hcm).1
  done := by
    intro X hP hw hK hc i pins s σ H E I hf st hg
    subst hP hw hK
    obtain ⟨h1, h2, ⟨u, v, h3⟩, h4, h5⟩ := st
    obtain ⟨xs, ys, q1, q2, he⟩ := hg
    obtain ⟨its, r1, p1, _⟩ := I.sq q1
    obtain ⟨jts, r2, p2, _⟩ := I.sq q2
    have Dd : Apart z TI TO i1 i2 a b := ⟨D.1, D.2, ⟨I.sq_ne q1 (hf z (by simp)), I.sq_ne q1 (hf TO (by simp)), I.sq_ne q1 (hf i1 (by simp)), I.sq_ne q1 (hf i2 (by simp))⟩, ⟨I.sq_ne q2 (hf z (by simp)), I.sq_ne q2 (hf TO (by simp)), I.sq_ne q2 (hf i1 (by simp)), I.sq_ne q2 (hf i2 (by simp))⟩⟩
    have l1 := r1.length
    have l2 := r2.length
    have hend : its.toArray[i]? = none ∨ jts.toArray[i]? = none := by
      rcases he with e | e
      · exact .inl (by simp; omega)
      · exact .inr (by simp; omega)
    have hT : s.TypeIs (.ref z) "zip" := ⟨_, h1, rfl⟩
    unfold pyNext
    refine wpAny_bind (wpAny_attempt (wpAny_callSpecial?_slot (name := Str.ofString "__next__") hT F.slot_zip_next (wpAny_call_entry F.slot_zip_next hT F.entry_zip_next (zip_end (I.ok.hd hc) Dd h1 h2 h3 (h4.src p1) (h5.src p2) hend fun h' e kk hx => ?_) (F.args_zip_next_1 _))))
    obtain ⟨o, ho, hcl⟩ := hx
    refine wpAny_bind (wpAny_isInstance (T := "StopIteration") (b := true) ⟨o, ho, hcl⟩ isSubtype_stop (wpAny_pure ⟨rfl, ?_⟩))
    have hk : ∀ c o, c ∉ [z, TI, TO, i1, i2] → s.heap.get? c = some o → h'.get? c = some o := fun c o hcn e => by
      simp only [List.mem_cons, List.not_mem_nil, or_false, not_or] at hcn
      exact kk c o hcn.1 hcn.2.2.1 hcn.2.2.2.1 hcn.2.2.2.2 e
    refine I.step (g' := s.gens) (d' := s.drawn) (t' := s.toks) (ch := [z, TI, TO, i1, i2]) (fun c hcm => ?_) (fun c o _ _ hcn e _ => hk c o hcn e) (fun c o _ _ hcn e _ => ⟨o.slots, hk c o hcn e⟩) (fun _ _ _ _ n => n)
      (fun c o hcn e => ⟨o, hk c o hcn e⟩) (fun _ _ e => e) (fun _ _ _ e => e) (fun c ps e => ⟨#[], by rw [e]; simp⟩) (fun m hm => ?_) (fun c u' e => ?_) I.bare
    · obtain ⟨_, g1, _, g3, g4, g5⟩ := hf c hcm
      exact ⟨g3, g1, g4, g5⟩
    · obtain ⟨o, es', ep, ho, r⟩ := hm
      exact ⟨o, es', ep, hk _ o (fun hm' => (hf _ hm').2.1 rfl) ho, r⟩
    · have nin : ∀ c' u'', H c' = some u'' → c' ∉ [z, TI, TO, i1, i2] := fun c' u'' e' hm' => by rw [(hf _ hm').1] at e'; cases e'
      refine (I.hok c u' e).stay (fun c' v' hc' q => hk c' v' ?_ q) (fun _ q => q) fun _ _ q => q
      rcases hc' with rfl | hc'
      · exact nin _ _ e
      · exact nin _ _ hc'
  self := fun _ _ _ _ _ st h => wpAny_pyIter_zip st.1 h

def iZip (K : PySem.W.Frag) (t1 t2 : Bool) (ta : TA) : TI := fun σ H R => ta σ H fun vs H1 => ∃ a b xs ys, vs = [.ref a, .ref b] ∧ SqB t1 K H1 a xs ∧ SqB t2 K H1 b ys ∧ R (Itz K t1 t2 a b) H1
theorem zip_apart (n : Nat) : (n + 2 ≠ n + 4 ∧ n + 3 ≠ n + 4 ∧ n ≠ n + 4 ∧ n + 1 ≠ n + 4) ∧ n + 2 ≠ n + 3 ∧ n + 2 ≠ n ∧ n + 2 ≠ n + 1 ∧ n + 3 ≠ n ∧ n + 3 ≠ n + 1 ∧ n ≠ n + 1 := by omega
theorem zip_above (n x : Nat) (h : x = n + 4 ∨ x = n + 2 ∨ x = n + 3 ∨ x = n ∨ x = n + 1) : n ≤ x := by omega
theorem boot_zip : bootBuiltins "zip" = some (.type "zip") := by decide +kernel
theorem pi_zip {X : Cx} {es0 : List Expr} {k0 : Nat} {tp : Pos} {a b : Expr} {ta : TA} {p pos : Pos} {t1 t2 : Bool} (hg : Gl X "zip") (hm : X.mg "zip" = none) (ha : PA X [a, b] ta)
    (hs : starEach [a, b] X.env = [(false, eval a X.env), (false, eval b X.env)] := by rfl) (hs2 : starEach [b] X.env = [(false, eval b X.env)] := by rfl) :
    PI X (.Tuple es0 k0 tp) (.Call (.Name "zip" p) [a, b] [] pos) (iZip X.K t1 t2 ta) := by
  intro pins s σ H R I h
  refine Call_ (ld_blt I hg hm boot_zip (PyProof.Rows.callWith_type1 (thn (ha pos pins s σ H _ I h) fun us s1 ⟨vs, H1, I1, r1, q1⟩ => ?_) (by rw [hs, hs2]) (by rw [hs2]; rfl)))
  obtain ⟨c, d, xs, ys, e, q1, q2, q⟩ := q1
  subst e
  obtain ⟨u, u', rfl, ru, ru'⟩ := vals2 r1
  cases ru
  cases ru'
  obtain ⟨its, _, p1, _⟩ := I1.sq q1
  obtain ⟨jts, _, p2, _⟩ := I1.sq q2
  refine call_zipK p1 p2 fun h' a1 a2 a3 a4 a5 kk => ?_
  refine wpAny_pyIter_zip (s := { s1 with heap := h' }) a1 ?_
  have I2 : Inv X pins σ H1 { s1 with heap := h' } := I1.kept (t' := s1.toks) kk
  refine ⟨_, [s1.heap.objs.size + 4, s1.heap.objs.size + 2, s1.heap.objs.size + 3, s1.heap.objs.size, s1.heap.objs.size + 1], _, _, H1, rfl, I2, turn_zip (t1 := t1) (t2 := t2) (a := c) (b := d) (zip_apart _),
    ⟨a1, a2, ⟨_, _, a3⟩, Src.it a4, Src.it a5⟩, fun x hx => ?_, q⟩
  have hge : s1.heap.objs.size ≤ x := by
    simp only [List.mem_cons, List.not_mem_nil, or_false] at hx
    exact zip_above _ _ hx
  exact I1.fpOk hge (I1.hok.fresh hge)
end L2
set_option Elab.async false
set_option linter.all false
set_option maxRecDepth 100000
set_option maxHeartbeats 4000000
namespace L2
open PySem PySem.Spec PyProof.Rows
section
variable {X : Cx} {a b : Expr} {ta tb : TE} {pos : Pos}

/-! ### all(list of truths) -/
theorem call_all (hc : X.calm = true) : CallR X (.builtin "all") (fun xs H Q => ∃ p, ∃ bs : List Bool, xs = [.ref p] ∧ SqL X.K H p (bs.map V.bl) ∧ Q (.bl (bs.all id)) H) := by
  intro pins s σ H xs us Q I r h
  obtain ⟨p, bs, rfl, hq, q⟩ := h
  obtain ⟨u, rfl, rx⟩ := vals1 r
  cases rx
  obtain ⟨its, rv, pl, hz⟩ := I.list hq
  have hl := pl.isList
  have hlt : p < s.heap.objs.size := by obtain ⟨_, e, _⟩ := hl; exact Heap.lt_size e
  have hlen : bs.length = its.length := by rw [← rv.length, List.length_map]
  refine call_all_walk (wpAny_pyIter_list hl ?_)
  refine ⟨s.heap.objs.size, [s.heap.objs.size, p], [s.heap.objs.size], its.toArray.size, _, _, fun i => (bs[i]?).getD true, rfl, Walks.list (A := X.A.in1) (I.ok.hd hc) _ p (Nat.ne_of_lt hlt) its.toArray,
    ⟨⟨_, Heap.get?_push_size _ rfl, rfl, rfl⟩, hl.push _⟩, fun i v s' Q' E' hP hQ => ?_, fun h' tk hk => ?_⟩
  · have hP' : its[i]? = some v := by simpa using hP
    have hi : i < bs.length := by rw [hlen]; exact (List.getElem?_eq_some_iff.mp hP').1
    obtain ⟨u', e', r'⟩ := rv.get (i := i) (x := V.bl bs[i]) (by simp [hi])
    rw [hP'] at e'
    cases e'
    cases r'
    have e2 : (bs[i]?).getD true = bs[i] := by simp [hi]
    have hQ2 : Q' ((bs[i]?).getD true) s' := hQ
    rw [e2] at hQ2
    exact wpAny_truthy_bool hQ2
  · have e : ((List.range its.toArray.size).all fun i => (bs[i]?).getD true) = bs.all id := by
      rw [List.size_toArray, ← hlen]
      rw [Bool.eq_iff_iff]
      simp only [List.all_eq_true, List.mem_range, id]
      constructor
      · intro h x hx
        obtain ⟨i, hi, rfl⟩ := List.mem_iff_getElem.mp hx
        have := h i hi
        simpa [hi] using this
      · intro h i hi
        have := h bs[i] (List.getElem_mem hi)
        simpa [hi] using this
    rw [e]
    refine ⟨.bl (bs.all id), H, I.kept (t' := tk) fun b x e => ?_, rfl, q⟩
    exact hk b x (fun hm => by rw [List.mem_singleton.mp hm] at e; exact Nat.lt_irrefl _ (Heap.lt_size e)) (Heap.get?_push_of_some _ e)

/-! ### isinstance(x, T) -/
def rIsi (K : PySem.W.Frag) : List V → Hp → VK → Prop := fun xs H Q => ∃ x c t k, xs = [x, .ty c] ∧ TyOf K H x t ∧ PySem.W.kitOne K t (.type c) = some k ∧ Q (.bl k) H
theorem call_isi : CallR X (.builtin "isinstance") (rIsi X.K) := by
  intro pins s σ H xs us Q I r h
  obtain ⟨x, c, t, k, rfl, ty, e, q⟩ := h
  obtain ⟨u, u', rfl, rx, rc⟩ := vals2 r
  cases rc
  exact isinst_ok I rx ty e fun tk => ⟨.bl k, H, I.tok tk, rfl, q⟩

/-! ### f(e, ..) where f is a name that holds a def -/
/-! ### texts -/
/-! ### two lists of flat things compared -/
def eqVs : List V → List V → Bool
  | [], [] => true
  | x :: xs, y :: ys => eqV x y && eqVs xs ys
  | _, _ => false
theorem eqVs_len : ∀ {xs ys : List V}, xs.length ≠ ys.length → eqVs xs ys = false
  | [], [], h => absurd rfl h
  | [], _ :: _, _ => rfl
  | _ :: _, [], _ => rfl
  | x :: xs, y :: ys, h => by
    rw [eqVs, eqVs_len (fun e => h (by simp [e])), Bool.and_false]
theorem eqVs_range : ∀ {xs ys : List V}, xs.length = ys.length → (List.range xs.length).all (fun j => eqV (xs.getD j .non) (ys.getD j .non)) = eqVs xs ys
  | [], [], _ => rfl
  | x :: xs, y :: ys, h => by
    have h' : xs.length = ys.length := by simpa using h
    rw [eqVs, ← eqVs_range h', List.length_cons, List.range_succ_eq_map, List.all_cons, List.all_map]
    rfl
theorem op_neL (hu : X.A.units < cLine) : OpR X (compareOp .NotEq) (fun x y H Q => ∃ p q xs ys, x = .ref p ∧ y = .ref q ∧ SqL X.K H p xs ∧ SqL X.K H q ys ∧ xs.all flatV = true ∧ ys.all flatV = true ∧ Q (.bl (!eqVs xs ys)) H) := by
  intro pins s σ H x y v u Q I rx ry h
  obtain ⟨p, q', xs, ys, rfl, rfl, h1, h2, f1, f2, q⟩ := h
  cases rx
  cases ry
  obtain ⟨its, r1, pl1, _⟩ := I.list h1
  obtain ⟨jts, r2, pl2, _⟩ := I.list h2
  by_cases hl : xs.length = ys.length
  · refine SeqAt.RcNeAt.lists (e := fun j => eqV (xs.getD j .non) (ys.getD j .non)) pl1.isList pl2.isList (by simp [← r1.length, ← r2.length, hl]) hu (fun j g1 g2 => ?_) _ _ _ _ ⟨.bl (!eqVs xs ys), H, I, ?_, q⟩
    · have j1 : j < xs.length := by rw [r1.length]; simpa using g1
      have j2 : j < ys.length := by rw [r2.length]; simpa using g2
      obtain ⟨u1, e1, ru1⟩ := r1.get (i := j) (x := xs[j]) (by simp [j1])
      obtain ⟨u2, e2, ru2⟩ := r2.get (i := j) (x := ys[j]) (by simp [j2])
      have z1 : its.toArray[j] = u1 := by
        have := (List.getElem?_eq_some_iff.mp e1).2
        simpa using this
      have z2 : jts.toArray[j] = u2 := by
        have := (List.getElem?_eq_some_iff.mp e2).2
        simpa using this
      rw [z1, z2]
      have w1 : xs.getD j .non = xs[j] := by simp [j1]
      have w2 : ys.getD j .non = ys[j] := by simp [j2]
      show SeqAt.EqAt _ _ _ _ (eqV (xs.getD j .non) (ys.getD j .non))
      rw [w1, w2]
      exact eqAt_V ru1 ru2 (List.all_eq_true.mp f1 _ (List.getElem_mem j1)) (List.all_eq_true.mp f2 _ (List.getElem_mem j2))
    · rw [List.size_toArray, ← r1.length, eqVs_range hl]; rfl
  · refine SeqAt.RcNeAt.lists_lengths pl1.isList pl2.isList (by simp [← r1.length, ← r2.length, hl]) hu _ _ _ _ ⟨.bl (!eqVs xs ys), H, I, ?_, q⟩
    rw [eqVs_len hl]; rfl
end

/-! ### t[::-1] of a tuple -/
section
variable {prog : Program} {w : World} {A : Around} {E : Value → Shared → Prop} {s : Shared}
end
end L2
namespace L2
open PySem PySem.Spec PyProof.Rows
/-! ### t + u of two tuples, either may be empty -/
def rCatU : R2 := fun x y H Q => ∃ a b xs ys, x = .ref a ∧ y = .ref b ∧ H a = some (.tup xs) ∧ H b = some (.tup ys) ∧ xs.length + ys.length ≤ sizeLine ∧ ∀ p H', H' p = some (.tup (xs ++ ys)) → Same H H' → Q (.ref p) H'
theorem op_catU {X : Cx} : OpR X (binaryOp .Add) rCatU := by
  intro pins s σ H x y v u Q I rx ry h
  obtain ⟨a, b, xs, ys, rfl, rfl, ha, hb, hz, q⟩ := h
  by_cases hx : xs = []
  · subst hx
    cases rx
    cases ry
    obtain ⟨its, r1, p1, _⟩ := I.tuple (SqT.of ha)
    obtain ⟨its2, r2, p2, _⟩ := I.tuple (SqT.of hb)
    have e1 : its = [] := r1.nil_iff.mpr rfl
    obtain ⟨⟨cls, dd, data, sl⟩, ho, hc, n, hd⟩ := id p1
    obtain ⟨⟨cls2, dd2, data2, sl2⟩, ho2, hc2, n2, hd2⟩ := id p2
    simp only at hc hd hc2 hd2
    subst hc hd hc2 hd2
    exact concat_meets ⟨_, ho, rfl⟩ ⟨_, ho2, rfl⟩ noFill_tuple_add seq_tuple_add PySem.F.slot_tuple_add PySem.F.entry_tuple_add (PySem.F.args_tuple_add_2 _ _)
      (tuple_addW0 a b its.toArray its2.toArray n n2 dd dd2 sl sl2 (by simp [e1])) ⟨ho, ho2, ⟨.ref b, H, I, rfl, q b H (by simpa using hb) (Same.refl _)⟩⟩
  · refine op_catT pins s σ H (.ref a) (.ref b) v u Q I rx ry ⟨a, b, xs, ys, rfl, rfl, SqT.of ha, SqT.of hb, hx, hz, fun e => ?_, fun _ p hp => ?_⟩
    · subst e
      exact q a H (by simpa using ha) (Same.refl _)
    · exact q p _ upd_same fun c o e => by rw [upd_ne (ne_of_none e hp)]; exact e
theorem PT.weak {X : Cx} {e : Expr} {t t' : TT} (h : PT X e t) (w : ∀ σ H Q, t' σ H Q → t σ H Q) : PT X e t' := fun pins s σ H Q I q => h pins s σ H Q I (w σ H Q q)
theorem PE.weak {X : Cx} {e : Expr} {t t' : TE} (h : PE X e t) (w : ∀ σ H Q, t' σ H Q → t σ H Q) : PE X e t' := fun pins s σ H Q I q => h pins s σ H Q I (w σ H Q q)
end L2
set_option Elab.async false
set_option linter.all false
namespace Kp
open PySem PyProof.Rows
/-- a thing, as data -/
inductive D where
  | non | bl (b : Bool) | int (i : Int) | str (x : Str) | tup (xs : List D) | lst (xs : List D)

/-! ### names -/
/-! ### seats -/
def keeper : D → Bool
  | .int i => decide (0 ≤ i) && decide (i ≤ 8)
  | _ => false
end Kp
set_option Elab.async false
set_option linter.all false
set_option maxRecDepth 100000
set_option maxHeartbeats 4000000
namespace Kp
open PySem L2

mutual
/-- v is the thing d in the heap H; its texts and rows are of at most B parts -/
inductive Is (B : Nat) (H : Hp) : V → D → Prop
  | non : Is B H .non .non
  | bl (b : Bool) : Is B H (.bl b) (.bl b)
  | int (i : Int) : Is B H (.int i) (.int i)
  | str (x : Str) (h : x.length ≤ B) : Is B H (.str x) (.str x)
  | tup {a : Addr} {vs : List V} {ds : List D} (e : H a = some (.tup vs)) (l : vs.length ≤ B) (r : IsL B H vs ds) : Is B H (.ref a) (.tup ds)
  | lst {a : Addr} {vs : List V} {ds : List D} (e : H a = some (.lst vs)) (l : vs.length ≤ B) (r : IsL B H vs ds) : Is B H (.ref a) (.lst ds)
inductive IsL (B : Nat) (H : Hp) : List V → List D → Prop
  | nil : IsL B H [] []
  | cons {v : V} {d : D} {vs : List V} {ds : List D} (h : Is B H v d) (t : IsL B H vs ds) : IsL B H (v :: vs) (d :: ds)
end
mutual
theorem Is.mono {B B' : Nat} {H H' : Hp} (hB : B ≤ B') (s : Same H H') : ∀ {v d}, Is B H v d → Is B' H' v d
  | _, _, .non => .non
  | _, _, .bl b => .bl b
  | _, _, .int i => .int i
  | _, _, .str x h => .str x (Nat.le_trans h hB)
  | _, _, .tup e l r => .tup (s _ _ e) (Nat.le_trans l hB) (IsL.mono hB s r)
  | _, _, .lst e l r => .lst (s _ _ e) (Nat.le_trans l hB) (IsL.mono hB s r)
theorem IsL.mono {B B' : Nat} {H H' : Hp} (hB : B ≤ B') (s : Same H H') : ∀ {vs ds}, IsL B H vs ds → IsL B' H' vs ds
  | _, _, .nil => .nil
  | _, _, .cons h t => .cons (Is.mono hB s h) (IsL.mono hB s t)
end
theorem Is.same {B : Nat} {H H' : Hp} {v : V} {d : D} (h : Is B H v d) (s : Same H H') : Is B H' v d := h.mono (Nat.le_refl _) s
theorem IsL.same {B : Nat} {H H' : Hp} {v : List V} {d : List D} (h : IsL B H v d) (s : Same H H') : IsL B H' v d := h.mono (Nat.le_refl _) s
theorem IsL.length {B : Nat} {H : Hp} : ∀ {vs ds}, IsL B H vs ds → vs.length = ds.length
  | _, _, .nil => rfl
  | _, _, .cons _ t => by simp [IsL.length t]
theorem IsL.get {B : Nat} {H : Hp} : ∀ {vs ds} {i : Nat} {v : V}, IsL B H vs ds → vs[i]? = some v → ∃ d, ds[i]? = some d ∧ Is B H v d
  | _, _, _, _, .nil, h => by simp at h
  | _, _, 0, _, .cons h _, e => by simp at e; subst e; exact ⟨_, rfl, h⟩
  | _, _, i + 1, v, .cons _ t, e => by
    obtain ⟨d, e', h⟩ := IsL.get (i := i) (v := v) t (by simpa using e)
    exact ⟨d, by simpa using e', h⟩
theorem IsL.append {B : Nat} {H : Hp} : ∀ {vs ds vs' ds'}, IsL B H vs ds → IsL B H vs' ds' → IsL B H (vs ++ vs') (ds ++ ds')
  | _, _, _, _, .nil, h => h
  | _, _, _, _, .cons h t, h' => .cons h (IsL.append t h')
theorem IsL.take {B : Nat} {H : Hp} : ∀ (n : Nat) {vs ds}, IsL B H vs ds → IsL B H (vs.take n) (ds.take n)
  | 0, _, _, _ => .nil
  | _ + 1, _, _, .nil => .nil
  | n + 1, _, _, .cons h t => .cons h (IsL.take n t)
theorem IsL.drop {B : Nat} {H : Hp} : ∀ (n : Nat) {vs ds}, IsL B H vs ds → IsL B H (vs.drop n) (ds.drop n)
  | 0, _, _, h => h
  | _ + 1, _, _, .nil => .nil
  | n + 1, _, _, .cons _ t => IsL.drop n t
theorem IsL.reverse {B : Nat} {H : Hp} {vs ds} (h : IsL B H vs ds) : IsL B H vs.reverse ds.reverse := by
  induction vs generalizing ds with
  | nil => cases h; exact .nil
  | cons v vs ih =>
    cases h with
    | cons h t => rw [List.reverse_cons, List.reverse_cons]; exact (ih t).append (.cons h .nil)
theorem IsL.ints {B : Nat} {H : Hp} : ∀ (ns : List Int), IsL B H (ns.map V.int) (ns.map D.int)
  | [] => .nil
  | n :: r => .cons (.int n) (IsL.ints r)
/-- some thing of at most B parts -/
def Th (B : Nat) (H : Hp) (v : V) : Prop := ∃ d, Is B H v d
def ThL (B : Nat) (H : Hp) (vs : List V) : Prop := ∃ ds, IsL B H vs ds
theorem Th.mono {B B' : Nat} {H H' : Hp} {v : V} (h : Th B H v) (hB : B ≤ B') (s : Same H H') : Th B' H' v := let ⟨d, q⟩ := h; ⟨d, q.mono hB s⟩
theorem ThL.mono {B B' : Nat} {H H' : Hp} {v : List V} (h : ThL B H v) (hB : B ≤ B') (s : Same H H') : ThL B' H' v := let ⟨d, q⟩ := h; ⟨d, q.mono hB s⟩
theorem ThL.nil {B : Nat} {H : Hp} : ThL B H [] := ⟨[], .nil⟩
theorem ThL.cons {B : Nat} {H : Hp} {v : V} {vs : List V} (h : Th B H v) (t : ThL B H vs) : ThL B H (v :: vs) := let ⟨d, q⟩ := h; let ⟨ds, r⟩ := t; ⟨d :: ds, .cons q r⟩
theorem ThL.append {B : Nat} {H : Hp} {vs us : List V} (h : ThL B H vs) (t : ThL B H us) : ThL B H (vs ++ us) := let ⟨_, q⟩ := h; let ⟨_, r⟩ := t; ⟨_, q.append r⟩
theorem ThL.take {B : Nat} {H : Hp} {vs : List V} (n : Nat) (h : ThL B H vs) : ThL B H (vs.take n) := let ⟨_, q⟩ := h; ⟨_, q.take n⟩
theorem ThL.drop {B : Nat} {H : Hp} {vs : List V} (n : Nat) (h : ThL B H vs) : ThL B H (vs.drop n) := let ⟨_, q⟩ := h; ⟨_, q.drop n⟩
theorem ThL.reverse {B : Nat} {H : Hp} {vs : List V} (h : ThL B H vs) : ThL B H vs.reverse := let ⟨_, q⟩ := h; ⟨_, q.reverse⟩
theorem ThL.get {B : Nat} {H : Hp} {vs : List V} {i : Nat} {v : V} (h : ThL B H vs) (e : vs[i]? = some v) : Th B H v := let ⟨_, q⟩ := h; let ⟨d, _, r⟩ := q.get e; ⟨d, r⟩
theorem Th.tup {B : Nat} {H : Hp} {a : Addr} {vs : List V} (e : H a = some (.tup vs)) (l : vs.length ≤ B) (h : ThL B H vs) : Th B H (.ref a) := let ⟨_, q⟩ := h; ⟨_, .tup e l q⟩
theorem Th.lst {B : Nat} {H : Hp} {a : Addr} {vs : List V} (e : H a = some (.lst vs)) (l : vs.length ≤ B) (h : ThL B H vs) : Th B H (.ref a) := let ⟨_, q⟩ := h; ⟨_, .lst e l q⟩
theorem Th.int {B : Nat} {H : Hp} (i : Int) : Th B H (.int i) := ⟨_, .int i⟩
theorem Th.bl {B : Nat} {H : Hp} (i : Bool) : Th B H (.bl i) := ⟨_, .bl i⟩
theorem Th.non {B : Nat} {H : Hp} : Th B H .non := ⟨_, .non⟩
theorem Th.str {B : Nat} {H : Hp} (x : Str) (h : x.length ≤ B) : Th B H (.str x) := ⟨_, .str x h⟩
/-- a new object leaves all as it was -/
theorem same_upd {H : Hp} {p : Addr} {o : HO} (h : H p = none) : Same H (upd H p o) := fun b u e => by rw [upd_ne (ne_of_none e h)]; exact e

/-! ### the kinds -/
def tyN : D → String
  | .non => "NoneType" | .bl _ => "bool" | .int _ => "int" | .str _ => "str" | .tup _ => "tuple" | .lst _ => "list"
theorem Is.ty {B : Nat} {H : Hp} {K : PySem.W.Frag} {v : V} {d : D} (h : Is B H v d) : TyOf K H v (.type (tyN d)) := by
  cases h with
  | non => exact .non
  | bl b => exact .bl b
  | int i => exact .int i
  | str x _ => exact .str x
  | tup e _ _ => exact .tup e
  | lst e _ _ => exact .lst e
def isInt : D → Bool | .int _ => true | .bl _ => true | _ => false
def isBool : D → Bool | .bl _ => true | _ => false
def isStr : D → Bool | .str _ => true | _ => false
def isTup : D → Bool | .tup _ => true | _ => false
theorem kit_bool (K : PySem.W.Frag) : ∀ d : D, PySem.W.kitOne K (.type (tyN d)) (.type "bool") = some (isBool d)
  | .non => by with_unfolding_all rfl
  | .bl _ => by with_unfolding_all rfl
  | .int _ => by with_unfolding_all rfl
  | .str _ => by with_unfolding_all rfl
  | .tup _ => by with_unfolding_all rfl
  | .lst _ => by with_unfolding_all rfl
theorem kit_str (K : PySem.W.Frag) : ∀ d : D, PySem.W.kitOne K (.type (tyN d)) (.type "str") = some (isStr d)
  | .non => by with_unfolding_all rfl
  | .bl _ => by with_unfolding_all rfl
  | .int _ => by with_unfolding_all rfl
  | .str _ => by with_unfolding_all rfl
  | .tup _ => by with_unfolding_all rfl
  | .lst _ => by with_unfolding_all rfl
theorem kit_tup (K : PySem.W.Frag) : ∀ d : D, PySem.W.kitOne K (.type (tyN d)) (.type "tuple") = some (isTup d)
  | .non => by with_unfolding_all rfl
  | .bl _ => by with_unfolding_all rfl
  | .int _ => by with_unfolding_all rfl
  | .str _ => by with_unfolding_all rfl
  | .tup _ => by with_unfolding_all rfl
  | .lst _ => by with_unfolding_all rfl
theorem boot_isi : bootBuiltins "isinstance" = some (.builtin "isinstance") := by decide +kernel
theorem boot_int : bootBuiltins "int" = some (.type "int") := by decide +kernel
theorem boot_bool : bootBuiltins "bool" = some (.type "bool") := by decide +kernel
theorem boot_str : bootBuiltins "str" = some (.type "str") := by decide +kernel
theorem boot_tuple : bootBuiltins "tuple" = some (.type "tuple") := by decide +kernel
theorem boot_list : bootBuiltins "list" = some (.type "list") := by decide +kernel
theorem boot_allB : bootBuiltins "all" = some (.builtin "all") := by decide +kernel
theorem pe_ty {X : Cx} {x : Str} {n : String} {pos : Pos} (hg : Gl X x) (hm : X.mg x = none) (hv : bootBuiltins x = some (.type n)) (hn : x ≠ "__name__" := by decide) (hd : (x == ("__debug__" : Str)) = false := by decide) : PE X (.Name x pos) (tC (.ty n)) := pe_bltn (v := .ty n) hg hm hv rfl hn hd
end Kp
set_option Elab.async false
set_option linter.all false
set_option maxRecDepth 100000
set_option maxHeartbeats 4000000
namespace Kp
open PySem L2

/-! ### rules whose reading names the written part, for a block -/
section
variable {X : Cx} {K : PySem.W.Frag} {pos : Pos}
theorem pg_tupK {es : List Expr} {k : Nat} {t : TGs} {n : Nat} (hK : X.K = K) (hc : X.calm = true) (h : PGs X es t) (hn : (assignEach es X.env).length = n := by rfl) (hst : (assignEach es X.env).findIdx? (·.1) = none := by rfl) : PG X (.Tuple es k pos) (gTup K n t) := by
  subst hK
  exact pg_tup hc h hn hst
theorem ix_listK (hK : X.K = K) : IxR X (rIxL K) := by subst hK; exact ix_list
end

/-! ### a comprehension's names -/
def compChk (outer scope : Scope) : Bool := scope.kind == .function && scope.names.all fun y => y.2 != .cell && (y.2 != .local || scope.names.lookup y.1 == some .local) && (y.2 != .free || outer.names.lookup y.1 == some .cell)
theorem compOkN {X : Cx} {outer scope : Scope} {NB : List Str} {n : Nat} {fr : List Nat} (hX : X.env.scope = outer) (h : compChk outer scope = true) (hl : NB.length = n + fr.length)
    (ho : ∀ (j k : Nat), fr[j]? = some k → ∃ x, NB[n + j]? = some x ∧ X.N[k]? = some x ∧ scope.names.lookup x = some .free) : CompOk X scope NB n fr := by
  unfold compChk at h
  rw [Bool.and_eq_true, List.all_eq_true] at h
  obtain ⟨h1, h2⟩ := h
  refine ⟨by simpa using h1, fun y hy => ?_, fun y hy hk => ?_, fun y hy hk => ?_, hl, ho⟩
  · have := h2 y hy
    simp only [Bool.and_eq_true, bne_iff_ne, ne_eq] at this
    exact this.1.1
  · have := h2 y hy
    simp only [Bool.and_eq_true, Bool.or_eq_true, bne_iff_ne, ne_eq, beq_iff_eq] at this
    exact this.1.2.resolve_left (fun z => z hk)
  · have := h2 y hy
    simp only [Bool.and_eq_true, Bool.or_eq_true, bne_iff_ne, ne_eq, beq_iff_eq] at this
    refine .inl ?_
    show X.env.scope.names.lookup y.1 = some .cell
    rw [hX]
    exact this.2.resolve_left (fun z => z hk)
theorem compOk0 {X : Cx} {outer scope : Scope} {NB : List Str} {n : Nat} (hX : X.env.scope = outer) (h : compChk outer scope = true) (hl : NB.length = n + 0) : CompOk X scope NB n [] :=
  compOkN hX h hl fun j k e => by simp at e
theorem compOk1 {X : Cx} {outer scope : Scope} {NB : List Str} {n k0 : Nat} {x : Str} (hX : X.env.scope = outer) (h : compChk outer scope = true) (hl : NB.length = n + 1) (h1 : NB[n]? = some x) (h2 : X.N[k0]? = some x) (h3 : scope.names.lookup x = some .free) : CompOk X scope NB n [k0] :=
  compOkN hX h hl fun j k e => by
    cases j with
    | zero => cases e; exact ⟨x, h1, h2, h3⟩
    | succ j => simp at e
theorem compOk2 {X : Cx} {outer scope : Scope} {NB : List Str} {n k0 k1 : Nat} {x y : Str} (hX : X.env.scope = outer) (h : compChk outer scope = true) (hl : NB.length = n + 2) (h1 : NB[n]? = some x) (h2 : X.N[k0]? = some x) (h3 : scope.names.lookup x = some .free)
    (g1 : NB[n + 1]? = some y) (g2 : X.N[k1]? = some y) (g3 : scope.names.lookup y = some .free) : CompOk X scope NB n [k0, k1] :=
  compOkN hX h hl fun j k e => by
    match j, e with
    | 0, e => cases e; exact ⟨x, h1, h2, h3⟩
    | 1, e => cases e; exact ⟨y, g1, g2, g3⟩
    | j + 2, e => simp at e

/-! ### a comprehension that changes nothing -/
theorem comp_pure {J : It} {H1 : Hp} {n k : Nat} {frs : St} {g : TG} {tt : TT} {te : TE} {Q : VK} (p : Nat → Bool) (f : Nat → V) (hn : n < sizeLine)
    (go : ∀ i H, i < n → Same H1 H → J.go i H) (stop : ∀ H, Same H1 H → J.stop n H)
    (turn : ∀ i H t x H2 (R : St → Hp → Option V → Prop), i < n → Same H1 H → t.length = k → J.yld i H x H2 →
      (∀ t' H', t'.length = k → Same H H' → R (t' ++ frs) H' (if p i = true then some (f i) else none)) →
      g x (t ++ frs) H2 fun σ3 H3 => tt σ3 H3 fun b H4 => if b = true then te σ3 H4 fun v H5 => R σ3 H5 (some v) else R σ3 H4 none)
    (hq : ∀ D H', Same H1 H' → H1 D = none → H' D = some (.lst (((List.range n).filter p).map f)) → Q (.ref D) H') : CompGo (List.replicate k none ++ frs) g tt te Q J H1 := by
  intro D hD
  refine ⟨fun i m ys σ H => i ≤ n ∧ m = n - i ∧ ys = ((List.range i).filter p).map f ∧ Same H1 H ∧ ∃ t, t.length = k ∧ σ = t ++ frs, ⟨n, Nat.zero_le _, rfl, rfl, same_upd hD, _, by simp, rfl⟩, ?_⟩
  rintro i m ys σ H ⟨hi, rfl, rfl, s1, t, ht, rfl⟩ hd
  by_cases hlt : i < n
  · right
    refine ⟨go i H hlt s1, ?_, fun x H2 y => ?_⟩
    · refine Nat.lt_of_le_of_lt ?_ hn
      rw [List.length_map]
      exact Nat.le_trans (List.length_filter_le _ _) (by simpa using hi)
    · have h := turn i H t x H2 (fun σ3 H5 r => match r with
        | some v => H5 D = some (.lst (((List.range i).filter p).map f)) ∧ ∃ m', m' < n - i ∧ (i + 1 ≤ n ∧ m' = n - (i + 1) ∧ ((List.range i).filter p).map f ++ [v] = ((List.range (i + 1)).filter p).map f ∧ Same H1 (upd H5 D (.lst (((List.range i).filter p).map f ++ [v]))) ∧ ∃ t, t.length = k ∧ σ3 = t ++ frs)
        | none => H5 D = some (.lst (((List.range i).filter p).map f)) ∧ ∃ m', m' < n - i ∧ (i + 1 ≤ n ∧ m' = n - (i + 1) ∧ ((List.range i).filter p).map f = ((List.range (i + 1)).filter p).map f ∧ Same H1 H5 ∧ ∃ t, t.length = k ∧ σ3 = t ++ frs)) hlt s1 ht y ?_
      · exact h
      · intro t' H' ht' s2
        cases hp : p i with
        | true =>
          rw [if_pos rfl]
          refine ⟨s2 _ _ hd, n - (i + 1), by omega, by omega, rfl, ?_, fun b o e => ?_, t', ht', rfl⟩
          · rw [List.range_succ, List.filter_append, List.map_append]
            simp [hp]
          · rw [upd_ne (ne_of_none e hD)]; exact s2 _ _ (s1 _ _ e)
        | false =>
          rw [if_neg Bool.false_ne_true]
          refine ⟨s2 _ _ hd, n - (i + 1), by omega, by omega, rfl, ?_, s1.trans s2, t', ht', rfl⟩
          rw [List.range_succ, List.filter_append, List.map_append]
          simp [hp]
  · have e : i = n := by omega
    subst e
    exact .inl ⟨stop H s1, hq D H s1 hD hd⟩

/-! ### promises -/
/-- a teller: of a thing, a truth; nothing is changed -/
def spP (f : D → Bool) : Sp := fun vs H Q _ => ∃ B v d, B ≤ 1000 ∧ vs = [v] ∧ Is B H v d ∧ ∀ H', Same H H' → Q (.bl (f d)) H'
/-- a def of the text that keeps its promise, as a caller sees it -/
structure Cal (P : Program) (w : World) (K : PySem.W.Frag) (mg : Str → Option Value) (base : Heap) (name : Str) (k : Nat) (ps : List Str) (sp : Sp) : Prop where
  ex : ∃ f fd, FnOk P w K mg base CX0 k f fd ps sp ∧ mg name = some (.ref f) ∧ PySem.W.keepIn K (.ref f) = true ∧ Binds K fd ps []
def whole (d : D) : Bool := isInt d && !isBool d
end Kp
set_option Elab.async false
set_option linter.all false
namespace Kp
open PySem L2
section
variable {X : Cx} {es : List Expr} {te : TE} {t : TA} {pos : Pos}
/-! ### argument lists by the first one's form: that it is no star is known once -/
theorem pa_i {c : Const} {k : Nat} (ha : PE X (.Constant c k pos) te) (hr : PA X es t) : PA X (.Constant c k pos :: es) (tCons te t) := pa_cons ha hr rfl
theorem pa_n {x : Str} (ha : PE X (.Name x pos) te) (hr : PA X es t) : PA X (.Name x pos :: es) (tCons te t) := pa_cons ha hr rfl
theorem pa_t {l : List Expr} {k : Nat} (ha : PE X (.Tuple l k pos) te) (hr : PA X es t) : PA X (.Tuple l k pos :: es) (tCons te t) := pa_cons ha hr rfl
theorem pa_l {l : List Expr} (ha : PE X (.List l pos) te) (hr : PA X es t) : PA X (.List l pos :: es) (tCons te t) := pa_cons ha hr rfl
theorem pa_b {o : Operator} {a b : Expr} (ha : PE X (.BinOp a o b pos) te) (hr : PA X es t) : PA X (.BinOp a o b pos :: es) (tCons te t) := pa_cons ha hr rfl
theorem pa_k {f : Expr} {as : List Expr} {ks : List Keyword} (ha : PE X (.Call f as ks pos) te) (hr : PA X es t) : PA X (.Call f as ks pos :: es) (tCons te t) := pa_cons ha hr rfl
theorem pa_s {a b : Expr} (ha : PE X (.Subscript a b pos) te) (hr : PA X es t) : PA X (.Subscript a b pos :: es) (tCons te t) := pa_cons ha hr rfl
theorem pa_c {a : Expr} {o : List CmpOp} {b : List Expr} (ha : PE X (.Compare a o b pos) te) (hr : PA X es t) : PA X (.Compare a o b pos :: es) (tCons te t) := pa_cons ha hr rfl
end
end Kp
namespace Kp
open PySem L2
theorem px_b {a b : Expr} {o : Operator} {pos : Pos} : PlainIx (.BinOp a o b pos) := fun _ _ => rfl
theorem px_n {x : Str} {pos : Pos} : PlainIx (.Name x pos) := fun _ _ => rfl
theorem px_i {c : Const} {k : Nat} {pos : Pos} : PlainIx (.Constant c k pos) := fun _ _ => rfl
theorem px_u {o : UnaryOp} {a : Expr} {pos : Pos} : PlainIx (.UnaryOp o a pos) := fun _ _ => rfl
end Kp
namespace Kp
open PySem L2
theorem sw_s {a b : Expr} {p : Pos} {t : Option Expr} {n : Nat} {env : Env} : swapsWith (.Subscript a b p) t n env = pure false := rfl
end Kp
namespace Kp
open PySem L2
/-! ### displays of written things -/
structure QA (X : Cx) (es : List Expr) (t : TA) : Prop where
  h : PA X es t
section
variable {X : Cx} {es l : List Expr} {t u : TA} {p p' : Pos} {j : Nat}
theorem qa_nil : QA X [] tNil := ⟨pa_nil⟩
theorem qa_int {i : Int} (r : QA X es t) : QA X (.Constant (.int i) j p :: es) (tCons (tC (.int i)) t) := ⟨pa_cons pe_int r.h rfl⟩
theorem qa_str {i : Str} (r : QA X es t) : QA X (.Constant (.str i) j p :: es) (tCons (tC (.str i)) t) := ⟨pa_cons pe_str r.h rfl⟩
theorem qa_non (r : QA X es t) : QA X (.Constant .none j p :: es) (tCons (tC .non) t) := ⟨pa_cons pe_non r.h rfl⟩
theorem qa_neg {i : Int} (r : QA X es t) : QA X (.UnaryOp .USub (.Constant (.int i) j p) p' :: es) (tCons (tUn (rU fun i => .int (-i)) (tC (.int i))) t) := ⟨pa_cons (pe_un un_neg pe_int) r.h rfl⟩
theorem qa_tup (a : QA X l u) (r : QA X es t) : QA X (.Tuple l j p :: es) (tCons (tTup u) t) := ⟨pa_cons (pe_tup a.h) r.h rfl⟩
theorem qa_lst (a : QA X l u) (r : QA X es t) : QA X (.List l p :: es) (tCons (tLst u) t) := ⟨pa_cons (pe_lst a.h) r.h rfl⟩
end
end Kp
namespace Kp
open PySem L2
/-! ### judgements in boxes: the elaborator looks into the bare ones, and runs a written display -/
structure QE (X : Cx) (e : Expr) (t : TE) : Prop where
  h : PE X e t
structure QS (X : Cx) (st : Stmt) (t : TS) : Prop where
  h : PS X st t
structure QB (X : Cx) (sts : List Stmt) (t : TS) : Prop where
  h : PSs X sts t
section
variable {X : Cx} {es : List Expr} {t : TA} {p p' pos : Pos} {j : Nat}
theorem qx_lst (a : QA X es t) : QE X (.List es p) (tLst t) := ⟨pe_lst a.h⟩
theorem qs_set {i : Nat} {x : Str} {e : Expr} {te : TE} (hN : X.N.Nodup) (hi : X.N[i]? = some x) (hx : Loc X.env.scope x) (he : QE X e te) (hs : swapsWith e (some (.Name x p')) pos.line X.env = pure false) (hf : X.fn x = true ∨ X.env.scope.names.lookup x = some .local := by first | exact .inl rfl | exact .inr rfl | assumption) :
    QS X (.Assign [.Name x p'] e pos) (tAsg te (gName i)) := ⟨ps_set hN hi hx he.h hs hf⟩
end
end Kp
set_option Elab.async false
set_option linter.all false
set_option maxRecDepth 100000
set_option maxHeartbeats 4000000
namespace Kp
open PySem L2 PyProof.Rows

/-! ### D.get(word) of a dict of the module -/
/-! ### a teller that is known by its address only -/
structure Tl (P : Program) (w : World) (K : PySem.W.Frag) (mg : Str → Option Value) (base : Heap) (k : Nat) (g : Addr) (p : D → Bool) : Prop where
  ex : ∃ k' fd px, k' ≤ k ∧ FnOk P w K mg base CX0 k' g fd [px] (spP p) ∧ PySem.W.keepIn K (.ref g) = true ∧ Binds K fd [px] []
section
variable {P : Program} {w : World} {K : PySem.W.Frag} {mg : Str → Option Value} {base : Heap}
theorem Tl.mono {k k' : Nat} {g : Addr} {p : D → Bool} (h : Tl P w K mg base k g p) (hk : k ≤ k') : Tl P w K mg base k' g p := let ⟨j, fd, px, a, b⟩ := h.ex; ⟨j, fd, px, Nat.le_trans a hk, b⟩
/-- tellers and what they tell -/
inductive Tls (P : Program) (w : World) (K : PySem.W.Frag) (mg : Str → Option Value) (base : Heap) (k : Nat) : List V → List (D → Bool) → Prop
  | nil : Tls P w K mg base k [] []
  | cons {g : Addr} {p : D → Bool} {gs : List V} {ps : List (D → Bool)} (h : Tl P w K mg base k g p) (t : Tls P w K mg base k gs ps) : Tls P w K mg base k (.ref g :: gs) (p :: ps)
theorem Tls.length {k : Nat} : ∀ {gs ps}, Tls P w K mg base k gs ps → gs.length = ps.length
  | _, _, .nil => rfl
  | _, _, .cons _ t => by simp [Tls.length t]
theorem Tls.get {k : Nat} : ∀ {gs ps} {i : Nat} {v : V}, Tls P w K mg base k gs ps → gs[i]? = some v → ∃ g p, v = .ref g ∧ ps[i]? = some p ∧ Tl P w K mg base k g p
  | _, _, _, _, .nil, e => by simp at e
  | _, _, 0, _, .cons h _, e => by simp at e; subst e; exact ⟨_, _, rfl, rfl, h⟩
  | _, _, i + 1, v, .cons _ t, e => by
    obtain ⟨g, p, a, b, c⟩ := Tls.get (i := i) (v := v) t (by simpa using e)
    exact ⟨g, p, a, by simpa using b, c⟩
theorem Tls.mono {k k' : Nat} (hk : k ≤ k') : ∀ {gs ps}, Tls P w K mg base k gs ps → Tls P w K mg base k' gs ps
  | _, _, .nil => .nil
  | _, _, .cons h t => .cons (h.mono hk) (Tls.mono hk t)

/-! ### a table of tellers by words -/
inductive Tbl (P : Program) (w : World) (K : PySem.W.Frag) (mg : Str → Option Value) (base : Heap) (k : Nat) : List DictEntry → List (Str × List (D → Bool)) → Prop
  | nil : Tbl P w K mg base k [] []
  | cons {x : Str} {tk : Tok} {t : Addr} {gs : List V} {ps : List (D → Bool)} {es : List DictEntry} {tb : List (Str × List (D → Bool))} (hs : ∀ H : Hp, SqT K H t gs) (ht : Tls P w K mg base k gs ps) (r : Tbl P w K mg base k es tb) :
      Tbl P w K mg base k (⟨PyData.keyHash w.params x, .str x tk, .ref t⟩ :: es) ((x, ps) :: tb)
theorem Tbl.keys {k : Nat} : ∀ {es tb}, Tbl P w K mg base k es tb → PySem.W.KeysLit w.params es
  | _, _, .nil => trivial
  | _, _, .cons _ _ r => ⟨⟨_, _, rfl, rfl⟩, Tbl.keys r⟩
theorem Tbl.find {k : Nat} {x : Str} : ∀ {es tb}, Tbl P w K mg base k es tb → ∃ v, RelV v (((es.find? fun e => Value.isStrOf x e.key).map (·.val)).getD .none) ∧
    ((tb.lookup x = none ∧ v = .non) ∨ ∃ ps t gs, tb.lookup x = some ps ∧ v = .ref t ∧ (∀ H : Hp, SqT K H t gs) ∧ Tls P w K mg base k gs ps)
  | _, _, .nil => ⟨.non, rfl, .inl ⟨rfl, rfl⟩⟩
  | _, _, @Tbl.cons _ _ _ _ _ _ y tk t gs ps es tb hs ht r => by
    rw [List.find?_cons, List.lookup_cons]
    have e : Value.isStrOf x (Value.str y tk) = (x == y) := by
      show (y == x) = (x == y)
      rw [Bool.eq_iff_iff, beq_iff_eq, beq_iff_eq]
      exact eq_comm
    dsimp only
    rw [e]
    cases hx : x == y with
    | true => exact ⟨.ref t, rfl, .inr ⟨ps, t, gs, rfl, rfl, hs, ht⟩⟩
    | false => exact Tbl.find r
end
end Kp
set_option Elab.async false
set_option linter.all false
set_option maxRecDepth 100000
set_option maxHeartbeats 4000000
namespace Kp
open PySem

/-! ### tuples by tellers, things by their first word -/
/-! ### the law's -/
def one (p : D → Bool) : List D → Bool
  | [a] => p a
  | _ => false
def two (p q : D → Bool) : List D → Bool
  | [a, b] => p a && q b
  | _ => false
end Kp
set_option Elab.async false
set_option linter.all false
set_option maxRecDepth 100000
set_option maxHeartbeats 4000000
namespace K1
open PySem L2 Kp
def top (i : Nat) : Stmt := PySem.Challenge.pw_keeplog_k42_standing.main.body.getD i (.Pass ⟨0, 0, 0, 0⟩)
abbrev s_unlike : Stmt := top 1
abbrev s_most : Stmt := top 2
abbrev s_holds_seats : Stmt := top 3
abbrev s_seats_of : Stmt := top 4
abbrev s_seats_place : Stmt := top 5
abbrev s_holders : Stmt := top 7
abbrev s_reached : Stmt := top 8
abbrev s_begun : Stmt := top 13
abbrev s_end_of : Stmt := top 14
abbrev s_entry_at : Stmt := top 15
abbrev s_term_at : Stmt := top 16
abbrev s_behind : Stmt := top 17
abbrev s_as_new : Stmt := top 18
abbrev s_agrees : Stmt := top 19
abbrev s_put : Stmt := top 21
abbrev s_fresh : Stmt := top 23
abbrev s_applied : Stmt := top 32
abbrev s_first_pack : Stmt := top 34
abbrev s_Keeper___init__ : Stmt := inClass (top 36) 0
abbrev s_Keeper_wake : Stmt := inClass (top 36) 1
abbrev s_Keeper_hear : Stmt := inClass (top 36) 2
abbrev s_Keeper_be_plain : Stmt := inClass (top 36) 3
abbrev s_Keeper_know_no_places : Stmt := inClass (top 36) 4
abbrev s_seats_now : Stmt := top 37
abbrev s_with_place : Stmt := top 39
abbrev s_enter : Stmt := top 40
abbrev s_tell_waiting : Stmt := top 42
abbrev s_agree_on_the_following : Stmt := top 43
abbrev s_place_held_by_most : Stmt := top 44
abbrev s_is_out : Stmt := top 45
abbrev s_step_back : Stmt := top 46
abbrev s_agree : Stmt := top 47
abbrev s_beat : Stmt := top 50
abbrev s_other_seats : Stmt := top 52
abbrev s_come_to_be_head : Stmt := top 53
abbrev s_has_most_voices : Stmt := top 54
abbrev s_stand : Stmt := top 55
abbrev s_may_give : Stmt := top 56
abbrev s_take_ask : Stmt := top 57
abbrev s_take_voice : Stmt := top 58
abbrev sCell : Stmt := top 60
abbrev sMixed : Stmt := top 61
abbrev s__law_drawn : Stmt := top 62
abbrev s__law_most : Stmt := top 63
abbrev s__law_led : Stmt := top 64
abbrev s__law_stood : Stmt := top 65
abbrev s__law_heard : Stmt := top 66
abbrev s__law_voiced : Stmt := top 67
abbrev s__law_asked : Stmt := top 68
abbrev s__law_woken : Stmt := top 69
abbrev s__law_alike : Stmt := top 70
abbrev s__law_kept : Stmt := top 71
abbrev s__law_stands : Stmt := top 72
abbrev sLaw : Stmt := top 73
end K1
set_option Elab.async false
set_option linter.all false
set_option maxRecDepth 100000
namespace Kp
open PySem L2
theorem tiny {n : Nat} (h : n ≤ 1000) : n ≤ sizeLine := by rw [sizeLine_eq]; omega
section
variable {X : Cx} {es l : List Expr} {te : TE} {t u : TA} {p p' pos : Pos} {j : Nat}
theorem qa_n {x : Str} (ha : PE X (.Name x p) te) (r : QA X es t) : QA X (.Name x p :: es) (tCons te t) := ⟨pa_n ha r.h⟩
theorem qa_k {f : Expr} {as : List Expr} {ks : List Keyword} (ha : PE X (.Call f as ks p) te) (r : QA X es t) : QA X (.Call f as ks p :: es) (tCons te t) := ⟨pa_k ha r.h⟩
theorem qa_s {a b : Expr} (ha : PE X (.Subscript a b p) te) (r : QA X es t) : QA X (.Subscript a b p :: es) (tCons te t) := ⟨pa_s ha r.h⟩
theorem qa_b {o : Operator} {a b : Expr} (ha : PE X (.BinOp a o b p) te) (r : QA X es t) : QA X (.BinOp a o b p :: es) (tCons te t) := ⟨pa_b ha r.h⟩
theorem qx_tup (a : QA X es t) : QE X (.Tuple es j p) (tTup t) := ⟨pe_tup a.h⟩
theorem qx_ix {a b : Expr} {ta tb : TE} {r : R2} (hx : IxR X r) (ha : QE X a ta) (hb : PE X b tb) (px : PlainIx b) : QE X (.Subscript a b pos) (tOp r ta tb) := ⟨pe_ix hx ha.h hb px⟩
end
end Kp
set_option Elab.async false
set_option linter.all false
set_option maxRecDepth 100000
set_option maxHeartbeats 4000000
namespace Kp
open PySem L2
/-! ### displays of written things, by «things of at most 16 parts» -/
theorem PA.weak {X : Cx} {es : List Expr} {t t' : TA} (h : PA X es t) (w : ∀ σ H Q, t' σ H Q → t σ H Q) : PA X es t' := fun pos pins s σ H Q I q => h pos pins s σ H Q I (w σ H Q q)
def tAnyA (n : Nat) : TA := fun _ H Q => ∀ vs H', ThL 16 H' vs → vs.length = n → Same H H' → Q vs H'
structure DA (X : Cx) (es : List Expr) (n : Nat) : Prop where
  h : PA X es (tAnyA n)
section
variable {X : Cx} {es l : List Expr} {n m : Nat} {p p' : Pos} {j : Nat}
/-- a display of tuples alone -/
def TupV (H : Hp) (v : V) : Prop := ∃ a xs, v = .ref a ∧ H a = some (.tup xs) ∧ xs.length ≤ 16 ∧ ThL 16 H xs
theorem TupV.mono {H H' : Hp} {v : V} (h : TupV H v) (s : Same H H') : TupV H' v := let ⟨a, xs, e, ha, l, t⟩ := h; ⟨a, xs, e, s _ _ ha, l, t.mono (Nat.le_refl _) s⟩
def tTupA (n : Nat) : TA := fun _ H Q => ∀ vs H', (∀ v ∈ vs, TupV H' v) → vs.length = n → Same H H' → Q vs H'
structure DT (X : Cx) (es : List Expr) (n : Nat) : Prop where
  h : PA X es (tTupA n)
end
end Kp
set_option Elab.async false
set_option linter.all false
set_option maxRecDepth 100000
namespace Kp
open PySem L2
section
variable {es l : List Expr} {te : TE} {t u : TA} {p p' pos : Pos} {j : Nat}
/- written with @ and holes for the rest: what is under them is built first, and met with the goal at the end -/
theorem pss_q {X : Cx} {st : Stmt} {rest : List Stmt} {t u : TS} (h1 : QS X st t) (h2 : PSs X rest u) : PSs X (st :: rest) (tSeq t u) := pss_cons h1.h h2
theorem pss_p {X : Cx} {st : Stmt} {rest : List Stmt} {t u : TS} (h1 : PS X st t) (h2 : PSs X rest u) : PSs X (st :: rest) (tSeq t u) := pss_cons h1 h2
theorem pss_o {X : Cx} {st : Stmt} {t : TS} (h1 : PS X st t) : PSs X [st] t := pss_one h1
end
end Kp
set_option Elab.async false
set_option linter.all false
set_option maxRecDepth 100000
set_option maxHeartbeats 4000000
namespace L2
open PySem PySem.Spec PyProof.Rows
/-! ### for k, x in enumerate(list) -/
theorem enum_apart (n : Nat) : n + 1 ≠ n := by omega
theorem enum_above (n x : Nat) (h : x = n + 1 ∨ x = n) : n ≤ x := by omega
theorem boot_enum : bootBuiltins "enumerate" = some (.type "enumerate") := by decide +kernel
/-! ### sorted(list of texts), list.count(text) -/
section
variable {X : Cx}
end
end L2
set_option Elab.async false
set_option linter.all false
set_option maxRecDepth 100000
set_option maxHeartbeats 4000000
namespace Kp
open PySem

/-! ### rows by the alphabet -/
/-! ### the law's -/
end Kp
set_option Elab.async false
set_option linter.all false
set_option maxRecDepth 100000
set_option maxHeartbeats 4000000
namespace Kp
open PySem L2
/-! ### a comprehension whose items are known by a property only -/
/-- tuples stay -/
def SameT (H H' : Hp) : Prop := ∀ b xs, H b = some (.tup xs) → H' b = some (.tup xs)
/-- a short text -/
def ShortS (_ : Hp) (v : V) : Prop := ∃ x : Str, v = .str x ∧ x.length ≤ 16
theorem ShortS.list {H : Hp} : ∀ {ys : List V}, (∀ v ∈ ys, ShortS H v) → ∃ ws : List Str, ys = ws.map V.str ∧ ∀ x ∈ ws, x.length ≤ 16
  | [], _ => ⟨[], rfl, fun x hx => (List.not_mem_nil hx).elim⟩
  | y :: ys, h => by
    obtain ⟨x, rfl, hx⟩ := h y List.mem_cons_self
    obtain ⟨ws, rfl, hw⟩ := ShortS.list (fun v hv => h v (List.mem_cons_of_mem _ hv))
    exact ⟨x :: ws, rfl, fun z hz => by
      rcases List.mem_cons.mp hz with rfl | hz
      · exact hx
      · exact hw z hz⟩
theorem one_slot {t : St} (h : t.length = 1) : ∃ t0, t = [t0] := by
  match t, h with
  | [t0], _ => exact ⟨t0, rfl⟩
end Kp
set_option Elab.async false
set_option linter.all false
set_option maxRecDepth 100000
set_option maxHeartbeats 4000000
namespace L2
open PySem PySem.Spec PyProof.Rows
/-! ### lists of pairs as tables -/
section
variable {κ : Type} [DecidableEq κ]
def valV (kvs : List (κ × V)) (k : κ) : Option V := (kvs.find? fun kv => decide (kv.1 = k)).map (·.2)
/-- in its place, or at the end -/
def putK (kvs : List (κ × V)) (k : κ) (v : V) : List (κ × V) :=
  if (kvs.any fun kv => decide (kv.1 = k)) = true then kvs.map (fun kv => if kv.1 = k then (kv.1, v) else kv) else kvs ++ [(k, v)]
def dropK (kvs : List (κ × V)) (k : κ) : List (κ × V) := kvs.filter fun kv => decide (kv.1 ≠ k)

theorem valV_pos {p : κ × V} {r : List (κ × V)} {k : κ} (e : p.1 = k) : valV (p :: r) k = some p.2 := by simp [valV, List.find?_cons, e]
theorem valV_neg {p : κ × V} {r : List (κ × V)} {k : κ} (e : ¬ p.1 = k) : valV (p :: r) k = valV r k := by simp [valV, List.find?_cons, e]
theorem valV_any (k : κ) : ∀ kvs : List (κ × V), (kvs.any fun kv => decide (kv.1 = k)) = (valV kvs k).isSome
  | [] => rfl
  | p :: r => by
    rw [List.any_cons]
    by_cases e : p.1 = k
    · simp only [valV_pos e, decide_eq_true e, Bool.true_or, Option.isSome_some]
    · rw [valV_neg e, decide_eq_false e, Bool.false_or]; exact valV_any k r
theorem RelO.isSome_eq {o : Option V} {u : Option Value} (r : RelO o u) : o.isSome = u.isSome := by
  cases o with
  | none => cases u with
    | none => rfl
    | some _ => exact (show False from r).elim
  | some _ => cases u with
    | none => exact (show False from r).elim
    | some _ => rfl
theorem RelO.getD {o : Option V} {u : Option Value} {d : V} {d' : Value} (r : RelO o u) (rd : RelV d d') : RelV (o.getD d) (u.getD d') := by
  cases o with
  | none => cases u with
    | none => exact rd
    | some _ => exact (show False from r).elim
  | some _ => cases u with
    | none => exact (show False from r).elim
    | some _ => exact r

/-- raw tables of the same keys -/
theorem KV.val {kvs : List (κ × V)} {vs : List (κ × Value)} (r : KV kvs vs) (k : κ) : RelO (valV kvs k) (valueAt vs k) := by
  unfold KV at r
  induction r with
  | nil => exact True.intro
  | @cons p q ps qs h t ih =>
    obtain ⟨h1, h2⟩ := h
    by_cases e : p.1 = k
    · have e' : q.1 = k := h1.symm.trans e
      have b : valueAt (q :: qs) k = some q.2 := by simp [valueAt, List.find?_cons, e']
      rw [valV_pos e, b]; exact h2
    · have e' : ¬ q.1 = k := fun z => e (h1.trans z)
      have b : valueAt (q :: qs) k = valueAt qs k := by simp [valueAt, List.find?_cons, e']
      rw [valV_neg e, b]; exact ih
theorem KV.any {kvs : List (κ × V)} {vs : List (κ × Value)} (r : KV kvs vs) (k : κ) : (kvs.any fun kv => decide (kv.1 = k)) = vs.any fun kv => decide (kv.1 = k) := by
  unfold KV at r
  induction r with
  | nil => rfl
  | cons h t ih => rw [List.any_cons, List.any_cons, ih, h.1]
theorem KV.repl {kvs : List (κ × V)} {vs : List (κ × Value)} (r : KV kvs vs) (k : κ) {y : V} {u : Value} (ry : RelV y u) :
    KV (kvs.map fun kv => if kv.1 = k then (kv.1, y) else kv) (vs.map fun kv => if kv.1 = k then (kv.1, u) else kv) := by
  unfold KV at r ⊢
  induction r with
  | nil => exact .nil
  | @cons p q ps qs h t ih =>
    rw [List.map_cons, List.map_cons]
    refine .cons ?_ ih
    obtain ⟨h1, h2⟩ := h
    by_cases e : p.1 = k
    · rw [if_pos e, if_pos (h1.symm.trans e)]; exact ⟨h1, ry⟩
    · rw [if_neg e, if_neg (fun z => e (h1.trans z))]; exact ⟨h1, h2⟩
theorem KV.put {kvs : List (κ × V)} {vs : List (κ × Value)} (r : KV kvs vs) (k : κ) {y : V} {u : Value} (ry : RelV y u) : KV (putK kvs k y) (stored vs k u) := by
  unfold putK stored
  rw [r.any k]
  by_cases e : (vs.any fun kv => decide (kv.1 = k)) = true
  · rw [if_pos e, if_pos e]; exact r.repl k ry
  · rw [if_neg e, if_neg e]; exact Paired.snoc r ⟨rfl, ry⟩
theorem KV.drop {kvs : List (κ × V)} {vs : List (κ × Value)} (r : KV kvs vs) (k : κ) : KV (dropK kvs k) (without vs k) := by
  unfold KV at r ⊢
  unfold dropK without
  induction r with
  | nil => exact .nil
  | @cons p q ps qs h t ih =>
    obtain ⟨h1, h2⟩ := h
    rw [List.filter_cons, List.filter_cons]
    by_cases e : p.1 = k
    · have a : ¬ decide (p.1 ≠ k) = true := by simp [e]
      have b : ¬ decide (q.1 ≠ k) = true := by simp [h1.symm.trans e]
      rw [if_neg a, if_neg b]; exact ih
    · have e' : ¬ q.1 = k := fun z => e (h1.trans z)
      have a : decide (p.1 ≠ k) = true := by simp [e]
      have b : decide (q.1 ≠ k) = true := by simp [e']
      rw [if_pos a, if_pos b]; exact .cons ⟨h1, h2⟩ ih
theorem KV.keys {kvs : List (κ × V)} {vs : List (κ × Value)} (r : KV kvs vs) : kvs.map (·.1) = vs.map (·.1) := by
  unfold KV at r
  induction r with
  | nil => rfl
  | cons h t ih => rw [List.map_cons, List.map_cons, ih, h.1]
theorem KV.length {kvs : List (κ × V)} {vs : List (κ × Value)} (r : KV kvs vs) : kvs.length = vs.length := Paired.length r
end


/-! ### a tracked dict, its keys ints and texts or tuples of these -/
/-- raw entries of a dict with tuple keys -/
abbrev KT (H : Hp) : List (List Key × V) → List (List Key × Addr × Value) → Prop := Paired fun p q => p.1 = q.1 ∧ H q.2.1 = some (.tup (p.1.map kV)) ∧ RelV p.2 q.2.2
theorem KT.val {H : Hp} {kvs : List (List Key × V)} {xs : List (List Key × Addr × Value)} (r : KT H kvs xs) (k : List Key) : RelO (valV kvs k) ((atKey xs k).map (·.2)) := by
  induction r with
  | nil => exact True.intro
  | @cons p q ps qs h t ih =>
    obtain ⟨h1, _, h2⟩ := h
    by_cases e : p.1 = k
    · have e' : q.1 = k := h1.symm.trans e
      have b : atKey (q :: qs) k = some q.2 := by simp [atKey, List.find?_cons, e']
      rw [valV_pos e, b]; exact h2
    · have e' : ¬ q.1 = k := fun z => e (h1.trans z)
      have b : atKey (q :: qs) k = atKey qs k := by simp [atKey, List.find?_cons, e']
      rw [valV_neg e, b]; exact ih
theorem KT.repl {H : Hp} {kvs : List (List Key × V)} {xs : List (List Key × Addr × Value)} (r : KT H kvs xs) (k : List Key) {y : V} {u : Value} (ry : RelV y u) :
    KT H (kvs.map fun kv => if kv.1 = k then (kv.1, y) else kv) (xs.map (putAt k u)) := by
  induction r with
  | nil => exact .nil
  | @cons p q ps qs h t ih =>
    rw [List.map_cons, List.map_cons]
    refine .cons ?_ ih
    obtain ⟨h1, h2, h3⟩ := h
    unfold putAt
    by_cases e : p.1 = k
    · rw [if_pos e, if_pos (h1.symm.trans e)]; exact ⟨h1, h2, ry⟩
    · rw [if_neg e, if_neg (fun z => e (h1.trans z))]; exact ⟨h1, h2, h3⟩
theorem KT.put {H : Hp} {kvs : List (List Key × V)} {xs : List (List Key × Addr × Value)} (r : KT H kvs xs) (k : List Key) {b : Addr} {y : V} {u : Value} (hb : H b = some (.tup (k.map kV))) (ry : RelV y u) :
    KT H (putK kvs k y) (storedH xs k b u) := by
  have e : (kvs.any fun kv => decide (kv.1 = k)) = (atKey xs k).isSome := by
    rw [valV_any, (r.val k).isSome_eq, Option.isSome_map]
  unfold putK storedH
  rw [e]
  by_cases q : (atKey xs k).isSome = true
  · rw [if_pos q, if_pos q]; exact r.repl k ry
  · rw [if_neg q, if_neg q]; exact Paired.snoc r ⟨rfl, hb, ry⟩
theorem KT.keeps {H H' : Hp} {kvs : List (List Key × V)} {xs : List (List Key × Addr × Value)} (r : KT H kvs xs) (ht : ∀ b ys, H b = some (.tup ys) → H' b = some (.tup ys)) : KT H' kvs xs :=
  Paired.mapP r fun _ _ z => ⟨z.1, ht _ _ z.2.1, z.2.2⟩

section
variable {P : Program} {w : World} {H : Hp} {h : Heap} {a : Addr}
end

/-- what the dict at a holds at the key y -/
def DGet (H : Hp) (a : Addr) (y : V) (r : Option V) : Prop :=
  (∃ kvs k, Rd H a (.dK kvs) ∧ y = kV k ∧ r = valV kvs k) ∨ ∃ kvs k b, Rd H a (.dT kvs) ∧ y = .ref b ∧ H b = some (.tup (k.map kV)) ∧ r = valV kvs k
/-- the heap behind a[y] = v -/
def DPut (H : Hp) (a : Addr) (y v : V) (H' : Hp) : Prop :=
  (∃ kvs k, H a = some (.dK kvs) ∧ y = kV k ∧ kvs.length < sizeLine ∧ H' = upd H a (.dK (putK kvs k v))) ∨
  ∃ kvs k b, H a = some (.dT kvs) ∧ y = .ref b ∧ H b = some (.tup (k.map kV)) ∧ kvs.length < sizeLine ∧ H' = upd H a (.dT (putK kvs k v))
theorem DGet.k {H : Hp} {a : Addr} {kvs : List (Key × V)} {k : Key} (e : H a = some (.dK kvs)) : DGet H a (kV k) (valV kvs k) := .inl ⟨kvs, k, .inl e, rfl, rfl⟩
theorem DGet.t {H : Hp} {a b : Addr} {kvs : List (List Key × V)} {k : List Key} (e : H a = some (.dT kvs)) (eb : H b = some (.tup (k.map kV))) : DGet H a (.ref b) (valV kvs k) := .inr ⟨kvs, k, b, .inl e, rfl, eb, rfl⟩
theorem DPut.k {H : Hp} {a : Addr} {kvs : List (Key × V)} {k : Key} {v : V} (e : H a = some (.dK kvs)) (hl : kvs.length < sizeLine) : DPut H a (kV k) v (upd H a (.dK (putK kvs k v))) := .inl ⟨kvs, k, e, rfl, hl, rfl⟩
theorem DPut.t {H : Hp} {a b : Addr} {kvs : List (List Key × V)} {k : List Key} {v : V} (e : H a = some (.dT kvs)) (eb : H b = some (.tup (k.map kV))) (hl : kvs.length < sizeLine) :
    DPut H a (.ref b) v (upd H a (.dT (putK kvs k v))) := .inr ⟨kvs, k, b, e, rfl, eb, hl, rfl⟩


section
variable {X : Cx} {pins : List (Addr × Obj)} {σ : St} {H : Hp} {s : Shared} {a : Addr} {y v : V} {u r : Value} {o : Option V} {A : Around} {E : Value → Shared → Prop}

theorem Inv.big (I : Inv X pins σ H s) : sysModules < s.heap.objs.size := by
  have h : mainGlobals < s.heap.objs.size := (I.mod.glob.keeps I.bk).lt
  exact Nat.lt_trans (by decide) h

end

section
variable {X : Cx} {pins : List (Addr × Obj)} {σ : St} {H : Hp} {s : Shared} {a : Addr} {kvs : List (Key × V)} {k : Key} {u : Value} {A : Around} {E : Value → Shared → Prop}
end


/-! ### readings and rules -/
section
variable {X : Cx} {o i e value : Expr} {pos pos' tpos : Pos} {td ty tv : TE}
end


/-! ### displays -/
section
variable {X : Cx} {pos : Pos}
end

end L2
set_option Elab.async false
set_option linter.all false
set_option maxRecDepth 100000
set_option maxHeartbeats 4000000
namespace Kp
open PySem L2 PySem.Spec PyProof.Rows
end Kp
set_option Elab.async false
set_option linter.all false
set_option maxRecDepth 100000
set_option maxHeartbeats 4000000
namespace Kp
open PySem L2
/-! ### things without lists: they stay while tuples stay -/
mutual
inductive ThN (B : Nat) (H : Hp) : V → Prop
  | non : ThN B H .non
  | bl (b : Bool) : ThN B H (.bl b)
  | int (i : Int) : ThN B H (.int i)
  | str (x : Str) (h : x.length ≤ B) : ThN B H (.str x)
  | tup {a : Addr} {vs : List V} (e : H a = some (.tup vs)) (l : vs.length ≤ B) (r : ThNL B H vs) : ThN B H (.ref a)
inductive ThNL (B : Nat) (H : Hp) : List V → Prop
  | nil : ThNL B H []
  | cons {v : V} {vs : List V} (h : ThN B H v) (t : ThNL B H vs) : ThNL B H (v :: vs)
end
mutual
theorem ThN.sameT {B B' : Nat} {H H' : Hp} (hB : B ≤ B') (s : SameT H H') : ∀ {v}, ThN B H v → ThN B' H' v
  | _, .non => .non
  | _, .bl b => .bl b
  | _, .int i => .int i
  | _, .str x h => .str x (Nat.le_trans h hB)
  | _, .tup e l r => .tup (s _ _ e) (Nat.le_trans l hB) (ThNL.sameT hB s r)
theorem ThNL.sameT {B B' : Nat} {H H' : Hp} (hB : B ≤ B') (s : SameT H H') : ∀ {vs}, ThNL B H vs → ThNL B' H' vs
  | _, .nil => .nil
  | _, .cons h t => .cons (ThN.sameT hB s h) (ThNL.sameT hB s t)
end
mutual
theorem ThN.th {B : Nat} {H : Hp} : ∀ {v}, ThN B H v → Th B H v
  | _, .non => Th.non
  | _, .bl b => Th.bl b
  | _, .int i => Th.int i
  | _, .str x h => Th.str x h
  | _, .tup e l r => Th.tup e l (ThNL.th r)
theorem ThNL.th {B : Nat} {H : Hp} : ∀ {vs}, ThNL B H vs → ThL B H vs
  | _, .nil => ThL.nil
  | _, .cons h t => ThL.cons (ThN.th h) (ThNL.th t)
end
theorem sameT_of {H H' : Hp} (s : Same H H') : SameT H H' := fun b xs e => s _ _ e
theorem ThN.mono {B B' : Nat} {H H' : Hp} {v : V} (h : ThN B H v) (hB : B ≤ B') (s : Same H H') : ThN B' H' v := ThN.sameT hB (sameT_of s) h
theorem ThNL.mono {B B' : Nat} {H H' : Hp} {v : List V} (h : ThNL B H v) (hB : B ≤ B') (s : Same H H') : ThNL B' H' v := ThNL.sameT hB (sameT_of s) h
theorem ThNL.ints {B : Nat} {H : Hp} : ∀ (ns : List Int), ThNL B H (ns.map V.int)
  | [] => .nil
  | n :: r => .cons (.int n) (ThNL.ints r)
theorem ThNL.of {B : Nat} {H : Hp} : ∀ {vs : List V}, (∀ v ∈ vs, ThN B H v) → ThNL B H vs
  | [], _ => .nil
  | v :: vs, h => .cons (h v List.mem_cons_self) (ThNL.of fun u hu => h u (List.mem_cons_of_mem _ hu))
end Kp
set_option Elab.async false
set_option linter.all false
set_option maxRecDepth 100000
set_option maxHeartbeats 4000000
namespace HT
open PySem PySem.Spec PyProof.Rows L2
section
variable {prog : Program} {w : World} {A : Around} {E : Value → Shared → Prop} {s : Shared}
theorem getItem_tuple_whole {t sl : Addr} {items : Array Value} {vl vu : Value} {lo hi : Option Int} {Q : Value → Shared → Prop} (ht : IsTup s.heap t items) (hs : s.heap.IsSliceOf sl vl vu .none) (pl : IsPart vl lo) (pu : IsPart vu hi)
    (hw : sIx items.size 0 lo = 0 ∧ sIx items.size items.size hi = items.size) (h : Q (.ref t) s) : wpAny (model prog w) A (getItem (.ref t) (.ref sl)) Q E s := by
  obtain ⟨os, hos, hcs, hds⟩ := id hs
  have hTs : s.TypeIs (.ref sl) "slice" := ⟨os, hos, hcs⟩
  unfold getItem
  try with_reducible refine wpAny_holding ?_
  first | refine wpAny_bind (wpAny_pure ?_) | skip
  refine wpAny_bind (wpAny_sequenceKey ht.typeIs (by decide) ?_)
  refine wpAny_bind (wpAny_callSpecial?_slot (name := Str.ofString "__getitem__") ht.typeIs PyProof.Rows.slot_tuple_getitem
    (wpAny_call_entry PyProof.Rows.slot_tuple_getitem ht.typeIs entry_tuple_getitem ?_ (args_tuple_getitem _ _)))
  show wpAny _ _ (Builtin.Tuple.tupleItemsOf (.ref t) >>= _) _ _ s
  refine wpAny_bind (tupleItemsOf_ ht ?_)
  refine wpAny_bind (wpAny_typeOf hTs ?_)
  rw [if_pos (by decide)]
  refine wpAny_bind (sliceApplied_gen hs pl pu ?_)
  have hyes : (((sIx items.size 0 lo : Nat) : Int) == 0 && (1 : Int) == 1 && (sIx items.size items.size hi - sIx items.size 0 lo) == items.size) = true := by
    rw [hw.1, hw.2]; simp
  show wpAny _ _ (if (((sIx items.size 0 lo : Nat) : Int) == 0 && (1 : Int) == 1 && (sIx items.size items.size hi - sIx items.size 0 lo) == items.size) = true then _ else _) _ _ s
  rw [if_pos hyes]
  refine wpAny_bind (m := Builtin.Tuple.tupleIsExact _) (wpAny_bind (wpAny_typeOf ht.typeIs (wpAny_pure ?_)))
  rw [if_pos (by decide)]
  refine wpAny_bind (wpAny_rule ?_)
  first
    | exact wpAny_bind (wpAny_pure (wpAny_pure ⟨_, rfl, wpAny_pure h⟩))
    | exact wpAny_pure ⟨_, rfl, wpAny_pure h⟩
    | exact wpAny_bind (wpAny_pure ⟨_, rfl, wpAny_pure h⟩)
end
end HT
namespace L2
open PySem PySem.Spec PyProof.Rows L2
theorem cutV_whole {xs : List V} {lo hi : Option Int} (h1 : HT.sIx xs.length 0 lo = 0) (h2 : HT.sIx xs.length xs.length hi = xs.length) : cutV xs lo hi = xs := by
  unfold cutV; rw [h1, h2]; simp
end L2
set_option Elab.async false
set_option linter.all false
set_option maxRecDepth 100000
set_option maxHeartbeats 4000000
namespace Kp
open PySem L2 PySem.Spec PyProof.Rows
/-! ### the same thing twice: == -/
theorem all_true (n : Nat) : ((List.range n).all fun _ => true) = true := by simp
theorem Vals.at {xs : List V} {us : List Value} (r : Vals xs us) {j : Nat} (h : j < us.toArray.size) : ∃ x, xs[j]? = some x ∧ RelV x us.toArray[j] := by
  have h' : j < us.length := by simpa using h
  have hx : j < xs.length := by rw [r.length]; exact h'
  obtain ⟨u, e, rv⟩ := r.get (i := j) (x := xs[j]) (by simp [hx])
  have e2 : us.toArray[j] = u := by
    have := (List.getElem?_eq_some_iff.mp e).2
    simpa using this
  exact ⟨xs[j], by simp [hx], e2 ▸ rv⟩
end Kp
set_option Elab.async false
set_option linter.all false
set_option maxRecDepth 100000
set_option maxHeartbeats 4000000
namespace K1
open PySem L2 Kp
structure Txt (mg : Str → Option Value) : Prop where
  isi : mg "isinstance" = none
  int : mg "int" = none
  bool : mg "bool" = none
  str : mg "str" = none
  tuple : mg "tuple" = none
  list : mg "list" = none
  all : mg "all" = none
  zip : mg "zip" = none
  len : mg "len" = none
  range : mg "range" = none
  max : mg "max" = none
  min : mg "min" = none
  sorted : mg "sorted" = none
  any : mg "any" = none
  sum : mg "sum" = none
section
variable {P : Program} {w : World} {K : PySem.W.Frag} {mg : Str → Option Value} {base : Heap}
theorem SqT.same {H H' : Hp} {a : Addr} {xs : List V} (h : SqT K H a xs) (s : Same H H') : SqT K H' a xs := by
  rcases h with h | h
  · exact .inl (h.elim (fun e => .inl (s _ _ e)) fun ⟨o, e⟩ => .inr ⟨o, s _ _ e⟩)
  · exact .inr h
theorem SqL.same {H H' : Hp} {a : Addr} {xs : List V} (h : SqL K H a xs) (s : Same H H') : SqL K H' a xs := by
  rcases h with h | h
  · exact .inl (h.elim (fun e => .inl (s _ _ e)) fun ⟨o, e⟩ => .inr ⟨o, s _ _ e⟩)
  · exact .inr h
theorem emod_in (x : Int) {m : Int} (h : 0 < m) : 0 ≤ x % m ∧ x % m < m := ⟨Int.emod_nonneg _ (Int.ne_of_gt h), Int.emod_lt_of_pos _ h⟩
end
end K1
set_option Elab.async false
set_option linter.all false
set_option maxRecDepth 100000
set_option maxHeartbeats 4000000
namespace L2
open PySem PySem.Spec PyProof.Rows
/-! ### rows of ints -/
def isInt (z : Int) : Value → Bool
  | .int i _ => i == z
  | _ => false
end L2
set_option Elab.async false
set_option linter.all false
set_option maxRecDepth 100000
set_option maxHeartbeats 4000000
namespace L2
open PySem PySem.Spec PyProof.Rows
/-! ### a tuple whose methods may be called: it has no dict of its own -/
def TupF (H : Hp) (a : Addr) (ys : List V) : Prop := ∃ o : Obj, H a = some (.frz o (.tup ys)) ∧ o.cls = .type "tuple" ∧ o.dict = none
theorem TupF.sq {K : PySem.W.Frag} {H : Hp} {a : Addr} {ys : List V} (h : TupF H a ys) : SqT K H a ys := by
  obtain ⟨o, e, _⟩ := h
  exact .inl (.inr ⟨o, e⟩)
section
variable {X : Cx}
variable {o e : Expr} {es : List Expr} {to : TE} {t : TA} {name : Str} {apos cpos : Pos} {id : String} {r : V → List V → Hp → VK → Prop}
end
end L2
set_option Elab.async false
set_option linter.all false
set_option maxRecDepth 100000
set_option maxHeartbeats 4000000
namespace L2
open PySem PySem.Spec PyProof.Rows
/-! ### rows of ints: remove, sorted -/
section
variable {X : Cx}
theorem ints_are : ∀ {xs : List Int} {us : List Value}, Vals (xs.map V.int) us → IntsAre us xs
  | [], _, h => by cases h; exact .nil
  | x :: xs, _, h => by
    cases h with
    | cons r t => obtain ⟨tk, rfl⟩ := r; exact .cons _ _ (ints_are t)
theorem ints_back : ∀ {xs : List Int} {us : List Value}, IntsAre us xs → Vals (xs.map V.int) us
  | [], _, h => by cases h; exact .nil
  | x :: xs, _, h => by
    cases h with
    | cons _ _ t => exact .cons ⟨_, rfl⟩ (ints_back t)
theorem call_sortedI : CallR X (.builtin "sorted") (fun xs H Q => ∃ (p : Addr) (ys : List Int), xs = [.ref p] ∧ SqL X.K H p (ys.map V.int) ∧ ys.length < 64 ∧ ∀ l (ys' : List Int), H l = none → ys'.Perm ys → ys'.Pairwise (· ≤ ·) → Q (.ref l) (upd H l (.lst (ys'.map V.int)))) := by
  intro pins s σ H xs us Q I r h
  obtain ⟨p, ys, rfl, hq, h64, q⟩ := h
  obtain ⟨u, rfl, rx⟩ := vals1 r
  cases rx
  obtain ⟨its, rv, pl, hz⟩ := I.list hq
  have hlen : its.length = ys.length := by rw [← rv.length, List.length_map]
  refine sorted_ints pl.isList (ints_are rv) (by omega) fun out ys' h1 h2 h3 => ?_
  obtain ⟨e, he⟩ := sortedAll_at s.heap its out
  have hl : ys'.length = ys.length := h2.length_eq
  have fr : H (s.heap.objs.size + 1) = none := I.hok.fresh (Nat.le_add_right s.heap.objs.size 1)
  refine ⟨.ref _, _, I.laid (t' := s.toks) (o := .lst (ys'.map V.int)) (fun b o => sortedAll_old) (Nat.le_add_right s.heap.objs.size 1) ⟨?_, out.toList, e, ints_back h1, by simpa using he⟩, rfl, q _ ys' fr h2 h3⟩
  rw [List.length_map, sizeLine_eq]; omega
end
end L2
namespace K1
open PySem L2 Kp
theorem PS.weakU {X : Cx} {st : Stmt} {t t' : TS} (h : PS X st t) (w : ∀ D σ H, t' D σ H → t D σ H) : PS X st t' := fun pins s σ H D I q => h pins s σ H D I (w D σ H q)
theorem op_notInK {X : Cx} {K : PySem.W.Frag} (hK : X.K = K) : OpR X (compareOp .NotIn) (rIn K true) := by subst hK; exact op_notIn_seq
theorem flat_ints (l : List Int) : (l.map V.int).all flatV = true := by
  rw [List.all_eq_true]
  intro x hx
  obtain ⟨c, _, rfl⟩ := List.mem_map.mp hx
  rfl
theorem in_ints (x : Int) : ∀ l : List Int, inV (V.int x) (l.map V.int) = decide (x ∈ l)
  | [] => rfl
  | y :: l => by
    show (decide ((y : Int) = x) || inV (V.int x) (l.map V.int)) = _
    rw [in_ints x l, Bool.eq_iff_iff]
    simp only [Bool.or_eq_true, decide_eq_true_eq, List.mem_cons]
    exact ⟨fun h => h.imp Eq.symm id, fun h => h.imp Eq.symm id⟩
theorem op_inK {X : Cx} {K : PySem.W.Frag} (hK : X.K = K) : OpR X (compareOp .In) (rIn K false) := by subst hK; exact op_in_seq
theorem tinyU {n : Nat} (h : n ≤ 5000) : n ≤ sizeLine := by rw [sizeLine_eq]; omega
theorem boot_max : bootBuiltins "max" = some (.builtin "max") := by decide +kernel
end K1
set_option Elab.async false
set_option linter.all false
set_option maxRecDepth 100000
set_option maxHeartbeats 4000000
namespace L2
open PySem PySem.Spec PyProof.Rows
/-! ### two tuples of flat things compared -/
section
variable {X : Cx}
theorem eqVs_min : ∀ {xs ys : List V}, ((List.range (min xs.length ys.length)).all (fun j => eqV (xs.getD j .non) (ys.getD j .non)) && xs.length == ys.length) = eqVs xs ys := fun {xs ys} => by
  by_cases h : xs.length = ys.length
  · rw [h, Nat.min_self, beq_self_eq_true, Bool.and_true, ← h, eqVs_range h]
  · rw [eqVs_len h]
    have : (xs.length == ys.length) = false := by simpa using h
    rw [this, Bool.and_false]
theorem flat_at {pins : List (Addr × Obj)} {σ : St} {H : Hp} {s : Shared} {xs ys : List V} {its jts : List Value} (A : Around) (r1 : Vals xs its) (r2 : Vals ys jts) (f1 : xs.all flatV = true) (f2 : ys.all flatV = true) (j : Nat) (g1 : j < its.toArray.size) (g2 : j < jts.toArray.size) :
    SeqAt.EqAt A s its.toArray[j] jts.toArray[j] (eqV (xs.getD j .non) (ys.getD j .non)) := by
  have j1 : j < xs.length := by rw [r1.length]; simpa using g1
  have j2 : j < ys.length := by rw [r2.length]; simpa using g2
  obtain ⟨u1, e1, ru1⟩ := r1.get (i := j) (x := xs[j]) (by simp [j1])
  obtain ⟨u2, e2, ru2⟩ := r2.get (i := j) (x := ys[j]) (by simp [j2])
  have z1 : its.toArray[j] = u1 := by
    have := (List.getElem?_eq_some_iff.mp e1).2
    simpa using this
  have z2 : jts.toArray[j] = u2 := by
    have := (List.getElem?_eq_some_iff.mp e2).2
    simpa using this
  rw [z1, z2]
  have w1 : xs.getD j .non = xs[j] := by simp [j1]
  have w2 : ys.getD j .non = ys[j] := by simp [j2]
  rw [w1, w2]
  exact eqAt_V ru1 ru2 (List.all_eq_true.mp f1 _ (List.getElem_mem j1)) (List.all_eq_true.mp f2 _ (List.getElem_mem j2))
theorem op_eqU (hu : X.A.units < cLine) : OpR X (compareOp .Eq) (fun x y H Q => ∃ p q xs ys, x = .ref p ∧ y = .ref q ∧ SqT X.K H p xs ∧ SqT X.K H q ys ∧ xs.all flatV = true ∧ ys.all flatV = true ∧ Q (.bl (eqVs xs ys)) H) := by
  intro pins s σ H x y v u Q I rx ry h
  obtain ⟨p, q', xs, ys, rfl, rfl, h1, h2, f1, f2, q⟩ := h
  cases rx
  cases ry
  obtain ⟨its, r1, p1, _⟩ := I.tuple h1
  obtain ⟨jts, r2, p2, _⟩ := I.tuple h2
  refine SeqAt.eq_tupleAt (e := fun j => eqV (xs.getD j .non) (ys.getD j .non)) (show s.heap.IsTuple p its.toArray from p1) (show s.heap.IsTuple q' jts.toArray from p2) hu (flat_at (pins := pins) (σ := σ) (H := H) _ r1 r2 f1 f2) ⟨.bl (eqVs xs ys), H, I, ?_, q⟩
  rw [List.size_toArray, List.size_toArray, ← r1.length, ← r2.length, eqVs_min]; rfl
theorem op_neU (hu : X.A.units < cLine) : OpR X (compareOp .NotEq) (fun x y H Q => ∃ p q xs ys, x = .ref p ∧ y = .ref q ∧ SqT X.K H p xs ∧ SqT X.K H q ys ∧ xs.all flatV = true ∧ ys.all flatV = true ∧ Q (.bl (!eqVs xs ys)) H) := by
  intro pins s σ H x y v u Q I rx ry h
  obtain ⟨p, q', xs, ys, rfl, rfl, h1, h2, f1, f2, q⟩ := h
  cases rx
  cases ry
  obtain ⟨its, r1, p1, _⟩ := I.tuple h1
  obtain ⟨jts, r2, p2, _⟩ := I.tuple h2
  refine SeqAt.RcNeAt.tuples (e := fun j => eqV (xs.getD j .non) (ys.getD j .non)) (show s.heap.IsTuple p its.toArray from p1) (show s.heap.IsTuple q' jts.toArray from p2) hu (flat_at (pins := pins) (σ := σ) (H := H) _ r1 r2 f1 f2) X.prog X.w X.xe _ ⟨.bl (!eqVs xs ys), H, I, ?_, q⟩
  rw [List.size_toArray, List.size_toArray, ← r1.length, ← r2.length, eqVs_min]; rfl
end
theorem eqVs_ints : ∀ (a b : List Int), eqVs (a.map V.int) (b.map V.int) = decide (a = b)
  | [], [] => rfl
  | [], _ :: _ => rfl
  | _ :: _, [] => rfl
  | x :: xs, y :: ys => by
    show (eqV (V.int x) (V.int y) && eqVs (xs.map V.int) (ys.map V.int)) = _
    rw [eqVs_ints xs ys, Bool.eq_iff_iff]
    simp only [eqV, Bool.and_eq_true, beq_iff_eq, decide_eq_true_eq, List.cons.injEq]
end L2
namespace K1
open PySem L2 Kp
theorem filter_at (ms : List Int) (p : Int → Bool) : (((List.range (ms.map V.int).length).filter fun i => p (ms.getD i 0)).map fun i => V.int (ms.getD i 0)) = (ms.filter p).map V.int := by
  have e0 : ms = (List.range ms.length).map fun i => ms.getD i 0 := by
    apply List.ext_getElem?
    intro i
    by_cases hi : i < ms.length
    · simp [hi]
    · rw [List.getElem?_eq_none (by omega), List.getElem?_eq_none (by simp; omega)]
  rw [List.length_map]
  conv => rhs; rw [e0]
  rw [List.filter_map, List.map_map]
  rfl
theorem SqT.same' {K : PySem.W.Frag} {H H' : Hp} {a : Addr} {xs : List V} (h : SqT K H a xs) (s : Same H H') : SqT K H' a xs := by
  rcases h with h | h
  · exact .inl (h.elim (fun e => .inl (s _ _ e)) fun ⟨o, e⟩ => .inr ⟨o, s _ _ e⟩)
  · exact .inr h
theorem SqL.same' {K : PySem.W.Frag} {H H' : Hp} {a : Addr} {xs : List V} (h : SqL K H a xs) (s : Same H H') : SqL K H' a xs := by
  rcases h with h | h
  · exact .inl (h.elim (fun e => .inl (s _ _ e)) fun ⟨o, e⟩ => .inr ⟨o, s _ _ e⟩)
  · exact .inr h
/-- [x for x in a tuple of ints if p x] -/
theorem comp_fltT {K : PySem.W.Frag} {a : Addr} {ms : List Int} {H1 : Hp} {frs : St} {g : TG} {tt : TT} {te : TE} {Q : VK} (hS : SqT K H1 a (ms.map V.int)) (hn : ms.length ≤ 1000) (p : Int → Bool)
    (turn : ∀ (i : Nat) (hi : i < ms.length) t H2 (R : St → Hp → Option V → Prop), Same H1 H2 → t.length = 1 → (∀ t' H', t'.length = 1 → Same H2 H' → R (t' ++ frs) H' (if p ms[i] = true then some (.int ms[i]) else none)) →
      g (.int ms[i]) (t ++ frs) H2 fun σ3 H3 => tt σ3 H3 fun b H4 => if b = true then te σ3 H4 fun v H5 => R σ3 H5 (some v) else R σ3 H4 none)
    (hq : ∀ D H', Same H1 H' → H1 D = none → H' D = some (.lst ((ms.filter p).map V.int)) → Q (.ref D) H') : CompGo (List.replicate 1 none ++ frs) g tt te Q (Itt K a) H1 := by
  refine comp_pure (J := Itt K a) (k := 1) (n := (ms.map V.int).length) (fun i => p (ms.getD i 0)) (fun i => V.int (ms.getD i 0)) (by rw [List.length_map, sizeLine_eq]; omega) (fun i H3 hi s4 => ⟨_, .int (ms.getD i 0), SqT.same' hS s4, ?_⟩) (fun H3 s4 => ⟨_, SqT.same' hS s4, Nat.le_refl _⟩) ?_ ?_
  · rw [List.length_map] at hi
    simp [hi]
  · intro i H3 t v H4 R hi s4 ht y hR
    obtain ⟨rfl, hy⟩ := y
    have hi' : i < ms.length := by simpa using hi
    have hv := hy _ (SqT.same' hS s4)
    rw [List.getElem?_map, List.getElem?_eq_getElem hi'] at hv
    cases hv
    have eg : ms.getD i 0 = ms[i] := by simp [hi']
    rw [eg] at hR
    exact turn i hi' t H4 R s4 ht hR
  · intro D1 H3 s4 hD hd
    rw [filter_at] at hd
    exact hq D1 H3 s4 hD hd
end K1
set_option Elab.async false
set_option linter.all false
set_option maxRecDepth 100000
set_option maxHeartbeats 4000000
namespace Kp
open PySem L2 PySem.Spec PyProof.Rows
/-! ### a sort of fewer than 64 things whose keys are all unlike, by any kind of comparing -/
abbrev Ord := PyProof.Rows.KeyKind
section
variable {prog : Program} {w : World} {A : Around} {E : Value → Shared → Prop} {s : Shared} {a0 : Array Keyed} {κ : Ord} {kd : SortKind} {st : SortSt}
structure TB (κ : Ord) (kd : SortKind) (a0 : Array Keyed) (st : SortSt) : Prop where
  pm : (arrOf st).Perm a0
  kn : kindOf st = kd
  fl : failedOf st = none
  pe : pendingOf st = #[]
  un : ∀ i j, i < a0.size → j < a0.size → KK κ (arrOf st) i = KK κ (arrOf st) j → i = j
def Up (κ : Ord) (xs : Array Keyed) (k : Nat) : Prop := ∀ i j, i < j → j < k → κ.blt (KK κ xs i) (KK κ xs j) = true
def Dn (κ : Ord) (xs : Array Keyed) (k : Nat) : Prop := ∀ i j, i < j → j < k → κ.blt (KK κ xs j) (KK κ xs i) = true
theorem TB.sz (B : TB κ kd a0 st) : (arrOf st).size = a0.size := B.pm.size_eq
theorem TB.lt (B : TB κ kd a0 st) {i j : Nat} (hi : i < a0.size) (hj : j < a0.size) (hne : i ≠ j) (h : κ.blt (KK κ (arrOf st) i) (KK κ (arrOf st) j) = false) : κ.blt (KK κ (arrOf st) j) (KK κ (arrOf st) i) = true := by
  cases e : κ.blt (KK κ (arrOf st) j) (KK κ (arrOf st) i) with
  | true => rfl
  | false => exact absurd (B.un i j hi hj (κ.total _ _ h e)) hne
theorem Up.more (B : TB κ kd a0 st) {x : Nat} (h1 : 1 ≤ x) (hx : x < a0.size) (u : Up κ (arrOf st) x) (h : κ.blt (KK κ (arrOf st) x) (KK κ (arrOf st) (x - 1)) = false) : Up κ (arrOf st) (x + 1) := by
  intro i j hij hj
  by_cases hjx : j < x
  · exact u i j hij hjx
  · obtain rfl : j = x := by omega
    have t := B.lt hx (by omega) (by omega) h
    by_cases hi : i = j - 1
    · subst hi; exact t
    · exact κ.trans _ _ _ (u i (j - 1) (by omega) (by omega)) t
theorem Dn.more {x : Nat} {xs : Array Keyed} (h1 : 1 ≤ x) (u : Dn κ xs x) (h : κ.blt (KK κ xs x) (KK κ xs (x - 1)) = true) : Dn κ xs (x + 1) := by
  intro i j hij hj
  by_cases hjx : j < x
  · exact u i j hij hjx
  · obtain rfl : j = x := by omega
    by_cases hi : i = j - 1
    · subst hi; exact h
    · exact κ.trans _ _ _ h (u i (j - 1) (by omega) (by omega))
def TD (κ : Ord) (a0 : Array Keyed) (st : SortSt) : Prop := (arrOf st).Perm a0 ∧ failedOf st = none ∧ pendingOf st = #[(0, a0.size, 0)] ∧ Up κ (arrOf st) a0.size
theorem TB.td (B : TB κ kd a0 st) (u : Up κ (arrOf st) a0.size) : TD κ a0 (setPending st ((pendingOf st).push (0, a0.size, 0))) :=
  ⟨B.pm, B.fl, by show (pendingOf st).push _ = _; rw [B.pe]; rfl, u⟩
end
end Kp
set_option Elab.async false
set_option linter.all false
set_option maxRecDepth 100000
set_option maxHeartbeats 4000000
namespace Kp
open PySem L2 PySem.Spec PyProof.Rows
/-! ### sorted(list of tuples that begin with unlike texts) -/
def TupS (h : Heap) (v : Value) (k : Str) : Prop := ∃ (p : Addr) (t : Tok) (xs : List Value), v = .ref p ∧ h.IsTuple p (Value.str k t :: xs).toArray
theorem TupS.kept {h h' : Heap} {v : Value} {k : Str} (x : TupS h v k) (o : ∀ b u, h.get? b = some u → h'.get? b = some u) : TupS h' v k := by
  obtain ⟨p, t, xs, rfl, u, hu, e⟩ := x
  exact ⟨p, t, xs, rfl, u, o _ _ hu, e⟩
section
variable {prog : Program} {w : World} {A : Around} {E : Value → Shared → Prop} {s : Shared}
end
end Kp
set_option Elab.async false
set_option linter.all false
set_option maxRecDepth 100000
set_option maxHeartbeats 4000000
namespace Kp
open PySem L2 PySem.Spec PyProof.Rows
/-- the key of a tuple: its first text, in a heap -/
def headOf (h : Heap) : Value → Option (List Nat)
  | .ref p => match h.get? p with
    | some ⟨_, _, .seq xs _, _⟩ => match (xs[0]? : Option Value) with
      | some (.str k _) => some k.cps.toList
      | _ => none
    | _ => none
  | _ => none
theorem TupS.key {h : Heap} {v : Value} {k : Str} (x : TupS h v k) : headOf h v = some k.cps.toList := by
  obtain ⟨p, t, xs, rfl, ⟨cls, dd, data, sl⟩, ho, hc, n, hd⟩ := x
  simp only at hd
  subst hd
  unfold headOf
  simp only [ho]
  rfl
section
variable {prog : Program} {w : World} {A : Around} {E : Value → Shared → Prop} {s : Shared}
end
end Kp
set_option Elab.async false
set_option linter.all false
set_option maxRecDepth 100000
set_option maxHeartbeats 4000000
namespace Kp
open PySem L2 PySem.Spec PyProof.Rows
/-- a text before another by the alphabet -/
def before (a b : Str) : Prop := a.cps.toList < b.cps.toList
section
variable {X : Cx}
end
end Kp
set_option Elab.async false
set_option linter.all false
set_option maxRecDepth 100000
set_option maxHeartbeats 4000000
namespace Kp
open PySem L2 PySem.Spec PyProof.Rows
/-! ### sorted(dict of texts), sorted(list of texts): rising -/
section
variable {X : Cx}
end
end Kp
set_option Elab.async false
set_option linter.all false
set_option maxRecDepth 100000
set_option maxHeartbeats 4000000
namespace L2
open PySem PySem.Spec PyProof.Rows
/-! ### t + u of two tuples, however they are known -/
/-- a slice of a tuple that is tracked -/
def rSlV : V → Option Int → Option Int → Hp → VK → Prop := fun x lo hi H Q => ∃ a xs, x = .ref a ∧ H a = some (.tup xs) ∧ ∀ p H', H' p = some (.tup (cutV xs lo hi)) → Same H H' → Q (.ref p) H'
theorem sl_tupV {X : Cx} : SlR X rSlV := by
  intro pins s σ H x v vl vu lo hi sl Q I rx hs pl pu h
  obtain ⟨a, xs, rfl, hx, q⟩ := h
  by_cases hw : HT.sIx xs.length 0 lo = 0 ∧ HT.sIx xs.length xs.length hi = xs.length
  · cases rx
    obtain ⟨its, r, ht, hz⟩ := I.tuple (SqT.of hx)
    have hlen : its.toArray.size = xs.length := by rw [List.size_toArray]; exact r.length.symm
    refine ⟨"tuple", _, PyProof.Rows.slot_tuple_getitem.lookup, ht.typeIs, ?_⟩
    refine HT.getItem_tuple_whole ht hs pl pu (by rw [hlen]; exact hw) ⟨.ref a, H, I, rfl, q a H (by rw [cutV_whole hw.1 hw.2]; exact hx) (Same.refl _)⟩
  · exact sl_tup pins s σ H _ _ vl vu lo hi sl Q I rx hs pl pu ⟨a, xs, rfl, SqT.of hx, hw, fun p hp => q p _ upd_same (Kp.same_upd hp)⟩
end L2
namespace K1
open PySem L2 Kp
theorem drop_min {α : Type} (xs : List α) (k : Nat) : xs.drop (min k xs.length) = xs.drop k := by
  by_cases h : k ≤ xs.length
  · rw [Nat.min_eq_left h]
  · rw [Nat.min_eq_right (by omega), List.drop_length, List.drop_eq_nil_of_le (by omega)]
theorem take_min {α : Type} (xs : List α) (k : Nat) : xs.take (min k xs.length) = xs.take k := by
  by_cases h : k ≤ xs.length
  · rw [Nat.min_eq_left h]
  · rw [Nat.min_eq_right (by omega), List.take_length, List.take_of_length_le (by omega)]
theorem cut_toN (xs : List V) (k : Nat) : cutV xs none (some (k : Int)) = xs.take k := by
  unfold cutV; rw [HT.sIx_nat, HT.sIx_none, List.drop_zero, Nat.sub_zero, take_min]
theorem cut_fromN (xs : List V) (k : Nat) : cutV xs (some (k : Int)) none = xs.drop k := by
  unfold cutV; rw [HT.sIx_nat, HT.sIx_none, drop_min]
  exact List.take_of_length_le (by rw [List.length_drop]; omega)
theorem cut_bothN (xs : List V) (i j : Nat) : cutV xs (some (i : Int)) (some (j : Int)) = (xs.drop i).take (j - i) := by
  unfold cutV; rw [HT.sIx_nat, HT.sIx_nat, drop_min]
  by_cases h : j ≤ xs.length
  · rw [Nat.min_eq_left h]
    by_cases h2 : i ≤ xs.length
    · rw [Nat.min_eq_left h2]
    · rw [Nat.min_eq_right (by omega), List.drop_eq_nil_of_le (by omega)]; simp
  · rw [Nat.min_eq_right (by omega)]
    by_cases h2 : i ≤ xs.length
    · rw [Nat.min_eq_left h2, List.take_of_length_le (by rw [List.length_drop]; omega), List.take_of_length_le (by rw [List.length_drop]; omega)]
    · rw [Nat.min_eq_right (by omega), List.drop_eq_nil_of_le (by omega)]; simp
/-! ### rows: a base, a last term, entries with their terms -/
inductive Ents (H : Hp) : List V → List Int → Prop
  | nil : Ents H [] []
  | cons {p : Addr} {x : V} {t : Int} {vs : List V} {ts : List Int} : H p = some (.tup [.int t, x]) → ThN 16 H x → Ents H vs ts → Ents H (.ref p :: vs) (t :: ts)
theorem Ents.same {H H' : Hp} (s : Same H H') : ∀ {vs ts}, Ents H vs ts → Ents H' vs ts
  | _, _, .nil => .nil
  | _, _, .cons e t r => .cons (s _ _ e) (t.mono (Nat.le_refl _) s) (Ents.same s r)
theorem Ents.length {H : Hp} : ∀ {vs ts}, Ents H vs ts → vs.length = ts.length
  | _, _, .nil => rfl
  | _, _, .cons _ _ r => by rw [List.length_cons, List.length_cons, Ents.length r]
theorem Ents.append {H : Hp} : ∀ {vs ts us rs}, Ents H vs ts → Ents H us rs → Ents H (vs ++ us) (ts ++ rs)
  | _, _, _, _, .nil, r => r
  | _, _, _, _, .cons e t r, q => .cons e t (Ents.append r q)
theorem Ents.get {H : Hp} : ∀ {vs : List V} {ts : List Int} {i : Nat} (h : i < ts.length), Ents H vs ts → ∃ p x, vs[i]? = some (.ref p) ∧ H p = some (.tup [.int ts[i], x]) ∧ ThN 16 H x
  | _, _, _, h, .nil => absurd h (Nat.not_lt_zero _)
  | _, _, 0, _, .cons e t _ => ⟨_, _, rfl, e, t⟩
  | _, _, i + 1, h, .cons _ _ r => Ents.get (i := i) (by simpa using h) r
theorem Ents.take {H : Hp} : ∀ {vs : List V} {ts : List Int} (n : Nat), Ents H vs ts → Ents H (vs.take n) (ts.take n)
  | _, _, 0, _ => by rw [List.take_zero, List.take_zero]; exact .nil
  | _, _, _ + 1, .nil => .nil
  | _, _, n + 1, .cons e t r => .cons e t (Ents.take n r)
theorem Ents.drop {H : Hp} : ∀ {vs : List V} {ts : List Int} (n : Nat), Ents H vs ts → Ents H (vs.drop n) (ts.drop n)
  | _, _, 0, r => r
  | _, _, _ + 1, .nil => .nil
  | _, _, n + 1, .cons _ _ r => Ents.drop n r
structure RowX (K : PySem.W.Frag) (H : Hp) (v : V) (b l : Int) (es : List V) (ts : List Int) : Prop where
  ex : ∃ rb c, v = .ref rb ∧ H rb = some (.tup [.int b, .int l, .ref c]) ∧ H c = some (.tup es)
  ents : Ents H es ts
  few : ts.length ≤ 900
theorem RowX.same {K : PySem.W.Frag} {H H' : Hp} {v : V} {b l : Int} {es : List V} {ts : List Int} (r : RowX K H v b l es ts) (s : Same H H') : RowX K H' v b l es ts :=
  let ⟨rb, c, e, h1, h2⟩ := r.ex
  ⟨⟨rb, c, e, s _ _ h1, s _ _ h2⟩, r.ents.same s, r.few⟩
def RowV (K : PySem.W.Frag) (H : Hp) (v : V) (b l : Int) (ts : List Int) : Prop := ∃ es, RowX K H v b l es ts
theorem RowV.same {K : PySem.W.Frag} {H H' : Hp} {v : V} {b l : Int} {ts : List Int} (r : RowV K H v b l ts) (s : Same H H') : RowV K H' v b l ts :=
  let ⟨es, x⟩ := r
  ⟨es, x.same s⟩
theorem ndec {p : Prop} [Decidable p] (h : ¬ decide p = true) : ¬ p := fun g => h (decide_eq_true g)
theorem getD_at {ts : List Int} {i : Nat} (h : i < ts.length) : ts.getD i 0 = ts[i] := by simp [h]
/-- the term at the end -/
def endT (l : Int) (ts : List Int) : Int := ts.getLastD l
def endP (b : Int) (ts : List Int) : Int := b + (ts.length : Int)
def asNewB (t p b l : Int) (ts : List Int) : Bool := decide (endT l ts < t) || (decide (t = endT l ts) && decide (endP b ts ≤ p))
def spAsNew (K : PySem.W.Frag) : Sp := fun vs H Q _ => ∃ (v : V) (t p b l : Int) (ts : List Int), vs = [.int t, .int p, v] ∧ RowV K H v b l ts ∧ ∀ H', Same H H' → Q (.bl (asNewB t p b l ts)) H'
/-- the term at a place from base to the end -/
def termAt (b l : Int) (ts : List Int) (p : Int) : Int := if p = b then l else ts.getD (p - b - 1).toNat 0
def agreesB (b l : Int) (ts : List Int) (p t : Int) : Bool := decide (p < b) || (decide (p ≤ endP b ts) && decide (termAt b l ts p = t))
theorem termAt_end (b l : Int) (ts : List Int) : termAt b l ts (endP b ts) = endT l ts := by
  unfold termAt endP endT
  rcases List.eq_nil_or_concat ts with rfl | ⟨r, x, rfl⟩
  · simp
  · have hl : (r.concat x).length = r.length + 1 := by simp
    have e : (b + ((r.concat x).length : Int) - b - 1).toNat = r.length := by rw [hl]; omega
    rw [if_neg (by rw [hl]; omega), e]
    simp
def spEndOf (K : PySem.W.Frag) : Sp := fun vs H Q _ => ∃ (v : V) (b l : Int) (ts : List Int), vs = [v] ∧ RowV K H v b l ts ∧ Q (.int (endP b ts)) H
def spEntIn (K : PySem.W.Frag) : Sp := fun vs H Q _ => ∃ (v : V) (b l : Int) (es : List V) (ts : List Int) (p : Int), vs = [v, .int p] ∧ RowX K H v b l es ts ∧ b < p ∧ p ≤ endP b ts ∧ ∀ e, es[(p - b - 1).toNat]? = some e → Q e H
def spTermIn (K : PySem.W.Frag) : Sp := fun vs H Q _ => ∃ (v : V) (b l : Int) (ts : List Int) (p : Int), vs = [v, .int p] ∧ RowV K H v b l ts ∧ b ≤ p ∧ p ≤ endP b ts ∧ Q (.int (termAt b l ts p)) H
def spAgrees (K : PySem.W.Frag) : Sp := fun vs H Q _ => ∃ (v : V) (t p b l : Int) (ts : List Int), vs = [v, .int p, .int t] ∧ RowV K H v b l ts ∧ Q (.bl (agreesB b l ts p t)) H
end K1
set_option Elab.async false
set_option linter.all false
set_option maxRecDepth 100000
set_option maxHeartbeats 4000000
namespace Kp
open PySem L2 PySem.Spec PyProof.Rows
/-! ### things that are the same at every part, however they are known: == is True -/
inductive Alike (K : PySem.W.Frag) (H : Hp) : Nat → V → V → Prop
  | flat {n : Nat} {v : V} (h : flatV v = true) : Alike K H n v v
  | ref {n : Nat} (a : Addr) : Alike K H n (.ref a) (.ref a)
  | tup {n : Nat} {a b : Addr} {xs ys : List V} (h1 : SqT K H a xs) (h2 : SqT K H b ys) (hl : xs.length = ys.length) (h : ∀ (i : Nat) (x y : V), xs[i]? = some x → ys[i]? = some y → Alike K H n x y) : Alike K H (n + 1) (.ref a) (.ref b)
theorem Alike.self {K : PySem.W.Frag} {H : Hp} {n B : Nat} {v : V} (t : ThN B H v) : Alike K H n v v := by
  cases t with
  | tup e l r => exact .ref _
  | _ => exact .flat rfl
theorem eqV_self {v : V} (h : flatV v = true) : eqV v v = true := by
  cases v with
  | bl b => cases b <;> rfl
  | int i => simp [eqV]
  | str x => simp [eqV]
  | non => rfl
  | _ => cases h
theorem eq_alike {X : Cx} {pins : List (Addr × Obj)} {σ : L2.St} {H : Hp} {s : Shared} (I : Inv X pins σ H s) : ∀ (n : Nat) (v u : V) (uv uu : Value) (A : Around), Alike X.K H n v u → RelV v uv → RelV u uu → A.units + n < cLine → SeqAt.EqAt A s uv uu true := by
  intro n
  induction n with
  | zero =>
    intro v u uv uu A h rv ru hu
    cases h with
    | flat f =>
      have := eqAt_V (A := A) (s := s) rv ru f f
      rw [eqV_self f] at this
      exact this
    | ref a => cases rv; cases ru; exact .same _
  | succ n ih =>
    intro v u uv uu A h rv ru hu
    cases h with
    | flat f =>
      have := eqAt_V (A := A) (s := s) rv ru f f
      rw [eqV_self f] at this
      exact this
    | ref a => cases rv; cases ru; exact .same _
    | @tup _ a b xs ys h1 h2 hl h =>
      cases rv
      cases ru
      by_cases hab : a = b
      · subst hab; exact .same _
      · refine SeqAt.EqAt.of_refs hab ?_
        have hu0 : A.units < cLine := by omega
        obtain ⟨its, q1, p1, _⟩ := I.tuple h1
        obtain ⟨jts, q2, p2, _⟩ := I.tuple h2
        have hl2 : its.toArray.size = jts.toArray.size := by simp [← q1.length, ← q2.length, hl]
        have z := SeqAt.RcAt.tuples (e := fun _ => true) (show s.heap.IsTuple a its.toArray from p1) (show s.heap.IsTuple b jts.toArray from p2) hu0 (fun j g1 g2 => by
          obtain ⟨x, ex, rx⟩ := Vals.at q1 g1
          obtain ⟨y, ey, ry⟩ := Vals.at q2 g2
          exact ih x y _ _ A.in1 (h j x y ex ey) rx ry (by show A.units + 1 + n < cLine; omega))
        rw [all_true, hl2, beq_self_eq_true] at z
        exact z
def rAl (K : PySem.W.Frag) (c : Bool) : R2 := fun x y H Q => ∃ p q xs ys n, x = .ref p ∧ y = .ref q ∧ SqT K H p xs ∧ SqT K H q ys ∧ xs.length = ys.length ∧ (∀ (i : Nat) (x y : V), xs[i]? = some x → ys[i]? = some y → Alike K H n x y) ∧ n ≤ 90 ∧ Q (.bl c) H
def rAlL (K : PySem.W.Frag) (c : Bool) : R2 := fun x y H Q => ∃ p q xs ys n, x = .ref p ∧ y = .ref q ∧ SqL K H p xs ∧ SqL K H q ys ∧ xs.length = ys.length ∧ (∀ (i : Nat) (x y : V), xs[i]? = some x → ys[i]? = some y → Alike K H n x y) ∧ n ≤ 90 ∧ Q (.bl c) H
theorem op_neA {X : Cx} (hu : X.A.units + 100 < cLine) : OpR X (compareOp .NotEq) (rAl X.K false) := by
  intro pins s σ H x y v u Q I rx ry h
  obtain ⟨p, q', xs, ys, n, rfl, rfl, h1, h2, hl, h, hn, q⟩ := h
  cases rx
  cases ry
  obtain ⟨its, q1, p1, _⟩ := I.tuple h1
  obtain ⟨jts, q2, p2, _⟩ := I.tuple h2
  have hl2 : its.toArray.size = jts.toArray.size := by simp [← q1.length, ← q2.length, hl]
  refine SeqAt.RcNeAt.tuples (e := fun _ => true) (show s.heap.IsTuple p its.toArray from p1) (show s.heap.IsTuple q' jts.toArray from p2) (by omega) (fun j g1 g2 => ?_) X.prog X.w X.xe _ ⟨.bl false, H, I, ?_, q⟩
  · obtain ⟨x, ex, rx⟩ := Vals.at q1 g1
    obtain ⟨y, ey, ry⟩ := Vals.at q2 g2
    exact eq_alike I n x y _ _ X.A.in1 (h j x y ex ey) rx ry (by show X.A.units + 1 + n < cLine; omega)
  · rw [all_true, hl2, beq_self_eq_true]; rfl
theorem op_neAL {X : Cx} (hu : X.A.units + 100 < cLine) : OpR X (compareOp .NotEq) (rAlL X.K false) := by
  intro pins s σ H x y v u Q I rx ry h
  obtain ⟨p, q', xs, ys, n, rfl, rfl, h1, h2, hl, h, hn, q⟩ := h
  cases rx
  cases ry
  obtain ⟨its, q1, p1, _⟩ := I.list h1
  obtain ⟨jts, q2, p2, _⟩ := I.list h2
  refine SeqAt.RcNeAt.lists (e := fun _ => true) p1.isList p2.isList (by simp [← q1.length, ← q2.length, hl]) (by omega) (fun j g1 g2 => ?_) _ _ _ _ ⟨.bl false, H, I, ?_, q⟩
  · obtain ⟨x, ex, rx⟩ := Vals.at q1 g1
    obtain ⟨y, ey, ry⟩ := Vals.at q2 g2
    exact eq_alike I n x y _ _ X.A.in1 (h j x y ex ey) rx ry (by show X.A.units + 1 + n < cLine; omega)
  · rw [all_true]; rfl
end Kp
namespace L2
open PySem
theorem Room.units100 {k : Nat} {A : Around} (r : Room k A) : A.units + 100 < cLine := by have := r.un; omega
end L2
set_option Elab.async false
set_option linter.all false
set_option maxRecDepth 100000
set_option maxHeartbeats 1000000
namespace L2
open PySem PySem.Spec PyProof.Rows
/-! ### max of a list of ints; min of one, with a default -/
section
variable {prog : Program} {w : World} {A : Around} {R : Result → Shared → Prop} {it : Addr} {fp wr : List Addr} {n : Nat} {Pv : Nat → Value → Prop} {St : Nat → Heap → Prop} {dv : Value}
end
section
variable {X : Cx}
theorem ints_items : ∀ {ys : List Int} {its : List Value}, Vals (ys.map V.int) its → ∃ xs : List (Int × Tok), its = xs.map (fun p => Value.int p.1 p.2) ∧ xs.map (·.1) = ys
  | [], _, h => by cases h; exact ⟨[], rfl, rfl⟩
  | y :: ys, _, h => by
    cases h with
    | cons r t =>
      obtain ⟨tk, rfl⟩ := r
      obtain ⟨xs, rfl, rfl⟩ := ints_items t
      exact ⟨(y, tk) :: xs, rfl, rfl⟩
theorem num_at {xs : List (Int × Tok)} {i : Nat} (h : i < xs.length) : numAt xs.toArray i = (xs.map (·.1))[i]'(by simpa using h) := by
  unfold numAt; simp [h]
theorem call_maxL (hc : X.calm = true) : CallR X (.builtin "max") (fun vs H Q => ∃ (p : Addr) (ys : List Int), vs = [.ref p] ∧ SqL X.K H p (ys.map V.int) ∧ ys ≠ [] ∧ ∀ m ∈ ys, (∀ y ∈ ys, y ≤ m) → Q (.int m) H) := by
  intro pins s σ H xs us Q I r h
  obtain ⟨p, ys, rfl, hq, hne, q⟩ := h
  obtain ⟨u, rfl, rx⟩ := vals1 r
  cases rx
  obtain ⟨its, rv, pl, hz⟩ := I.list hq
  obtain ⟨zs, rfl, rfl⟩ := ints_items rv
  have hlen : 0 < zs.length := List.length_pos_iff.mpr fun e => hne (by rw [e]; rfl)
  have el : intItems zs.toArray = (zs.map fun p => Value.int p.1 p.2).toArray := by simp [intItems]
  refine max_intList (xs := zs.toArray) (I.ok.hd hc) (by rw [el]; exact pl.isList) (by simpa using hlen) fun v h' tk hv k => ?_
  obtain ⟨t, rfl⟩ := intItems_at hv
  obtain ⟨b1, b2⟩ := argBest_gt (numAt zs.toArray) (zs.toArray.size - 1)
  generalize argBest (fun i j => decide (numAt zs.toArray i > numAt zs.toArray j)) (zs.toArray.size - 1) = j at b1 b2
  have hj : j < zs.length := by simp at b1; omega
  refine ⟨.int (numAt zs.toArray j), H, I.kept k, ⟨t, rfl⟩, q _ ?_ fun y hy => ?_⟩
  · rw [num_at hj]; exact List.getElem_mem _
  · obtain ⟨i, hi, rfl⟩ := List.getElem_of_mem hy
    have hi' : i < zs.length := by simpa using hi
    have := b2 i (by simp; omega)
    rw [num_at hi'] at this
    exact this
end
end L2
namespace K1
open PySem L2 Kp
theorem ix_tupK {X : Cx} {K : PySem.W.Frag} (hK : X.K = K) : IxR X (rIxT K) := by subst hK; exact ix_tup
theorem map_at (ms : List Int) (p : Int → Bool) (f : Int → V) : (((List.range (ms.map V.int).length).filter fun i => p (ms.getD i 0)).map fun i => f (ms.getD i 0)) = (ms.filter p).map f := by
  have e0 : ms = (List.range ms.length).map fun i => ms.getD i 0 := by
    apply List.ext_getElem?
    intro i
    by_cases hi : i < ms.length
    · simp [hi]
    · rw [List.getElem?_eq_none (by omega), List.getElem?_eq_none (by simp; omega)]
  rw [List.length_map]
  conv => rhs; rw [e0]
  rw [List.filter_map, List.map_map]
  rfl
/-- [f x for x in a tuple of ints if p x] -/
theorem comp_fmT {K : PySem.W.Frag} {a : Addr} {ms : List Int} {H1 : Hp} {frs : St} {g : TG} {tt : TT} {te : TE} {Q : VK} (hS : SqT K H1 a (ms.map V.int)) (hn : ms.length ≤ 1000) (p : Int → Bool) (f : Int → V)
    (turn : ∀ (i : Nat) (hi : i < ms.length) t H2 (R : St → Hp → Option V → Prop), Same H1 H2 → t.length = 1 → (∀ t' H', t'.length = 1 → Same H2 H' → R (t' ++ frs) H' (if p ms[i] = true then some (f ms[i]) else none)) →
      g (.int ms[i]) (t ++ frs) H2 fun σ3 H3 => tt σ3 H3 fun b H4 => if b = true then te σ3 H4 fun v H5 => R σ3 H5 (some v) else R σ3 H4 none)
    (hq : ∀ D H', Same H1 H' → H1 D = none → H' D = some (.lst ((ms.filter p).map f)) → Q (.ref D) H') : CompGo (List.replicate 1 none ++ frs) g tt te Q (Itt K a) H1 := by
  refine comp_pure (J := Itt K a) (k := 1) (n := (ms.map V.int).length) (fun i => p (ms.getD i 0)) (fun i => f (ms.getD i 0)) (by rw [List.length_map, sizeLine_eq]; omega) (fun i H3 hi s4 => ⟨_, .int (ms.getD i 0), SqT.same' hS s4, ?_⟩) (fun H3 s4 => ⟨_, SqT.same' hS s4, Nat.le_refl _⟩) ?_ ?_
  · rw [List.length_map] at hi
    simp [hi]
  · intro i H3 t v H4 R hi s4 ht y hR
    obtain ⟨rfl, hy⟩ := y
    have hi' : i < ms.length := by simpa using hi
    have hv := hy _ (SqT.same' hS s4)
    rw [List.getElem?_map, List.getElem?_eq_getElem hi'] at hv
    cases hv
    have eg : ms.getD i 0 = ms[i] := by simp [hi']
    rw [eg] at hR
    exact turn i hi' t H4 R s4 ht hR
  · intro D1 H3 s4 hD hd
    rw [map_at] at hd
    exact hq D1 H3 s4 hD hd
end K1
namespace Kp
open PySem L2
theorem Cal.mono {P : Program} {w : World} {K : PySem.W.Frag} {mg : Str → Option Value} {base : Heap} {x : Str} {k k' : Nat} {ps : List Str} {sp : Sp} (C : Cal P w K mg base x k ps sp) (h : k ≤ k') : Cal P w K mg base x k' ps sp :=
  let ⟨f, fd, F, a, b, c⟩ := C.ex
  ⟨⟨f, fd, F.mono h, a, b, c⟩⟩
end Kp
set_option Elab.async false
set_option linter.all false
set_option maxRecDepth 100000
set_option maxHeartbeats 4000000
namespace Kp
open PySem L2
/-- a comprehension without a condition whose items are known by their places -/
theorem comp_idx {J : It} {H1 : Hp} {n k : Nat} {frs : St} {g : TG} {tt : TT} {te : TE} {Q : VK} (R : Nat → Hp → V → Prop) (mono : ∀ i H H' v, SameT H H' → R i H v → R i H' v) (hn : n < sizeLine)
    (go : ∀ i H, i < n → Same H1 H → J.go i H) (stop : ∀ H, Same H1 H → J.stop n H)
    (turn : ∀ i H t x H2 (S : St → Hp → Option V → Prop), i < n → Same H1 H → t.length = k → J.yld i H x H2 →
      (∀ t' H' v, t'.length = k → Same H H' → R i H' v → S (t' ++ frs) H' (some v)) →
      g x (t ++ frs) H2 fun σ3 H3 => tt σ3 H3 fun b H4 => if b = true then te σ3 H4 fun v H5 => S σ3 H5 (some v) else S σ3 H4 none)
    (hq : ∀ D H' ys, Same H1 H' → H1 D = none → H' D = some (.lst ys) → ys.length = n → (∀ i v, ys[i]? = some v → R i H' v) → Q (.ref D) H') : CompGo (List.replicate k none ++ frs) g tt te Q J H1 := by
  intro D hD
  refine ⟨fun i m ys σ H => i ≤ n ∧ m = n - i ∧ ys.length = i ∧ (∀ j v, ys[j]? = some v → R j H v) ∧ Same H1 H ∧ ∃ t, t.length = k ∧ σ = t ++ frs, ⟨n, Nat.zero_le _, rfl, rfl, fun j v hv => by simp at hv, same_upd hD, _, by simp, rfl⟩, ?_⟩
  rintro i m ys σ H ⟨hi, rfl, hl, hR, s1, t, ht, rfl⟩ hd
  by_cases hlt : i < n
  · right
    refine ⟨go i H hlt s1, by omega, fun x H2 y => ?_⟩
    have keep : ∀ (H5 : Hp) (zs : List V), H5 D = some (.lst ys) → SameT H5 (upd H5 D (.lst zs)) := fun H5 zs h5 b xs e => by
      rw [upd_ne (fun q => by rw [q, h5] at e; cases e)]; exact e
    have tup : ∀ {H H' : Hp}, Same H H' → SameT H H' := fun s b xs e => s _ _ e
    refine turn i H t x H2 (fun σ3 H5 r => match r with
      | some v => H5 D = some (.lst ys) ∧ ∃ m', m' < n - i ∧ (i + 1 ≤ n ∧ m' = n - (i + 1) ∧ (ys ++ [v]).length = i + 1 ∧ (∀ j u, (ys ++ [v])[j]? = some u → R j (upd H5 D (.lst (ys ++ [v]))) u) ∧ Same H1 (upd H5 D (.lst (ys ++ [v]))) ∧ ∃ t, t.length = k ∧ σ3 = t ++ frs)
      | none => H5 D = some (.lst ys) ∧ ∃ m', m' < n - i ∧ (i + 1 ≤ n ∧ m' = n - (i + 1) ∧ ys.length = i + 1 ∧ (∀ j u, ys[j]? = some u → R j H5 u) ∧ Same H1 H5 ∧ ∃ t, t.length = k ∧ σ3 = t ++ frs)) hlt s1 ht y ?_
    intro t' H' v ht' s2 rv
    have h5 := s2 _ _ hd
    refine ⟨h5, n - (i + 1), by omega, by omega, rfl, by rw [List.length_append, hl]; rfl, fun j u hu => ?_, fun b o e => ?_, t', ht', rfl⟩
    · by_cases hj : j < ys.length
      · rw [List.getElem?_append_left hj] at hu
        exact mono _ _ _ _ (keep H' _ h5) (mono _ _ _ _ (tup s2) (hR j u hu))
      · rw [List.getElem?_append_right (by omega)] at hu
        have e0 : j - ys.length = 0 := by
          cases e : j - ys.length with
          | zero => rfl
          | succ m => rw [e] at hu; simp at hu
        rw [e0] at hu
        cases hu
        obtain rfl : j = i := by omega
        exact mono _ _ _ _ (keep H' _ h5) rv
    · rw [upd_ne (ne_of_none e hD)]; exact s2 _ _ (s1 _ _ e)
  · have e : i = n := by omega
    subst e
    exact .inl ⟨stop H s1, hq D H ys s1 hD hd hl hR⟩
end Kp
namespace K1
open PySem L2 Kp
/-! ### rows of a store: a name and whole numbers -/
abbrev Rw := Str × List Int
instance (a b : Str) : Decidable (before a b) := inferInstanceAs (Decidable (a.cps.toList < b.cps.toList))
theorem before_irrefl (a : Str) : ¬ before a a := List.lt_irrefl _
theorem before_ne {a b : Str} (h : before a b) : a ≠ b := fun e => before_irrefl _ (e ▸ h)
structure RwOk (W : List Str) (n : Nat) (rs : List Rw) : Prop where
  up : rs.Pairwise fun a b => before a.1 b.1
  inW : ∀ r ∈ rs, r.1 ∈ W
  sz : ∀ r ∈ rs, r.2.length = n
theorem nodup_len : ∀ (l W : List Str), l.Nodup → (∀ x ∈ l, x ∈ W) → l.length ≤ W.length
  | [], _, _, _ => Nat.zero_le _
  | x :: l, W, hn, h => by
    have hx := h x List.mem_cons_self
    rw [List.nodup_cons] at hn
    have := nodup_len l (W.erase x) hn.2 fun y hy => (List.mem_erase_of_ne (fun e : y = x => hn.1 (by rw [← e]; exact hy))).mpr (h y (List.mem_cons_of_mem _ hy))
    rw [List.length_erase_of_mem hx] at this
    have := List.length_pos_of_mem hx
    rw [List.length_cons]
    omega
theorem RwOk.nodup {W : List Str} {n : Nat} {rs : List Rw} (h : RwOk W n rs) : (rs.map (·.1)).Nodup := by
  unfold List.Nodup
  rw [List.pairwise_map]
  exact h.up.imp fun h => before_ne h
theorem RwOk.len {W : List Str} {n : Nat} {rs : List Rw} (h : RwOk W n rs) : rs.length ≤ W.length := by
  have := nodup_len _ W h.nodup fun x hx => by
    obtain ⟨r, hr, rfl⟩ := List.mem_map.mp hx
    exact h.inW r hr
  rwa [List.length_map] at this
/-- a row put at its place by the alphabet -/
def putF (rs : List Rw) (r : Rw) : List Rw := rs.filter (fun x => decide (before x.1 r.1)) ++ r :: rs.filter fun x => decide (before r.1 x.1)
/-- the value that stands at a name -/
def valF (rs : List Rw) (n : Str) : Int := match rs.filter fun r => decide (r.1 = n) with
  | [] => 0
  | r :: _ => r.2.headD 0
inductive Deed | get (n : Str) | set (n : Str) (x : Int) | add (n : Str) (x : Int)
def Deed.nm : Deed → Str
  | .get n => n
  | .set n _ => n
  | .add n _ => n
abbrev Sto := List Rw × List Rw
def doneF (S : Sto) : Deed → Sto × Int
  | .get n => (S, valF S.1 n)
  | .add n x => ((putF S.1 (n, [valF S.1 n + x]), S.2), valF S.1 n + x)
  | .set n x => ((putF S.1 (n, [x]), S.2), valF S.1 n)
structure StoOk (W C : List Str) (S : Sto) : Prop where
  ns : RwOk W 1 S.1
  cs : RwOk C 2 S.2
  ge : ∀ r ∈ S.2, 1 ≤ r.2.headD 0
/-! ### in the heap -/
inductive Rws (H : Hp) : List V → List Rw → Prop
  | nil : Rws H [] []
  | cons {p : Addr} {n : Str} {is : List Int} {vs : List V} {rs : List Rw} : H p = some (.tup (.str n :: is.map V.int)) → Rws H vs rs → Rws H (.ref p :: vs) ((n, is) :: rs)
theorem Rws.sameT {H H' : Hp} (s : SameT H H') : ∀ {vs rs}, Rws H vs rs → Rws H' vs rs
  | _, _, .nil => .nil
  | _, _, .cons e r => .cons (s _ _ e) (Rws.sameT s r)
theorem Rws.same {H H' : Hp} {vs : List V} {rs : List Rw} (h : Rws H vs rs) (s : Same H H') : Rws H' vs rs := h.sameT (sameT_of s)
theorem Rws.length {H : Hp} : ∀ {vs rs}, Rws H vs rs → vs.length = rs.length
  | _, _, .nil => rfl
  | _, _, .cons _ r => by rw [List.length_cons, List.length_cons, Rws.length r]
theorem Rws.get {H : Hp} : ∀ {vs : List V} {rs : List Rw} {i : Nat} (h : i < rs.length), Rws H vs rs → ∃ p, vs[i]? = some (.ref p) ∧ H p = some (.tup (.str (rs[i]).1 :: (rs[i]).2.map V.int))
  | _, _, _, h, .nil => absurd h (Nat.not_lt_zero _)
  | _, _, 0, _, .cons e _ => ⟨_, rfl, e⟩
  | _, _, i + 1, h, .cons _ r => Rws.get (i := i) (by simpa using h) r
theorem Rws.append {H : Hp} : ∀ {vs rs us qs}, Rws H vs rs → Rws H us qs → Rws H (vs ++ us) (rs ++ qs)
  | _, _, _, _, .nil, r => r
  | _, _, _, _, .cons e r, q => .cons e (Rws.append r q)
def RwT (H : Hp) (a : Addr) (rs : List Rw) : Prop := ∃ vs, H a = some (.tup vs) ∧ Rws H vs rs
theorem RwT.same {H H' : Hp} {a : Addr} {rs : List Rw} (h : RwT H a rs) (s : Same H H') : RwT H' a rs := let ⟨vs, e, r⟩ := h; ⟨vs, s _ _ e, r.same s⟩
def StV (H : Hp) (v : V) (S : Sto) : Prop := ∃ s a c, v = .ref s ∧ H s = some (.tup [.ref a, .ref c]) ∧ RwT H a S.1 ∧ RwT H c S.2
theorem StV.same {H H' : Hp} {v : V} {S : Sto} (h : StV H v S) (s : Same H H') : StV H' v S := let ⟨p, a, c, e, h1, h2, h3⟩ := h; ⟨p, a, c, e, s _ _ h1, h2.same s, h3.same s⟩
theorem RwT.alike {K : PySem.W.Frag} {H : Hp} {a c : Addr} {rs : List Rw} (h : RwT H a rs) (h' : RwT H c rs) : Alike K H 2 (.ref a) (.ref c) := by
  obtain ⟨vs, e, r⟩ := h
  obtain ⟨us, e', r'⟩ := h'
  refine .tup (SqT.of e) (SqT.of e') (by rw [r.length, r'.length]) fun i x y hx hy => ?_
  have hi : i < rs.length := by rw [← r.length]; exact (List.getElem?_eq_some_iff.mp hx).1
  obtain ⟨p, g, hp⟩ := r.get hi
  obtain ⟨q, g', hq⟩ := r'.get hi
  rw [g] at hx
  rw [g'] at hy
  cases hx
  cases hy
  refine .tup (SqT.of hp) (SqT.of hq) rfl fun j x y hx hy => ?_
  rw [hx] at hy
  cases hy
  cases j with
  | zero => cases hx; exact .flat rfl
  | succ j =>
    rw [List.getElem?_cons_succ, List.getElem?_map] at hx
    cases e2 : (rs[i]).2[j]? with
    | none => rw [e2] at hx; cases hx
    | some z => rw [e2] at hx; cases hx; exact .flat rfl
def DeedV (H : Hp) (v : V) : Deed → Prop
  | .get n => ∃ p, v = .ref p ∧ H p = some (.tup [.str "get", .str n])
  | .set n x => ∃ p, v = .ref p ∧ H p = some (.tup [.str "set", .str n, .int x])
  | .add n x => ∃ p, v = .ref p ∧ H p = some (.tup [.str "add", .str n, .int x])
theorem DeedV.same {H H' : Hp} {v : V} {d : Deed} (h : DeedV H v d) (s : Same H H') : DeedV H' v d := by
  cases d <;> (obtain ⟨p, e, hp⟩ := h; exact ⟨p, e, s _ _ hp⟩)
end K1
set_option Elab.async false
set_option linter.all false
set_option maxRecDepth 100000
set_option maxHeartbeats 4000000
namespace K1
open PySem L2 Kp
/-! ### what an entry holds, and what it does to a store -/
inductive What | opn | seats (ms : List Int) | wish (c : Str) (n : Int) (d : Deed)
def WhatV (H : Hp) (v : V) : What → Prop
  | .opn => ∃ p, v = .ref p ∧ H p = some (.tup [.str "open"])
  | .seats ms => ∃ p q, v = .ref p ∧ H p = some (.tup [.str "seats", .ref q]) ∧ H q = some (.tup (ms.map V.int))
  | .wish c n d => ∃ p u, v = .ref p ∧ H p = some (.tup [.str "wish", .str c, .int n, u]) ∧ DeedV H u d
theorem WhatV.same {H H' : Hp} {v : V} {x : What} (h : WhatV H v x) (s : Same H H') : WhatV H' v x := by
  cases x with
  | opn => obtain ⟨p, e, hp⟩ := h; exact ⟨p, e, s _ _ hp⟩
  | seats ms => obtain ⟨p, q, e, hp, hq⟩ := h; exact ⟨p, q, e, s _ _ hp, s _ _ hq⟩
  | wish c n d => obtain ⟨p, u, e, hp, hd⟩ := h; exact ⟨p, u, e, s _ _ hp, hd.same s⟩
/-- the number and the answer that stand with a caller -/
def standF (rs : List Rw) (c : Str) : Int × Int := match rs.find? fun r => decide (r.1 = c) with
  | some r => (r.2.headD 0, r.2.getD 1 0)
  | none => (0, 0)
def applyF (S : Sto) : What → Sto
  | .wish c n d => if n ≤ (standF S.2 c).1 then S else ((doneF S d).1.1, putF S.2 (c, [n, (doneF S d).2]))
  | _ => S
/-- a wish that was applied stands: applied once more it does nothing -/
def Knows (S : Sto) : What → Prop
  | .wish c n _ => n ≤ (standF S.2 c).1
  | _ => True
theorem Knows.id {S : Sto} {x : What} (h : Knows S x) : applyF S x = S := by
  cases x with
  | wish c n d => unfold applyF; exact if_pos h
  | opn => rfl
  | seats ms => rfl
end K1
set_option Elab.async false
set_option linter.all false
set_option maxRecDepth 100000
set_option maxHeartbeats 4000000
namespace K1
open PySem L2 Kp
/-! ### wishes done twice over change nothing more -/
/-! ### entries with what they hold -/
inductive EW (H : Hp) : List V → List What → Prop
  | nil : EW H [] []
  | cons {p : Addr} {t : Int} {u : V} {x : What} {vs : List V} {xs : List What} : H p = some (.tup [.int t, u]) → WhatV H u x → EW H vs xs → EW H (.ref p :: vs) (x :: xs)
theorem EW.same {H H' : Hp} (s : Same H H') : ∀ {vs xs}, EW H vs xs → EW H' vs xs
  | _, _, .nil => .nil
  | _, _, .cons e w r => .cons (s _ _ e) (w.same s) (EW.same s r)
theorem EW.length {H : Hp} : ∀ {vs xs}, EW H vs xs → vs.length = xs.length
  | _, _, .nil => rfl
  | _, _, .cons _ _ r => by rw [List.length_cons, List.length_cons, EW.length r]
theorem EW.get {H : Hp} : ∀ {vs : List V} {xs : List What} {i : Nat} (h : i < xs.length), EW H vs xs → ∃ p t u, vs[i]? = some (.ref p) ∧ H p = some (.tup [.int t, u]) ∧ WhatV H u xs[i]
  | _, _, _, h, .nil => absurd h (Nat.not_lt_zero _)
  | _, _, 0, _, .cons e w _ => ⟨_, _, _, rfl, e, w⟩
  | _, _, i + 1, h, .cons _ _ r => EW.get (i := i) (by simpa using h) r
theorem EW.append {H : Hp} : ∀ {vs xs us ys}, EW H vs xs → EW H us ys → EW H (vs ++ us) (xs ++ ys)
  | _, _, _, _, .nil, r => r
  | _, _, _, _, .cons e w r, q => .cons e w (EW.append r q)
theorem EW.take {H : Hp} : ∀ {vs : List V} {xs : List What} (n : Nat), EW H vs xs → EW H (vs.take n) (xs.take n)
  | _, _, 0, _ => by rw [List.take_zero, List.take_zero]; exact .nil
  | _, _, _ + 1, .nil => .nil
  | _, _, n + 1, .cons e w r => .cons e w (EW.take n r)
theorem EW.drop {H : Hp} : ∀ {vs : List V} {xs : List What} (n : Nat), EW H vs xs → EW H (vs.drop n) (xs.drop n)
  | _, _, 0, r => r
  | _, _, _ + 1, .nil => .nil
  | _, _, n + 1, .cons _ _ r => EW.drop n r
end K1
set_option Elab.async false
set_option linter.all false
set_option maxRecDepth 100000
set_option maxHeartbeats 4000000
namespace K1
open PySem L2 Kp
/-! ### packs, and the entries that come behind them -/
abbrev En := Int × What
inductive ET (H : Hp) : List V → List En → Prop
  | nil : ET H [] []
  | cons {p : Addr} {t : Int} {u : V} {x : What} {vs : List V} {es : List En} : H p = some (.tup [.int t, u]) → WhatV H u x → ET H vs es → ET H (.ref p :: vs) ((t, x) :: es)
theorem ET.same {H H' : Hp} (s : Same H H') : ∀ {vs es}, ET H vs es → ET H' vs es
  | _, _, .nil => .nil
  | _, _, .cons e w r => .cons (s _ _ e) (w.same s) (ET.same s r)
theorem ET.length {H : Hp} : ∀ {vs es}, ET H vs es → vs.length = es.length
  | _, _, .nil => rfl
  | _, _, .cons _ _ r => by rw [List.length_cons, List.length_cons, ET.length r]
theorem ET.get {H : Hp} : ∀ {vs : List V} {es : List En} {i : Nat} (h : i < es.length), ET H vs es → ∃ p u, vs[i]? = some (.ref p) ∧ H p = some (.tup [.int (es[i]).1, u]) ∧ WhatV H u (es[i]).2
  | _, _, _, h, .nil => absurd h (Nat.not_lt_zero _)
  | _, _, 0, _, .cons e w _ => ⟨_, _, rfl, e, w⟩
  | _, _, i + 1, h, .cons _ _ r => ET.get (i := i) (by simpa using h) r
theorem ET.append {H : Hp} : ∀ {vs es us fs}, ET H vs es → ET H us fs → ET H (vs ++ us) (es ++ fs)
  | _, _, _, _, .nil, r => r
  | _, _, _, _, .cons e w r, q => .cons e w (ET.append r q)
theorem ET.take {H : Hp} : ∀ {vs : List V} {es : List En} (n : Nat), ET H vs es → ET H (vs.take n) (es.take n)
  | _, _, 0, _ => by rw [List.take_zero, List.take_zero]; exact .nil
  | _, _, _ + 1, .nil => .nil
  | _, _, n + 1, .cons e w r => .cons e w (ET.take n r)
theorem ET.drop {H : Hp} : ∀ {vs : List V} {es : List En} (n : Nat), ET H vs es → ET H (vs.drop n) (es.drop n)
  | _, _, 0, r => r
  | _, _, _ + 1, .nil => .nil
  | _, _, n + 1, .cons _ _ r => ET.drop n r
theorem ET.ew {H : Hp} : ∀ {vs es}, ET H vs es → EW H vs (es.map (·.2))
  | _, _, .nil => .nil
  | _, _, .cons e w r => .cons e w (ET.ew r)
structure Pk where
  pl : Int
  tm : Int
  st : List Int
  so : Sto
def PkV (H : Hp) (v : V) (P : Pk) : Prop := ∃ p q u, v = .ref p ∧ H p = some (.tup [.int P.pl, .int P.tm, .ref q, u]) ∧ H q = some (.tup (P.st.map V.int)) ∧ StV H u P.so
theorem PkV.same {H H' : Hp} {v : V} {P : Pk} (h : PkV H v P) (s : Same H H') : PkV H' v P := let ⟨p, q, u, e, h1, h2, h3⟩ := h; ⟨p, q, u, e, s _ _ h1, s _ _ h2, h3.same s⟩
def RwP (H : Hp) (v : V) (b l : Int) (es : List En) : Prop := ∃ r c us, v = .ref r ∧ H r = some (.tup [.int b, .int l, .ref c]) ∧ H c = some (.tup us) ∧ ET H us es
theorem RwP.same {H H' : Hp} {v : V} {b l : Int} {es : List En} (h : RwP H v b l es) (s : Same H H') : RwP H' v b l es := let ⟨p, q, u, e, h1, h2, h3⟩ := h; ⟨p, q, u, e, s _ _ h1, s _ _ h2, h3.same s⟩
def seat1 (s : List Int) : What → List Int
  | .seats ms => ms
  | _ => s
def seatsF (s0 : List Int) (es : List En) : List Int := es.foldl (fun s e => seat1 s e.2) s0
theorem seatsF_snoc (s0 : List Int) (es : List En) {i : Nat} (hi : i < es.length) : seatsF s0 (es.take (i + 1)) = seat1 (seatsF s0 (es.take i)) (es[i]).2 := by
  unfold seatsF
  rw [List.take_succ_eq_append_getElem hi, List.foldl_append]
  rfl
theorem StV.alike {K : PySem.W.Frag} {H : Hp} {v u : V} {S : Sto} (h : StV H v S) (h' : StV H u S) : Alike K H 3 v u := by
  obtain ⟨sa, a, c, rfl, hs, ha, hc⟩ := h
  obtain ⟨sb, a2, c2, rfl, hs2, ha2, hc2⟩ := h'
  refine .tup (SqT.of hs) (SqT.of hs2) rfl fun i x y e1 e2 => ?_
  match i, e1, e2 with
  | 0, e1, e2 => cases e1; cases e2; exact ha.alike ha2
  | 1, e1, e2 => cases e1; cases e2; exact hc.alike hc2
end K1
set_option Elab.async false
set_option linter.all false
set_option maxRecDepth 100000
set_option maxHeartbeats 4000000
namespace K1
open PySem L2 Kp
/-! ### what stores and packs promise, whatever law asks -/
def spFreshP (K : PySem.W.Frag) : Sp := fun vs H Q _ => vs = [] ∧ ∀ (v : V) (H' : Hp), StV H' v ([], []) → Same H H' → Q v H'
def spFp : Sp := fun vs H Q _ => ∃ (q : Addr) (ms : List Int), vs = [.ref q] ∧ H q = some (.tup (ms.map V.int)) ∧ ∀ (r : V) (H' : Hp), PkV H' r ⟨0, 0, ms, ([], [])⟩ → Same H H' → Q r H'
def spBegP : Sp := fun vs H Q _ => vs = [] ∧ ∀ (v : V) (H' : Hp), RwP H' v 0 0 [] → Same H H' → Q v H'
def spEndP : Sp := fun vs H Q _ => ∃ (v : V) (b l : Int) (es : List En), vs = [v] ∧ RwP H v b l es ∧ Q (.int (b + (es.length : Int))) H
def seatB : What → Bool
  | .seats _ => true
  | _ => false
def spHoldP : Sp := fun vs H Q _ => ∃ (p : Addr) (t : Int) (u : V) (x : What), vs = [.ref p] ∧ H p = some (.tup [.int t, u]) ∧ WhatV H u x ∧ Q (.bl (seatB x)) H
def spSeatsP : Sp := fun vs H Q _ => ∃ (v : V) (q : Addr) (b l : Int) (es : List En) (ms : List Int), vs = [v, .ref q] ∧ RwP H v b l es ∧ H q = some (.tup (ms.map V.int)) ∧ ∀ q' : Addr, H q' = some (.tup ((seatsF ms es).map V.int)) → Q (.ref q') H
theorem so_ne : ("open" : Str) ≠ "seats" := by decide +kernel
theorem sw_ne : ("wish" : Str) ≠ "seats" := by decide +kernel
theorem vs_ne {a b : Str} (h : a ≠ b) : ¬ V.str a = V.str b := fun e => h (by injection e)
end K1
set_option Elab.async false
set_option linter.all false
set_option maxRecDepth 100000
set_option maxHeartbeats 4000000
namespace L2
open PySem PySem.Spec PyProof.Rows
/-! ### t * n of a tuple with parts, 2 ≤ n -/
theorem noFill_tuple_mul : fillsNumberSlot (.type "tuple") "mul" = pure false :=
  PySem.fillsNumberSlot_seq (id := "tuple.__mul__") (r := some (.builtin "tuple.__rmul__")) F.slot_tuple_mul.lookup (by decide +kernel) F.slot_tuple_rmul.lookup (by decide +kernel)
theorem repeat_tuple : seqRepeat? (.type "tuple") = pure (some (.builtin "tuple.__mul__")) := by
  unfold seqRepeat?
  rw [PySem.seqSlot_of (T := "tuple") (name := "__mul__") (id := "tuple.__mul__") F.slot_tuple_mul.lookup (by decide +kernel), PySem.seqSlot_of (T := "tuple") (name := "__rmul__") (id := "tuple.__rmul__") F.slot_tuple_rmul.lookup (by decide +kernel)]
  rfl
theorem int_rmul_tuple (a : Int) (t : Tok) (l : Addr) (items : Array Value) (n : Nat) (dd : Option Addr) (sl : Array (Option Value)) :
    Meets (Builtin.«int.__rmul__» ⟨[.int a t, .ref l], []⟩) (fun _ R s => s.heap.get? l = some { cls := .type "tuple", dict := dd, data := .seq items n, slots := sl } ∧ R (.ok (.ret Value.notImplemented)) s) :=
  .of_wp fun prog w A R s h => by obtain ⟨hp, g, d, tk, os⟩ := s; obtain ⟨hl, h⟩ := h; wp_walk; exact ⟨_, rfl, h⟩
theorem tuple_mulW (l : Addr) (items : Array Value) (n : Nat) (dd : Option Addr) (sl : Array (Option Value)) (x : Int) (u : Tok) (hc0 : ¬(decide (x < -(2 ^ 63)) || decide (x ≥ 2 ^ 63)) = true) (hc1 : ¬(items.isEmpty || x == 1) = true) (hc2 : ¬(decide (x ≤ 0) || items.isEmpty) = true) (hc3 : ¬((items.size : Int) * x > (2 ^ 63 - 1) / 8)) (hc4 : ¬Builtin.Tuple.tupleTooMany ((items.size : Int) * x) = true) (hsz : ((List.replicate x.toNat items).foldl (· ++ ·) #[]).size ≤ sizeLine) :
    Meets (Builtin.«tuple.__mul__» ⟨[.ref l, .int x u], []⟩) (fun _ R s => s.heap.get? l = some { cls := .type "tuple", dict := dd, data := .seq items n, slots := sl } ∧ R (.ok (.ret (Value.ref s.heap.objs.size))) { s with heap := s.heap.push { cls := Value.type "tuple", data := Data.seq ((List.replicate x.toNat items).foldl (· ++ ·) #[]) }, toks := s.toks }) :=
  .of_wp fun prog w A R s h => by
    obtain ⟨hp, g, d, tk, os⟩ := s; obtain ⟨hl, h⟩ := h; have f1 := AutoSeq1.idx_int
    wp_walk using wpAny_loadPart' hl
    refine wpAny_ite_false (decide_eq_false hc0) ?_
    wp_walk using wpAny_loadPart' hl
    refine wpAny_ite_false (decide_eq_false hc3) ?_
    wp_walk using wpAny_loadPart' hl
    exact ⟨_, rfl, h⟩
/-- the same tuple n times over -/
def rRepT : R2 := fun x y H Q => ∃ a k xs, x = .ref a ∧ y = .int k ∧ H a = some (.tup xs) ∧ xs ≠ [] ∧ 2 ≤ k ∧ k < 1000 ∧ xs.length ≤ 1000 ∧ ∀ p, H p = none → Q (.ref p) (upd H p (.tup (List.replicate k.toNat xs).flatten))
theorem op_repT {X : Cx} : OpR X (binaryOp .Mult) rRepT := by
  intro pins s σ H x y v u Q I rx ry h
  obtain ⟨a, k, xs, rfl, rfl, hH, hne, h1, h2, hx, q⟩ := h
  cases rx
  obtain ⟨t, rfl⟩ := ry
  obtain ⟨its, r, p1, _⟩ := I.tuple (SqT.of hH)
  obtain ⟨⟨cls, dd, data, sl⟩, ho, hc, n, hd⟩ := id p1
  simp only at hc hd
  subst hc hd
  have hl := r.length
  have hpos : 0 < its.length := by rw [← hl]; exact List.length_pos_iff.mpr hne
  have hemp : its.toArray.isEmpty = false := by cases its with
    | nil => simp at hpos
    | cons _ _ => rfl
  have hk : ((k.toNat : Nat) : Int) = k := Int.toNat_of_nonneg (by omega)
  have hnew : List.foldl (fun x1 x2 => x1 ++ x2) #[] (List.replicate k.toNat its.toArray) = (List.replicate k.toNat its).flatten.toArray := by
    have := foldl_rep its k.toNat []
    rw [List.nil_append] at this
    exact this
  have hlen : (List.replicate k.toNat xs).flatten.length ≤ 1000000 := by
    rw [len_rep]
    have hkn : k.toNat ≤ 1000 := by omega
    exact Nat.le_trans (Nat.mul_le_mul hkn hx) (by decide)
  have hz : (List.replicate k.toNat xs).flatten.length ≤ sizeLine := by rw [sizeLine_eq]; omega
  have hprod : ((its.toArray.size : Int) * k) ≤ 1000000 := by
    rw [len_rep, hl] at hlen
    rw [List.size_toArray, ← hk, Int.mul_comm]
    have e2 : ((k.toNat * its.length : Nat) : Int) = (k.toNat : Int) * (its.length : Int) := Int.natCast_mul _ _
    rw [← e2]
    omega
  have hmany : ¬ Builtin.Tuple.tupleTooMany ((its.toArray.size : Int) * k) = true := fun g => by
    have g2 : (its.toArray.size : Int) * k > (sizeLine : Int) := of_decide_eq_true g
    rw [sizeLine_eq] at g2
    omega
  have hv := r.rep k.toNat
  refine wpAny_binaryOp_repeat_ref (T := "tuple") (U := "int") (by decide) ⟨_, ho, rfl⟩ (fun s' => typeIs_int s' k t) noFill_tuple_mul F.fills_int_mul F.slot_int_rmul repeat_tuple F.slot_int_index.lookup
    (call_meets F.slot_int_rmul (typeIs_int s k t) F.entry_int_rmul (F.args_int_rmul_2 _ _) (int_rmul_tuple k t a its.toArray n dd sl)
      ⟨ho, rfl, ⟨_, ho, rfl⟩, call_meets F.slot_tuple_mul ⟨_, ho, rfl⟩ F.entry_tuple_mul (F.args_tuple_mul_2 _ _) (tuple_mulW a its.toArray n dd sl k t (by simp; omega) (by simp [hemp]; omega) (by simp [hemp]; omega) (by omega) hmany (by rw [hnew, List.size_toArray, ← hv.length]; exact hz)) ⟨ho, ?_⟩⟩)
  rw [hnew]
  have hf : H s.heap.objs.size = none := I.hok.fresh (Nat.le_refl _)
  refine ⟨.ref s.heap.objs.size, upd H s.heap.objs.size (.tup (List.replicate k.toNat xs).flatten), I.laid (t' := s.toks) (fun b u e => Heap.get?_push_of_some _ e) (Nat.le_refl _) ?_, rfl, q _ hf⟩
  exact ⟨hz, _, hv, ⟨_, Heap.get?_push_size _ rfl, rfl, _, rfl⟩⟩
end L2
set_option Elab.async false
set_option linter.all false
set_option maxRecDepth 100000
set_option maxHeartbeats 4000000
namespace K1
open PySem L2 Kp
/-! ### an object's values, by their names -/
theorem lk_ne {f g : Str} {v : V} {fs : List (Str × V)} {x : Option V} (h : ¬ g = f) (e : fs.lookup g = x) : (L2.putF f v fs).lookup g = x := by rw [L2.lookup_putF, if_neg h]; exact e
theorem lk_eq {f : Str} {v : V} {fs : List (Str × V)} : (L2.putF f v fs).lookup f = some v := by rw [L2.lookup_putF, if_pos rfl]
def kpN : List Str := ["number", "term", "voice", "pack", "row", "way", "voices", "head", "waits", "nexts", "held", "agreed", "store"]
structure FsOk (fs : List (Str × V)) : Prop where
  nd : (fs.map (·.1)).Nodup
  inN : ∀ x ∈ fs.map (·.1), x ∈ kpN
theorem keys_put {f : Str} {v : V} : ∀ {fs : List (Str × V)} {x : Str}, x ∈ (L2.putF f v fs).map (·.1) → x ∈ fs.map (·.1) ∨ x = f
  | [], x, h => .inr (List.mem_singleton.mp h)
  | (g, y) :: r, x, h => by
    unfold L2.putF at h
    by_cases e : g = f
    · rw [if_pos e] at h
      exact .inl h
    · rw [if_neg e, List.map_cons] at h
      rcases List.mem_cons.mp h with h | h
      · exact .inl (List.mem_cons.mpr (.inl h))
      · rcases keys_put h with h | h
        · exact .inl (List.mem_cons.mpr (.inr h))
        · exact .inr h
theorem nd_put {f : Str} {v : V} : ∀ {fs : List (Str × V)}, (fs.map (·.1)).Nodup → ((L2.putF f v fs).map (·.1)).Nodup
  | [], _ => List.nodup_cons.mpr ⟨List.not_mem_nil, List.nodup_nil⟩
  | (g, y) :: r, h => by
    unfold L2.putF
    by_cases e : g = f
    · rw [if_pos e]
      exact h
    · rw [if_neg e, List.map_cons, List.nodup_cons]
      rw [List.map_cons, List.nodup_cons] at h
      refine ⟨fun hm => ?_, nd_put h.2⟩
      rcases keys_put hm with hm | hm
      · exact h.1 hm
      · exact e hm
theorem FsOk.nil : FsOk [] := ⟨List.nodup_nil, fun x h => absurd h List.not_mem_nil⟩
theorem FsOk.put {f : Str} {v : V} {fs : List (Str × V)} (h : FsOk fs) (hf : f ∈ kpN) : FsOk (L2.putF f v fs) := ⟨nd_put h.nd, fun x hx => by
  rcases keys_put hx with hx | rfl
  · exact h.inN x hx
  · exact hf⟩
theorem FsOk.len {fs : List (Str × V)} (h : FsOk fs) : fs.length < 1000 := by
  have := nodup_len _ kpN h.nd h.inN
  rw [List.length_map] at this
  have e : kpN.length = 13 := rfl
  omega
theorem lk_none : ∀ {fs : List (Str × V)} {g : Str}, ¬ g ∈ fs.map (·.1) → fs.lookup g = none
  | [], _, _ => rfl
  | (k, y) :: r, g, h => by
    rw [List.map_cons, List.mem_cons] at h
    have hb : (g == k) = false := beq_eq_false_iff_ne.mpr fun e => h (.inl e)
    simp only [List.lookup, hb]
    exact lk_none fun hm => h (.inr hm)
theorem FsOk.no {fs : List (Str × V)} {g : Str} (h : FsOk fs) (hg : ¬ g ∈ kpN) : fs.lookup g = none := lk_none fun hm => hg (h.inN _ hm)
end K1
set_option Elab.async false
set_option linter.all false
set_option maxRecDepth 100000
set_option maxHeartbeats 4000000
namespace K1
open PySem L2 Kp
section
variable {P : Program} {w : World} {K : PySem.W.Frag} {mg : Str → Option Value} {base : Heap}
structure KpC (K : PySem.W.Frag) (C : Addr) : Prop where
  cl : Cls K C
  n_number : NoAttr K C "number"
  n_term : NoAttr K C "term"
  n_voice : NoAttr K C "voice"
  n_head : NoAttr K C "head"
  n_way : NoAttr K C "way"
  n_pack : NoAttr K C "pack"
  n_row : NoAttr K C "row"
  n_store : NoAttr K C "store"
  n_nexts : NoAttr K C "nexts"
  n_held : NoAttr K C "held"
  n_agreed : NoAttr K C "agreed"
  n_voices : NoAttr K C "voices"
  n_waits : NoAttr K C "waits"
def Off (a : Addr) (H H' : Hp) : Prop := ∀ b o, b ≠ a → H b = some o → H' b = some o
theorem Off.tups {a C dx : Addr} {fs : List (Str × V)} {H H' : Hp} (o : Off a H H') (ha : H a = some (.ins C dx fs)) : SameT H H' := fun b xs e => o b _ (fun z => by rw [z, ha] at e; cases e) e
theorem RwT.nilT {H H' : Hp} {a : Addr} (h : RwT H a []) (s : SameT H H') : RwT H' a [] := by
  obtain ⟨vs, e, r⟩ := h
  cases r
  exact ⟨[], s _ _ e, .nil⟩
def vcV : Option Int → V
  | none => .non
  | some i => .int i
theorem Off.refl {a : Addr} {H : Hp} : Off a H H := fun b o _ e => e
theorem Off.trans {a : Addr} {H H' H2 : Hp} (h : Off a H H') (h' : Off a H' H2) : Off a H H2 := fun b o n e => h' b o n (h b o n e)
theorem off_upd {a : Addr} {H : Hp} {o : HO} : Off a H (upd H a o) := fun b u n e => by rw [upd_ne n]; exact e
theorem off_same {a : Addr} {H H' : Hp} (s : Same H H') : Off a H H' := fun b u _ e => s _ _ e
theorem off_new {a p : Addr} {H : Hp} {o : HO} (hp : H p = none) : Off a H (upd H p o) := off_same (same_upd hp)
theorem PkV.offT {H H' : Hp} {v : V} {ms : List Int} (h : PkV H v ⟨0, 0, ms, ([], [])⟩) (s : SameT H H') : PkV H' v ⟨0, 0, ms, ([], [])⟩ := by
  obtain ⟨p, q, u, e, h1, h2, ⟨s1, a1, c1, e1, g1, g2, g3⟩⟩ := h
  exact ⟨p, q, u, e, s _ _ h1, s _ _ h2, ⟨s1, a1, c1, e1, s _ _ g1, g2.nilT s, g3.nilT s⟩⟩
structure F2 (fs : List (Str × V)) (num : Int) (tm : Int) (vc : Option Int) (hd : Option Int) (way : Str) (ag : Int) (vp : V) (vr : V) (vst : V) (an : Addr) (ah : Addr) (av : Addr) (aw : Addr) : Prop where
  number : fs.lookup ("number" : Str) = some (.int num)
  term : fs.lookup ("term" : Str) = some (.int tm)
  voice : fs.lookup ("voice" : Str) = some (vcV vc)
  head : fs.lookup ("head" : Str) = some (vcV hd)
  way : fs.lookup ("way" : Str) = some (.str way)
  pack : fs.lookup ("pack" : Str) = some (vp)
  row : fs.lookup ("row" : Str) = some (vr)
  store : fs.lookup ("store" : Str) = some (vst)
  nexts : fs.lookup ("nexts" : Str) = some (.ref an)
  held : fs.lookup ("held" : Str) = some (.ref ah)
  agreed : fs.lookup ("agreed" : Str) = some (.int ag)
  voices : fs.lookup ("voices" : Str) = some (.ref av)
  waits : fs.lookup ("waits" : Str) = some (.ref aw)
theorem F2.put_term {fs : List (Str × V)} {num : Int} {tm : Int} {vc : Option Int} {hd : Option Int} {way : Str} {ag : Int} {vp : V} {vr : V} {vst : V} {an : Addr} {ah : Addr} {av : Addr} {aw : Addr} (h : F2 fs num tm vc hd way ag vp vr vst an ah av aw) (x : Int) : F2 (L2.putF "term" (.int x) fs) num x vc hd way ag vp vr vst an ah av aw := ⟨lk_ne (by decide +kernel) h.number, lk_eq, lk_ne (by decide +kernel) h.voice, lk_ne (by decide +kernel) h.head, lk_ne (by decide +kernel) h.way, lk_ne (by decide +kernel) h.pack, lk_ne (by decide +kernel) h.row, lk_ne (by decide +kernel) h.store, lk_ne (by decide +kernel) h.nexts, lk_ne (by decide +kernel) h.held, lk_ne (by decide +kernel) h.agreed, lk_ne (by decide +kernel) h.voices, lk_ne (by decide +kernel) h.waits⟩
theorem F2.put_voice {fs : List (Str × V)} {num : Int} {tm : Int} {vc : Option Int} {hd : Option Int} {way : Str} {ag : Int} {vp : V} {vr : V} {vst : V} {an : Addr} {ah : Addr} {av : Addr} {aw : Addr} (h : F2 fs num tm vc hd way ag vp vr vst an ah av aw) (x : Option Int) : F2 (L2.putF "voice" (vcV x) fs) num tm x hd way ag vp vr vst an ah av aw := ⟨lk_ne (by decide +kernel) h.number, lk_ne (by decide +kernel) h.term, lk_eq, lk_ne (by decide +kernel) h.head, lk_ne (by decide +kernel) h.way, lk_ne (by decide +kernel) h.pack, lk_ne (by decide +kernel) h.row, lk_ne (by decide +kernel) h.store, lk_ne (by decide +kernel) h.nexts, lk_ne (by decide +kernel) h.held, lk_ne (by decide +kernel) h.agreed, lk_ne (by decide +kernel) h.voices, lk_ne (by decide +kernel) h.waits⟩
theorem F2.put_head {fs : List (Str × V)} {num : Int} {tm : Int} {vc : Option Int} {hd : Option Int} {way : Str} {ag : Int} {vp : V} {vr : V} {vst : V} {an : Addr} {ah : Addr} {av : Addr} {aw : Addr} (h : F2 fs num tm vc hd way ag vp vr vst an ah av aw) (x : Option Int) : F2 (L2.putF "head" (vcV x) fs) num tm vc x way ag vp vr vst an ah av aw := ⟨lk_ne (by decide +kernel) h.number, lk_ne (by decide +kernel) h.term, lk_ne (by decide +kernel) h.voice, lk_eq, lk_ne (by decide +kernel) h.way, lk_ne (by decide +kernel) h.pack, lk_ne (by decide +kernel) h.row, lk_ne (by decide +kernel) h.store, lk_ne (by decide +kernel) h.nexts, lk_ne (by decide +kernel) h.held, lk_ne (by decide +kernel) h.agreed, lk_ne (by decide +kernel) h.voices, lk_ne (by decide +kernel) h.waits⟩
theorem F2.put_way {fs : List (Str × V)} {num : Int} {tm : Int} {vc : Option Int} {hd : Option Int} {way : Str} {ag : Int} {vp : V} {vr : V} {vst : V} {an : Addr} {ah : Addr} {av : Addr} {aw : Addr} (h : F2 fs num tm vc hd way ag vp vr vst an ah av aw) (x : Str) : F2 (L2.putF "way" (.str x) fs) num tm vc hd x ag vp vr vst an ah av aw := ⟨lk_ne (by decide +kernel) h.number, lk_ne (by decide +kernel) h.term, lk_ne (by decide +kernel) h.voice, lk_ne (by decide +kernel) h.head, lk_eq, lk_ne (by decide +kernel) h.pack, lk_ne (by decide +kernel) h.row, lk_ne (by decide +kernel) h.store, lk_ne (by decide +kernel) h.nexts, lk_ne (by decide +kernel) h.held, lk_ne (by decide +kernel) h.agreed, lk_ne (by decide +kernel) h.voices, lk_ne (by decide +kernel) h.waits⟩
theorem F2.put_row {fs : List (Str × V)} {num : Int} {tm : Int} {vc : Option Int} {hd : Option Int} {way : Str} {ag : Int} {vp : V} {vr : V} {vst : V} {an : Addr} {ah : Addr} {av : Addr} {aw : Addr} (h : F2 fs num tm vc hd way ag vp vr vst an ah av aw) (x : V) : F2 (L2.putF "row" (x) fs) num tm vc hd way ag vp x vst an ah av aw := ⟨lk_ne (by decide +kernel) h.number, lk_ne (by decide +kernel) h.term, lk_ne (by decide +kernel) h.voice, lk_ne (by decide +kernel) h.head, lk_ne (by decide +kernel) h.way, lk_ne (by decide +kernel) h.pack, lk_eq, lk_ne (by decide +kernel) h.store, lk_ne (by decide +kernel) h.nexts, lk_ne (by decide +kernel) h.held, lk_ne (by decide +kernel) h.agreed, lk_ne (by decide +kernel) h.voices, lk_ne (by decide +kernel) h.waits⟩
theorem F2.put_store {fs : List (Str × V)} {num : Int} {tm : Int} {vc : Option Int} {hd : Option Int} {way : Str} {ag : Int} {vp : V} {vr : V} {vst : V} {an : Addr} {ah : Addr} {av : Addr} {aw : Addr} (h : F2 fs num tm vc hd way ag vp vr vst an ah av aw) (x : V) : F2 (L2.putF "store" (x) fs) num tm vc hd way ag vp vr x an ah av aw := ⟨lk_ne (by decide +kernel) h.number, lk_ne (by decide +kernel) h.term, lk_ne (by decide +kernel) h.voice, lk_ne (by decide +kernel) h.head, lk_ne (by decide +kernel) h.way, lk_ne (by decide +kernel) h.pack, lk_ne (by decide +kernel) h.row, lk_eq, lk_ne (by decide +kernel) h.nexts, lk_ne (by decide +kernel) h.held, lk_ne (by decide +kernel) h.agreed, lk_ne (by decide +kernel) h.voices, lk_ne (by decide +kernel) h.waits⟩
theorem F2.put_agreed {fs : List (Str × V)} {num : Int} {tm : Int} {vc : Option Int} {hd : Option Int} {way : Str} {ag : Int} {vp : V} {vr : V} {vst : V} {an : Addr} {ah : Addr} {av : Addr} {aw : Addr} (h : F2 fs num tm vc hd way ag vp vr vst an ah av aw) (x : Int) : F2 (L2.putF "agreed" (.int x) fs) num tm vc hd way x vp vr vst an ah av aw := ⟨lk_ne (by decide +kernel) h.number, lk_ne (by decide +kernel) h.term, lk_ne (by decide +kernel) h.voice, lk_ne (by decide +kernel) h.head, lk_ne (by decide +kernel) h.way, lk_ne (by decide +kernel) h.pack, lk_ne (by decide +kernel) h.row, lk_ne (by decide +kernel) h.store, lk_ne (by decide +kernel) h.nexts, lk_ne (by decide +kernel) h.held, lk_eq, lk_ne (by decide +kernel) h.voices, lk_ne (by decide +kernel) h.waits⟩
theorem F2.put_voices {fs : List (Str × V)} {num : Int} {tm : Int} {vc : Option Int} {hd : Option Int} {way : Str} {ag : Int} {vp : V} {vr : V} {vst : V} {an : Addr} {ah : Addr} {av : Addr} {aw : Addr} (h : F2 fs num tm vc hd way ag vp vr vst an ah av aw) (x : Addr) : F2 (L2.putF "voices" (.ref x) fs) num tm vc hd way ag vp vr vst an ah x aw := ⟨lk_ne (by decide +kernel) h.number, lk_ne (by decide +kernel) h.term, lk_ne (by decide +kernel) h.voice, lk_ne (by decide +kernel) h.head, lk_ne (by decide +kernel) h.way, lk_ne (by decide +kernel) h.pack, lk_ne (by decide +kernel) h.row, lk_ne (by decide +kernel) h.store, lk_ne (by decide +kernel) h.nexts, lk_ne (by decide +kernel) h.held, lk_ne (by decide +kernel) h.agreed, lk_eq, lk_ne (by decide +kernel) h.waits⟩
theorem F2.put_waits {fs : List (Str × V)} {num : Int} {tm : Int} {vc : Option Int} {hd : Option Int} {way : Str} {ag : Int} {vp : V} {vr : V} {vst : V} {an : Addr} {ah : Addr} {av : Addr} {aw : Addr} (h : F2 fs num tm vc hd way ag vp vr vst an ah av aw) (x : Addr) : F2 (L2.putF "waits" (.ref x) fs) num tm vc hd way ag vp vr vst an ah av x := ⟨lk_ne (by decide +kernel) h.number, lk_ne (by decide +kernel) h.term, lk_ne (by decide +kernel) h.voice, lk_ne (by decide +kernel) h.head, lk_ne (by decide +kernel) h.way, lk_ne (by decide +kernel) h.pack, lk_ne (by decide +kernel) h.row, lk_ne (by decide +kernel) h.store, lk_ne (by decide +kernel) h.nexts, lk_ne (by decide +kernel) h.held, lk_ne (by decide +kernel) h.agreed, lk_ne (by decide +kernel) h.voices, lk_eq⟩
def esO (ts : List Int) : List En := ts.map fun t => (t, What.opn)
/-- a keeper behind the first pack whose row holds open entries alone -/
structure Kst where
  num : Int
  tm : Int
  vc : Option Int
  hd : Option Int
  way : Str
  ag : Int
  vs : List Int
  ts : List Int
  nx : Int
  ms : List Int
  gx : Addr
structure S2 (H : Hp) (ms ts vs : List Int) (nx : Int) (vp vr vst : V) (an ah av aw : Addr) : Prop where
  pack : PkV H vp ⟨0, 0, ms, ([], [])⟩
  row : RwP H vr 0 0 (esO ts)
  store : StV H vst ([], [])
  nexts : H an = some (.tup (List.replicate 9 (.int nx)))
  held : H ah = some (.tup (List.replicate 9 (.int 0)))
  voices : H av = some (.tup (vs.map V.int))
  waits : H aw = some (.tup [])
theorem StV.offT {H H' : Hp} {v : V} (h : StV H v ([], [])) (s : SameT H H') : StV H' v ([], []) := by
  obtain ⟨s1, a1, c1, e1, g1, g2, g3⟩ := h
  exact ⟨s1, a1, c1, e1, s _ _ g1, g2.nilT s, g3.nilT s⟩
theorem etO_sameT {H H' : Hp} (s : SameT H H') : ∀ {us : List V} {ts : List Int}, ET H us (esO ts) → ET H' us (esO ts)
  | _, [], h => by cases h; exact .nil
  | _, t :: ts, h => by
    cases h with
    | cons hp hu r =>
      obtain ⟨q, e, hq⟩ := hu
      exact .cons (s _ _ hp) ⟨q, e, s _ _ hq⟩ (etO_sameT s r)
theorem rwO_sameT {H H' : Hp} {v : V} {ts : List Int} (h : RwP H v 0 0 (esO ts)) (s : SameT H H') : RwP H' v 0 0 (esO ts) := by
  obtain ⟨r, c, us, e, h1, h2, h3⟩ := h
  exact ⟨r, c, us, e, s _ _ h1, s _ _ h2, etO_sameT s h3⟩
theorem S2.sameT {H H' : Hp} {ms ts vs : List Int} {nx : Int} {vp vr vst : V} {an ah av aw : Addr} (h : S2 H ms ts vs nx vp vr vst an ah av aw) (s : SameT H H') : S2 H' ms ts vs nx vp vr vst an ah av aw := ⟨h.pack.offT s, rwO_sameT h.row s, h.store.offT s, s _ _ h.nexts, s _ _ h.held, s _ _ h.voices, s _ _ h.waits⟩
def K2V (C : Addr) (H : Hp) (a : Addr) (k : Kst) : Prop := ∃ (dx : Addr) (fs : List (Str × V)) (vp vr vst : V) (an ah av aw : Addr), H a = some (.ins C dx fs) ∧ F2 fs k.num k.tm k.vc k.hd k.way k.ag vp vr vst an ah av aw ∧ FsOk fs ∧ S2 H k.ms k.ts k.vs k.nx vp vr vst an ah av aw
theorem K2V.frame {C : Addr} {H H' : Hp} {a : Addr} {k : Kst} (h : K2V C H a k) (s : SameT H H') (ka : ∀ o, H a = some o → H' a = some o) : K2V C H' a k := by
  obtain ⟨dx, fs, vp, vr, vst, an, ah, av, aw, ha, f, ok, S⟩ := h
  exact ⟨dx, fs, vp, vr, vst, an, ah, av, aw, ka _ ha, f, ok, S.sameT s⟩
theorem K2V.same {C : Addr} {H H' : Hp} {a : Addr} {k : Kst} (h : K2V C H a k) (s : Same H H') : K2V C H' a k := h.frame (sameT_of s) fun o e => s _ _ e
def hearF (k : Kst) (t : Int) : Kst := if t > k.tm then { k with tm := t, vc := none, way := "plain", vs := [], hd := none } else k
def wakeF (k : Kst) : Kst := { k with way := "plain", vs := [], hd := none, nx := (k.ts.length : Int) + 1, ag := 0 }
/-- plain, no voices, no head, nothing waits; the other values as they were -/
structure Plain (C a dx : Addr) (fs fs' : List (Str × V)) (av aw : Addr) (H H' : Hp) : Prop where
  at_ : H' a = some (.ins C dx fs')
  ok : FsOk fs'
  way : fs'.lookup ("way" : Str) = some (.str "plain")
  voices : fs'.lookup ("voices" : Str) = some (.ref av)
  head : fs'.lookup ("head" : Str) = some .non
  waits : fs'.lookup ("waits" : Str) = some (.ref aw)
  hv : H' av = some (.tup [])
  hw : H' aw = some (.tup [])
  kept : ∀ g : Str, ¬ g ∈ (["way", "voices", "head", "waits"] : List Str) → fs'.lookup g = fs.lookup g
  off : Off a H H'
def spPlainK (C : Addr) : Sp := fun vs H Q _ => ∃ (a dx : Addr) (fs : List (Str × V)), vs = [.ref a] ∧ H a = some (.ins C dx fs) ∧ FsOk fs ∧ ∀ (fs' : List (Str × V)) (av aw : Addr) (H' : Hp), Plain C a dx fs fs' av aw H H' → Q .non H'
theorem scBp : FnScope ["self"] ["self"] (defScope s_Keeper_be_plain) := ⟨rfl, rfl, rfl, by decide +kernel, rfl, by decide +kernel, by decide +kernel⟩
theorem ok_be_plain {f : Addr} {fd : FuncData} {C : Addr} (Y : KpC K C) (F : Fun K "be_plain" "Keeper.be_plain" s_Keeper_be_plain f fd) : FnOk P w K mg base CX0 1 f fd ["self"] (spPlainK C) := by
  refine F.ok scBp (fun vs H Q E ⟨_, _, _, e, _⟩ => by subst e; rfl) (fun cdv A outer s H vs Q E hr h => ?_)
  obtain ⟨a, dx, fs, rfl, ha, ok, q⟩ := h
  refine ⟨_, @pss_p _ _ _ _ _ (ps_fld (pv 0) (pe_str) (by rfl))
    (@pss_p _ _ _ _ _ (ps_fld (pv 0) (QE.h (qx_tup (qa_nil))) (by rfl))
    (@pss_p _ _ _ _ _ (ps_fld (pv 0) (pe_non) (by rfl))
    (@pss_o _ _ _ (ps_fld (pv 0) (QE.h (qx_tup (qa_nil))) (by rfl))))), ?_⟩
  have k1 : FsOk (L2.putF "way" (.str "plain") fs) := ok.put (by decide +kernel)
  refine ⟨_, rfl, a, C, dx, fs, rfl, ha, Y.cl, Y.n_way, ok.len, ?_⟩
  refine ⟨tiny (by show 0 ≤ 1000; decide), fun av hav => ?_⟩
  have na : a ≠ av := fun z => by rw [← z, upd_same] at hav; cases hav
  refine ⟨_, rfl, a, C, dx, _, rfl, (by rw [upd_ne na]; exact upd_same), Y.cl, Y.n_voices, k1.len, ?_⟩
  have k2 := k1.put (f := "voices") (v := .ref av) (by decide +kernel)
  refine ⟨_, rfl, a, C, dx, _, rfl, upd_same, Y.cl, Y.n_head, k2.len, ?_⟩
  have k3 := k2.put (f := "head") (v := .non) (by decide +kernel)
  refine ⟨tiny (by show 0 ≤ 1000; decide), fun aw haw => ?_⟩
  have nw : a ≠ aw := fun z => by rw [← z, upd_same] at haw; cases haw
  have o5 := off_new (a := a) (o := HO.tup []) haw
  refine ⟨_, rfl, a, C, dx, _, rfl, (by rw [upd_ne nw]; exact upd_same), Y.cl, Y.n_waits, k3.len, ?_⟩
  have k4 := k3.put (f := "waits") (v := .ref aw) (by decide +kernel)
  refine q _ av aw _ ⟨upd_same, k4, lk_ne (by decide +kernel) (lk_ne (by decide +kernel) (lk_ne (by decide +kernel) (lk_eq))), lk_ne (by decide +kernel) (lk_ne (by decide +kernel) (lk_eq)), lk_ne (by decide +kernel) (lk_eq), lk_eq, ?_, ?_, fun g hg => ?_, ?_⟩
  · exact off_upd _ _ na.symm (o5 _ _ na.symm (off_upd _ _ na.symm (off_upd _ _ na.symm upd_same)))
  · rw [upd_ne nw.symm]; exact upd_same
  · simp only [List.mem_cons, List.not_mem_nil, or_false, not_or] at hg
    obtain ⟨g1, g2, g3, g4⟩ := hg
    exact lk_ne g4 (lk_ne g3 (lk_ne g2 (lk_ne g1 rfl)))
  · exact off_upd.trans ((off_new hav).trans (off_upd.trans (off_upd.trans (o5.trans off_upd))))
/-- next places and held places anew; the other values as they were -/
structure Knp (C a dx : Addr) (fs fs' : List (Str × V)) (tk tn : Addr) (z : Int) (H H' : Hp) : Prop where
  at_ : H' a = some (.ins C dx fs')
  ok : FsOk fs'
  nexts : fs'.lookup ("nexts" : Str) = some (.ref tk)
  held : fs'.lookup ("held" : Str) = some (.ref tn)
  hn : H' tk = some (.tup (List.replicate 9 (V.int z)))
  hh : H' tn = some (.tup (List.replicate 9 (V.int 0)))
  kept : ∀ g : Str, ¬ g ∈ (["nexts", "held"] : List Str) → fs'.lookup g = fs.lookup g
  off : Off a H H'
def spKnp (C : Addr) : Sp := fun vs H Q _ => ∃ (a dx : Addr) (fs : List (Str × V)) (vr : V) (b l : Int) (es : List En), vs = [.ref a] ∧ H a = some (.ins C dx fs) ∧ FsOk fs ∧ fs.lookup ("row" : Str) = some vr ∧ RwP H vr b l es ∧ ∀ (fs' : List (Str × V)) (tk tn : Addr) (H' : Hp), Knp C a dx fs fs' tk tn (b + (es.length : Int) + 1) H H' → Q .non H'
theorem scKn : FnScope ["self"] ["self"] (defScope s_Keeper_know_no_places) := ⟨rfl, rfl, rfl, by decide +kernel, rfl, by decide +kernel, by decide +kernel⟩
theorem ok_knp {f : Addr} {fd : FuncData} {C : Addr} (Y : KpC K C) (F : Fun K "know_no_places" "Keeper.know_no_places" s_Keeper_know_no_places f fd) (CE : Cal P w K mg base "end_of" 1 ["row"] spEndP) : FnOk P w K mg base CX0 2 f fd ["self"] (spKnp C) := by
  refine F.ok scKn (fun vs H Q E ⟨_, _, _, _, _, _, _, e, _⟩ => by subst e; rfl) (fun cdv A outer s H vs Q E hr h => ?_)
  obtain ⟨a, dx, fs, vr, b, l, es, rfl, ha, ok, lr, hrw, q⟩ := h
  obtain ⟨gE, dE, GE, mE, kE, bE⟩ := CE.ex
  refine ⟨_, @pss_p _ _ _ _ _ (ps_fld (pv 0) (pe_op op_repT (QE.h (qx_tup (qa_b (pe_op op_add (pe_call GE hr (by rfl) mE kE bE .nil pass0 (pa_cons (pe_fld (pv 0) (by rfl)) pa_nil)) (pe_int)) qa_nil))) pe_int) (by rfl))
    (@pss_o _ _ _ (ps_fld (pv 0) (pe_op op_repT (QE.h (qx_tup (qa_int qa_nil))) pe_int) (by rfl))), ?_⟩
  refine ⟨_, rfl, a, C, dx, fs, vr, rfl, ha, Y.cl, Y.n_row, lr, vr, b, l, es, rfl, hrw, _, _, rfl, rfl, tiny (by show 1 ≤ 1000; decide), fun tj htj => ?_⟩
  refine ⟨tj, 9, [V.int (b + (es.length : Int) + 1)], rfl, rfl, upd_same, by simp, by first | decide | (show 1 ≤ 1000; decide), by first | decide | (show 1 ≤ 1000; decide), by first | decide | (show 1 ≤ 1000; decide), fun tk htk => ?_⟩
  have s2 := same_upd (o := HO.tup [V.int (b + (es.length : Int) + 1)]) htj
  have s3 := same_upd (o := HO.tup (List.replicate (9 : Int).toNat [V.int (b + (es.length : Int) + 1)]).flatten) htk
  refine ⟨_, rfl, a, C, dx, fs, rfl, (s2.trans s3) _ _ ha, Y.cl, Y.n_nexts, ok.len, ?_⟩
  have na : tk ≠ a := fun z => by
    have := s2 _ _ ha
    rw [← z] at this
    exact absurd (htk.symm.trans this) (by intro e; cases e)
  have k2 := ok.put (f := "nexts") (v := .ref tk) (by decide +kernel)
  refine ⟨tiny (by show 1 ≤ 1000; decide), fun tl htl => ?_⟩
  refine ⟨tl, 9, [V.int 0], rfl, rfl, upd_same, by simp, by decide, by decide, by decide, fun tn htn => ?_⟩
  have s4 := same_upd (o := HO.tup [V.int 0]) htl
  have s5 := same_upd (o := HO.tup (List.replicate (9 : Int).toNat [V.int 0]).flatten) htn
  have nb : tn ≠ a := fun z => by
    subst z
    exact absurd (htn.symm.trans (s4 tn _ upd_same)) (by intro e; cases e)
  refine ⟨_, rfl, a, C, dx, _, rfl, (s4.trans s5) _ _ upd_same, Y.cl, Y.n_held, k2.len, ?_⟩
  have k3 := k2.put (f := "held") (v := .ref tn) (by decide +kernel)
  refine q _ tk tn _ ⟨upd_same, k3, lk_ne (by decide +kernel) lk_eq, lk_eq, ?_, ?_, fun g hg => ?_, ?_⟩
  · exact off_upd _ _ na ((s4.trans s5) _ _ (off_upd _ _ na upd_same))
  · exact off_upd _ _ nb upd_same
  · simp only [List.mem_cons, List.not_mem_nil, or_false, not_or] at hg
    exact lk_ne hg.2 (lk_ne hg.1 rfl)
  · exact (off_same (s2.trans s3)).trans (off_upd.trans ((off_same (s4.trans s5)).trans off_upd))
theorem plain2 {C a dx : Addr} {fs fs' : List (Str × V)} {av' aw' : Addr} {H H' : Hp} {k : Kst} {vp vr vst : V} {an ah av aw : Addr} (ha : H a = some (.ins C dx fs)) (f : F2 fs k.num k.tm k.vc k.hd k.way k.ag vp vr vst an ah av aw) (S : S2 H k.ms k.ts k.vs k.nx vp vr vst an ah av aw) (pl : Plain C a dx fs fs' av' aw' H H') : F2 fs' k.num k.tm k.vc none "plain" k.ag vp vr vst an ah av' aw' ∧ S2 H' k.ms k.ts [] k.nx vp vr vst an ah av' aw' := by
  have s := pl.off.tups ha
  exact ⟨⟨(pl.kept "number" (by decide +kernel)).trans f.number, (pl.kept "term" (by decide +kernel)).trans f.term, (pl.kept "voice" (by decide +kernel)).trans f.voice, pl.head, pl.way, (pl.kept "pack" (by decide +kernel)).trans f.pack, (pl.kept "row" (by decide +kernel)).trans f.row, (pl.kept "store" (by decide +kernel)).trans f.store, (pl.kept "nexts" (by decide +kernel)).trans f.nexts, (pl.kept "held" (by decide +kernel)).trans f.held, (pl.kept "agreed" (by decide +kernel)).trans f.agreed, pl.voices, pl.waits⟩, ⟨S.pack.offT s, rwO_sameT S.row s, S.store.offT s, s _ _ S.nexts, s _ _ S.held, pl.hv, pl.hw⟩⟩
/-- what wakes has: the values that are kept -/
def spWk2 (C : Addr) : Sp := fun vs H Q _ => ∃ (a dx : Addr) (fs : List (Str × V)) (num tm : Int) (vc : Option Int) (vp vr : V) (ts ms : List Int), vs = [.ref a] ∧ H a = some (.ins C dx fs) ∧ FsOk fs ∧ fs.lookup ("number" : Str) = some (.int num) ∧ fs.lookup ("term" : Str) = some (.int tm) ∧ fs.lookup ("voice" : Str) = some (vcV vc) ∧ fs.lookup ("pack" : Str) = some vp ∧ fs.lookup ("row" : Str) = some vr ∧ PkV H vp ⟨0, 0, ms, ([], [])⟩ ∧ RwP H vr 0 0 (esO ts) ∧ ∀ H', K2V C H' a ⟨num, tm, vc, none, "plain", 0, [], ts, (ts.length : Int) + 1, ms, 0⟩ → Off a H H' → Q .non H'
theorem scWk : FnScope ["self"] ["self"] (defScope s_Keeper_wake) := ⟨rfl, rfl, rfl, by decide +kernel, rfl, by decide +kernel, by decide +kernel⟩
theorem ok_wk2 {f fB fN : Addr} {fd dB dN : FuncData} {C : Addr} (Y : KpC K C) (F : Fun K "wake" "Keeper.wake" s_Keeper_wake f fd) (MB : Meth K C "be_plain" fB) (FB : FnOk P w K mg base CX0 1 fB dB ["self"] (spPlainK C)) (bB : Binds K dB ["self"] []) (MN : Meth K C "know_no_places" fN) (FN : FnOk P w K mg base CX0 2 fN dN ["self"] (spKnp C)) (bN : Binds K dN ["self"] []) : FnOk P w K mg base CX0 3 f fd ["self"] (spWk2 C) := by
  refine F.ok scWk (fun vs H Q E ⟨_, _, _, _, _, _, _, _, _, _, e, _⟩ => by subst e; rfl) (fun cdv A outer s H vs Q E hr h => ?_)
  obtain ⟨a, dx, fs, num, tm, vc, vp, vr, ts, ms, rfl, ha, ok, l1, l2, l3, l4, l5, hp, hrw, q⟩ := h
  have r1 := hr.mono (show 1 ≤ 2 by omega)
  refine ⟨_, @pss_p _ _ _ _ _ (ps_expr (pe_meth0 (pv 0) Y.cl MB FB r1 bB .nil pass0))
    (@pss_p _ _ _ _ _ (ps_expr (pe_meth0 (pv 0) Y.cl MN FN hr bN .nil pass0))
    (@pss_p _ _ _ _ _ (ps_fld (pv 0) (pe_ix ix_tup (pe_fld (pv 0) (by rfl)) pe_int px_i) (by rfl))
    (@pss_o _ _ _ (ps_fld (pv 0) (pe_ix ix_tup (pe_fld (pv 0) (by rfl)) pe_int px_i) (by rfl))))), ?_⟩
  refine ⟨_, rfl, a, dx, fs, rfl, ha, ok.no (by decide +kernel), a, dx, fs, rfl, ha, ok, fun fs1 av aw H1 pl => ?_⟩
  have sT := pl.off.tups ha
  have l5' := (pl.kept "row" (by decide +kernel)).trans l5
  have hrw1 := rwO_sameT hrw sT
  refine ⟨_, rfl, a, dx, fs1, rfl, pl.at_, pl.ok.no (by decide +kernel), a, dx, fs1, vr, 0, 0, esO ts, rfl, pl.at_, pl.ok, l5', hrw1, fun fs2 tk tn H2 kn => ?_⟩
  have s2 := kn.off.tups pl.at_
  have hp2 := (hp.offT sT).offT s2
  have hp2' := hp2
  obtain ⟨pp, pq, pu, rfl, hpp, hpq, hpu⟩ := hp2'
  have kp : ∀ g : Str, ¬ g ∈ (["way", "voices", "head", "waits"] : List Str) → ¬ g ∈ (["nexts", "held"] : List Str) → ∀ x, fs.lookup g = x → fs2.lookup g = x := fun g g1 g2 x e => (kn.kept g g2).trans ((pl.kept g g1).trans e)
  have l4b := kp "pack" (by decide +kernel) (by decide +kernel) _ l4
  refine ⟨_, rfl, a, C, dx, _, .ref pp, rfl, kn.at_, Y.cl, Y.n_pack, l4b, pp, _, _, .int 0, rfl, rfl, SqT.of hpp, atI_nat (j := 0) rfl, _, rfl, a, C, dx, _, rfl, kn.at_, Y.cl, Y.n_agreed, kn.ok.len, ?_⟩
  have k4 := kn.ok.put (f := "agreed") (v := .int 0) (by decide +kernel)
  have np : pp ≠ a := fun z => by rw [z, kn.at_] at hpp; cases hpp
  refine ⟨_, rfl, a, C, dx, _, .ref pp, rfl, upd_same, Y.cl, Y.n_pack, lk_ne (by decide +kernel) l4b, pp, _, _, pu, rfl, rfl, SqT.of (off_upd _ _ np hpp), atI_nat (j := 3) rfl, _, rfl, a, C, dx, _, rfl, upd_same, Y.cl, Y.n_store, k4.len, ?_⟩
  have k5 := k4.put (f := "store") (v := pu) (by decide +kernel)
  have oC : Off a H2 _ := (off_upd (o := HO.ins C dx (L2.putF "agreed" (.int 0) fs2))).trans (off_upd (o := HO.ins C dx (L2.putF "store" pu (L2.putF "agreed" (.int 0) fs2))))
  have sC := oC.tups kn.at_
  have hn2 : H2 tk = some (.tup (List.replicate 9 (V.int ((ts.length : Int) + 1)))) := by
    have e := kn.hn
    rw [show ((0 : Int) + ((esO ts).length : Int) + 1) = (ts.length : Int) + 1 by rw [show (esO ts).length = ts.length from List.length_map ..]; omega] at e
    exact e
  have F0 : F2 fs2 num tm vc none "plain" 0 (.ref pp) vr pu tk tn av aw → True := fun _ => trivial
  clear F0
  refine q _ ⟨dx, _, .ref pp, vr, pu, tk, tn, av, aw, upd_same, ⟨lk_ne (by decide +kernel) (lk_ne (by decide +kernel) (kp "number" (by decide +kernel) (by decide +kernel) _ l1)), lk_ne (by decide +kernel) (lk_ne (by decide +kernel) (kp "term" (by decide +kernel) (by decide +kernel) _ l2)), lk_ne (by decide +kernel) (lk_ne (by decide +kernel) (kp "voice" (by decide +kernel) (by decide +kernel) _ l3)), lk_ne (by decide +kernel) (lk_ne (by decide +kernel) ((kn.kept "head" (by decide +kernel)).trans pl.head)), lk_ne (by decide +kernel) (lk_ne (by decide +kernel) ((kn.kept "way" (by decide +kernel)).trans pl.way)), lk_ne (by decide +kernel) (lk_ne (by decide +kernel) (l4b)), lk_ne (by decide +kernel) (lk_ne (by decide +kernel) (kp "row" (by decide +kernel) (by decide +kernel) _ l5)), lk_eq, lk_ne (by decide +kernel) (lk_ne (by decide +kernel) (kn.nexts)), lk_ne (by decide +kernel) (lk_ne (by decide +kernel) (kn.held)), lk_ne (by decide +kernel) lk_eq, lk_ne (by decide +kernel) (lk_ne (by decide +kernel) ((kn.kept "voices" (by decide +kernel)).trans pl.voices)), lk_ne (by decide +kernel) (lk_ne (by decide +kernel) ((kn.kept "waits" (by decide +kernel)).trans pl.waits))⟩, k5, ⟨hp2.offT sC, rwO_sameT (rwO_sameT hrw1 s2) sC, hpu.offT sC, sC _ _ hn2, sC _ _ kn.hh, sC _ _ (s2 _ _ pl.hv), sC _ _ (s2 _ _ pl.hw)⟩⟩ (pl.off.trans (kn.off.trans oC))
def spW42 (C : Addr) : Sp := fun vs H Q _ => ∃ (a : Addr) (k : Kst), vs = [.ref a] ∧ K2V C H a k ∧ ∀ H', K2V C H' a (wakeF k) → Off a H H' → Q .non H'
theorem ok_w42 {f : Addr} {fd : FuncData} {C : Addr} (F : FnOk P w K mg base CX0 3 f fd ["self"] (spWk2 C)) : FnOk P w K mg base CX0 3 f fd ["self"] (spW42 C) := F.imp fun vs H Q E ⟨a, k, e, hk, q⟩ => by
  subst e
  obtain ⟨dx, fs, vp, vr, vst, an, ah, av, aw, ha, f, ok, S⟩ := hk
  exact ⟨a, dx, fs, k.num, k.tm, k.vc, vp, vr, k.ts, k.ms, rfl, ha, ok, f.number, f.term, f.voice, f.pack, f.row, S.pack, S.row, q⟩
def spHear2 (C : Addr) : Sp := fun vs H Q _ => ∃ (a : Addr) (t : Int) (k : Kst), vs = [.ref a, .int t] ∧ K2V C H a k ∧ ∀ H', K2V C H' a (hearF k t) → Off a H H' → Q .non H'
theorem scHr : FnScope ["self", "term"] ["self", "term"] (defScope s_Keeper_hear) := ⟨rfl, rfl, rfl, by decide +kernel, rfl, by decide +kernel, by decide +kernel⟩
theorem ok_hear2 {f fB : Addr} {fd dB : FuncData} {C : Addr} (Y : KpC K C) (F : Fun K "hear" "Keeper.hear" s_Keeper_hear f fd) (MB : Meth K C "be_plain" fB) (FB : FnOk P w K mg base CX0 1 fB dB ["self"] (spPlainK C)) (bB : Binds K dB ["self"] []) : FnOk P w K mg base CX0 2 f fd ["self", "term"] (spHear2 C) := by
  refine F.ok scHr (fun vs H Q E ⟨_, _, _, e, _⟩ => by subst e; rfl) (fun cdv A outer s H vs Q E hr h => ?_)
  obtain ⟨a, t, k, rfl, hk, q⟩ := h
  refine ⟨_, @pss_o _ _ _ (ps_if (pt_cmpR op_gt (pv 1) (pe_fld (pv 0) (by rfl)) (nomark _)) (@pss_p _ _ _ _ _ (ps_fld (pv 0) (pv 1) (by rfl))
    (@pss_p _ _ _ _ _ (ps_fld (pv 0) (pe_non) (by rfl))
    (@pss_o _ _ _ (ps_expr (pe_meth0 (pv 0) Y.cl MB FB hr bB .nil pass0))))) pss_nil), ?_⟩
  have hk' := hk
  obtain ⟨dx, fs, vp, vr, vst, an, ah, av, aw, ha, f, ok, S⟩ := hk'
  refine ⟨_, rfl, _, rfl, a, C, dx, fs, _, rfl, ha, Y.cl, Y.n_term, f.term, _, _, rfl, rfl, _, rfl, ite2 (fun h => ?_) (fun h => ?_)⟩
  · have e : t > k.tm := of_decide_eq_true h
    unfold hearF at q
    rw [if_pos e] at q
    have k1 : FsOk (L2.putF "term" (.int t) fs) := ok.put (by decide +kernel)
    have k2 := k1.put (f := "voice") (v := .non) (by decide +kernel)
    refine ⟨_, rfl, _, rfl, a, C, dx, fs, rfl, ha, Y.cl, Y.n_term, ok.len, _, rfl, a, C, dx, _, rfl, upd_same, Y.cl, Y.n_voice, k1.len, ?_⟩
    refine ⟨_, rfl, a, dx, _, rfl, upd_same, k2.no (by decide +kernel), a, dx, _, rfl, upd_same, k2, fun fs' av' aw' H' pl => ?_⟩
    have o2 : Off a H _ := (off_upd (o := HO.ins C dx (L2.putF "term" (.int t) fs))).trans (off_upd (o := HO.ins C dx (L2.putF "voice" .non (L2.putF "term" (.int t) fs))))
    have p2 := plain2 (k := { k with tm := t, vc := none }) upd_same ((f.put_term t).put_voice none) (S.sameT (o2.tups ha)) pl
    exact q H' ⟨dx, fs', _, _, _, _, _, av', aw', pl.at_, p2.1, pl.ok, p2.2⟩ (o2.trans pl.off)
  · have e : ¬ t > k.tm := ndec h
    unfold hearF at q
    rw [if_neg e] at q
    exact q H hk Off.refl
def spI42 (C : Addr) : Sp := fun vs H Q _ => ∃ (x q0 dx : Addr) (num : Int) (ms : List Int), vs = [.ref x, .int num, .ref q0] ∧ H x = some (.ins C dx []) ∧ H q0 = some (.tup (ms.map V.int)) ∧ ∀ H', K2V C H' x ⟨num, 0, none, none, "plain", 0, [], [], 1, ms, 0⟩ → Off x H H' → Q .non H'
theorem scIn : FnScope ["self", "number", "seats"] ["self", "number", "seats"] (defScope s_Keeper___init__) := ⟨rfl, rfl, rfl, by decide +kernel, rfl, by decide +kernel, by decide +kernel⟩
theorem ok_init2 {f fW : Addr} {fd dW : FuncData} {C : Addr} (Y : KpC K C) (F : Fun K "__init__" "Keeper.__init__" s_Keeper___init__ f fd) (MW : Meth K C "wake" fW) (FW : FnOk P w K mg base CX0 3 fW dW ["self"] (spWk2 C)) (bW : Binds K dW ["self"] []) (CF : Cal P w K mg base "first_pack" 2 ["seats"] spFp) (CR : Cal P w K mg base "begun" 1 [] spBegP) : FnOk P w K mg base CX0 4 f fd ["self", "number", "seats"] (spI42 C) := by
  refine F.ok scIn (fun vs H Q E ⟨_, _, _, _, _, e, _⟩ => by subst e; rfl) (fun cdv A outer s H vs Q E hr h => ?_)
  obtain ⟨x, q0, dx, num, ms, rfl, hx, hq, q⟩ := h
  obtain ⟨gF, dF, GF, mF, kF, bF⟩ := CF.ex
  obtain ⟨gR, dR, GR, mR, kR, bR⟩ := CR.ex
  have r1 := hr.mono (show 1 ≤ 3 by omega)
  have r2 := hr.mono (show 2 ≤ 3 by omega)
  refine ⟨_, @pss_p _ _ _ _ _ (ps_fld (pv 0) (pv 1) (by rfl))
    (@pss_p _ _ _ _ _ (ps_fld (pv 0) (pe_int) (by rfl))
    (@pss_p _ _ _ _ _ (ps_fld (pv 0) (pe_non) (by rfl))
    (@pss_p _ _ _ _ _ (ps_fld (pv 0) (pe_call GF r2 (by rfl) mF kF bF .nil pass0 (pa_n (pv 2) pa_nil)) (by rfl))
    (@pss_p _ _ _ _ _ (ps_fld (pv 0) (pe_call0 GR r1 (by rfl) mR kR bR .nil pass0) (by rfl))
    (@pss_o _ _ _ (ps_expr (pe_meth0 (pv 0) Y.cl MW FW hr bW .nil pass0))))))), ?_⟩
  have k0 := FsOk.nil
  have k1 := k0.put (f := "number") (v := .int num) (by decide +kernel)
  have k2 := k1.put (f := "term") (v := .int 0) (by decide +kernel)
  have k3 := k2.put (f := "voice") (v := .non) (by decide +kernel)
  refine ⟨_, rfl, _, rfl, x, C, dx, _, rfl, hx, Y.cl, Y.n_number, k0.len, ?_⟩
  refine ⟨_, rfl, x, C, dx, _, rfl, upd_same, Y.cl, Y.n_term, k1.len, ?_⟩
  refine ⟨_, rfl, x, C, dx, _, rfl, upd_same, Y.cl, Y.n_voice, k2.len, ?_⟩
  have o3 : Off x H _ := (off_upd (o := HO.ins C dx (L2.putF "number" (.int num) []))).trans ((off_upd (o := HO.ins C dx (L2.putF "term" (.int 0) (L2.putF "number" (.int num) [])))).trans (off_upd (o := HO.ins C dx (L2.putF "voice" .non (L2.putF "term" (.int 0) (L2.putF "number" (.int num) []))))))
  refine ⟨_, rfl, q0, ms, rfl, (o3.tups hx) _ _ hq, fun vp H1 hp s1 => ?_⟩
  have k4 := k3.put (f := "pack") (v := vp) (by decide +kernel)
  refine ⟨_, rfl, x, C, dx, _, rfl, s1 _ _ upd_same, Y.cl, Y.n_pack, k3.len, ?_⟩
  refine ⟨rfl, fun vr H2 hrw s2 => ?_⟩
  have k5 := k4.put (f := "row") (v := vr) (by decide +kernel)
  refine ⟨_, rfl, x, C, dx, _, rfl, s2 _ _ upd_same, Y.cl, Y.n_row, k4.len, ?_⟩
  have o5 : Off x H1 _ := (off_upd (o := HO.ins C dx (L2.putF "pack" vp (L2.putF "voice" .non (L2.putF "term" (.int 0) (L2.putF "number" (.int num) [])))))).trans ((off_same s2).trans (off_upd (o := HO.ins C dx (L2.putF "row" vr (L2.putF "pack" vp (L2.putF "voice" .non (L2.putF "term" (.int 0) (L2.putF "number" (.int num) []))))))))
  refine ⟨_, rfl, x, dx, _, rfl, upd_same, k5.no (by decide +kernel), x, dx, _, num, 0, none, vp, vr, [], ms, rfl, upd_same, k5, lk_ne (by decide +kernel) (lk_ne (by decide +kernel) (lk_ne (by decide +kernel) (lk_ne (by decide +kernel) (lk_eq)))), lk_ne (by decide +kernel) (lk_ne (by decide +kernel) (lk_ne (by decide +kernel) (lk_eq))), lk_ne (by decide +kernel) (lk_ne (by decide +kernel) (lk_eq)), lk_ne (by decide +kernel) (lk_eq), lk_eq, hp.offT (o5.tups (s1 _ _ upd_same)), rwO_sameT (ts := []) hrw (off_upd.tups (s2 _ _ upd_same)), fun H' hk off => q H' hk (o3.trans ((off_same s1).trans (o5.trans off)))⟩
end
end K1
set_option Elab.async false
set_option linter.all false
set_option maxRecDepth 100000
set_option maxHeartbeats 4000000
namespace K1
open PySem L2 Kp
/-- how many of ns are among ms -/
def amongI (ns ms : List Int) : Nat := (ns.filter fun n => decide (n ∈ ms)).length
/-! ### how many one of them alone has -/
def nine : List Int := [0, 1, 2, 3, 4, 5, 6, 7, 8]
theorem filter_nine {ns : List Int} (h : ns.Nodup) (hr : ∀ m ∈ ns, 0 ≤ m ∧ m ≤ 8) (p : Int → Bool) : (ns.filter p).length = (nine.filter fun n => decide (n ∈ ns) && p n).length := by
  refine List.Perm.length_eq ((List.perm_ext_iff_of_nodup (h.filter _) (List.Pairwise.filter _ (by decide))).mpr fun x => ?_)
  simp only [List.mem_filter, Bool.and_eq_true, decide_eq_true_eq]
  constructor
  · rintro ⟨h1, h2⟩
    refine ⟨?_, h1, h2⟩
    have := hr x h1
    have : x = 0 ∨ x = 1 ∨ x = 2 ∨ x = 3 ∨ x = 4 ∨ x = 5 ∨ x = 6 ∨ x = 7 ∨ x = 8 := by omega
    rcases this with rfl | rfl | rfl | rfl | rfl | rfl | rfl | rfl | rfl <;> decide
  · rintro ⟨_, h⟩; exact h
def holdI (ns hs : List Int) (p : Int) : List Int := ns.filter fun n => decide (p ≤ hs.getD n.toNat 0)
theorem among_hold {ns hs : List Int} {p : Int} : amongI ns (holdI ns hs p) = (holdI ns hs p).length := by
  unfold amongI
  congr 1
  unfold holdI
  apply List.filter_congr
  intro x hx
  rw [Bool.eq_iff_iff]
  simp [hx]
theorem hold_mono {ns hs ls : List Int} {p r : Int} (h : ∀ n ∈ ns, p ≤ hs.getD n.toNat 0 → r ≤ ls.getD n.toNat 0) : (holdI ns hs p).length ≤ (holdI ns ls r).length := by
  unfold holdI
  induction ns with
  | nil => exact Nat.le_refl _
  | cons x l ih =>
    have ih' := ih fun n hn => h n (List.mem_cons_of_mem _ hn)
    have hx := h x (List.mem_cons_self ..)
    simp only [List.filter_cons]
    by_cases h1 : p ≤ hs.getD x.toNat 0
    · have h2 := hx h1
      rw [if_pos (by simpa using h1), if_pos (by simpa using h2)]
      simp only [List.length_cons]; omega
    · rw [if_neg (by simpa using h1)]
      by_cases h2 : r ≤ ls.getD x.toNat 0
      · rw [if_pos (by simpa using h2)]; simp only [List.length_cons]; omega
      · rw [if_neg (by simpa using h2)]; exact ih'
theorem least_of (f : Int → Int) : ∀ {l : List Int}, l ≠ [] → ∃ m ∈ l, ∀ n ∈ l, f m ≤ f n
  | [], h => absurd rfl h
  | [x], _ => ⟨x, List.mem_singleton.mpr rfl, fun n hn => by rw [List.mem_singleton.mp hn]; exact Int.le_refl _⟩
  | x :: y :: l, _ => by
    obtain ⟨m, hm, h⟩ := least_of f (l := y :: l) (by simp)
    by_cases hx : f x ≤ f m
    · exact ⟨x, List.mem_cons_self .., fun n hn => by
        rcases List.mem_cons.mp hn with e | e
        · rw [e]; exact Int.le_refl _
        · exact Int.le_trans hx (h n e)⟩
    · exact ⟨m, List.mem_cons_of_mem _ hm, fun n hn => by
        rcases List.mem_cons.mp hn with e | e
        · rw [e]; omega
        · exact h n e⟩
section
def spMost (K : PySem.W.Frag) : Sp := fun vs H Q _ => ∃ (a b : Addr) (ns ms : List Int), vs = [.ref a, .ref b] ∧ H a = some (.tup (ns.map V.int)) ∧ SqT K H b (ms.map V.int) ∧ ns.Nodup ∧ ns.length ≤ 1000 ∧ ms.length ≤ 1000 ∧ ∀ H', Same H H' → Q (.bl (decide (ns.length < 2 * amongI ns ms))) H'
def spReached (K : PySem.W.Frag) : Sp := fun vs H Q _ => ∃ (a b : Addr) (ns hs : List Int), vs = [.ref a, .ref b] ∧ H a = some (.tup (ns.map V.int)) ∧ H b = some (.tup (hs.map V.int)) ∧ ns.Pairwise (· < ·) ∧ (∀ m ∈ ns, 0 ≤ m ∧ m ≤ 8) ∧ ns ≠ [] ∧ hs.length = 9 ∧ (∀ h ∈ hs, 0 ≤ h) ∧
  ∀ (z : Int) H', Same H H' → 0 ≤ z → z ∈ hs → ns.length < 2 * (holdI ns hs z).length → (∀ p ∈ hs, z < p → 2 * (holdI ns hs p).length ≤ ns.length) → Q (.int z) H'
def spHolders (K : PySem.W.Frag) : Sp := fun vs H Q _ => ∃ (a b : Addr) (ns hs : List Int) (p : Int), vs = [.ref a, .ref b, .int p] ∧ H a = some (.tup (ns.map V.int)) ∧ H b = some (.tup (hs.map V.int)) ∧ ns.Pairwise (· < ·) ∧ (∀ m ∈ ns, 0 ≤ m ∧ m ≤ 8) ∧ hs.length = 9 ∧ ∀ (c : Addr) (H' : Hp), H' c = some (.tup ((holdI ns hs p).map V.int)) → Same H H' → Q (.ref c) H'
end
end K1
set_option Elab.async false
set_option linter.all false
set_option maxRecDepth 100000
set_option maxHeartbeats 4000000
namespace K1
open PySem L2 Kp
section
variable {P : Program} {w : World} {K : PySem.W.Frag} {mg : Str → Option Value} {base : Heap}
def spPut (K : PySem.W.Frag) : Sp := fun vs H Q _ => ∃ (v : V) (b l : Int) (es : List V) (ts : List Int) (pe : Addr) (t : Int) (x : V), vs = [v, .ref pe] ∧ RowX K H v b l es ts ∧ ts.length ≤ 400 ∧ H pe = some (.tup [.int t, x]) ∧ ThN 16 H x ∧ ∀ (u : V) (H' : Hp), RowX K H' u b l (es ++ [.ref pe]) (ts ++ [t]) → Same H H' → Q u H'
theorem scPu : FnScope ["row", "entry"] ["row", "entry"] (defScope s_put) := ⟨rfl, rfl, rfl, by decide +kernel, rfl, by decide +kernel, by decide +kernel⟩
theorem ok_put {f : Addr} {fd : FuncData} (F : Fun K "put" "put" s_put f fd) : FnOk P w K mg base CX0 1 f fd ["row", "entry"] (spPut K) := by
  refine F.ok scPu (fun vs H Q E ⟨_, _, _, _, _, _, _, _, e, _⟩ => by subst e; rfl) (fun cdv A outer s H vs Q E hr h => ?_)
  obtain ⟨v, b, l, es, ts, pe, t, x, rfl, ⟨⟨rb, c, rfl, hb0, hc0⟩, hen, hfew⟩, hl4, hpe, tx, q⟩ := h
  have hb := SqT.of (K := K) hb0
  refine ⟨_, @pss_o _ _ _ (ps_ret (QE.h (qx_tup (qa_s (pe_ix ix_tup (pv 0) (pe_int) px_i) (qa_s (pe_ix ix_tup (pv 0) (pe_int) px_i) (qa_b (pe_op op_catU (pe_ix ix_tup (pv 0) (pe_int) px_i) (QE.h (qx_tup (qa_n (pv 1) qa_nil)))) qa_nil)))))), ?_⟩
  have at0 : atI [V.int b, V.int l, V.ref c] 0 = some (.int b) := atI_nat (j := 0) rfl
  have at1 : atI [V.int b, V.int l, V.ref c] 1 = some (.int l) := atI_nat (j := 1) rfl
  have at2 : atI [V.int b, V.int l, V.ref c] 2 = some (.ref c) := atI_nat (j := 2) rfl
  have hlen := hen.length
  refine ⟨_, rfl, rb, _, _, .int b, rfl, rfl, hb, at0, _, rfl, rb, _, _, .int l, rfl, rfl, hb, at1, _, rfl, rb, _, _, .ref c, rfl, rfl, hb, at2, _, rfl, tiny (by show 1 ≤ 1000; decide), fun p7 hp7 => ?_⟩
  have s7 := same_upd (o := HO.tup [V.ref pe]) hp7
  refine ⟨c, p7, es, [.ref pe], rfl, rfl, s7 _ _ hc0, upd_same, tiny (by show es.length + 1 ≤ 1000; omega), fun p8 H8 h8 s8 => ⟨tiny (by show 3 ≤ 1000; decide), fun p9 hp9 => ?_⟩⟩
  have s9 := same_upd (o := HO.tup [V.int b, V.int l, V.ref p8]) hp9
  have sC := s7.trans (s8.trans s9)
  exact q (.ref p9) _ ⟨⟨p9, p8, rfl, upd_same, s9 _ _ h8⟩, (hen.same sC).append (.cons (sC _ _ hpe) (tx.mono (Nat.le_refl _) sC) .nil), by rw [List.length_append]; show ts.length + 1 ≤ 900; omega⟩ sC
end
end K1
set_option Elab.async false
set_option linter.all false
set_option maxRecDepth 100000
set_option maxHeartbeats 4000000
namespace K1
open PySem L2 Kp
section
variable {P : Program} {w : World} {K : PySem.W.Frag} {mg : Str → Option Value} {base : Heap}
theorem qa_at {X : Cx} {o : Expr} {f : Str} {es : List Expr} {p : Pos} {te : TE} {t : TA} (ha : PE X (.Attribute o f p) te) (r : QA X es t) : QA X (.Attribute o f p :: es) (tCons te t) := ⟨pa_cons ha r.h rfl⟩
theorem pe_fldK {X : Cx} {K : PySem.W.Frag} {e : Expr} {f : Str} {pos : Pos} {ta : TE} (hK : X.K = K) (he : PE X e ta) (hb : attributeBase e f X.env (eval e X.env) = eval e X.env) : PE X (.Attribute e f pos) (tFld K ta f) := by subst hK; exact pe_fld he hb
theorem seatsO (ms : List Int) : ∀ ts : List Int, seatsF ms (esO ts) = ms
  | [] => rfl
  | _ :: ts => seatsO ms ts
theorem ET.entsO {H : Hp} : ∀ {us : List V} {ts : List Int}, ET H us (esO ts) → Ents H us ts
  | _, [], h => by cases h; exact .nil
  | _, t :: ts, h => by
    cases h with
    | cons hp hu r =>
      obtain ⟨q, rfl, hq⟩ := hu
      exact .cons hp (.tup hq (by show 1 ≤ 16; decide) (.cons (.str _ (by decide +kernel)) .nil)) (ET.entsO r)
theorem rwO_row {H : Hp} {v : V} {ts : List Int} (h : RwP H v 0 0 (esO ts)) (hl : ts.length ≤ 100) : ∃ us, ET H us (esO ts) ∧ RowX K H v 0 0 us ts := by
  obtain ⟨r, c, us, e, h1, h2, h3⟩ := h
  exact ⟨us, h3, ⟨r, c, e, h1, h2⟩, h3.entsO, by omega⟩
def spSn2 (C : Addr) : Sp := fun vs H Q _ => ∃ (a : Addr) (k : Kst), vs = [.ref a] ∧ K2V C H a k ∧ ∀ q : Addr, H q = some (.tup (k.ms.map V.int)) → Q (.ref q) H
theorem scSn : FnScope ["keeper"] ["keeper"] (defScope s_seats_now) := ⟨rfl, rfl, rfl, by decide +kernel, rfl, by decide +kernel, by decide +kernel⟩
theorem ok_sn2 {f : Addr} {fd : FuncData} {C : Addr} (Y : KpC K C) (F : Fun K "seats_now" "seats_now" s_seats_now f fd) (CS : Cal P w K mg base "seats_of" 2 ["row", "first"] spSeatsP) : FnOk P w K mg base CX0 3 f fd ["keeper"] (spSn2 C) := by
  refine F.ok scSn (fun vs H Q E ⟨_, _, e, _⟩ => by subst e; rfl) (fun cdv A outer s H vs Q E hr h => ?_)
  obtain ⟨a, k, rfl, hk, q⟩ := h
  obtain ⟨gS, dS, GS, mS, kS, bS⟩ := CS.ex
  refine ⟨_, @pss_o _ _ _ (ps_ret (pe_call GS hr (by rfl) mS kS bS .nil pass0 (pa_cons (pe_fld (pv 0) (by rfl)) (pa_s (pe_ix ix_tup (pe_fld (pv 0) (by rfl)) pe_int px_i) pa_nil)))), ?_⟩
  obtain ⟨dx, fs, vp, vr, vst, an, ah, av, aw, ha, f, ok, S⟩ := hk
  obtain ⟨p, q0, u, rfl, hp1, hq0, _⟩ := S.pack
  exact ⟨_, rfl, a, C, dx, fs, vr, rfl, ha, Y.cl, Y.n_row, f.row, _, rfl, a, C, dx, fs, _, rfl, ha, Y.cl, Y.n_pack, f.pack, p, _, _, .ref q0, rfl, rfl, SqT.of hp1, atI_nat (j := 2) rfl, vr, q0, 0, 0, esO k.ts, k.ms, rfl, S.row, hq0, fun q' hq' => q q' (by rw [seatsO] at hq'; exact hq')⟩
structure KpOk (k : Kst) : Prop where
  up : k.ms.Pairwise (· < ·)
  low : ∀ m ∈ k.ms, 0 ≤ m ∧ m ≤ 8
  some : k.ms ≠ []
  num : 0 ≤ k.num ∧ k.num ≤ 8
  tm : 0 ≤ k.tm
  ts : k.ts.length ≤ 80
  vs : k.vs.length ≤ 20
  few : k.ms.length ≤ 9
def mostK (k : Kst) : Bool := decide (k.ms.length < 2 * amongI k.ms k.vs)
def spHm2 (C : Addr) : Sp := fun vs H Q _ => ∃ (a : Addr) (k : Kst), vs = [.ref a] ∧ K2V C H a k ∧ KpOk k ∧ ∀ H', Same H H' → Q (.bl (mostK k)) H'
theorem scHm : FnScope ["keeper"] ["keeper"] (defScope s_has_most_voices) := ⟨rfl, rfl, rfl, by decide +kernel, rfl, by decide +kernel, by decide +kernel⟩
theorem ok_hm2 {f : Addr} {fd : FuncData} {C : Addr} (Y : KpC K C) (F : Fun K "has_most_voices" "has_most_voices" s_has_most_voices f fd) (CS : Cal P w K mg base "seats_now" 3 ["keeper"] (spSn2 C)) (CM : Cal P w K mg base "most" 2 ["seats", "those"] (spMost K)) : FnOk P w K mg base CX0 4 f fd ["keeper"] (spHm2 C) := by
  refine F.ok scHm (fun vs H Q E ⟨_, _, e, _⟩ => by subst e; rfl) (fun cdv A outer s H vs Q E hr h => ?_)
  obtain ⟨a, k, rfl, hk, ko, q⟩ := h
  obtain ⟨gS, dS, GS, mS, kS, bS⟩ := CS.ex
  obtain ⟨gM, dM, GM, mM, kM, bM⟩ := CM.ex
  have r2 := hr.mono (show 2 ≤ 3 by omega)
  refine ⟨_, @pss_o _ _ _ (ps_ret (pe_call GM r2 (by rfl) mM kM bM .nil pass0 (pa_k (pe_call GS hr (by rfl) mS kS bS .nil pass0 (pa_n (pv 0) pa_nil)) (pa_cons (pe_fld (pv 0) (by rfl)) pa_nil)))), ?_⟩
  have hk' := hk
  obtain ⟨dx, fs, vp, vr, vst, an, ah, av, aw, ha, f, ok, S⟩ := hk'
  refine ⟨_, rfl, a, k, rfl, hk, fun q0 hq0 => ?_⟩
  exact ⟨_, rfl, a, C, dx, fs, _, rfl, ha, Y.cl, Y.n_voices, f.voices, q0, av, k.ms, k.vs, rfl, hq0, SqT.of S.voices, ko.up.imp (fun h => by omega), by have := ko.few; omega, by have := ko.vs; omega, fun H' s => q H' s⟩
def othK (k : Kst) : List Int := k.ms.filter fun m => !decide (m = k.num)
def spOt2 (C : Addr) : Sp := fun vs H Q _ => ∃ (a : Addr) (k : Kst), vs = [.ref a] ∧ K2V C H a k ∧ KpOk k ∧ ∀ (l : Addr) (H' : Hp), H' l = some (.lst ((othK k).map V.int)) → H l = none → Same H H' → Q (.ref l) H'
theorem scOt : FnScope ["keeper"] ["keeper"] (defScope s_other_seats) := ⟨rfl, rfl, rfl, by decide +kernel, rfl, by decide +kernel, by decide +kernel⟩
theorem ok_ot2 {f : Addr} {fd : FuncData} {C : Addr} (Y : KpC K C) (F : Fun K "other_seats" "other_seats" s_other_seats f fd) (CS : Cal P w K mg base "seats_now" 3 ["keeper"] (spSn2 C)) : FnOk P w K mg base CX0 4 f fd ["keeper"] (spOt2 C) := by
  refine F.ok scOt (fun vs H Q E ⟨_, _, e, _⟩ => by subst e; rfl) (fun cdv A outer s H vs Q E hr h => ?_)
  obtain ⟨a, k, rfl, hk, ko, q⟩ := h
  obtain ⟨gS, dS, GS, mS, kS, bS⟩ := CS.ex
  refine ⟨_, @pss_o _ _ _ (ps_ret (pe_comp (NB := ["seat", "keeper"]) (n := 1) (fr := [0]) (compOk1 (outer := defScope s_other_seats) (x := "keeper") (by rfl) (by decide +kernel) (by rfl) (by rfl) (by rfl) (by rfl)) (by rfl) (pi_tup (pe_call GS hr (by rfl) mS kS bS .nil pass0 (pa_n (pv 0) pa_nil)))
      (fun _ _ _ _ _ => pg_name (i := 0) (show (["seat", "keeper"] : List Str).Nodup by decide +kernel) (by rfl) (by exact Or.inl rfl)) (fun _ _ _ _ _ => pifs_one (pt_cmpR op_ne (pv 0) (pe_fldK (K := K) (by rfl) (pv 1) (by rfl)) (nomark _))) (fun _ _ _ _ _ => pv 0))), ?_⟩
  refine ⟨_, rfl, a, k, rfl, hk, fun q0 hq0 => ⟨q0, rfl, ⟨_, SqT.of hq0⟩, comp_fltT (K := K) (ms := k.ms) (SqT.of hq0) (by have := ko.few; omega) (fun m => !decide (m = k.num)) ?_ ?_⟩⟩
  · intro i hi t H4 R s4 ht hR
    obtain ⟨t0, rfl⟩ := one_slot ht
    have hR' := hR [some (.int k.ms[i])] H4 rfl (Same.refl _)
    obtain ⟨dx, fs, vp, vr, vst, an, ah, av, aw, ha, f, ok, S⟩ := hk.same s4
    refine ⟨_, rfl, _, rfl, a, C, dx, fs, _, rfl, ha, Y.cl, Y.n_number, f.number, rfl, _, rfl, ?_⟩
    by_cases hd : k.ms[i] = k.num
    · rw [decide_eq_true hd] at hR'
      rw [decide_eq_true (congrArg V.int hd)]
      exact iteF hR'
    · rw [decide_eq_false hd] at hR'
      rw [decide_eq_false (fun e : V.int k.ms[i] = V.int k.num => hd (by injection e))]
      exact iteT ⟨_, rfl, hR'⟩
  · intro D1 H3 s4 hD hd
    exact q D1 H3 hd hD s4
def spEn2 (C : Addr) : Sp := fun vs H Q _ => ∃ (a p : Addr) (k : Kst), vs = [.ref a, .ref p] ∧ K2V C H a k ∧ KpOk k ∧ H p = some (.tup [.str "open"]) ∧ ∀ H', K2V C H' a { k with ts := k.ts ++ [k.tm] } → Off a H H' → Q .non H'
theorem scEn : FnScope ["keeper", "what"] ["keeper", "what"] (defScope s_enter) := ⟨rfl, rfl, rfl, by decide +kernel, rfl, by decide +kernel, by decide +kernel⟩
theorem ok_en2 {f : Addr} {fd : FuncData} {C : Addr} (Y : KpC K C) (F : Fun K "enter" "enter" s_enter f fd) (CP : Cal P w K mg base "put" 1 ["row", "entry"] (spPut K)) : FnOk P w K mg base CX0 2 f fd ["keeper", "what"] (spEn2 C) := by
  refine F.ok scEn (fun vs H Q E ⟨_, _, _, e, _⟩ => by subst e; rfl) (fun cdv A outer s H vs Q E hr h => ?_)
  obtain ⟨a, p, k, rfl, hk, ko, hp, q⟩ := h
  obtain ⟨gP, dP, GP, mP, kP, bP⟩ := CP.ex
  refine ⟨_, @pss_o _ _ _ (ps_fld (pv 0) (pe_call GP hr (by rfl) mP kP bP .nil pass0 (pa_cons (pe_fld (pv 0) (by rfl)) (pa_t (QE.h (qx_tup (qa_at (pe_fld (pv 0) (by rfl)) (qa_n (pv 1) qa_nil)))) pa_nil))) (by rfl)), ?_⟩
  obtain ⟨dx, fs, vp, vr, vst, an, ah, av, aw, ha, f, ok, S⟩ := hk
  obtain ⟨us, hE, hR⟩ := rwO_row (K := K) S.row (by have := ko.ts; omega)
  refine ⟨_, rfl, a, C, dx, fs, vr, rfl, ha, Y.cl, Y.n_row, f.row, _, rfl, a, C, dx, fs, _, rfl, ha, Y.cl, Y.n_term, f.term, _, rfl, tiny (by show 2 ≤ 1000; decide), fun pe hpe => ?_⟩
  have s1 := same_upd (o := HO.tup [V.int k.tm, V.ref p]) hpe
  refine ⟨vr, 0, 0, us, k.ts, pe, k.tm, .ref p, rfl, hR.same s1, by have := ko.ts; omega, upd_same, .tup (s1 _ _ hp) (by show 1 ≤ 16; decide) (.cons (.str _ (by decide +kernel)) .nil), fun u H2 hR2 s2 => ?_⟩
  have s12 := s1.trans s2
  refine ⟨_, rfl, a, C, dx, fs, rfl, s12 _ _ ha, Y.cl, Y.n_row, ok.len, ?_⟩
  have o2 : Off a H _ := (off_same s12).trans (off_upd (o := HO.ins C dx (L2.putF "row" u fs)))
  have sT := o2.tups ha
  have sU : SameT H2 _ := (off_upd (a := a) (o := HO.ins C dx (L2.putF "row" u fs))).tups (s12 _ _ ha)
  have hRw : RwP H2 u 0 0 (esO (k.ts ++ [k.tm])) := by
    obtain ⟨r, c, e, h1, h2⟩ := hR2.ex
    refine ⟨r, c, _, e, h1, h2, ?_⟩
    unfold esO
    rw [List.map_append]
    exact (hE.same s12).append (.cons (s2 _ _ upd_same) ⟨p, rfl, s12 _ _ hp⟩ .nil)
  exact q _ ⟨dx, _, vp, u, vst, an, ah, av, aw, upd_same, f.put_row u, ok.put (by decide +kernel), ⟨S.pack.offT sT, rwO_sameT hRw sU, S.store.offT sT, sT _ _ S.nexts, sT _ _ S.held, sT _ _ S.voices, sT _ _ S.waits⟩⟩ o2
end
end K1
set_option Elab.async false
set_option linter.all false
set_option maxRecDepth 100000
set_option maxHeartbeats 1000000
namespace L2
open PySem PySem.Spec PyProof.Rows
/-! ### for k, x in enumerate(tuple, start=n) -/
section
variable {prog : Program} {w : World} {A : Around} {E : Value → Shared → Prop} {st : Shared}
theorem drawsT (hh : A.handled = none) (it l : Addr) (hne : l ≠ it) (its : Array Value) (k : Nat) : Draws prog w A it [it, l] (k + its.size) (fun j v => its[j - k]? = some v) (fun j h => k ≤ j ∧ h.IsTupleIter it l (j - k) ∧ h.IsTuple l its) where
  live := fun _ _ x => let ⟨o, ho, _⟩ := x.2.1; ⟨o, ho⟩
  frame := fun _ _ _ x hk => by
    obtain ⟨x0, ⟨o, ho, r⟩, ⟨o2, ho2, r2⟩⟩ := x
    exact ⟨x0, ⟨o, hk it (by simp) o ho, r⟩, ⟨o2, hk l (by simp) o2 ho2, r2⟩⟩
  item := fun j s Q E hi x hQ => by
    obtain ⟨x0, x1, x2⟩ := x
    have hj : j - k < its.size := by omega
    refine draw_tup x1 x2 (x := its[j - k]) (by simp [hj]) fun h' hit' hs' => ?_
    refine hQ _ h' s.toks (by simp [hj]) ⟨by omega, ?_, ?_⟩ hs'
    · rw [show j + 1 - k = j - k + 1 by omega]; exact hit'
    · obtain ⟨o2, ho2, r2⟩ := x2
      exact ⟨o2, hs'.extBut l o2 hne ho2, r2⟩
  done := fun s Q E x hE => by
    obtain ⟨x0, x1, x2⟩ := x
    exact draw_tup_end hh x1 x2 (by simp) hE
theorem enum_stop {e it l : Addr} {i : Nat} {c : Int} {its : Array Value} {old : Value} {Q : Option Value → Shared → Prop} (hh : A.handled = none) (he : IsEnum st.heap e it c old) (hit : st.heap.IsTupleIter it l i) (hl : st.heap.IsTuple l its) (hx : its[i]? = none)
    (hQ : ∀ h', Heap.ExtBut it st.heap h' → Q none { st with heap := h' }) : wpAny (model prog w) A (pyNext (.ref e)) Q E st := by
  have ty : st.TypeIs (.ref e) "enumerate" := ⟨_, he, rfl⟩
  unfold pyNext
  refine wpAny_bind (wpAny_attempt (wpAny_callSpecial?_slot (name := Str.ofString "__next__") ty PySem.F.slot_enumerate_next (wpAny_call_entry PySem.F.slot_enumerate_next ty PySem.F.entry_enumerate_next ?_ (PySem.F.args_enumerate_next_1 _))))
  show wpAny _ _ (field (.ref e) 2 >>= _) _ _ st
  refine wpAny_bind (wpAny_field he rfl (x := .ref it) rfl (wpAny_bind (draw_tup_end hh hit hl hx fun h' x he' ⟨o, ho, hc⟩ => ?_)))
  exact wpAny_bind (wpAny_isInstance (T := "StopIteration") (b := true) ⟨o, ho, hc⟩ isSubtype_stop (wpAny_pure (hQ _ he')))
end
def ItS (K : PySem.W.Frag) (k : Nat) (a : Addr) : It :=
  ⟨fun i H => ∃ xs x, SqT K H a xs ∧ xs[i]? = some x,
   fun i H v H' => ∃ p x, v = .ref p ∧ H p = none ∧ H' = upd H p (.tup [.int ((k + i : Nat) : Int), x]) ∧ ∀ xs, SqT K H a xs → xs[i]? = some x,
   fun i H => ∃ xs, SqT K H a xs ∧ xs.length ≤ i⟩
theorem turn_enumS {P : Program} {w : World} {K : PySem.W.Frag} {es : List Expr} {k0 k : Nat} {tp : Pos} {a e it : Addr} (D : e ≠ it) :
    Turn P w K (.Tuple es k0 tp) (ItS K k a) [e, it] e (fun i h => (∃ old, IsEnum h e it ((k + i : Nat) : Int) old) ∧ h.IsTupleIter it a i) where
  mem := by simp
  obj := fun i h st c hc => by
    obtain ⟨⟨old, h1⟩, o, h2, _, h3⟩ := st
    simp only [List.mem_cons, List.not_mem_nil, or_false] at hc
    rcases hc with rfl | rfl
    · exact ⟨_, h1, fun v z => by cases z⟩
    · exact ⟨o, h2, fun v z => by rw [h3] at z; cases z⟩
  keep := fun i h h' st k => by
    obtain ⟨⟨old, h1⟩, o, h2, h3⟩ := st
    exact ⟨⟨old, k e (by simp) _ h1⟩, o, k it (by simp) o h2, h3⟩
  item := by
    intro X hP hw hK hc i pins s σ H E I hf st hg
    subst hP hw hK
    obtain ⟨⟨old, h1⟩, h2⟩ := st
    obtain ⟨xs, x, q1, hx⟩ := hg
    obtain ⟨its, r1, pl, z1⟩ := I.tuple q1
    obtain ⟨ux, ex, rx⟩ := r1.get hx
    have fe := hf e (by simp)
    have fi := hf it (by simp)
    have nea : a ≠ e := I.sq_ne (t := true) q1 fe
    have nia : a ≠ it := I.sq_ne (t := true) q1 fi
    have hlen : i < its.toArray.size := by simpa using (List.getElem?_eq_some_iff.mp ex).1
    refine wpAny_pyNext_enum_itemD (drawsT (A := X.A.in1) (I.ok.hd hc) it a nia its.toArray k) h1 ⟨Nat.le_add_right _ _, by rw [Nat.add_sub_cancel_left]; exact h2, pl⟩ (by omega) D (by simp [D, Ne.symm nea]) fun ux' h' tk hP heo hst' ht hz hk => ⟨_, rfl, wpAny_letOwnedTupleGo_enum heo fun h2' he2 hs2 => ?_⟩
    obtain ⟨_, hit', _⟩ := hst'
    rw [show k + i + 1 - k = i + 1 by omega] at hit'
    have eux : ux' = ux := by
      rw [Nat.add_sub_cancel_left] at hP
      have : its[i]? = some ux' := by simpa using hP
      rw [ex] at this
      exact (Option.some.inj this).symm
    subst eux
    have lt : ∀ {c o}, s.heap.get? c = some o → s.heap.objs.size ≠ c := fun q => Nat.ne_of_gt (Heap.lt_size q)
    have hk2 : ∀ c o, c ∉ [e, it] → s.heap.get? c = some o → h2'.get? c = some o := fun c o hcn q => by
      simp only [List.mem_cons, List.not_mem_nil, or_false, not_or] at hcn
      exact hs2.extBut c o hcn.1 (hk c o hcn.1 hcn.2 q)
    have I1 : Inv X pins σ H { s with heap := h2', toks := tk + 1 } := by
      refine I.step (g' := s.gens) (d' := s.drawn) (t' := tk + 1) (ch := [e, it]) (fun c hcm => ?_) (fun c o _ _ hcn q _ => hk2 c o hcn q) (fun c o _ _ hcn q _ => ⟨o.slots, hk2 c o hcn q⟩) (fun _ _ _ _ n => n)
        (fun c o hcn q => ⟨o, hk2 c o hcn q⟩) (fun _ _ q => q) (fun _ _ _ q => q) (fun c ps q => ⟨#[], by rw [q]; simp⟩) (fun m hm => ?_) (fun c u' q => ?_) I.bare
      · obtain ⟨_, g1, _, g3, g4, g5⟩ := hf c hcm
        exact ⟨g3, g1, g4, g5⟩
      · obtain ⟨o, es', ep, ho, r⟩ := hm
        exact ⟨o, es', ep, hk2 _ o (fun hm' => (hf _ hm').2.1 rfl) ho, r⟩
      · have nin : ∀ c' u'', H c' = some u'' → c' ∉ [e, it] := fun c' u'' e' hm' => by rw [(hf _ hm').1] at e'; cases e'
        refine (I.hok c u' q).stay (fun c' v' hc' q => hk2 c' v' ?_ q) (fun _ q => q) fun _ _ q => q
        rcases hc' with rfl | hc'
        · exact nin _ _ q
        · exact nin _ _ hc'
    have ne0 : s.heap.objs.size ≠ e := lt h1
    have ni0 : s.heap.objs.size ≠ it := by obtain ⟨o, q, _⟩ := h2; exact lt q
    have hp : h2'.get? s.heap.objs.size = some { cls := .type "tuple", data := .seq #[.int ((k + i : Nat) : Int) tk, ux'] } := hs2.extBut _ _ ne0 ht
    have fp0 : H s.heap.objs.size = none := I.hok.fresh (Nat.le_refl _)
    have I2 : Inv X pins σ (upd H s.heap.objs.size (.tup [.int ((k + i : Nat) : Int), x])) { s with heap := h2', toks := tk + 1 } := by
      refine I1.step (s := { s with heap := h2', toks := tk + 1 }) (g' := s.gens) (d' := s.drawn) (t' := tk + 1) (h' := h2') (ch := [s.heap.objs.size]) (fun c hcm => ?_) (fun c o _ _ _ q _ => q) (fun c o _ _ _ q _ => ⟨o.slots, q⟩) (fun c o hcn q n => ?_)
        (fun c o _ q => ⟨o, q⟩) (fun c xs' q => ?_) (fun c o u' q => ?_) (fun c ps q => ⟨#[], ?_⟩) (fun m hm => hm) (fun c u' q => ?_) I.bare
      · have q : c = s.heap.objs.size := by simpa using hcm
        subst q
        obtain ⟨_, g1, _, g3, g4, g5⟩ := I.fpOk (Nat.le_refl _) fp0
        exact ⟨g3, g1, g4, g5⟩
      · rw [upd_ne (by simpa using hcn)]; exact n
      · rw [upd_ne (ne_of_none q fp0)]; exact q
      · rw [upd_ne (ne_of_none q fp0)]; exact q
      · rw [upd_ne (ne_of_none q fp0), q]; simp
      · by_cases hcs : c = s.heap.objs.size
        · subst hcs
          rw [upd_same] at q
          cases q
          exact ⟨by simp [sizeLine_eq], [.int ((k + i : Nat) : Int) tk, ux'], .cons ⟨_, rfl⟩ (.cons rx .nil), ⟨_, hp, rfl, _, rfl⟩⟩
        · rw [upd_ne hcs] at q
          exact (I1.hok c u' q).stay (fun _ _ _ q => q) (fun c' q => by rw [upd_ne (ne_of_none q fp0)]; exact q) fun c' xs' q => by rw [upd_ne (ne_of_none q fp0)]; exact q
    refine ⟨.ref s.heap.objs.size, _, I2, rfl, ⟨s.heap.objs.size, x, rfl, fp0, rfl, fun xs' q' => by rw [I.sq_inj (t := true) q' q1]; exact hx⟩, ⟨⟨ux', he2⟩, ?_⟩, fun c hcm => ?_⟩
    · obtain ⟨o, q, r⟩ := hit'
      exact ⟨o, hs2.extBut _ o (Ne.symm D) q, r⟩
    · rw [upd_ne (fun q => by
        simp only [List.mem_cons, List.not_mem_nil, or_false] at hcm
        rcases hcm with z | z
        · exact ne0 (by rw [← q]; exact z)
        · exact ni0 (by rw [← q]; exact z))]
      exact (hf c hcm).1
  done := by
    intro X hP hw hK hc i pins s σ H E I hf st hg
    subst hP hw hK
    obtain ⟨⟨old, h1⟩, h2⟩ := st
    obtain ⟨xs, q1, hx⟩ := hg
    obtain ⟨its, r1, pl, z1⟩ := I.tuple q1
    have l1 := r1.length
    have nia : a ≠ it := I.sq_ne (t := true) q1 (hf it (by simp))
    refine enum_stop (I.ok.hd hc) h1 h2 pl (by simp; omega) fun h' hk => ⟨rfl, ?_⟩
    have hk2 : ∀ c o, c ∉ [e, it] → s.heap.get? c = some o → h'.get? c = some o := fun c o hcn q => by
      simp only [List.mem_cons, List.not_mem_nil, or_false, not_or] at hcn
      exact hk c o hcn.2 q
    refine I.step (g' := s.gens) (d' := s.drawn) (t' := s.toks) (ch := [e, it]) (fun c hcm => ?_) (fun c o _ _ hcn q _ => hk2 c o hcn q) (fun c o _ _ hcn q _ => ⟨o.slots, hk2 c o hcn q⟩) (fun _ _ _ _ n => n)
      (fun c o hcn q => ⟨o, hk2 c o hcn q⟩) (fun _ _ q => q) (fun _ _ _ q => q) (fun c ps q => ⟨#[], by rw [q]; simp⟩) (fun m hm => ?_) (fun c u' q => ?_) I.bare
    · obtain ⟨_, g1, _, g3, g4, g5⟩ := hf c hcm
      exact ⟨g3, g1, g4, g5⟩
    · obtain ⟨o, es', ep, ho, r⟩ := hm
      exact ⟨o, es', ep, hk2 _ o (fun hm' => (hf _ hm').2.1 rfl) ho, r⟩
    · have nin : ∀ c' u'', H c' = some u'' → c' ∉ [e, it] := fun c' u'' e' hm' => by rw [(hf _ hm').1] at e'; cases e'
      refine (I.hok c u' q).stay (fun c' v' hc' q => hk2 c' v' ?_ q) (fun _ q => q) fun _ _ q => q
      rcases hc' with rfl | hc'
      · exact nin _ _ q
      · exact nin _ _ hc'
  self := fun _ _ _ _ _ st h => let ⟨_, h1⟩ := st.1; wpAny_pyIter_enum h1 h

section
variable {prog : Program} {w : World} {A : Around} {E : Value → Shared → Prop} {st : Shared}
abbrev kwS (k : Int) (tk : Tok) : List (Str × Value) := [("start", .int k tk)]
theorem typeCall_enumS (a : Value) (k : Int) (tk : Tok) : checkTypeCall "enumerate" ⟨[a], kwS k tk⟩ = pure () := by kernel_rfl
theorem newCall_enumS (a : Value) (k : Int) (tk : Tok) : checkBuiltinCall "enumerate.__new__" ⟨[.type "enumerate", a], kwS k tk⟩ = pure () := by kernel_rfl
theorem args_initS (o a : Value) (k : Int) (tk : Tok) : argsOk "object.__init__" ⟨[o, a], kwS k tk⟩ := by unfold argsOk; kernel_rfl
theorem meets_enumS (l : Addr) (its : Array Value) (k : Int) (tk0 : Tok) (hk : 0 ≤ k ∧ k < 2 ^ 62) :
    Meets (Builtin.«enumerate.__new__» ⟨[.type "enumerate", .ref l], kwS k tk0⟩) (fun _ R s => s.heap.IsTuple l its ∧
      R (.ok (.ret (.ref (s.heap.push (itObj true l)).objs.size))) { s with heap := (s.heap.push (itObj true l)).push { cls := .type "enumerate", data := .fields #[.none, .bool false, .ref s.heap.objs.size, rawInt k, .none, .none] } }) :=
  .of_wp fun prog w A R s h => by
    obtain ⟨hp, g, d, tk, os⟩ := s
    obtain ⟨hl, h⟩ := h
    have hsub := sub_enumerate
    have hfit : Builtin.SmallTypes.fitsIndex k = true := by unfold Builtin.SmallTypes.fitsIndex; simp only [Bool.and_eq_true, decide_eq_true_eq]; omega
    have hL : SqK true (Shared.heap ⟨hp, g, d, tk, os⟩) l its := hl
    wp_walk using iter_sq hL
    refine wpAny_stack_any fun st => wpAny_pure ?_
    split
    · rename_i c _ _ _ _ _
      cases (c == Value.type "enumerate")
      · wp_walk using iter_sq hL
        exact ⟨_, rfl, h⟩
      · wp_walk using iter_sq hL
        exact ⟨_, rfl, h⟩
    · wp_walk using iter_sq hL
      exact ⟨_, rfl, h⟩
theorem initS {self a : Value} {k : Int} {tk : Tok} : Meets (Builtin.«object.__init__» ⟨[self, a], kwS k tk⟩) (fun _ R s => s.TypeIs self "enumerate" ∧ R (.ok (.ret .none)) s) := by
  refine Meets.of_wp fun prog w A R s ⟨hT, hq⟩ => ?_
  have hl := PySem.F.called_enumerate.init.lookup
  have hm := PySem.F.called_enumerate.made
  have hne : (some "enumerate.__new__" != some "object.__new__") = true := by decide
  repeat (any_goals (first | assumption | wp_step))
  exact ⟨_, rfl, hq⟩
theorem call_enumS {l : Addr} {its : Array Value} {k : Int} {tk : Tok} {Q : Value → Shared → Prop} (hk : 0 ≤ k ∧ k < 2 ^ 62) (hl : st.heap.IsTuple l its)
    (h : ∀ h', IsEnum h' (st.heap.objs.size + 1) st.heap.objs.size k .none → h'.IsTupleIter st.heap.objs.size l 0 → (∀ b o, st.heap.get? b = some o → h'.get? b = some o) → Q (.ref (st.heap.objs.size + 1)) { st with heap := h' }) :
    wpAny (model prog w) A (call (.type "enumerate") [.ref l] (kwS k tk)) Q E st := by
  have ft := PySem.F.called_enumerate
  obtain ⟨c, tl, hmro⟩ := ft.mro
  have hmade := ft.made
  have hsub := ft.sub
  have hct := typeCall_enumS (.ref l) k tk
  refine wpAny_call (codeAny_of_tree ?_)
  show wpAny (model prog w) _ (callAny (.type "enumerate") _) _ _ _
  refine wpAny_pure ⟨Code.quiet_builtin _ (by decide +kernel), codeAny_builtin PySem.F.entry_type_call ?_⟩
  rw [Around.under_plain (weight_type_call_type "enumerate" [.ref l] (kwS k tk)) (units_type_call_type "enumerate" [.ref l] (kwS k tk))]
  have h1 := ft.notType
  have h2 := ft.canCreate
  repeat (any_goals (first | assumption | wp_step))
  have key : wpAny (model prog w) A.in1.in1 (Builtin.«enumerate.__new__» ⟨[.type "enumerate", .ref l], kwS k tk⟩) _ _ st := meets_enumS l its k tk hk prog w A.in1 (wants (fun obj s1 => s1.TypeIs obj "enumerate" ∧ Q obj s1) E) st ⟨hl, by
    have hz : (st.heap.push (itObj true l)).objs.size = st.heap.objs.size + 1 := Heap.size_push ..
    have g1 := Heap.get?_push_size (st.heap.push (itObj true l)) (o := { cls := .type "enumerate", data := .fields #[.none, .bool false, .ref st.heap.objs.size, rawInt k, .none, .none] }) rfl
    show _ ∧ _
    rw [hz] at g1 ⊢
    exact ⟨⟨_, g1, rfl⟩, h _ g1 ⟨_, Heap.get?_push_of_some _ (Heap.get?_push_size _ rfl), rfl, rfl⟩ fun b o x => Heap.get?_push_of_some _ (Heap.get?_push_of_some _ x)⟩⟩
  refine codeAny_mono (codeAny_call_builtin ft.plain PySem.F.entry_enumerate_new (wpAny_of_eq (newCall_enumS (.ref l) k tk) key)) fun r s1 hr => ?_
  cases r with
  | error e => exact hr
  | ok fl =>
    cases fl with
    | ret obj =>
      obtain ⟨hT, hq⟩ : s1.TypeIs obj "enumerate" ∧ Q obj s1 := hr
      have hli := ft.init.lookup
      have hbi := ft.init.bind obj
      repeat (any_goals (first | assumption | wp_step))
      refine codeAny_mono (codeAny_call_builtin ft.init.plain PySem.F.entry_object_init (ft.init.check _ _ _ _ _ _ _ _ hT (args_initS obj (.ref l) k tk) (initS prog w A.in1 (wants (fun r s2 => r = .none ∧ Q obj s2) E) s1 ⟨hT, rfl, hq⟩))) fun r2 s2 hr2 => ?_
      cases r2 with
      | error e => exact hr2
      | ok fl2 =>
        cases fl2 with
        | ret r =>
          obtain ⟨rfl, hq2⟩ := hr2
          repeat (any_goals (first | assumption | wp_step))
        | _ => exact hr2.elim
    | _ => exact hr.elim
end
end L2
set_option Elab.async false
set_option linter.all false
set_option maxRecDepth 100000
set_option maxHeartbeats 1000000
namespace L2
open PySem PySem.Spec PyProof.Rows
theorem callWith_typeS {M : Model} {A : Around} {E : Value → Shared → Prop} {s : Shared} {env : Env} {pos : Pos} {T : String} {e : Expr} {rest : List Expr} {kws : List Keyword} {Q : Value → Shared → Prop}
    (h : wpAny M A (spliced (backTo pos (starEach (e :: rest) env))) (fun vs s1 => wpAny M A (evalAll ((backToKw pos (keywordEach kws env)).map (·.2))) (fun ks s2 => wpAny M A (call (.type T) vs (((backToKw pos (keywordEach kws env)).filterMap (·.1)).zip ks)) Q E s2) E s1) E s)
    (he : backTo pos (starEach (e :: rest) env) = (false, eval e env) :: backTo pos (starEach rest env)) (hpl : (backTo pos (starEach (e :: rest) env)).any (·.1) = false) (hall : (backToKw pos (keywordEach kws env)).all (·.1.isSome) = true) (hno : (backToKw pos (keywordEach kws env)).any (·.1.isNone) = false) :
    wpAny M A (callWith pos (.type T) [] (backTo pos (starEach (e :: rest) env)) (backToKw pos (keywordEach kws env))) Q E s := by
  have h2 : wpAny M A (evalArgs (.type T) true (backTo pos (starEach (e :: rest) env)) (backToKw pos (keywordEach kws env))) (fun a s1 => wpAny M A (call (.type T) ([] ++ a.pos) a.kw) Q E s1) E s := by
    rw [he] at h ⊢
    exact evalArgs_kwB hall h
  unfold callWith
  refine wpAny_bind (wpAny_holding (wpAny_mono h2 (fun a s1 h1 => wpAny_bind (wpAny_standAt ?_)) fun _ _ x => x))
  simp only [hpl, hno, Bool.or_false]
  exact wpAny_bind (wpAny_pure (wpAny_bind (wpAny_mono h1 (fun r s2 hr => wpAny_bind (wpAny_holding (wpAny_point (wpAny_pure hr)))) fun _ _ x => x)))
def iEnumS (K : PySem.W.Frag) (ta tk : TA) : TI := fun σ H R => ta σ H fun vs H1 => tk σ H1 fun zs H2 => ∃ a xs, ∃ k : Nat, vs = [.ref a] ∧ zs = [.int (k : Int)] ∧ (k : Int) < 2 ^ 62 ∧ SqT K H2 a xs ∧ R (ItS K k a) H2
theorem pi_enumS {X : Cx} {es0 : List Expr} {k0 : Nat} {tp : Pos} {a : Expr} {ta tk : TA} {kws : List Keyword} {p pos : Pos} (hg : Gl X "enumerate") (hm : X.mg "enumerate" = none) (ha : PA X [a] ta) (hkw : PK X kws tk)
    (hall : (backToKw pos (keywordEach kws X.env)).all (·.1.isSome) = true := by rfl) (hks : (backToKw pos (keywordEach kws X.env)).filterMap (·.1) = (["start"] : List Str) := by rfl) (hno : (backToKw pos (keywordEach kws X.env)).any (·.1.isNone) = false := by rfl)
    (he : backTo pos (starEach [a] X.env) = (false, eval a X.env) :: backTo pos (starEach [] X.env) := by rfl) (hpl : (backTo pos (starEach [a] X.env)).any (·.1) = false := by rfl) :
    PI X (.Tuple es0 k0 tp) (.Call (.Name "enumerate" p) [a] kws pos) (iEnumS X.K ta tk) := by
  intro pins s σ H R I h
  refine wpAny_Call_Name_kw (ld_blt I hg hm boot_enum ?_ (by decide) (by decide))
  refine callWith_typeS (thn (ha pos pins s σ H _ I h) fun us s1 ⟨vs, H1, I1, r1, q1⟩ => thn (hkw pos pins s1 σ H1 _ I1 q1) fun ws s2 ⟨zs, H2, I2, rz, c, xs, k, e1, e2, hk, q2, q⟩ => ?_) he hpl hall hno
  subst e1 e2
  obtain ⟨u, rfl, ru⟩ := vals1 r1
  cases ru
  obtain ⟨w', rfl, t, rfl⟩ := vals1 rz
  rw [hks]
  obtain ⟨its, rr, p1, z1⟩ := I2.tuple q2
  refine call_enumS (its := its.toArray) ⟨by omega, hk⟩ p1 fun h' a1 a2 kk => ?_
  refine wpAny_pyIter_enum (s := { s2 with heap := h' }) a1 ?_
  have I3 : Inv X pins σ H2 { s2 with heap := h' } := I2.kept (t' := s2.toks) kk
  refine ⟨_, [s2.heap.objs.size + 1, s2.heap.objs.size], _, _, H2, rfl, I3, turn_enumS (k := k) (a := c) (enum_apart _), ⟨⟨_, a1⟩, a2⟩, fun x hx => ?_, q⟩
  have hge : s2.heap.objs.size ≤ x := by
    simp only [List.mem_cons, List.not_mem_nil, or_false] at hx
    exact enum_above _ _ hx
  exact I2.fpOk hge (I2.hok.fresh hge)
theorem for_enumS {K : PySem.W.Frag} {a : Addr} {k : Nat} {xs : List V} {g : TG} {tb : TS} {D : Ends} {σ : St} {H : Hp} (Pv : Nat → St → Hp → Prop) (h0 : Pv 0 σ H) (hl : ∀ i σ H, Pv i σ H → SqT K H a xs)
    (hs : ∀ i x p σ H, xs[i]? = some x → H p = none → Pv i σ H → g (.ref p) σ (upd H p (.tup [.int ((k + i : Nat) : Int), x])) fun σ2 H2 => tb { D with nx := Pv (i + 1), ct := Pv (i + 1), bk := D.nx } σ2 H2) (hd : ∀ σ H, Pv xs.length σ H → D.nx σ H) :
    ∃ W : Nat → Nat → St → Hp → Prop, (∃ m, W 0 m σ H) ∧ ∀ i m σ H, W i m σ H →
      ((ItS K k a).stop i H ∧ D.nx σ H) ∨ ((ItS K k a).go i H ∧ ∃ N : St → Hp → Prop, (∀ σ' H', N σ' H' → ∃ m', m' < m ∧ W (i + 1) m' σ' H') ∧ ∀ x H', (ItS K k a).yld i H x H' → g x σ H' fun σ2 H2 => tb { D with nx := N, ct := N, bk := D.nx } σ2 H2) := by
  refine ⟨fun i m σ H => m = xs.length - i ∧ i ≤ xs.length ∧ Pv i σ H, ⟨xs.length, by simp, Nat.zero_le _, h0⟩, ?_⟩
  rintro i m σ H ⟨rfl, hi, p⟩
  have q := hl i σ H p
  by_cases hlt : i < xs.length
  · refine .inr ⟨⟨xs, xs[i], q, by simp [hlt]⟩, Pv (i + 1), fun σ' H' p' => ⟨xs.length - (i + 1), by omega, rfl, hlt, p'⟩, fun x H' y => ?_⟩
    obtain ⟨r, u, e, hr, e2, y1⟩ := y
    subst e e2
    exact hs i u r σ _ (y1 xs q) hr p
  · have e : i = xs.length := by omega
    subst e
    exact .inl ⟨⟨xs, q, Nat.le_refl _⟩, hd σ H p⟩
end L2
set_option Elab.async false
set_option linter.all false
set_option maxRecDepth 100000
set_option maxHeartbeats 4000000
namespace L2
open PySem PySem.Spec PyProof.Rows
/-- t + u of two tuples that are tracked -/
theorem op_catV {X : Cx} : OpR X (binaryOp .Add) (fun x y H Q => ∃ a b xs ys, x = .ref a ∧ y = .ref b ∧ H a = some (.tup xs) ∧ H b = some (.tup ys) ∧ xs.length + ys.length ≤ sizeLine ∧ ∀ p H', H' p = some (.tup (xs ++ ys)) → Same H H' → Q (.ref p) H') := by
  intro pins s σ H x y v u Q I rx ry h
  obtain ⟨a, b, xs, ys, rfl, rfl, ha, hb, hz, q⟩ := h
  by_cases hx : xs = []
  · subst hx
    cases rx
    cases ry
    obtain ⟨its, r1, p1, _⟩ := I.tuple (SqT.of ha)
    obtain ⟨its2, r2, p2, _⟩ := I.tuple (SqT.of hb)
    have e1 : its = [] := r1.nil_iff.mpr rfl
    obtain ⟨⟨cls, dd, data, sl⟩, ho, hc, n, hd⟩ := id p1
    obtain ⟨⟨cls2, dd2, data2, sl2⟩, ho2, hc2, n2, hd2⟩ := id p2
    simp only at hc hd hc2 hd2
    subst hc hd hc2 hd2
    exact concat_meets ⟨_, ho, rfl⟩ ⟨_, ho2, rfl⟩ noFill_tuple_add seq_tuple_add PySem.F.slot_tuple_add PySem.F.entry_tuple_add (PySem.F.args_tuple_add_2 _ _)
      (tuple_addW0 a b its.toArray its2.toArray n n2 dd dd2 sl sl2 (by simp [e1])) ⟨ho, ho2, ⟨.ref b, H, I, rfl, q b H (by simpa using hb) (Same.refl _)⟩⟩
  · refine op_catT pins s σ H (.ref a) (.ref b) v u Q I rx ry ⟨a, b, xs, ys, rfl, rfl, SqT.of ha, SqT.of hb, hx, hz, fun e => ?_, fun _ p hp => ?_⟩
    · subst e
      exact q a H (by simpa using ha) (Same.refl _)
    · exact q p _ upd_same fun c o e => by rw [upd_ne (ne_of_none e hp)]; exact e
end L2
namespace K1
open PySem L2 Kp
section
variable {P : Program} {w : World} {K : PySem.W.Frag} {mg : Str → Option Value} {base : Heap}
theorem pe_nev {X : Cx} {e : Expr} : PE X e (fun _ _ _ => False) := fun _ _ _ _ _ _ h => h.elim
theorem pt_nev {X : Cx} {e : Expr} : PT X e (fun _ _ _ => False) := fun _ _ _ _ _ _ h => h.elim
theorem comp_nil {J : It} {H1 : Hp} {frs : St} {g : TG} {tt : TT} {te : TE} {Q : VK} (stop : ∀ H, Same H1 H → J.stop 0 H) (hq : ∀ D, H1 D = none → Q (.ref D) (upd H1 D (.lst []))) : CompGo frs g tt te Q J H1 := fun D hD =>
  ⟨fun i m ys σ H => i = 0 ∧ H = upd H1 D (.lst []), ⟨0, rfl, rfl⟩, fun i m ys σ H ⟨hi, hH⟩ _ => .inl (by
    subst hi hH
    exact ⟨stop _ (same_upd hD), hq D hD⟩)⟩
def spWp2 : Sp := fun vs H Q _ => ∃ (t : Addr) (j : Nat) (e : Int) (xs : List V), vs = [.ref t, .int j, .int e] ∧ H t = some (.tup xs) ∧ xs.length = 9 ∧ j < 9 ∧ ∀ (r : Addr) (H' : Hp), H' r = some (.tup (xs.set j (.int e))) → Same H H' → Q (.ref r) H'
theorem scWp : FnScope ["places", "number", "place"] ["places", "number", "place"] (defScope s_with_place) := ⟨rfl, rfl, rfl, by decide +kernel, rfl, by decide +kernel, by decide +kernel⟩
theorem ok_wp2 {f : Addr} {fd : FuncData} (F : Fun K "with_place" "with_place" s_with_place f fd) : FnOk P w K mg base CX0 1 f fd ["places", "number", "place"] spWp2 := by
  refine F.ok scWp (fun vs H Q E ⟨_, _, _, _, e, _⟩ => by subst e; rfl) (fun cdv A outer s H vs Q E hr h => ?_)
  obtain ⟨t, j, e, xs, rfl, ht, h9, hj, q⟩ := h
  refine ⟨_, @pss_o _ _ _ (ps_ret (pe_op op_catV (pe_op op_catV (pe_slice sl_tupV (pv 0) (po_none) (po_some (pv 1))) (QE.h (qx_tup (qa_n (pv 2) qa_nil)))) (pe_slice sl_tupV (pv 0) (po_some (pe_op op_add (pv 1) (pe_int))) (po_none)))), ?_⟩
  refine ⟨_, rfl, _, rfl, _, rfl, t, xs, rfl, ht, fun t1 H1 ht1 s1 => ?_⟩
  have ec1 := cut_toN xs j
  have ec2 : cutV xs (some ((j : Int) + 1)) none = xs.drop (j + 1) := cut_fromN xs (j + 1)
  rw [ec1] at ht1
  refine ⟨_, rfl, tiny (by show 1 ≤ 1000; decide), fun t2 ht2 => ?_⟩
  have s2 := same_upd (o := HO.tup [V.int e]) ht2
  refine ⟨t1, t2, _, _, rfl, rfl, s2 _ _ ht1, upd_same, by rw [sizeLine_eq, List.length_take]; show _ + 1 ≤ _; omega, fun t3 H3 ht3 s3 => ?_⟩
  have s13 := (s1.trans s2).trans s3
  refine ⟨_, rfl, _, rfl, _, _, rfl, rfl, _, rfl, t, xs, rfl, s13 _ _ ht, fun t4 H4 ht4 s4 => ?_⟩
  rw [ec2] at ht4
  refine ⟨t3, t4, _, _, rfl, rfl, s4 _ _ ht3, ht4, by rw [sizeLine_eq, List.length_append, List.length_take, List.length_drop]; show _ + 1 + _ ≤ _; omega, fun r H5 hr5 s5 => ?_⟩
  refine q r H5 ?_ ((s13.trans s4).trans s5)
  rw [hr5, List.set_eq_take_append_cons_drop, if_pos (by omega), List.append_assoc]
  rfl
def ownP (k : Kst) : List Int := (List.replicate 9 (0 : Int)).set k.num.toNat (k.ts.length : Int)
def placeF (k : Kst) : Int := if k.ms = [k.num] then (k.ts.length : Int) else 0
theorem ownP_get {k : Kst} (ko : KpOk k) {m : Int} (h0 : 0 ≤ m) (h8 : m ≤ 8) : (ownP k).getD m.toNat 0 = if m = k.num then (k.ts.length : Int) else 0 := by
  have hn := ko.num
  unfold ownP
  by_cases e : m = k.num
  · rw [if_pos e, e, List.getD_eq_getElem?_getD, List.getElem?_set_self (by simp; omega)]; rfl
  · rw [if_neg e, List.getD_eq_getElem?_getD, List.getElem?_set_ne (by omega), List.getElem?_replicate]
    split <;> rfl
theorem reach_own {k : Kst} (ko : KpOk k) (hts : 1 ≤ k.ts.length) {z : Int} (hz : z ∈ ownP k) (h1 : k.ms.length < 2 * (holdI k.ms (ownP k) z).length) (h2 : ∀ p ∈ ownP k, z < p → 2 * (holdI k.ms (ownP k) p).length ≤ k.ms.length) : z = placeF k := by
  have hn := ko.num
  have hz2 : z = 0 ∨ z = (k.ts.length : Int) := by
    unfold ownP at hz
    rcases List.mem_or_eq_of_mem_set hz with h | h
    · exact .inl (List.eq_of_mem_replicate h)
    · exact .inr h
  have he : (k.ts.length : Int) ∈ ownP k := by
    unfold ownP
    exact List.mem_set (by simp; omega) _
  have hold : holdI k.ms (ownP k) (k.ts.length : Int) = k.ms.filter fun m => decide (m = k.num) := by
    unfold holdI
    refine List.filter_congr fun m hm => ?_
    have hb := ko.low m hm
    rw [ownP_get ko hb.1 hb.2]
    by_cases e : m = k.num
    · rw [if_pos e, decide_eq_true e, decide_eq_true (Int.le_refl _)]
    · rw [if_neg e, decide_eq_false e, decide_eq_false (by omega)]
  have one : (k.ms.filter fun m => decide (m = k.num)).length ≤ 1 := by
    have nd : k.ms.Nodup := ko.up.imp (fun h => by omega)
    have := List.nodup_iff_count.mp nd k.num
    rw [List.count_eq_length_filter] at this
    exact this
  unfold placeF
  by_cases hm : k.ms = [k.num]
  · rw [if_pos hm]
    rcases hz2 with rfl | h
    · have := h2 _ he (by omega)
      rw [hold, hm] at this
      simp at this
    · exact h
  · rw [if_neg hm]
    rcases hz2 with h | rfl
    · exact h
    · exfalso
      rw [hold] at h1
      obtain ⟨x, r, ex⟩ : ∃ x r, k.ms = x :: r := by
        cases hms : k.ms with
        | nil => exact absurd hms ko.some
        | cons x r => exact ⟨x, r, rfl⟩
      have hr : r = [] := by
        cases r with
        | nil => rfl
        | cons y r => rw [ex] at h1 one; simp only [List.length_cons] at h1; omega
      subst hr
      rw [ex] at h1 hm
      by_cases e : x = k.num
      · exact hm (by rw [e])
      · simp [e] at h1
def spPh2 (C : Addr) : Sp := fun vs H Q _ => ∃ (a : Addr) (k : Kst), vs = [.ref a] ∧ K2V C H a k ∧ KpOk k ∧ 1 ≤ k.ts.length ∧ ∀ H', Same H H' → Q (.int (placeF k)) H'
theorem scPh : FnScope ["keeper", "held"] ["keeper"] (defScope s_place_held_by_most) := ⟨rfl, rfl, rfl, by decide +kernel, rfl, by decide +kernel, by decide +kernel⟩
theorem ok_ph2 {f : Addr} {fd : FuncData} {C : Addr} (Y : KpC K C) (F : Fun K "place_held_by_most" "place_held_by_most" s_place_held_by_most f fd) (CW : Cal P w K mg base "with_place" 1 ["places", "number", "place"] spWp2) (CE : Cal P w K mg base "end_of" 1 ["row"] spEndP) (CR : Cal P w K mg base "reached" 3 ["seats", "held"] (spReached K)) (CS : Cal P w K mg base "seats_now" 3 ["keeper"] (spSn2 C)) : FnOk P w K mg base CX0 4 f fd ["keeper"] (spPh2 C) := by
  refine F.ok scPh (fun vs H Q E ⟨_, _, e, _⟩ => by subst e; rfl) (fun cdv A outer s H vs Q E hr h => ?_)
  obtain ⟨a, k, rfl, hk, ko, hts, q⟩ := h
  obtain ⟨gW, dW, GW, mW, kW, bW⟩ := CW.ex
  obtain ⟨gE, dE, GE, mE, kE, bE⟩ := CE.ex
  obtain ⟨gR, dR, GR, mR, kR, bR⟩ := CR.ex
  obtain ⟨gS, dS, GS, mS, kS, bS⟩ := CS.ex
  have r1 := hr.mono (show 1 ≤ 3 by omega)
  refine ⟨_, @pss_p _ _ _ _ _ (ps_set (i := 1) scPh.nd (by rfl) (by exact Or.inl rfl) (pe_call GW r1 (by rfl) mW kW bW .nil pass0 (pa_cons (pe_fld (pv 0) (by rfl)) (pa_cons (pe_fld (pv 0) (by rfl)) (pa_k (pe_call GE r1 (by rfl) mE kE bE .nil pass0 (pa_cons (pe_fld (pv 0) (by rfl)) pa_nil)) pa_nil)))))
    (@pss_o _ _ _ (ps_ret (pe_call GR hr (by rfl) mR kR bR .nil pass0 (pa_k (pe_call GS hr (by rfl) mS kS bS .nil pass0 (pa_n (pv 0) pa_nil)) (pa_n (pv 1) pa_nil))))), ?_⟩
  have hk' := hk
  obtain ⟨dx, fs, vp, vr, vst, an, ah, av, aw, ha, f, ok, S⟩ := hk'
  have hn := ko.num
  have en : k.num = ((k.num.toNat : Nat) : Int) := by omega
  have hE : ((0 : Int) + ((esO k.ts).length : Int)) = (k.ts.length : Int) := by rw [show (esO k.ts).length = k.ts.length from List.length_map ..]; omega
  refine ⟨_, rfl, a, C, dx, fs, _, rfl, ha, Y.cl, Y.n_held, f.held, _, rfl, a, C, dx, fs, _, rfl, ha, Y.cl, Y.n_number, f.number, _, rfl, a, C, dx, fs, _, rfl, ha, Y.cl, Y.n_row, f.row, vr, 0, 0, esO k.ts, rfl, S.row, ah, k.num.toNat, (k.ts.length : Int), _, by rw [hE]; exact congrArg (fun z => [V.ref ah, V.int z, V.int (k.ts.length : Int)]) en, S.held, rfl, by omega, fun r H1 hr1 s1 => ?_⟩
  have hr2 : H1 r = some (.tup ((ownP k).map V.int)) := by
    rw [hr1]
    unfold ownP
    rw [List.map_set, List.map_replicate]
  refine ⟨_, rfl, a, k, rfl, hk.same s1, fun q0 hq0 => ?_⟩
  refine ⟨_, rfl, q0, r, k.ms, ownP k, rfl, hq0, hr2, ko.up, ko.low, ko.some, by unfold ownP; simp, fun h hh => ?_, fun z H' s' z0 zm z1 z2 => ?_⟩
  · unfold ownP at hh
    rcases List.mem_or_eq_of_mem_set hh with h | h
    · rw [List.eq_of_mem_replicate h]; exact Int.le_refl _
    · omega
  · have e := reach_own ko hts zm z1 z2
    rw [e]
    exact q H' (s1.trans s')
end
end K1
set_option Elab.async false
set_option linter.all false
set_option maxRecDepth 100000
set_option maxHeartbeats 4000000
namespace K1
open PySem L2 Kp
section
variable {P : Program} {w : World} {K : PySem.W.Frag} {mg : Str → Option Value} {base : Heap}
def spTw2 (C : Addr) : Sp := fun vs H Q _ => ∃ (a : Addr) (i : Int) (k : Kst), vs = [.ref a, .int i] ∧ K2V C H a k ∧ ∀ (l : Addr) (H' : Hp), H' l = some (.lst []) → H l = none → K2V C H' a k → Off a H H' → Q (.ref l) H'
theorem scTw : FnScope ["keeper", "place", "here", "answered"] ["keeper", "place"] (defScope s_tell_waiting) := ⟨rfl, rfl, rfl, by decide +kernel, rfl, by decide +kernel, by decide +kernel⟩
theorem ok_tw2 {f : Addr} {fd : FuncData} {C : Addr} (Y : KpC K C) (F : Fun K "tell_waiting" "tell_waiting" s_tell_waiting f fd) (T : Txt mg) : FnOk P w K mg base CX0 1 f fd ["keeper", "place"] (spTw2 C) := by
  refine F.ok scTw (fun vs H Q E ⟨_, _, _, e, _⟩ => by subst e; rfl) (fun cdv A outer s H vs Q E hr h => ?_)
  obtain ⟨a, i, k, rfl, hk, q⟩ := h
  refine ⟨_, @pss_p _ _ _ _ _ (ps_comp (i := 2) scTw.nd (by rfl) (by exact Or.inl rfl) (NB := ["wait", "place"]) (n := 1) (fr := [1]) (compOk1 (outer := defScope s_tell_waiting) (x := "place") (by rfl) (by decide +kernel) (by rfl) (by rfl) (by rfl) (by rfl)) (by rfl) (pi_tup (pe_fld (pv 0) (by rfl)))
      (fun _ _ _ _ _ => pg_name (i := 0) (show (["wait", "place"] : List Str).Nodup by decide +kernel) (by rfl) (by exact Or.inl rfl)) (fun _ _ _ _ _ => pifs_one pt_nev) (fun _ _ _ _ _ => pe_nev))
    (@pss_p _ _ _ _ _ (ps_fld (pv 0) (pe_callTy call_tuple_of (by rfl) T.tuple boot_tuple (pa_cons (pe_comp (NB := ["wait", "place"]) (n := 1) (fr := [1]) (compOk1 (outer := defScope s_tell_waiting) (x := "place") (by rfl) (by decide +kernel) (by rfl) (by rfl) (by rfl) (by rfl)) (by rfl) (pi_tup (pe_fld (pv 0) (by rfl)))
      (fun _ _ _ _ _ => pg_name (i := 0) (show (["wait", "place"] : List Str).Nodup by decide +kernel) (by rfl) (by exact Or.inl rfl)) (fun _ _ _ _ _ => pifs_one pt_nev) (fun _ _ _ _ _ => pe_nev)) pa_nil)) (by rfl))
    (@pss_p _ _ _ _ _ (ps_comp (i := 3) scTw.nd (by rfl) (by exact Or.inl rfl) (NB := ["wait", "keeper"]) (n := 1) (fr := [0]) (compOk1 (outer := defScope s_tell_waiting) (x := "keeper") (by rfl) (by decide +kernel) (by rfl) (by rfl) (by rfl) (by rfl)) (by rfl) (pi_list (pv 2))
      (fun _ _ _ _ _ => pg_name (i := 0) (show (["wait", "keeper"] : List Str).Nodup by decide +kernel) (by rfl) (by exact Or.inl rfl)) (fun _ _ _ _ _ => pifs_one pt_nev) (fun _ _ _ _ _ => pe_nev))
    (@pss_o _ _ _ (ps_ret (pe_comp (NB := ["wait", "keeper"]) (n := 1) (fr := [0]) (compOk1 (outer := defScope s_tell_waiting) (x := "keeper") (by rfl) (by decide +kernel) (by rfl) (by rfl) (by rfl) (by rfl)) (by rfl) (pi_list (pv 3))
      (fun _ _ _ _ _ => pg_name (i := 0) (show (["wait", "keeper"] : List Str).Nodup by decide +kernel) (by rfl) (by exact Or.inl rfl)) (fun _ _ _ _ _ => pifs_nil) (fun _ _ _ _ _ => pe_nev)))))), ?_⟩
  have hk' := hk
  obtain ⟨dx, fs, vp, vr, vst, an, ah, av, aw, ha, f, ok, S⟩ := hk'
  refine ⟨_, rfl, a, C, dx, fs, _, rfl, ha, Y.cl, Y.n_waits, f.waits, aw, rfl, ⟨_, SqT.of S.waits⟩, comp_nil (fun H2 s2 => ⟨_, SqT.of (s2 _ _ S.waits), Nat.le_refl _⟩) fun D hD => ?_⟩
  have s1 := same_upd (o := HO.lst []) hD
  refine ⟨_, rfl, a, C, dx, fs, _, rfl, (s1 _ _ ha), Y.cl, Y.n_waits, f.waits, aw, rfl, ⟨_, SqT.of (s1 _ _ S.waits)⟩, comp_nil (fun H2 s2 => ⟨_, SqT.of (s2 _ _ (s1 _ _ S.waits)), Nat.le_refl _⟩) fun D2 hD2 => ?_⟩
  have s2 := same_upd (o := HO.lst []) hD2
  have s12 := s1.trans s2
  refine ⟨D2, [], rfl, .inl ⟨SqL.of upd_same, fun t3 ht3 => ?_⟩⟩
  have s3 := same_upd (o := HO.tup []) ht3
  have s13 := s12.trans s3
  refine ⟨_, rfl, a, C, dx, fs, rfl, s13 _ _ ha, Y.cl, Y.n_waits, ok.len, ?_⟩
  have o4 : Off a H _ := (off_same s13).trans (off_upd (o := HO.ins C dx (L2.putF "waits" (.ref t3) fs)))
  have sT := o4.tups ha
  have n3 : t3 ≠ a := fun z => by rw [z, s12 _ _ ha] at ht3; cases ht3
  have hk4 : K2V C (upd (upd (upd (upd H D (.lst [])) D2 (.lst [])) t3 (.tup [])) a (.ins C dx (L2.putF "waits" (.ref t3) fs))) a k := ⟨dx, _, vp, vr, vst, an, ah, av, t3, upd_same, f.put_waits t3, ok.put (by decide +kernel), ⟨S.pack.offT sT, rwO_sameT S.row sT, S.store.offT sT, sT _ _ S.nexts, sT _ _ S.held, sT _ _ S.voices, by rw [upd_ne n3]; exact upd_same⟩⟩
  have nD : D ≠ a := fun z => by rw [z, ha] at hD; cases hD
  have hD4 : upd (upd (upd (upd H D (.lst [])) D2 (.lst [])) t3 (.tup [])) a (.ins C dx (L2.putF "waits" (.ref t3) fs)) D = some (.lst []) := by
    rw [upd_ne nD]
    exact (s2.trans s3) _ _ upd_same
  generalize upd (upd (upd (upd H D (.lst [])) D2 (.lst [])) t3 (.tup [])) a (.ins C dx (L2.putF "waits" (.ref t3) fs)) = H4 at o4 hk4 hD4
  refine ⟨_, rfl, D, rfl, ⟨_, SqL.of hD4⟩, comp_nil (fun H2 s2 => ⟨_, SqL.of (s2 _ _ hD4), Nat.le_refl _⟩) fun D5 hD5 => ?_⟩
  have s5 := same_upd (o := HO.lst []) hD5
  have hD5' : upd H4 D5 (.lst []) D5 = some (.lst []) := upd_same
  refine ⟨_, rfl, D5, rfl, ⟨_, SqL.of hD5'⟩, comp_nil (fun H2 s2 => ⟨_, SqL.of (s2 _ _ hD5'), Nat.le_refl _⟩) fun D6 hD6 => ?_⟩
  have s6 := same_upd (o := HO.lst []) hD6
  have s56 := s5.trans s6
  refine q D6 _ upd_same ?_ (hk4.same s56) (o4.trans (off_same s56))
  cases e : H D6 with
  | none => rfl
  | some o =>
    by_cases hda : D6 = a
    · obtain ⟨dx4, fs4, _, _, _, _, _, _, _, ha4, _⟩ := hk4
      rw [hda, s5 _ _ ha4] at hD6; cases hD6
    · rw [s5 _ _ (o4 _ _ hda e)] at hD6; cases hD6
def spApO : Sp := fun vs H Q _ => ∃ (v : V) (p : Addr), vs = [v, .ref p] ∧ H p = some (.tup [.str "open"]) ∧ Q v H
theorem scAp : FnScope ["store", "what", "pair"] ["store", "what"] (defScope s_applied) := ⟨rfl, rfl, rfl, by decide +kernel, rfl, by decide +kernel, by decide +kernel⟩
theorem ok_apO {f : Addr} {fd : FuncData} (F : Fun K "applied" "applied" s_applied f fd) : FnOk P w K mg base CX0 1 f fd ["store", "what"] spApO := by
  refine F.ok scAp (fun vs H Q E ⟨_, _, e, _⟩ => by subst e; rfl) (fun cdv A outer s H vs Q E hr h => ?_)
  obtain ⟨v, p, rfl, hp, q⟩ := h
  refine ⟨_, @pss_p _ _ _ _ _ (ps_if (PW.pt (pw_or (pt_cmpR op_ne (pe_ix ix_tup (pv 1) (pe_int) px_i) pe_str (nomark _)) (pw_or1 pt_nev))) (@pss_o _ _ _ (ps_ret (pv 0))) pss_nil) pss_never, ?_⟩
  refine ⟨_, rfl, p, _, _, .str "open", rfl, rfl, SqT.of hp, atI_nat (j := 0) rfl, rfl, _, rfl, ?_⟩
  rw [decide_eq_false (fun e : V.str "open" = V.str "wish" => absurd e (by decide +kernel))]
  exact iteT (iteT ⟨_, rfl, q⟩)
def spAf2 (C : Addr) : Sp := fun vs H Q _ => ∃ (a : Addr) (k : Kst), vs = [.ref a] ∧ K2V C H a k ∧ KpOk k ∧ 0 ≤ k.ag ∧ k.ag < (k.ts.length : Int) ∧ ∀ (l : Addr) (H' : Hp), H' l = some (.lst []) → H l = none → K2V C H' a { k with ag := k.ag + 1 } → Off a H H' → Q (.ref l) H'
theorem scAf : FnScope ["keeper", "place"] ["keeper"] (defScope s_agree_on_the_following) := ⟨rfl, rfl, rfl, by decide +kernel, rfl, by decide +kernel, by decide +kernel⟩
theorem ok_af2 {f : Addr} {fd : FuncData} {C : Addr} (Y : KpC K C) (F : Fun K "agree_on_the_following" "agree_on_the_following" s_agree_on_the_following f fd) (CE : Cal P w K mg base "entry_at" 2 ["row", "place"] (spEntIn K)) (CA : Cal P w K mg base "applied" 1 ["store", "what"] spApO) (CT : Cal P w K mg base "tell_waiting" 1 ["keeper", "place"] (spTw2 C)) : FnOk P w K mg base CX0 3 f fd ["keeper"] (spAf2 C) := by
  refine F.ok scAf (fun vs H Q E ⟨_, _, e, _⟩ => by subst e; rfl) (fun cdv A outer s H vs Q E hr h => ?_)
  obtain ⟨a, k, rfl, hk, ko, a0, a1, q⟩ := h
  obtain ⟨gE, dE, GE, mE, kE, bE⟩ := CE.ex
  obtain ⟨gA, dA, GA, mA, kA, bA⟩ := CA.ex
  obtain ⟨gT, dT, GT, mT, kT, bT⟩ := CT.ex
  have r1 := hr.mono (show 1 ≤ 2 by omega)
  refine ⟨_, @pss_p _ _ _ _ _ (ps_set (i := 1) scAf.nd (by rfl) (by exact Or.inl rfl) (pe_op op_add (pe_fld (pv 0) (by rfl)) (pe_int)))
    (@pss_p _ _ _ _ _ (ps_fld (pv 0) (pe_call GA r1 (by rfl) mA kA bA .nil pass0 (pa_cons (pe_fld (pv 0) (by rfl)) (pa_s (pe_ix ix_tup (pe_call GE hr (by rfl) mE kE bE .nil pass0 (pa_cons (pe_fld (pv 0) (by rfl)) (pa_n (pv 1) pa_nil))) pe_int px_i) pa_nil))) (by rfl))
    (@pss_p _ _ _ _ _ (ps_fld (pv 0) (pv 1) (by rfl))
    (@pss_o _ _ _ (ps_ret (pe_call GT r1 (by rfl) mT kT bT .nil pass0 (pa_n (pv 0) (pa_n (pv 1) pa_nil))))))), ?_⟩
  obtain ⟨dx, fs, vp, vr, vst, an, ah, av, aw, ha, f, ok, S⟩ := hk
  obtain ⟨us, hE, hR⟩ := rwO_row (K := K) S.row (by have := ko.ts; omega)
  obtain ⟨j, ej⟩ := Int.eq_ofNat_of_zero_le a0
  have hj : j < (esO k.ts).length := by rw [show (esO k.ts).length = k.ts.length from List.length_map ..]; omega
  obtain ⟨p, u, gp, hp, hu⟩ := hE.get hj
  have eo : ((esO k.ts)[j]).2 = .opn := by simp [esO]
  rw [eo] at hu
  obtain ⟨p2, rfl, hp2⟩ := hu
  refine ⟨_, rfl, a, C, dx, fs, _, rfl, ha, Y.cl, Y.n_agreed, f.agreed, _, _, rfl, rfl, ?_⟩
  refine ⟨_, rfl, a, C, dx, fs, _, rfl, ha, Y.cl, Y.n_store, f.store, _, rfl, a, C, dx, fs, _, rfl, ha, Y.cl, Y.n_row, f.row, _, rfl, vr, 0, 0, us, k.ts, k.ag + 1, rfl, hR, by omega, by unfold endP; omega, fun e he => ?_⟩
  have ei : (k.ag + 1 - 0 - 1).toNat = j := by omega
  rw [ei, gp] at he
  cases he
  refine ⟨p, _, _, .ref p2, rfl, rfl, SqT.of hp, atI_nat (j := 1) rfl, vst, p2, rfl, hp2, ?_⟩
  refine ⟨_, rfl, a, C, dx, fs, rfl, ha, Y.cl, Y.n_store, ok.len, ?_⟩
  have k1 := ok.put (f := "store") (v := vst) (by decide +kernel)
  refine ⟨_, rfl, _, rfl, a, C, dx, _, rfl, upd_same, Y.cl, Y.n_agreed, k1.len, ?_⟩
  have o2 : Off a H _ := (off_upd (o := HO.ins C dx (L2.putF "store" vst fs))).trans (off_upd (o := HO.ins C dx (L2.putF "agreed" (.int (k.ag + 1)) (L2.putF "store" vst fs))))
  have hk2 : K2V C (upd (upd H a (.ins C dx (L2.putF "store" vst fs))) a (.ins C dx (L2.putF "agreed" (.int (k.ag + 1)) (L2.putF "store" vst fs)))) a { k with ag := k.ag + 1 } := ⟨dx, _, vp, vr, vst, an, ah, av, aw, upd_same, (f.put_store vst).put_agreed (k.ag + 1), k1.put (by decide +kernel), S.sameT (o2.tups ha)⟩
  generalize upd (upd H a (.ins C dx (L2.putF "store" vst fs))) a (.ins C dx (L2.putF "agreed" (.int (k.ag + 1)) (L2.putF "store" vst fs))) = H2 at o2 hk2
  refine ⟨_, rfl, _, rfl, a, _, _, rfl, hk2, fun l H3 hl n3 hk3 o3 => q l H3 hl ?_ hk3 (o2.trans o3)⟩
  cases e : H l with
  | none => rfl
  | some o =>
    by_cases hla : l = a
    · obtain ⟨dx4, fs4, _, _, _, _, _, _, _, ha4, _⟩ := hk2
      rw [hla, ha4] at n3; cases n3
    · rw [o2 _ _ hla e] at n3; cases n3
def spSpO : Sp := fun vs H Q _ => ∃ (v : V) (ts : List Int), vs = [v] ∧ RwP H v 0 0 (esO ts) ∧ ts.length ≤ 100 ∧ ∀ H', Same H H' → Q (.int 0) H'
theorem scSeP : FnScope ["row", "base", "last_place", "place", "entry"] ["row"] (defScope s_seats_place) := ⟨rfl, rfl, rfl, by decide +kernel, rfl, by decide +kernel, by decide +kernel⟩
theorem ok_spO {f : Addr} {fd : FuncData} (F : Fun K "seats_place" "seats_place" s_seats_place f fd) (hen : mg "enumerate" = none) (CH : Cal P w K mg base "holds_seats" 1 ["entry"] spHoldP) : FnOk P w K mg base CX0 2 f fd ["row"] spSpO := by
  refine F.ok scSeP (fun vs H Q E ⟨_, _, e, _⟩ => by subst e; rfl) (fun cdv A outer s H vs Q E hr h => ?_)
  obtain ⟨v, ts, rfl, ⟨rb, c, es, rfl, hb, hc, hE⟩, hl, k⟩ := h
  obtain ⟨gH, dH, GH, mH, kH, bH⟩ := CH.ex
  refine ⟨_, @pss_p _ _ _ _ _ (ps_set (i := 1) scSeP.nd (by rfl) (by exact Or.inl rfl) (pe_ix ix_tup (pv 0) (pe_int) px_i))
    (@pss_p _ _ _ _ _ (ps_set (i := 2) scSeP.nd (by rfl) (by exact Or.inl rfl) (pv 1))
    (@pss_p _ _ _ _ _ (ps_for PassesOwn.never (by rfl) (pi_enumS (by rfl) hen (pa_s (pe_ix ix_tup (pv 0) (pe_int) px_i) pa_nil) (pk_cons (pe_op op_add (pv 1) (pe_int)) pk_nil)) (pg_tup (n := 2) (by rfl) (pgs_cons (pg_name (i := 3) scSeP.nd (by rfl) (by exact Or.inl rfl)) (pgs_cons (pg_name (i := 4) scSeP.nd (by rfl) (by exact Or.inl rfl)) pgs_nil))) (@pss_o _ _ _ (ps_if (pt_val (pe_call GH hr (by rfl) mH kH bH .nil pass0 (pa_n (pv 4) pa_nil))) (@pss_o _ _ _ (ps_set (i := 2) scSeP.nd (by rfl) (by exact Or.inl rfl) (pv 3))) pss_nil)))
    (@pss_o _ _ _ (ps_ret (pv 2))))), ?_⟩
  have hlen : es.length = ts.length := by rw [hE.length]; exact List.length_map ..
  refine ⟨_, rfl, rb, _, _, .int 0, rfl, rfl, SqT.of hb, atI_nat (j := 0) rfl, ?_⟩
  refine ⟨_, rfl, ?_⟩
  refine ⟨_, rfl, rb, _, _, .ref c, rfl, rfl, SqT.of hb, atI_nat (j := 2) rfl, _, rfl, _, _, rfl, rfl, c, es, 1, rfl, rfl, by omega, SqT.of hc, for_enumS (K := K) (a := c) (k := 1) (xs := es) (fun i σ H' => ∃ t3 t4 : Option V, σ = [some (.ref rb), some (.int 0), some (.int 0), t3, t4] ∧ Same H H')
    ⟨none, none, rfl, Same.refl _⟩ (fun i σ H' ⟨_, _, _, s1⟩ => SqT.of (s1 _ _ hc)) ?_ ?_⟩
  · rintro i x p σ H' hx hp ⟨t3, t4, rfl, s1⟩
    have hi : i < (esO ts).length := by rw [show (esO ts).length = ts.length from List.length_map .., ← hlen]; exact (List.getElem?_eq_some_iff.mp hx).1
    have s2 := same_upd (o := HO.tup [V.int ((1 + i : Nat) : Int), x]) hp
    obtain ⟨p0, u, gv, hp0, hu⟩ := (hE.same (s1.trans s2)).get hi
    rw [gv] at hx
    cases hx
    have eo : ((esO ts)[i]).2 = .opn := by simp [esO]
    rw [eo] at hu
    refine ⟨p, _, rfl, SqT.of upd_same, rfl, _, _, rfl, _, _, rfl, rfl, ?_⟩
    exact ⟨_, rfl, p0, _, u, .opn, rfl, hp0, hu, _, rfl, iteF ⟨_, _, rfl, s1.trans s2⟩⟩
  · rintro σ H' ⟨t3, t4, rfl, s1⟩
    exact ⟨_, rfl, k H' s1⟩
def spIo2 (C : Addr) : Sp := fun vs H Q _ => ∃ (a : Addr) (k : Kst), vs = [.ref a] ∧ K2V C H a k ∧ KpOk k ∧ 0 ≤ k.ag ∧ ∀ H', Same H H' → Q (.bl (!decide (k.num ∈ k.ms))) H'
theorem scIo : FnScope ["keeper"] ["keeper"] (defScope s_is_out) := ⟨rfl, rfl, rfl, by decide +kernel, rfl, by decide +kernel, by decide +kernel⟩
theorem ok_io2 {f : Addr} {fd : FuncData} {C : Addr} (Y : KpC K C) (F : Fun K "is_out" "is_out" s_is_out f fd) (CP : Cal P w K mg base "seats_place" 2 ["row"] spSpO) (CS : Cal P w K mg base "seats_now" 3 ["keeper"] (spSn2 C)) : FnOk P w K mg base CX0 4 f fd ["keeper"] (spIo2 C) := by
  refine F.ok scIo (fun vs H Q E ⟨_, _, e, _⟩ => by subst e; rfl) (fun cdv A outer s H vs Q E hr h => ?_)
  obtain ⟨a, k, rfl, hk, ko, a0, q⟩ := h
  obtain ⟨gP, dP, GP, mP, kP, bP⟩ := CP.ex
  obtain ⟨gS, dS, GS, mS, kS, bS⟩ := CS.ex
  have r2 := hr.mono (show 2 ≤ 3 by omega)
  refine ⟨_, @pss_o _ _ _ (ps_ret (pe_and (pe_cmpR op_le (pe_call GP r2 (by rfl) mP kP bP .nil pass0 (pa_cons (pe_fld (pv 0) (by rfl)) pa_nil)) (pe_fld (pv 0) (by rfl)) (nomark _)) (pe_one (pe_cmpR op_notIn_seq (pe_fld (pv 0) (by rfl)) (pe_call GS hr (by rfl) mS kS bS .nil pass0 (pa_n (pv 0) pa_nil)) (by rfl))))), ?_⟩
  have hk' := hk
  obtain ⟨dx, fs, vp, vr, vst, an, ah, av, aw, ha, f, ok, S⟩ := hk'
  refine ⟨_, rfl, a, C, dx, fs, _, rfl, ha, Y.cl, Y.n_row, f.row, vr, k.ts, rfl, S.row, by have := ko.ts; omega, fun H1 s1 => ?_⟩
  refine ⟨_, rfl, a, C, dx, fs, _, rfl, (s1 _ _ ha), Y.cl, Y.n_agreed, f.agreed, _, _, rfl, rfl, _, rfl, ite2 (fun _ => ?_) (fun h => absurd (decide_eq_true a0) h)⟩
  refine ⟨_, rfl, a, C, dx, fs, _, rfl, (s1 _ _ ha), Y.cl, Y.n_number, f.number, _, rfl, a, k, rfl, hk.same s1, fun q0 hq0 => ?_⟩
  refine ⟨q0, _, rfl, .inr (SqT.of hq0), rfl, flat_ints _, ?_⟩
  rw [if_pos rfl, in_ints]
  exact q H1 s1
def spSb2 (C : Addr) : Sp := fun vs H Q _ => ∃ (a : Addr) (k : Kst), vs = [.ref a] ∧ K2V C H a k ∧ ∀ H', K2V C H' a { k with way := "plain", hd := none } → Off a H H' → Q .non H'
theorem scSb : FnScope ["keeper"] ["keeper"] (defScope s_step_back) := ⟨rfl, rfl, rfl, by decide +kernel, rfl, by decide +kernel, by decide +kernel⟩
theorem ok_sb2 {f : Addr} {fd : FuncData} {C : Addr} (Y : KpC K C) (F : Fun K "step_back" "step_back" s_step_back f fd) : FnOk P w K mg base CX0 1 f fd ["keeper"] (spSb2 C) := by
  refine F.ok scSb (fun vs H Q E ⟨_, _, e, _⟩ => by subst e; rfl) (fun cdv A outer s H vs Q E hr h => ?_)
  obtain ⟨a, k, rfl, hk, q⟩ := h
  refine ⟨_, @pss_p _ _ _ _ _ (ps_fld (pv 0) (pe_str) (by rfl))
    (@pss_p _ _ _ _ _ (ps_fld (pv 0) (pe_non) (by rfl))
    (@pss_o _ _ _ (ps_fld (pv 0) (QE.h (qx_tup (qa_nil))) (by rfl)))), ?_⟩
  obtain ⟨dx, fs, vp, vr, vst, an, ah, av, aw, ha, f, ok, S⟩ := hk
  refine ⟨_, rfl, a, C, dx, fs, rfl, ha, Y.cl, Y.n_way, ok.len, ?_⟩
  have k1 := ok.put (f := "way") (v := .str "plain") (by decide +kernel)
  refine ⟨_, rfl, a, C, dx, _, rfl, upd_same, Y.cl, Y.n_head, k1.len, ?_⟩
  have k2 := k1.put (f := "head") (v := .non) (by decide +kernel)
  refine ⟨tiny (by show 0 ≤ 1000; decide), fun t3 ht3 => ?_⟩
  have o2 : Off a H _ := (off_upd (o := HO.ins C dx (L2.putF "way" (.str "plain") fs))).trans (off_upd (o := HO.ins C dx (L2.putF "head" .non (L2.putF "way" (.str "plain") fs))))
  have s3 := same_upd (o := HO.tup []) ht3
  have n3 : t3 ≠ a := fun z => by rw [z, upd_same] at ht3; cases ht3
  refine ⟨_, rfl, a, C, dx, _, rfl, s3 _ _ upd_same, Y.cl, Y.n_waits, k2.len, ?_⟩
  have o4 := o2.trans ((off_same s3).trans (off_upd (o := HO.ins C dx (L2.putF "waits" (.ref t3) (L2.putF "head" .non (L2.putF "way" (.str "plain") fs))))))
  have sT := o4.tups ha
  exact q _ ⟨dx, _, vp, vr, vst, an, ah, av, t3, upd_same, ((f.put_way "plain").put_head none).put_waits t3, k2.put (by decide +kernel), ⟨S.pack.offT sT, rwO_sameT S.row sT, S.store.offT sT, sT _ _ S.nexts, sT _ _ S.held, sT _ _ S.voices, by rw [upd_ne n3]; exact upd_same⟩⟩ o4
end
end K1
set_option Elab.async false
set_option linter.all false
set_option maxRecDepth 100000
set_option maxHeartbeats 4000000
namespace K1
open PySem L2 Kp
section
variable {P : Program} {w : World} {K : PySem.W.Frag} {mg : Str → Option Value} {base : Heap}
structure AgOk (k : Kst) : Prop where
  ok : KpOk k
  ts1 : 1 ≤ k.ts.length
  last : endT 0 k.ts = k.tm
  tm1 : 1 ≤ k.tm
  ag0 : 0 ≤ k.ag
  ag1 : k.ag ≤ (k.ts.length : Int)
def agk (k : Kst) : Kst := if k.ms = [k.num] then { k with ag := (k.ts.length : Int) } else k
def outF (k : Kst) : Kst := if k.num ∈ k.ms then k else { k with way := "plain", hd := none }
theorem agr_end {ts : List Int} {tm : Int} (h : endT 0 ts = tm) : agreesB 0 0 ts (ts.length : Int) tm = true := by
  have e : (ts.length : Int) = endP 0 ts := by unfold endP; omega
  rw [e]
  unfold agreesB
  rw [termAt_end, h]
  simp
theorem agr_zero {ts : List Int} {tm : Int} (h : 1 ≤ tm) : agreesB 0 0 ts 0 tm = false := by
  unfold agreesB termAt
  rw [if_pos rfl, decide_eq_false (show ¬ (0 : Int) = tm by omega)]
  simp
theorem KpOk.ag {k : Kst} (h : KpOk k) (g : Int) : KpOk { k with ag := g } := ⟨h.up, h.low, h.some, h.num, h.tm, h.ts, h.vs, h.few⟩
theorem agk_ok {k : Kst} (h : AgOk k) : KpOk (agk k) ∧ 0 ≤ (agk k).ag ∧ (agk k).num = k.num ∧ (agk k).ms = k.ms := by
  unfold agk
  by_cases e : k.ms = [k.num]
  · rw [if_pos e]
    exact ⟨h.ok.ag _, by show (0 : Int) ≤ (k.ts.length : Int); omega, rfl, rfl⟩
  · rw [if_neg e]
    exact ⟨h.ok, h.ag0, rfl, rfl⟩
def tA2 (C : Addr) : TS := fun D σ H => ∃ (a l : Addr) (k : Kst), σ = [some (.ref a), some (.int (placeF k)), some (.ref l)] ∧ K2V C H a k ∧ AgOk k ∧ H l = some (.lst []) ∧ ∀ H', K2V C H' a (agk k) → H' l = some (.lst []) → Off a H H' → D.nx [some (.ref a), some (.int (placeF k)), some (.ref l)] H'
def spAg2 (C : Addr) : Sp := fun vs H Q _ => ∃ (a : Addr) (k : Kst), vs = [.ref a] ∧ K2V C H a k ∧ AgOk k ∧ ∀ (l : Addr) (H' : Hp), H' l = some (.lst []) → H l = none → K2V C H' a (outF (agk k)) → Off a H H' → Q (.ref l) H'
theorem scAg2 : FnScope ["keeper", "place", "letters"] ["keeper"] (defScope s_agree) := ⟨rfl, rfl, rfl, by decide +kernel, rfl, by decide +kernel, by decide +kernel⟩
theorem ok_ag2 {f : Addr} {fd : FuncData} {C : Addr} (Y : KpC K C) (F : Fun K "agree" "agree" s_agree f fd) (CH : Cal P w K mg base "place_held_by_most" 4 ["keeper"] (spPh2 C)) (CA : Cal P w K mg base "agrees" 4 ["row", "place", "last"] (spAgrees K)) (CF : Cal P w K mg base "agree_on_the_following" 3 ["keeper"] (spAf2 C)) (CI : Cal P w K mg base "is_out" 4 ["keeper"] (spIo2 C)) (CB : Cal P w K mg base "step_back" 1 ["keeper"] (spSb2 C)) : FnOk P w K mg base CX0 5 f fd ["keeper"] (spAg2 C) := by
  refine F.ok scAg2 (fun vs H Q E ⟨_, _, e, _⟩ => by subst e; rfl) (fun cdv A outer s H vs Q E hr h => ?_)
  obtain ⟨a, k, rfl, hk, ko, q⟩ := h
  obtain ⟨gH, dH, GH, mH, kH, bH⟩ := CH.ex
  obtain ⟨gA, dA, GA, mA, kA, bA⟩ := CA.ex
  obtain ⟨gF, dF, GF, mF, kF, bF⟩ := CF.ex
  obtain ⟨gI, dI, GI, mI, kI, bI⟩ := CI.ex
  obtain ⟨gB, dB, GB, mB, kB, bB⟩ := CB.ex
  have r1 := hr.mono (show 1 ≤ 4 by omega)
  have r3 := hr.mono (show 3 ≤ 4 by omega)
  refine ⟨_, @pss_p _ _ _ _ _ (ps_set (i := 1) scAg2.nd (by rfl) (by exact Or.inl rfl) (pe_call GH hr (by rfl) mH kH bH .nil pass0 (pa_n (pv 0) pa_nil)))
    (@pss_p _ _ _ _ _ (ps_set (i := 2) scAg2.nd (by rfl) (by exact Or.inl rfl) (pe_lst pa_nil))
    (@pss_p _ _ _ _ _ (PS.weakU (t' := tA2 C) (ps_if (pt_val (pe_call GA hr (by rfl) mA kA bA .nil pass0 (pa_cons (pe_fld (pv 0) (by rfl)) (pa_n (pv 1) (pa_cons (pe_fld (pv 0) (by rfl)) pa_nil))))) (@pss_o _ _ _ (ps_while PassesOwn.never (pt_cmpR op_lt (pe_fld (pv 0) (by rfl)) (pv 1) (nomark _)) (@pss_o _ _ _ (ps_expr (pe_bm PySem.F.plainAttrs_list PySem.F.slot_list_extend PySem.F.type_list_extend mt_extend (pv 2) (pa_k (pe_call GF r3 (by rfl) mF kF bF .nil pass0 (pa_n (pv 0) pa_nil)) pa_nil)))))) pss_nil) ?w1)
    (@pss_p _ _ _ _ _ (ps_if (pt_val (pe_call GI hr (by rfl) mI kI bI .nil pass0 (pa_n (pv 0) pa_nil))) (@pss_o _ _ _ (ps_expr (pe_call GB r1 (by rfl) mB kB bB .nil pass0 (pa_n (pv 0) pa_nil)))) pss_nil)
    (@pss_o _ _ _ (ps_ret (pv 2)))))), ?_⟩
  case w1 =>
    rintro D σ H ⟨a, l, k, rfl, hk, ko, hl, q⟩
    have hk' := hk
    obtain ⟨dx, fs, vp, vr, vst, an, ah, av, aw, ha, f, ok, S⟩ := hk'
    obtain ⟨us, hE, hR⟩ := rwO_row (K := K) S.row (by have := ko.ok.ts; omega)
    have nl : l ≠ a := fun z => by rw [z, ha] at hl; cases hl
    refine ⟨_, rfl, a, C, dx, fs, _, rfl, ha, Y.cl, Y.n_row, f.row, _, rfl, _, rfl, a, C, dx, fs, _, rfl, ha, Y.cl, Y.n_term, f.term, vr, k.tm, placeF k, 0, 0, k.ts, rfl, ⟨us, hR⟩, _, rfl, ?_⟩
    unfold agk at q
    by_cases hm : k.ms = [k.num]
    · rw [if_pos hm] at q
      have ep : placeF k = (k.ts.length : Int) := by unfold placeF; rw [if_pos hm]
      rw [ep, agr_end ko.last]
      rw [ep] at q
      refine iteT ⟨fun m σ' H' => ∃ g : Int, m = ((k.ts.length : Int) - g).toNat ∧ 0 ≤ g ∧ g ≤ (k.ts.length : Int) ∧ σ' = [some (.ref a), some (.int (k.ts.length : Int)), some (.ref l)] ∧ K2V C H' a { k with ag := g } ∧ H' l = some (.lst []) ∧ Off a H H', ⟨_, k.ag, rfl, ko.ag0, ko.ag1, rfl, hk, hl, Off.refl⟩, ?_⟩
      rintro m σ' H' ⟨g, rfl, g0, g1, rfl, hk1, hl1, o1⟩
      have hk1' := hk1
      obtain ⟨dx1, fs1, vp1, vr1, vst1, an1, ah1, av1, aw1, ha1, f1, ok1, S1⟩ := hk1'
      refine ⟨_, rfl, a, C, dx1, fs1, _, rfl, ha1, Y.cl, Y.n_agreed, f1.agreed, _, rfl, _, _, rfl, rfl, _, rfl, ite2 (fun h => ?_) (fun h => ?_)⟩
      · have hg : g < (k.ts.length : Int) := of_decide_eq_true h
        refine ⟨fun σ2 H2 => σ2 = [some (.ref a), some (.int (k.ts.length : Int)), some (.ref l)] ∧ K2V C H2 a { k with ag := g + 1 } ∧ H2 l = some (.lst []) ∧ Off a H H2, fun σ2 H2 ⟨e2, hk2, hl2, o2⟩ => ⟨_, (by show ((k.ts.length : Int) - (g + 1)).toNat < ((k.ts.length : Int) - g).toNat; omega), g + 1, rfl, by omega, by omega, e2, hk2, hl2, o2⟩, ?_⟩
        refine ⟨_, rfl, .inl ⟨rfl, _, SqL.of hl1⟩, _, rfl, a, _, rfl, hk1, ko.ok.ag g, g0, hg, fun l2 H2 hl2 n2 hk2 o2 => ?_⟩
        have hl3 := o2 _ _ nl hl1
        refine ⟨l, l2, [], [], rfl, rfl, hl3, hl2, by rw [sizeLine_eq]; exact Nat.le_of_ble_eq_true rfl, rfl, ?_, upd_same, ?_⟩
        · refine hk2.frame (fun b xs e => ?_) fun o e => ?_
          · rw [upd_ne (fun z => by rw [z, hl3] at e; cases e)]; exact e
          · rw [upd_ne nl.symm]; exact e
        · refine (o1.trans o2).trans fun b o n e => ?_
          by_cases hb : b = l
          · subst hb; rw [hl3] at e; cases e; exact upd_same
          · rw [upd_ne hb]; exact e
      · have hg : g = (k.ts.length : Int) := by
          have h2 : ¬ g < (k.ts.length : Int) := ndec h
          omega
        subst hg
        exact q H' hk1 hl1 o1
    · rw [if_neg hm] at q
      have ep : placeF k = 0 := by unfold placeF; rw [if_neg hm]
      rw [ep, agr_zero ko.tm1]
      rw [ep] at q
      exact iteF (q H hk hl Off.refl)
  refine ⟨_, rfl, a, k, rfl, hk, ko.ok, ko.ts1, fun H1 s1 => ?_⟩
  refine ⟨tiny (by show 0 ≤ 1000; decide), fun l hl => ?_⟩
  have s2 := same_upd (o := HO.lst []) hl
  have s12 := s1.trans s2
  refine ⟨a, l, k, rfl, hk.same s12, ko, upd_same, fun H3 hk3 hl3 o3 => ?_⟩
  obtain ⟨ok3, ag3, en, em⟩ := agk_ok ko
  have nl : l ≠ a := fun z => by
    obtain ⟨dx4, fs4, _, _, _, _, _, _, _, ha4, _⟩ := hk3
    rw [z, ha4] at hl3; cases hl3
  have nH : H l = none := by
    cases e : H l with
    | none => rfl
    | some o => rw [s1 _ _ e] at hl; cases hl
  refine ⟨_, rfl, a, agk k, rfl, hk3, ok3, ag3, fun H4 s4 => ⟨_, rfl, ?_⟩⟩
  have o4 := ((off_same s12).trans o3).trans (off_same (a := a) s4)
  unfold outF at q
  by_cases hm : (agk k).num ∈ (agk k).ms
  · rw [if_pos hm] at q
    rw [decide_eq_true hm]
    exact iteF ⟨_, rfl, q l H4 (s4 _ _ hl3) nH (hk3.same s4) o4⟩
  · rw [if_neg hm] at q
    rw [decide_eq_false hm]
    exact iteT ⟨_, rfl, a, agk k, rfl, hk3.same s4, fun H5 hk5 o5 => ⟨_, rfl, q l H5 (o5 _ _ nl (s4 _ _ hl3)) nH hk5 (o4.trans o5)⟩⟩
end
end K1
set_option Elab.async false
set_option linter.all false
set_option maxRecDepth 100000
set_option maxHeartbeats 4000000
namespace K1
open PySem L2 Kp
section
variable {P : Program} {w : World} {K : PySem.W.Frag} {mg : Str → Option Value} {base : Heap}
theorem scEo : FnScope ["row"] ["row"] (defScope s_end_of) := ⟨rfl, rfl, rfl, by decide +kernel, rfl, by decide +kernel, by decide +kernel⟩
theorem ok_end_of {f : Addr} {fd : FuncData} (F : Fun K "end_of" "end_of" s_end_of f fd) (T : Txt mg) : FnOk P w K mg base CX0 1 f fd ["row"] (spEndOf K) := by
  refine F.ok scEo (fun vs H Q E ⟨_, _, _, _, e, _⟩ => by subst e; rfl) (fun cdv A outer s H vs Q E hr h => ?_)
  obtain ⟨v, b, l, ts, rfl, ⟨es, ⟨rb, c, rfl, hb, hc⟩, hen, hfew⟩, q⟩ := h
  replace hb := SqT.of (K := K) hb
  replace hc := SqT.of (K := K) hc
  refine ⟨_, @pss_o _ _ _ (ps_ret (pe_op op_add (pe_ix ix_tup (pv 0) (pe_int) px_i) (pe_callB call_len_seq (by rfl) T.len PySem.boot_len (pa_s (pe_ix ix_tup (pv 0) (pe_int) px_i) pa_nil)))), ?_⟩
  have hlen := hen.length
  refine ⟨_, rfl, rb, _, _, .int b, rfl, rfl, hb, atI_nat (j := 0) rfl, _, rfl, rb, _, _, .ref c, rfl, rfl, hb, atI_nat (j := 2) rfl, c, es, rfl, .inr hc, _, _, rfl, rfl, ?_⟩
  have e : b + (es.length : Int) = endP b ts := by unfold endP; rw [hlen]
  show Q (.int (b + (es.length : Int))) H
  rw [e]; exact q
end
end K1
set_option Elab.async false
set_option linter.all false
set_option maxRecDepth 100000
set_option maxHeartbeats 4000000
namespace K1
open PySem L2 Kp
section
variable {P : Program} {w : World} {K : PySem.W.Frag} {mg : Str → Option Value} {base : Heap}
theorem scEa : FnScope ["row", "place", "base"] ["row", "place"] (defScope s_entry_at) := ⟨rfl, rfl, rfl, by decide +kernel, rfl, by decide +kernel, by decide +kernel⟩
theorem ok_entry_at {f : Addr} {fd : FuncData} (F : Fun K "entry_at" "entry_at" s_entry_at f fd) (CE : Cal P w K mg base "end_of" 1 ["row"] (spEndOf K)) : FnOk P w K mg base CX0 2 f fd ["row", "place"] (spEntIn K) := by
  refine F.ok scEa (fun vs H Q E ⟨_, _, _, _, _, _, e, _⟩ => by subst e; rfl) (fun cdv A outer s H vs Q E hr h => ?_)
  obtain ⟨v, b, l, es, ts, p, rfl, hX, hlt, hle, q⟩ := h
  have hX' := hX
  obtain ⟨⟨rb, c, rfl, hb, hc⟩, hen, hfew⟩ := hX'
  replace hb := SqT.of (K := K) hb
  replace hc := SqT.of (K := K) hc
  obtain ⟨gE, dE, GE, mE, kE, bE⟩ := CE.ex
  refine ⟨_, @pss_p _ _ _ _ _ (ps_set (i := 2) scEa.nd (by rfl) (by exact Or.inl rfl) (pe_ix ix_tup (pv 0) (pe_int) px_i))
    (@pss_p _ _ _ _ _ (ps_if (PW.pt (pw_or (pt_cmpR op_le (pv 1) (pv 2) (nomark _)) (pw_or1 (pt_cmpR op_gt (pv 1) (pe_call GE hr (by rfl) mE kE bE .nil pass0 (pa_n (pv 0) pa_nil)) (nomark _))))) (@pss_o _ _ _ ps_never) pss_nil)
    (@pss_o _ _ _ (ps_ret (pe_ix ix_tup (pe_ix ix_tup (pv 0) (pe_int) px_i) (pe_op op_sub (pe_op op_sub (pv 1) (pv 2)) (pe_int)) px_b)))), ?_⟩
  have hlen := hen.length
  have hle' := hle
  unfold endP at hle'
  obtain ⟨j, ej⟩ := Int.eq_ofNat_of_zero_le (show 0 ≤ p - b - 1 by omega)
  have hj : j < es.length := by omega
  refine ⟨_, rfl, rb, _, _, .int b, rfl, rfl, hb, atI_nat (j := 0) rfl, ?_⟩
  refine ⟨_, rfl, _, rfl, _, _, rfl, rfl, _, rfl, ite2 (fun h => absurd (of_decide_eq_true h) (by omega)) (fun _ => ?_)⟩
  refine ⟨_, rfl, _, rfl, _, b, l, ts, rfl, ⟨es, hX⟩, _, _, rfl, rfl, _, rfl, ite2 (fun h => absurd (of_decide_eq_true h) (by omega)) (fun _ => ?_)⟩
  refine ⟨_, rfl, rb, _, _, .ref c, rfl, rfl, hb, atI_nat (j := 2) rfl, _, rfl, _, rfl, _, _, rfl, rfl, _, _, rfl, rfl, c, es, _, es[j], rfl, rfl, hc, ?_, q es[j] ?_⟩
  · show atI es (p - b - 1) = _
    rw [ej]; exact atI_nat (by simp [hj])
  · rw [ej]; simp [hj]
theorem scTa : FnScope ["row", "place", "base"] ["row", "place"] (defScope s_term_at) := ⟨rfl, rfl, rfl, by decide +kernel, rfl, by decide +kernel, by decide +kernel⟩
theorem ok_term_at {f : Addr} {fd : FuncData} (F : Fun K "term_at" "term_at" s_term_at f fd) (CA : Cal P w K mg base "entry_at" 2 ["row", "place"] (spEntIn K)) : FnOk P w K mg base CX0 3 f fd ["row", "place"] (spTermIn K) := by
  refine F.ok scTa (fun vs H Q E ⟨_, _, _, _, _, e, _⟩ => by subst e; rfl) (fun cdv A outer s H vs Q E hr h => ?_)
  obtain ⟨v, b, l, ts, p, rfl, ⟨es, hX⟩, hlt, hle, q⟩ := h
  have hX' := hX
  obtain ⟨⟨rb, c, rfl, hb, hc⟩, hen, hfew⟩ := hX'
  replace hb := SqT.of (K := K) hb
  replace hc := SqT.of (K := K) hc
  obtain ⟨gA, dA, GA, mA, kA, bA⟩ := CA.ex
  refine ⟨_, @pss_p _ _ _ _ _ (ps_set (i := 2) scTa.nd (by rfl) (by exact Or.inl rfl) (pe_ix ix_tup (pv 0) (pe_int) px_i))
    (@pss_p _ _ _ _ _ (ps_if (pt_cmpR op_eq (pv 1) (pv 2) (nomark _)) (@pss_o _ _ _ (ps_ret (pe_ix ix_tup (pv 0) (pe_int) px_i))) pss_nil)
    (@pss_o _ _ _ (ps_ret (pe_ix ix_tup (pe_call GA hr (by rfl) mA kA bA .nil pass0 (pa_n (pv 0) (pa_n (pv 1) pa_nil))) (pe_int) px_i)))), ?_⟩
  unfold termAt at q
  refine ⟨_, rfl, rb, _, _, .int b, rfl, rfl, hb, atI_nat (j := 0) rfl, ?_⟩
  refine ⟨_, rfl, _, rfl, rfl, _, rfl, ite2 (fun h => ?_) (fun h => ?_)⟩
  · have e : p = b := by have := of_decide_eq_true h; simpa using this
    rw [if_pos e] at q
    exact ⟨_, rfl, rb, _, _, .int l, rfl, rfl, hb, atI_nat (j := 1) rfl, q⟩
  · have e : ¬ p = b := fun e => h (by rw [e]; exact decide_eq_true rfl)
    rw [if_neg e] at q
    have hle' := hle
    unfold endP at hle'
    have hj : (p - b - 1).toNat < ts.length := by omega
    obtain ⟨pe, x, hg, hpe, _⟩ := hen.get hj
    refine ⟨_, rfl, _, rfl, _, b, l, es, ts, p, rfl, hX, by omega, hle, fun e he => ?_⟩
    rw [hg] at he
    cases he
    refine ⟨pe, _, _, .int (ts[(p - b - 1).toNat]), rfl, rfl, SqT.of hpe, atI_nat (j := 0) rfl, ?_⟩
    have eg : ts.getD (p - b - 1).toNat 0 = ts[(p - b - 1).toNat] := getD_at hj
    rw [← eg]; exact q
end
end K1
set_option Elab.async false
set_option linter.all false
set_option maxRecDepth 100000
set_option maxHeartbeats 4000000
namespace K1
open PySem L2 Kp
section
variable {P : Program} {w : World} {K : PySem.W.Frag} {mg : Str → Option Value} {base : Heap}
def spBehN (K : PySem.W.Frag) : Sp := fun vs H Q _ => ∃ (v : V) (b l : Int) (es : List V) (ts : List Int) (p m : Int), vs = [v, .int p, .int m] ∧ RowX K H v b l es ts ∧ 0 ≤ m ∧ b ≤ p ∧ p ≤ endP b ts ∧ ∀ (r : Addr) (H' : Hp), H' r = some (.tup ((es.drop (p - b).toNat).take m.toNat)) → Same H H' → Q (.ref r) H'
theorem scBh : FnScope ["row", "place", "many", "base", "start"] ["row", "place", "many"] (defScope s_behind) := ⟨rfl, rfl, rfl, by decide +kernel, rfl, by decide +kernel, by decide +kernel⟩
theorem ok_behind {f : Addr} {fd : FuncData} (F : Fun K "behind" "behind" s_behind f fd) (T : Txt mg) (CE : Cal P w K mg base "end_of" 1 ["row"] (spEndOf K)) : FnOk P w K mg base CX0 2 f fd ["row", "place", "many"] (spBehN K) := by
  refine F.ok scBh (fun vs H Q E ⟨_, _, _, _, _, _, _, e, _⟩ => by subst e; rfl) (fun cdv A outer s H vs Q E hr h => ?_)
  obtain ⟨v, b, l, es, ts, p, m, rfl, hX, hm, g1, g2, q⟩ := h
  have hX' := hX
  obtain ⟨⟨rb, c, rfl, hb0, hc0⟩, hen, hfew⟩ := hX'
  have hb := SqT.of (K := K) hb0
  obtain ⟨gE, dE, GE, mE, kE, bE⟩ := CE.ex
  refine ⟨_, @pss_p _ _ _ _ _ (ps_set (i := 3) scBh.nd (by rfl) (by exact Or.inl rfl) (pe_ix ix_tup (pv 0) (pe_int) px_i))
    (@pss_p _ _ _ _ _ (ps_if (PW.pt (pw_or (pt_cmpR op_lt (pv 1) (pv 3) (nomark _)) (pw_or1 (pt_cmpR op_gt (pv 1) (pe_call GE hr (by rfl) mE kE bE .nil pass0 (pa_n (pv 0) pa_nil)) (nomark _))))) (@pss_o _ _ _ (ps_never)) pss_nil)
    (@pss_p _ _ _ _ _ (ps_set (i := 4) scBh.nd (by rfl) (by exact Or.inl rfl) (pe_op op_sub (pv 1) (pv 3)))
    (@pss_o _ _ _ (ps_ret (pe_slice sl_tupV (pe_ix ix_tup (pv 0) (pe_int) px_i) (po_some (pv 4)) (po_some (pe_callB (call_max2 (by rfl)) (by rfl) T.max boot_max (pa_n (pv 4) (pa_b (pe_op op_add (pv 4) (pv 2)) pa_nil))))))))), ?_⟩
  have at0 : atI [V.int b, V.int l, V.ref c] 0 = some (.int b) := atI_nat (j := 0) rfl
  have at1 : atI [V.int b, V.int l, V.ref c] 1 = some (.int l) := atI_nat (j := 1) rfl
  have at2 : atI [V.int b, V.int l, V.ref c] 2 = some (.ref c) := atI_nat (j := 2) rfl
  refine ⟨_, rfl, rb, _, _, .int b, rfl, rfl, hb, at0, ?_⟩
  refine ⟨_, rfl, _, rfl, _, _, rfl, rfl, _, rfl, ite2 (fun h => absurd (of_decide_eq_true h) (by omega)) (fun h => ?_)⟩
  refine ⟨_, rfl, _, rfl, _, b, l, ts, rfl, ⟨es, hX⟩, _, _, rfl, rfl, _, rfl, ite2 (fun h2 => absurd (of_decide_eq_true h2) (by omega)) (fun h2 => ?_)⟩
  refine ⟨_, rfl, _, rfl, _, _, rfl, rfl, ?_⟩
  refine ⟨_, rfl, rb, _, _, .ref c, rfl, rfl, hb, at2, _, rfl, _, rfl, _, rfl, _, rfl, _, rfl, _, _, rfl, rfl, _, _, rfl, _, rfl, c, es, rfl, hc0, fun r H1 hr1 s1 => q r H1 ?_ s1⟩
  rw [hr1]
  obtain ⟨j, ej⟩ := Int.eq_ofNat_of_zero_le (show 0 ≤ p - b by omega)
  obtain ⟨k, ek⟩ := Int.eq_ofNat_of_zero_le hm
  have e2 : (if p - b + m > p - b then p - b + m else p - b) = ((j + k : Nat) : Int) := by split <;> omega
  show some (HO.tup (cutV es (some (p - b)) (some (if p - b + m > p - b then p - b + m else p - b)))) = _
  rw [e2, ej, ek, cut_bothN, Int.toNat_natCast, Int.toNat_natCast, Nat.add_sub_cancel_left]
end
end K1
set_option Elab.async false
set_option linter.all false
set_option maxRecDepth 100000
set_option maxHeartbeats 4000000
namespace K1
open PySem L2 Kp
section
variable {P : Program} {w : World} {K : PySem.W.Frag} {mg : Str → Option Value} {base : Heap}
mutual
/-- a thing of tuples and flat values -/
inductive IsT (H : Hp) : V → D → Prop
  | non : IsT H .non .non
  | bl (b : Bool) : IsT H (.bl b) (.bl b)
  | int (i : Int) : IsT H (.int i) (.int i)
  | str (x : Str) : IsT H (.str x) (.str x)
  | tup {a : Addr} {vs : List V} {ds : List D} (e : H a = some (.tup vs)) (r : IsTL H vs ds) : IsT H (.ref a) (.tup ds)
inductive IsTL (H : Hp) : List V → List D → Prop
  | nil : IsTL H [] []
  | cons {v : V} {d : D} {vs : List V} {ds : List D} (h : IsT H v d) (t : IsTL H vs ds) : IsTL H (v :: vs) (d :: ds)
end
mutual
theorem IsT.sameT {H H' : Hp} (s : SameT H H') : ∀ {v d}, IsT H v d → IsT H' v d
  | _, _, .non => .non
  | _, _, .bl b => .bl b
  | _, _, .int i => .int i
  | _, _, .str x => .str x
  | _, _, .tup e r => .tup (s _ _ e) (IsTL.sameT s r)
theorem IsTL.sameT {H H' : Hp} (s : SameT H H') : ∀ {vs ds}, IsTL H vs ds → IsTL H' vs ds
  | _, _, .nil => .nil
  | _, _, .cons h t => .cons (IsT.sameT s h) (IsTL.sameT s t)
end
theorem IsTL.append {H : Hp} : ∀ {vs ds us es}, IsTL H vs ds → IsTL H us es → IsTL H (vs ++ us) (ds ++ es)
  | _, _, _, _, .nil, r => r
  | _, _, _, _, .cons h t, r => .cons h (IsTL.append t r)
theorem IsTL.length {H : Hp} : ∀ {vs ds}, IsTL H vs ds → vs.length = ds.length
  | _, _, .nil => rfl
  | _, _, .cons _ t => by rw [List.length_cons, List.length_cons, IsTL.length t]
theorem IsTL.drop {H : Hp} : ∀ (n : Nat) {vs ds}, IsTL H vs ds → IsTL H (vs.drop n) (ds.drop n)
  | 0, _, _, h => h
  | _ + 1, _, _, .nil => .nil
  | n + 1, _, _, .cons _ t => IsTL.drop n t
theorem IsTL.take {H : Hp} : ∀ (n : Nat) {vs ds}, IsTL H vs ds → IsTL H (vs.take n) (ds.take n)
  | 0, _, _, _ => .nil
  | _ + 1, _, _, .nil => .nil
  | n + 1, _, _, .cons h t => .cons h (IsTL.take n t)
def entD (ts : List Int) : List D := ts.map fun t => .tup [.int t, .tup [.str "open"]]
theorem etO_isT {H : Hp} : ∀ {us : List V} {ts : List Int}, ET H us (esO ts) → IsTL H us (entD ts)
  | _, [], h => by cases h; exact .nil
  | _, t :: ts, h => by
    cases h with
    | cons hp hu r =>
      obtain ⟨q, rfl, hq⟩ := hu
      exact .cons (.tup hp (.cons (.int _) (.cons (.tup hq (.cons (.str _) .nil)) .nil))) (etO_isT r)
def handD (k : Kst) (o : Int) : D := .tup [.str "hand", .int k.num, .int o, .int k.tm, .int (k.nx - 1), .int (termAt 0 0 k.ts (k.nx - 1)), .tup ((entD k.ts).drop (k.nx - 1).toNat |>.take 5), .int k.ag]
def beatD (k : Kst) (o : Int) : List D := if k.way = "head" then [handD k o] else []
def spBt2 (C : Addr) : Sp := fun vs H Q _ => ∃ (a : Addr) (o : Int) (k : Kst), vs = [.ref a, .int o] ∧ K2V C H a k ∧ KpOk k ∧ 0 ≤ o ∧ o ≤ 8 ∧ 1 ≤ k.nx ∧ k.nx - 1 ≤ (k.ts.length : Int) ∧ ∀ (l : Addr) (xs : List V) (H' : Hp), H' l = some (.lst xs) → H l = none → IsTL H' xs (beatD k o) → Same H H' → Q (.ref l) H'
theorem scBt : FnScope ["keeper", "other", "following", "place", "last", "entries"] ["keeper", "other"] (defScope s_beat) := ⟨rfl, rfl, rfl, by decide +kernel, rfl, by decide +kernel, by decide +kernel⟩
theorem ok_bt2 {f : Addr} {fd : FuncData} {C : Addr} {tk : Tok} (Y : KpC K C) (F : Fun K "beat" "beat" s_beat f fd) (hC : mg "ENTRIES_IN_A_HAND" = some (.int 5 tk)) (CT : Cal P w K mg base "term_at" 3 ["row", "place"] (spTermIn K)) (CB : Cal P w K mg base "behind" 2 ["row", "place", "many"] (spBehN K)) : FnOk P w K mg base CX0 4 f fd ["keeper", "other"] (spBt2 C) := by
  refine F.ok scBt (fun vs H Q E ⟨_, _, _, e, _⟩ => by subst e; rfl) (fun cdv A outer s H vs Q E hr h => ?_)
  obtain ⟨a, o, k, rfl, hk, ko, o0, o8, n1, n2, q⟩ := h
  obtain ⟨gT, dT, GT, mT, kT, bT⟩ := CT.ex
  obtain ⟨gB, dB, GB, mB, kB, bB⟩ := CB.ex
  have r2 := hr.mono (show 2 ≤ 3 by omega)
  refine ⟨_, @pss_p _ _ _ _ _ (ps_if (pt_cmpR op_ne (pe_fld (pv 0) (by rfl)) pe_str (nomark _)) (@pss_o _ _ _ (ps_ret (pe_lst pa_nil))) pss_nil)
    (@pss_p _ _ _ _ _ (ps_set (i := 2) scBt.nd (by rfl) (by exact Or.inl rfl) (pe_ix ix_tup (pe_fld (pv 0) (by rfl)) (pv 1) px_n))
    (@pss_p _ _ _ _ _ (ps_if (pt_cmpR op_le (pv 2) (pe_ix ix_tup (pe_fld (pv 0) (by rfl)) pe_int px_i) (nomark _)) pss_never pss_nil)
    (@pss_p _ _ _ _ _ (ps_set (i := 3) scBt.nd (by rfl) (by exact Or.inl rfl) (pe_op op_sub (pv 2) (pe_int)))
    (@pss_p _ _ _ _ _ (ps_set (i := 4) scBt.nd (by rfl) (by exact Or.inl rfl) (pe_call GT hr (by rfl) mT kT bT .nil pass0 (pa_cons (pe_fld (pv 0) (by rfl)) (pa_n (pv 3) pa_nil))))
    (@pss_p _ _ _ _ _ (ps_set (i := 5) scBt.nd (by rfl) (by exact Or.inl rfl) (pe_call GB r2 (by rfl) mB kB bB .nil pass0 (pa_cons (pe_fld (pv 0) (by rfl)) (pa_n (pv 3) (pa_n (pe_glob (v := V.int 5) (by rfl) hC ⟨_, rfl⟩ (by decide +kernel)) pa_nil)))))
    (@pss_o _ _ _ (ps_ret (pe_lst (pa_t (QE.h (qx_tup (qa_str (qa_at (pe_fld (pv 0) (by rfl)) (qa_n (pv 1) (qa_at (pe_fld (pv 0) (by rfl)) (qa_n (pv 3) (qa_n (pv 4) (qa_n (pv 5) (qa_at (pe_fld (pv 0) (by rfl)) qa_nil)))))))))) pa_nil))))))))), ?_⟩
  have hk' := hk
  obtain ⟨dx, fs, vp, vr, vst, an, ah, av, aw, ha, f, ok, S⟩ := hk'
  refine ⟨_, rfl, a, C, dx, fs, _, rfl, ha, Y.cl, Y.n_way, f.way, rfl, _, rfl, ?_⟩
  unfold beatD at q
  by_cases hw : k.way = "head"
  · rw [if_pos hw] at q
    rw [decide_eq_true (congrArg V.str hw)]
    obtain ⟨us, hE, hR⟩ := rwO_row (K := K) S.row (by have := ko.ts; omega)
    obtain ⟨rr, rc, ru, erw, hrr, _, _⟩ := id S.row
    obtain ⟨j, rfl⟩ := Int.eq_ofNat_of_zero_le o0
    have hj : j < 9 := by omega
    refine iteF ⟨_, rfl, a, C, dx, fs, _, rfl, ha, Y.cl, Y.n_nexts, f.nexts, _, rfl, an, _, _, .int k.nx, rfl, rfl, SqT.of S.nexts, atI_nat (by rw [List.getElem?_replicate, if_pos hj]), ?_⟩
    subst erw
    refine ⟨_, rfl, _, rfl, a, C, dx, fs, _, rfl, ha, Y.cl, Y.n_row, f.row, rr, _, _, .int 0, rfl, rfl, SqT.of hrr, atI_nat (j := 0) rfl, _, _, rfl, rfl, _, rfl, ite2 (fun h => absurd (of_decide_eq_true h) (by omega)) (fun _ => ?_)⟩
    refine ⟨_, rfl, _, _, rfl, rfl, ?_⟩
    refine ⟨_, rfl, a, C, dx, fs, _, rfl, ha, Y.cl, Y.n_row, f.row, _, rfl, .ref rr, 0, 0, k.ts, k.nx - 1, rfl, ⟨us, hR⟩, by omega, by unfold endP; omega, ?_⟩
    refine ⟨_, rfl, a, C, dx, fs, _, rfl, ha, Y.cl, Y.n_row, f.row, _, rfl, .ref rr, 0, 0, us, k.ts, k.nx - 1, 5, rfl, hR, by decide, by omega, by unfold endP; omega, fun r H1 hr1 s1 => ?_⟩
    have hI : IsTL H1 ((us.drop (k.nx - 1 - 0).toNat).take (5 : Int).toNat) (((entD k.ts).drop (k.nx - 1).toNat).take 5) := by
      have := ((etO_isT (hE.same s1)).drop (k.nx - 1).toNat).take 5
      rw [show (k.nx - 1 - 0).toNat = (k.nx - 1).toNat by omega]
      exact this
    refine ⟨_, rfl, a, C, dx, fs, _, rfl, (s1 _ _ ha), Y.cl, Y.n_number, f.number, _, rfl, _, rfl, a, C, dx, fs, _, rfl, (s1 _ _ ha), Y.cl, Y.n_term, f.term, _, rfl, _, rfl, _, rfl, _, rfl, a, C, dx, fs, _, rfl, (s1 _ _ ha), Y.cl, Y.n_agreed, f.agreed, tiny (by show 8 ≤ 1000; decide), fun p hp => ⟨tiny (by show 1 ≤ 1000; decide), fun l hl => ?_⟩⟩
    have s2 := same_upd (o := HO.tup [V.str "hand", V.int k.num, V.int (j : Int), V.int k.tm, V.int (k.nx - 1), V.int (termAt 0 0 k.ts (k.nx - 1)), V.ref r, V.int k.ag]) hp
    have s3 := same_upd (o := HO.lst [V.ref p]) hl
    have s23 := s2.trans s3
    refine q l [.ref p] _ upd_same ?_ (.cons (.tup (s3 _ _ upd_same) (.cons (.str _) (.cons (.int _) (.cons (.int _) (.cons (.int _) (.cons (.int _) (.cons (.int _) (.cons (.tup (s23 _ _ hr1) (hI.sameT (sameT_of s23))) (.cons (.int _) .nil))))))))) .nil) (s1.trans s23)
    cases e : H l with
    | none => rfl
    | some o => rw [(s1.trans s2) _ _ e] at hl; cases hl
  · rw [if_neg hw] at q
    rw [decide_eq_false (fun e : V.str k.way = V.str "head" => hw (by injection e))]
    exact iteT ⟨tiny (by show 0 ≤ 1000; decide), fun l hl => q l [] _ upd_same hl .nil (same_upd hl)⟩
def hdK (k : Kst) : Kst := { k with way := "head", hd := some k.num, nx := (k.ts.length : Int) + 1, ts := k.ts ++ [k.tm] }
def ledF (k : Kst) : Kst := outF (agk (hdK k))
def ledD (k : Kst) : List D := (othK k).flatMap (beatD (ledF k))
structure HdOk (k : Kst) : Prop where
  ok : KpOk k
  tm1 : 1 ≤ k.tm
  ag0 : 0 ≤ k.ag
  ag1 : k.ag ≤ (k.ts.length : Int)
  few : k.ts.length ≤ 70
theorem led_of (k : Kst) : (ledF k).num = k.num ∧ (ledF k).ms = k.ms ∧ (ledF k).nx = (k.ts.length : Int) + 1 ∧ (ledF k).ts = k.ts ++ [k.tm] ∧ (ledF k).tm = k.tm ∧ (ledF k).vs = k.vs ∧ (ledF k).vc = k.vc := by
  unfold ledF outF agk
  split <;> split <;> exact ⟨rfl, rfl, rfl, rfl, rfl, rfl, rfl⟩
theorem led_ok {k : Kst} (h : HdOk k) : AgOk (hdK k) ∧ KpOk (ledF k) := by
  obtain ⟨e1, e2, e3, e4, e5, e6, e7⟩ := led_of k
  have hl : (k.ts ++ [k.tm]).length = k.ts.length + 1 := by simp
  refine ⟨⟨⟨h.ok.up, h.ok.low, h.ok.some, h.ok.num, h.ok.tm, ?_, h.ok.vs, h.ok.few⟩, ?_, ?_, h.tm1, h.ag0, ?_⟩, ⟨?_, ?_, ?_, ?_, ?_, ?_, ?_, ?_⟩⟩
  · show (k.ts ++ [k.tm]).length ≤ 80
    have := h.few; omega
  · show 1 ≤ (k.ts ++ [k.tm]).length
    omega
  · show endT 0 (k.ts ++ [k.tm]) = k.tm
    unfold endT; simp
  · show k.ag ≤ ((k.ts ++ [k.tm]).length : Int)
    have := h.ag1; omega
  · rw [e2]; exact h.ok.up
  · rw [e2]; exact h.ok.low
  · rw [e2]; exact h.ok.some
  · rw [e1]; exact h.ok.num
  · rw [e5]; exact h.ok.tm
  · rw [e4]; have := h.few; omega
  · rw [e6]; exact h.ok.vs
  · rw [e2]; exact h.ok.few
theorem oth_led (k : Kst) : othK (ledF k) = othK k := by
  obtain ⟨e1, e2, _⟩ := led_of k
  unfold othK
  rw [e1, e2]
theorem beatD_len (k : Kst) (o : Int) : (beatD k o).length ≤ 1 := by
  unfold beatD
  split <;> simp
def spCh2 (C : Addr) : Sp := fun vs H Q _ => ∃ (a : Addr) (k : Kst), vs = [.ref a] ∧ K2V C H a k ∧ HdOk k ∧ ∀ (l : Addr) (xs : List V) (H' : Hp), H' l = some (.lst xs) → IsTL H' xs (ledD k) → xs.length ≤ 9 → H l = none → K2V C H' a (ledF k) → Off a H H' → Q (.ref l) H'
theorem scCh : FnScope ["keeper", "letters", "other"] ["keeper"] (defScope s_come_to_be_head) := ⟨rfl, rfl, rfl, by decide +kernel, rfl, by decide +kernel, by decide +kernel⟩
theorem ok_ch2 {f fN : Addr} {fd dN : FuncData} {C : Addr} (Y : KpC K C) (F : Fun K "come_to_be_head" "come_to_be_head" s_come_to_be_head f fd) (MN : Meth K C "know_no_places" fN) (FN : FnOk P w K mg base CX0 2 fN dN ["self"] (spKnp C)) (bN : Binds K dN ["self"] []) (CE : Cal P w K mg base "enter" 2 ["keeper", "what"] (spEn2 C)) (CA : Cal P w K mg base "agree" 5 ["keeper"] (spAg2 C)) (CO : Cal P w K mg base "other_seats" 4 ["keeper"] (spOt2 C)) (CB : Cal P w K mg base "beat" 4 ["keeper", "other"] (spBt2 C)) : FnOk P w K mg base CX0 6 f fd ["keeper"] (spCh2 C) := by
  refine F.ok scCh (fun vs H Q E ⟨_, _, e, _⟩ => by subst e; rfl) (fun cdv A outer s H vs Q E hr h => ?_)
  obtain ⟨a, k, rfl, hk, ko, q⟩ := h
  obtain ⟨gE, dE, GE, mE, kE, bE⟩ := CE.ex
  obtain ⟨gA, dA, GA, mA, kA, bA⟩ := CA.ex
  obtain ⟨gO, dO, GO, mO, kO, bO⟩ := CO.ex
  obtain ⟨gB, dB, GB, mB, kB, bB⟩ := CB.ex
  have r2 := hr.mono (show 2 ≤ 5 by omega)
  have r4 := hr.mono (show 4 ≤ 5 by omega)
  refine ⟨_, @pss_p _ _ _ _ _ (ps_fld (pv 0) (pe_str) (by rfl))
    (@pss_p _ _ _ _ _ (ps_fld (pv 0) (pe_fld (pv 0) (by rfl)) (by rfl))
    (@pss_p _ _ _ _ _ (ps_expr (pe_meth0 (pv 0) Y.cl MN FN r2 bN .nil pass0))
    (@pss_p _ _ _ _ _ (ps_expr (pe_call GE r2 (by rfl) mE kE bE .nil pass0 (pa_n (pv 0) (pa_t (QE.h (qx_tup (qa_str qa_nil))) pa_nil))))
    (@pss_p _ _ _ _ _ (ps_set (i := 1) scCh.nd (by rfl) (by exact Or.inl rfl) (pe_call GA hr (by rfl) mA kA bA .nil pass0 (pa_n (pv 0) pa_nil)))
    (@pss_p _ _ _ _ _ (ps_for PassesOwn.never (by rfl) (pi_list (pe_call GO r4 (by rfl) mO kO bO .nil pass0 (pa_n (pv 0) pa_nil))) (pg_name (i := 2) scCh.nd (by rfl) (by exact Or.inl rfl)) (@pss_o _ _ _ (ps_expr (pe_bm PySem.F.plainAttrs_list PySem.F.slot_list_extend PySem.F.type_list_extend mt_extend (pv 1) (pa_k (pe_call GB r4 (by rfl) mB kB bB .nil pass0 (pa_n (pv 0) (pa_n (pv 2) pa_nil))) pa_nil)))))
    (@pss_o _ _ _ (ps_ret (pv 1)))))))), ?_⟩
  obtain ⟨dx, fs, vp, vr, vst, an, ah, av, aw, ha, f, ok, S⟩ := hk
  obtain ⟨e1, e2, e3, e4, e5, e6, e7⟩ := led_of k
  obtain ⟨kA, kL⟩ := led_ok ko
  refine ⟨_, rfl, a, C, dx, fs, rfl, ha, Y.cl, Y.n_way, ok.len, ?_⟩
  have k1 := ok.put (f := "way") (v := .str "head") (by decide +kernel)
  have f1 := f.put_way "head"
  refine ⟨_, rfl, a, C, dx, _, _, rfl, upd_same, Y.cl, Y.n_number, f1.number, _, rfl, a, C, dx, _, rfl, upd_same, Y.cl, Y.n_head, k1.len, ?_⟩
  have k2 := k1.put (f := "head") (v := .int k.num) (by decide +kernel)
  have f2 := f1.put_head (some k.num)
  have o2 : Off a H _ := (off_upd (o := HO.ins C dx (L2.putF "way" (.str "head") fs))).trans (off_upd (o := HO.ins C dx (L2.putF "head" (.int k.num) (L2.putF "way" (.str "head") fs))))
  have S2' := S.sameT (o2.tups ha)
  refine ⟨_, rfl, a, dx, _, rfl, upd_same, k2.no (by decide +kernel), a, dx, _, vr, 0, 0, esO k.ts, rfl, upd_same, k2, f2.row, S2'.row, fun fs3 tk tn H3 kn => ?_⟩
  have s3 := kn.off.tups upd_same
  have hn3 : H3 tk = some (.tup (List.replicate 9 (V.int ((k.ts.length : Int) + 1)))) := by
    have e := kn.hn
    rw [show ((0 : Int) + ((esO k.ts).length : Int) + 1) = (k.ts.length : Int) + 1 by rw [show (esO k.ts).length = k.ts.length from List.length_map ..]; omega] at e
    exact e
  have hk3 : K2V C H3 a { k with way := "head", hd := some k.num, nx := (k.ts.length : Int) + 1 } := ⟨dx, fs3, vp, vr, vst, tk, tn, av, aw, kn.at_, ⟨(kn.kept "number" (by decide +kernel)).trans f2.number, (kn.kept "term" (by decide +kernel)).trans f2.term, (kn.kept "voice" (by decide +kernel)).trans f2.voice, (kn.kept "head" (by decide +kernel)).trans f2.head, (kn.kept "way" (by decide +kernel)).trans f2.way, (kn.kept "pack" (by decide +kernel)).trans f2.pack, (kn.kept "row" (by decide +kernel)).trans f2.row, (kn.kept "store" (by decide +kernel)).trans f2.store, kn.nexts, kn.held, (kn.kept "agreed" (by decide +kernel)).trans f2.agreed, (kn.kept "voices" (by decide +kernel)).trans f2.voices, (kn.kept "waits" (by decide +kernel)).trans f2.waits⟩, kn.ok, ⟨S2'.pack.offT s3, rwO_sameT S2'.row s3, S2'.store.offT s3, hn3, kn.hh, s3 _ _ S2'.voices, s3 _ _ S2'.waits⟩⟩
  have o3 := o2.trans kn.off
  refine ⟨_, rfl, tiny (by show 1 ≤ 1000; decide), fun p hp => ?_⟩
  have s4 := same_upd (o := HO.tup [V.str "open"]) hp
  refine ⟨a, p, _, rfl, hk3.same s4, ⟨ko.ok.up, ko.ok.low, ko.ok.some, ko.ok.num, ko.ok.tm, ko.ok.ts, ko.ok.vs, ko.ok.few⟩, upd_same, fun H5 hk5 o5 => ?_⟩
  have o5' := (o3.trans (off_same s4)).trans o5
  refine ⟨_, rfl, a, hdK k, rfl, hk5, kA, fun l H6 hl6 n6 hk6 o6 => ?_⟩
  have o6' := o5'.trans o6
  have nla : l ≠ a := fun z => by
    obtain ⟨dx4, fs4, _, _, _, _, _, _, _, ha4, _⟩ := hk6
    rw [z, ha4] at hl6; cases hl6
  have nH : H l = none := by
    cases e : H l with
    | none => rfl
    | some o => rw [o5' _ _ nla e] at n6; cases n6
  refine ⟨_, rfl, a, ledF k, rfl, hk6, kL, fun l0 H7 hl0 n7 s7 => ?_⟩
  have nl0 : l0 ≠ l := fun z => by rw [z, hl6] at n7; cases n7
  have hl7 := s7 _ _ hl6
  refine ⟨l0, rfl, ⟨_, SqL.of hl0⟩, for_list (K := K) (a := l0) (xs := (othK (ledF k)).map V.int) (fun i σ H' => ∃ (t : Option V) (xs : List V), σ = [some (.ref a), some (.ref l), t] ∧ K2V C H' a (ledF k) ∧ H' l0 = some (.lst ((othK (ledF k)).map V.int)) ∧ H' l = some (.lst xs) ∧ xs.length ≤ i ∧ IsTL H' xs (((othK (ledF k)).take i).flatMap (beatD (ledF k))) ∧ Off a H H')
    ⟨none, [], rfl, hk6.same s7, hl0, hl7, Nat.le_refl _, .nil, o6'.trans (off_same s7)⟩ (fun i σ H' _ ⟨_, _, _, _, h, _⟩ => SqL.of h) ?_ ?_⟩
  · rintro i x σ H' hx ⟨t, xs, rfl, hk8, hl08, hl8, hxi, hI, o8⟩
    have hi : i < (othK (ledF k)).length := by have := (List.getElem?_eq_some_iff.mp hx).1; rwa [List.length_map] at this
    rw [List.getElem?_map, List.getElem?_eq_getElem hi] at hx
    cases hx
    have hm : (othK (ledF k))[i] ∈ (ledF k).ms := (List.mem_filter.mp (List.getElem_mem hi)).1
    have hb := kL.low _ hm
    have h9 : i ≤ 9 := by
      have h1 : (othK (ledF k)).length ≤ (ledF k).ms.length := List.length_filter_le ..
      have := kL.few
      omega
    refine ⟨_, rfl, .inl ⟨rfl, _, SqL.of hl8⟩, _, rfl, _, rfl, a, _, ledF k, rfl, hk8, kL, hb.1, hb.2, by rw [e3]; omega, by rw [e3, e4, List.length_append]; show _ ≤ ((k.ts.length + 1 : Nat) : Int); omega, fun l9 ys H9 hl9 n9 hI9 s9 => ?_⟩
    have hl9' := s9 _ _ hl8
    have hy : ys.length ≤ 1 := by rw [hI9.length]; exact beatD_len _ _
    refine ⟨l, l9, xs, ys, rfl, rfl, hl9', hl9, by rw [sizeLine_eq]; omega, ?_⟩
    have sT : SameT H9 (upd H9 l (.lst (xs ++ ys))) := fun b vs e => by rw [upd_ne (fun z => by rw [z, hl9'] at e; cases e)]; exact e
    refine ⟨_, xs ++ ys, rfl, (hk8.same s9).frame sT (fun o e => by rw [upd_ne nla.symm]; exact e), by rw [upd_ne nl0]; exact s9 _ _ hl08, upd_same, by rw [List.length_append]; omega, ?_, fun b o n e => ?_⟩
    · rw [List.take_succ_eq_append_getElem hi, List.flatMap_append]
      refine ((hI.sameT (sameT_of s9)).append ?_).sameT sT
      simpa using hI9
    · rw [upd_ne (fun z => by rw [z, nH] at e; cases e)]
      exact s9 _ _ (o8 b o n e)
  · rintro σ H' ⟨t, xs, rfl, hk8, hl08, hl8, hxi, hI, o8⟩
    rw [List.length_map, List.take_of_length_le (Nat.le_refl _), oth_led] at hI
    have h9 : xs.length ≤ 9 := by
      have h1 : (othK (ledF k)).length ≤ (ledF k).ms.length := List.length_filter_le ..
      have := kL.few
      rw [List.length_map] at hxi
      omega
    exact ⟨_, rfl, q l xs H' hl8 hI h9 nH hk8 o8⟩
end
end K1
set_option Elab.async false
set_option linter.all false
set_option maxRecDepth 100000
set_option maxHeartbeats 4000000
namespace K1
open PySem L2 Kp
section
variable {P : Program} {w : World} {K : PySem.W.Frag} {mg : Str → Option Value} {base : Heap}
theorem compOk3 {X : Cx} {outer scope : Scope} {NB : List Str} {n k0 k1 k2 : Nat} {x y z : Str} (hX : X.env.scope = outer) (h : compChk outer scope = true) (hl : NB.length = n + 3) (h1 : NB[n]? = some x) (h2 : X.N[k0]? = some x) (h3 : scope.names.lookup x = some .free)
    (g1 : NB[n + 1]? = some y) (g2 : X.N[k1]? = some y) (g3 : scope.names.lookup y = some .free) (i1 : NB[n + 2]? = some z) (i2 : X.N[k2]? = some z) (i3 : scope.names.lookup z = some .free) : CompOk X scope NB n [k0, k1, k2] :=
  compOkN hX h hl fun j k e => by
    match j, e with
    | 0, e => cases e; exact ⟨x, h1, h2, h3⟩
    | 1, e => cases e; exact ⟨y, g1, g2, g3⟩
    | 2, e => cases e; exact ⟨z, i1, i2, i3⟩
    | j + 3, e => simp at e
def stK (k : Kst) : Kst := { k with tm := k.tm + 1, vc := some k.num, way := "standing", vs := [k.num], hd := none }
def askD (k : Kst) : List D := (othK k).map fun o => .tup [.str "ask", .int k.num, .int o, .int k.tm, .int (k.ts.length : Int), .int (endT 0 k.ts)]
def stF (k : Kst) : Kst := if mostK (stK k) then ledF (stK k) else stK k
def stD (k : Kst) : List D := if mostK (stK k) then ledD (stK k) else askD (stK k)
structure StOk (k : Kst) : Prop where
  ok : KpOk k
  ag0 : 0 ≤ k.ag
  ag1 : k.ag ≤ (k.ts.length : Int)
  few : k.ts.length ≤ 70
theorem stK_ok {k : Kst} (h : StOk k) : HdOk (stK k) := ⟨⟨h.ok.up, h.ok.low, h.ok.some, h.ok.num, by show 0 ≤ k.tm + 1; have := h.ok.tm; omega, h.ok.ts, by show 1 ≤ 20; decide, h.ok.few⟩, by show 1 ≤ k.tm + 1; have := h.ok.tm; omega, h.ag0, h.ag1, h.few⟩
theorem isTL_made {H : Hp} {g : Int → D} : ∀ {us : List V} {os : List Int}, us.length = os.length → (∀ (i : Nat) v, us[i]? = some v → ∃ m, os[i]? = some m ∧ IsT H v (g m)) → IsTL H us (os.map g)
  | [], [], _, _ => .nil
  | u :: us, o :: os, e, h => by
    obtain ⟨m, em, hm⟩ := h 0 u rfl
    cases em
    exact .cons hm (isTL_made (by simpa using e) fun i v hv => h (i + 1) v hv)
def spSt2 (C : Addr) : Sp := fun vs H Q _ => ∃ (a : Addr) (k : Kst), vs = [.ref a] ∧ K2V C H a k ∧ StOk k ∧ ∀ (l : Addr) (xs : List V) (H' : Hp), H' l = some (.lst xs) → IsTL H' xs (stD k) → xs.length ≤ 9 → H l = none → K2V C H' a (stF k) → Off a H H' → Q (.ref l) H'
theorem scSt : FnScope ["keeper", "end", "last"] ["keeper"] (defScope s_stand) := ⟨rfl, rfl, rfl, by decide +kernel, rfl, by decide +kernel, by decide +kernel⟩
theorem ok_st2 {f fH : Addr} {fd dH : FuncData} {C : Addr} (Y : KpC K C) (F : Fun K "stand" "stand" s_stand f fd) (MH : Meth K C "hear" fH) (FH : FnOk P w K mg base CX0 2 fH dH ["self", "term"] (spHear2 C)) (bH : Binds K dH ["self", "term"] []) (CM : Cal P w K mg base "has_most_voices" 4 ["keeper"] (spHm2 C)) (CC : Cal P w K mg base "come_to_be_head" 6 ["keeper"] (spCh2 C)) (CE : Cal P w K mg base "end_of" 1 ["row"] spEndP) (CT : Cal P w K mg base "term_at" 3 ["row", "place"] (spTermIn K)) (CO : Cal P w K mg base "other_seats" 4 ["keeper"] (spOt2 C)) : FnOk P w K mg base CX0 7 f fd ["keeper"] (spSt2 C) := by
  refine F.ok scSt (fun vs H Q E ⟨_, _, e, _⟩ => by subst e; rfl) (fun cdv A outer s H vs Q E hr h => ?_)
  obtain ⟨a, k, rfl, hk, ko, q⟩ := h
  obtain ⟨gM, dM, GM, mM, kM, bM⟩ := CM.ex
  obtain ⟨gC, dC, GC, mC, kC, bC⟩ := CC.ex
  obtain ⟨gE, dE, GE, mE, kE, bE⟩ := CE.ex
  obtain ⟨gT, dT, GT, mT, kT, bT⟩ := CT.ex
  obtain ⟨gO, dO, GO, mO, kO, bO⟩ := CO.ex
  have r1 := hr.mono (show 1 ≤ 6 by omega)
  have r2 := hr.mono (show 2 ≤ 6 by omega)
  have r3 := hr.mono (show 3 ≤ 6 by omega)
  have r4 := hr.mono (show 4 ≤ 6 by omega)
  refine ⟨_, @pss_p _ _ _ _ _ (ps_expr (pe_meth (pv 0) Y.cl MH FH r2 bH .nil pass0 (pa_b (pe_op op_add (pe_fld (pv 0) (by rfl)) (pe_int)) pa_nil)))
    (@pss_p _ _ _ _ _ (ps_fld (pv 0) (pe_fld (pv 0) (by rfl)) (by rfl))
    (@pss_p _ _ _ _ _ (ps_fld (pv 0) (pe_str) (by rfl))
    (@pss_p _ _ _ _ _ (ps_fld (pv 0) (QE.h (qx_tup (qa_at (pe_fld (pv 0) (by rfl)) qa_nil))) (by rfl))
    (@pss_p _ _ _ _ _ (ps_if (pt_val (pe_call GM r4 (by rfl) mM kM bM .nil pass0 (pa_n (pv 0) pa_nil))) (@pss_o _ _ _ (ps_ret (pe_call GC hr (by rfl) mC kC bC .nil pass0 (pa_n (pv 0) pa_nil)))) pss_nil)
    (@pss_p _ _ _ _ _ (ps_set (i := 1) scSt.nd (by rfl) (by exact Or.inr rfl) (pe_call GE r1 (by rfl) mE kE bE .nil pass0 (pa_cons (pe_fld (pv 0) (by rfl)) pa_nil)))
    (@pss_p _ _ _ _ _ (ps_set (i := 2) scSt.nd (by rfl) (by exact Or.inr rfl) (pe_call GT r3 (by rfl) mT kT bT .nil pass0 (pa_cons (pe_fld (pv 0) (by rfl)) (pa_n (pv 1) pa_nil))))
    (@pss_o _ _ _ (ps_ret (pe_comp (NB := ["other", "keeper", "end", "last"]) (n := 1) (fr := [0, 1, 2]) (compOk3 (outer := defScope s_stand) (x := "keeper") (y := "end") (z := "last") (by rfl) (by decide +kernel) (by rfl) (by rfl) (by rfl) (by rfl) (by rfl) (by rfl) (by rfl) (by rfl) (by rfl) (by rfl)) (by rfl) (pi_list (pe_call GO r4 (by rfl) mO kO bO .nil pass0 (pa_n (pv 0) pa_nil)))
      (fun _ _ _ _ _ => pg_name (i := 0) (show (["other", "keeper", "end", "last"] : List Str).Nodup by decide +kernel) (by rfl) (by exact Or.inl rfl)) (fun _ _ _ _ _ => pifs_nil) (fun _ _ _ _ _ => QE.h (qx_tup (qa_str (qa_at (pe_fldK (K := K) (by rfl) (pv 1) (by rfl)) (qa_n (pv 0) (qa_at (pe_fldK (K := K) (by rfl) (pv 1) (by rfl)) (qa_n (pv 2) (qa_n (pv 3) qa_nil))))))))))))))))), ?_⟩
  have hk' := hk
  obtain ⟨dx0, fs0, vp0, vr0, vst0, an0, ah0, av0, aw0, ha0, f0, ok0, S0⟩ := hk'
  refine ⟨_, rfl, a, dx0, fs0, rfl, ha0, ok0.no (by decide +kernel), _, rfl, a, C, dx0, fs0, _, rfl, ha0, Y.cl, Y.n_term, f0.term, _, _, rfl, rfl, a, k.tm + 1, k, rfl, hk, fun H1 hk1 o1 => ?_⟩
  unfold hearF at hk1
  rw [if_pos (by omega)] at hk1
  obtain ⟨dx, fs, vp, vr, vst, an, ah, av, aw, ha, f, ok, S⟩ := hk1
  refine ⟨_, rfl, a, C, dx, fs, _, rfl, ha, Y.cl, Y.n_number, f.number, _, rfl, a, C, dx, fs, rfl, ha, Y.cl, Y.n_voice, ok.len, ?_⟩
  have k1 := ok.put (f := "voice") (v := .int k.num) (by decide +kernel)
  have f1 := f.put_voice (some k.num)
  refine ⟨_, rfl, a, C, dx, _, rfl, upd_same, Y.cl, Y.n_way, k1.len, ?_⟩
  have k2 := k1.put (f := "way") (v := .str "standing") (by decide +kernel)
  have f2 := f1.put_way "standing"
  refine ⟨_, rfl, a, C, dx, _, _, rfl, upd_same, Y.cl, Y.n_number, f2.number, tiny (by show 1 ≤ 1000; decide), fun t3 ht3 => ?_⟩
  have s3 := same_upd (o := HO.tup [V.int k.num]) ht3
  refine ⟨_, rfl, a, C, dx, _, rfl, s3 _ _ upd_same, Y.cl, Y.n_voices, k2.len, ?_⟩
  have o2 : Off a H1 _ := (off_upd (o := HO.ins C dx (L2.putF "voice" (.int k.num) fs))).trans ((off_upd (o := HO.ins C dx (L2.putF "way" (.str "standing") (L2.putF "voice" (.int k.num) fs)))).trans ((off_same s3).trans (off_upd (o := HO.ins C dx (L2.putF "voices" (.ref t3) (L2.putF "way" (.str "standing") (L2.putF "voice" (.int k.num) fs)))))))
  have sT := o2.tups ha
  have n3 : t3 ≠ a := fun z => by rw [z, upd_same] at ht3; cases ht3
  have hk4 : K2V C _ a (stK k) := ⟨dx, _, vp, vr, vst, an, ah, t3, aw, upd_same, f2.put_voices t3, k2.put (by decide +kernel), ⟨S.pack.offT sT, rwO_sameT S.row sT, S.store.offT sT, sT _ _ S.nexts, sT _ _ S.held, by rw [upd_ne n3]; exact upd_same, sT _ _ S.waits⟩⟩
  have o4 := o1.trans o2
  have kH := stK_ok ko
  refine ⟨_, rfl, a, stK k, rfl, hk4, kH.ok, fun H5 s5 => ⟨_, rfl, ?_⟩⟩
  unfold stF stD at q
  have nH : ∀ l : Addr, H5 l = none → H l = none := fun l hl => by
    cases e : H l with
    | none => rfl
    | some o =>
      by_cases hla : l = a
      · obtain ⟨dx4, fs4, _, _, _, _, _, _, _, ha4, _⟩ := hk4
        rw [hla, s5 _ _ ha4] at hl; cases hl
      · rw [s5 _ _ (o4 _ _ hla e)] at hl; cases hl
  have hk5 := hk4.same s5
  have o5 := o4.trans (off_same s5)
  clear hk4 sT o2 o4 s3 ht3 n3
  cases hb : mostK (stK k) with
  | true =>
    rw [hb] at q
    exact iteT ⟨_, rfl, a, stK k, rfl, hk5, kH, fun l xs H6 hl hI h9 n6 hk6 o6 => q l xs H6 hl hI h9 (nH l n6) hk6 (o5.trans o6)⟩
  | false =>
    rw [hb] at q
    have hk5' := hk5
    obtain ⟨dx5, fs5, vp5, vr5, vst5, an5, ah5, av5, aw5, ha5, f5, ok5, S5⟩ := hk5'
    have hl5 : ((0 : Int) + ((esO (stK k).ts).length : Int)) = endP 0 (stK k).ts := by rw [show (esO (stK k).ts).length = (stK k).ts.length from List.length_map ..]; rfl
    obtain ⟨us, hE, hR⟩ := rwO_row (K := K) S5.row (by have := kH.ok.ts; omega)
    refine iteF ⟨_, rfl, a, C, dx5, fs5, _, rfl, ha5, Y.cl, Y.n_row, f5.row, vr5, 0, 0, esO (stK k).ts, rfl, S5.row, ?_⟩
    rw [hl5]
    refine ⟨_, rfl, a, C, dx5, fs5, _, rfl, ha5, Y.cl, Y.n_row, f5.row, _, rfl, vr5, 0, 0, (stK k).ts, _, rfl, ⟨us, hR⟩, by unfold endP; omega, Int.le_refl _, ?_⟩
    rw [termAt_end]
    refine ⟨_, rfl, a, stK k, rfl, hk5, kH.ok, fun l0 H7 hl0 n7 s7 => ?_⟩
    have h9 : (othK (stK k)).length ≤ 9 := Nat.le_trans (List.length_filter_le ..) kH.ok.few
    refine ⟨l0, rfl, ⟨_, SqL.of hl0⟩, comp_idx (J := Itl K l0) (k := 1) (n := (othK (stK k)).length) (fun i H v => ∃ m, (othK (stK k))[i]? = some m ∧ IsT H v (.tup [.str "ask", .int (stK k).num, .int m, .int (stK k).tm, .int ((stK k).ts.length : Int), .int (endT 0 (stK k).ts)])) (fun i H H' v s ⟨m, e, h⟩ => ⟨m, e, h.sameT s⟩) (by rw [sizeLine_eq]; omega) (fun i H3 hi s4 => ?_) (fun H3 s4 => ?_) ?_ ?_⟩
    · exact ⟨(othK (stK k)).map V.int, .int (othK (stK k))[i], SqL.of (s4 _ _ hl0), by simp [hi]⟩
    · exact ⟨(othK (stK k)).map V.int, SqL.of (s4 _ _ hl0), by simp⟩
    · intro i H3 t x H4 R hi s4 ht y hR
      obtain ⟨t0, rfl⟩ := one_slot ht
      obtain ⟨rfl, hy⟩ := y
      have hv := hy _ (SqL.of (s4 _ _ hl0))
      rw [List.getElem?_map, List.getElem?_eq_getElem hi] at hv
      cases hv
      have ha8 := s4 _ _ (s7 _ _ ha5)
      refine ⟨_, rfl, a, C, dx5, fs5, _, rfl, ha8, Y.cl, Y.n_number, f5.number, _, rfl, _, rfl, a, C, dx5, fs5, _, rfl, ha8, Y.cl, Y.n_term, f5.term, _, rfl, _, rfl, tiny (by show 6 ≤ 1000; decide), fun p hp => ?_⟩
      refine hR [_] _ _ rfl (same_upd hp) ⟨(othK (stK k))[i], by simp [hi], .tup upd_same (.cons (.str _) (.cons (.int _) (.cons (.int _) (.cons (.int _) (.cons ?_ (.cons (.int _) .nil))))))⟩
      rw [show endP 0 (stK k).ts = ((stK k).ts.length : Int) by unfold endP; omega]
      exact .int _
    · intro D6 H6 us6 s6 hD6 hd6 hus hy
      have hI : IsTL H6 us6 (askD (stK k)) := by
        unfold askD
        clear q hl0 hd6
        generalize othK (stK k) = os at hus hy
        exact isTL_made hus hy
      exact q D6 us6 H6 hd6 hI (by rw [hus]; exact h9) (nH D6 (by
        cases e : H5 D6 with
        | none => rfl
        | some o => rw [s7 _ _ e] at hD6; cases hD6)) (hk5.same (s7.trans s6)) (o5.trans (off_same (s7.trans s6)))
end
end K1
set_option Elab.async false
set_option linter.all false
set_option maxRecDepth 100000
set_option maxHeartbeats 4000000
namespace K1
open PySem L2 Kp
section
variable {P : Program} {w : World} {K : PySem.W.Frag} {mg : Str → Option Value} {base : Heap}
def giveK (k : Kst) (one t pl la : Int) : Bool := decide (t = k.tm) && (decide (k.vc = none) || decide (k.vc = some one)) && asNewB la pl 0 0 k.ts
def spMay2 (C : Addr) : Sp := fun vs H Q _ => ∃ (a p : Addr) (x : Str) (one other t pl la : Int) (k : Kst), vs = [.ref a, .ref p] ∧ K2V C H a k ∧ KpOk k ∧ H p = some (.tup [.str x, .int one, .int other, .int t, .int pl, .int la]) ∧ ∀ H', Same H H' → Q (.bl (giveK k one t pl la)) H'
theorem in_vc (vc : Option Int) (one : Int) : inV (vcV vc) [V.non, V.int one] = (decide (vc = none) || decide (vc = some one)) := by
  cases vc with
  | none => rfl
  | some v =>
    show (false || (decide (one = v) || false)) = (decide (some v = none) || decide (some v = some one))
    by_cases h : one = v
    · subst h; simp
    · have h2 : ¬ some v = some one := fun e => h (by injection e with e; exact e.symm)
      rw [decide_eq_false h, decide_eq_false h2]; simp
theorem flat_vc (vc : Option Int) : flatV (vcV vc) = true := by cases vc <;> rfl
theorem scMy : FnScope ["keeper", "letter"] ["keeper", "letter"] (defScope s_may_give) := ⟨rfl, rfl, rfl, by decide +kernel, rfl, by decide +kernel, by decide +kernel⟩
theorem ok_may2 {f : Addr} {fd : FuncData} {C : Addr} (Y : KpC K C) (F : Fun K "may_give" "may_give" s_may_give f fd) (CN : Cal P w K mg base "as_new" 4 ["last", "place", "row"] (spAsNew K)) : FnOk P w K mg base CX0 5 f fd ["keeper", "letter"] (spMay2 C) := by
  refine F.ok scMy (fun vs H Q E ⟨_, _, _, _, _, _, _, _, _, e, _⟩ => by subst e; rfl) (fun cdv A outer s H vs Q E hr h => ?_)
  obtain ⟨a, p, x, one, other, t, pl, la, k, rfl, hk, ko, hp, q⟩ := h
  obtain ⟨gN, dN, GN, mN, kN, bN⟩ := CN.ex
  refine ⟨_, @pss_p _ _ _ _ _ (ps_if (PW.pt (pw_or (pt_cmpR op_ne (pe_ix ix_tup (pv 1) (pe_int) px_i) (pe_fld (pv 0) (by rfl)) (nomark _)) (pw_or1 (pt_cmpR op_notIn_seq (pe_fld (pv 0) (by rfl)) (QE.h (qx_tup (qa_non (qa_s (pe_ix ix_tup (pv 1) (pe_int) px_i) qa_nil)))) (by rfl))))) (@pss_o _ _ _ (ps_ret pe_bl)) pss_nil)
    (@pss_o _ _ _ (ps_ret (pe_call GN hr (by rfl) mN kN bN .nil pass0 (pa_s (pe_ix ix_tup (pv 1) (pe_int) px_i) (pa_s (pe_ix ix_tup (pv 1) (pe_int) px_i) (pa_cons (pe_fld (pv 0) (by rfl)) pa_nil)))))), ?_⟩
  obtain ⟨dx, fs, vp, vr, vst, an, ah, av, aw, ha, f, ok, S⟩ := hk
  obtain ⟨us, hE, hR⟩ := rwO_row (K := K) S.row (by have := ko.ts; omega)
  unfold giveK at q
  refine ⟨_, rfl, p, _, _, .int t, rfl, rfl, SqT.of hp, atI_nat (j := 3) rfl, _, rfl, a, C, dx, fs, _, rfl, ha, Y.cl, Y.n_term, f.term, rfl, _, rfl, ?_⟩
  by_cases ht : t = k.tm
  · rw [decide_eq_true (congrArg V.int ht)]
    rw [decide_eq_true ht] at q
    refine iteF ⟨_, rfl, a, C, dx, fs, _, rfl, ha, Y.cl, Y.n_voice, f.voice, _, rfl, p, _, _, .int one, rfl, rfl, SqT.of hp, atI_nat (j := 1) rfl, tiny (by show 2 ≤ 1000; decide), fun tp htp => ?_⟩
    have s1 := same_upd (o := HO.tup [V.non, V.int one]) htp
    refine ⟨tp, _, rfl, .inr (SqT.of upd_same), flat_vc k.vc, rfl, _, rfl, ?_⟩
    rw [if_pos rfl, in_vc]
    cases hb : (decide (k.vc = none) || decide (k.vc = some one)) with
    | false =>
      rw [hb] at q
      exact iteT (q _ s1)
    | true =>
      rw [hb] at q
      exact iteF ⟨_, rfl, p, _, _, .int la, rfl, rfl, SqT.of (s1 _ _ hp), atI_nat (j := 5) rfl, _, rfl, p, _, _, .int pl, rfl, rfl, SqT.of (s1 _ _ hp), atI_nat (j := 4) rfl, _, rfl, a, C, dx, fs, _, rfl, (s1 _ _ ha), Y.cl, Y.n_row, f.row, _, la, pl, 0, 0, k.ts, rfl, ⟨us, hR.same s1⟩, fun H' s2 => q H' (s1.trans s2)⟩
  · rw [decide_eq_false (fun e : V.int t = V.int k.tm => ht (by injection e))]
    rw [decide_eq_false ht] at q
    exact iteT (iteT (q H (Same.refl _)))
def askF (k : Kst) (one t pl la : Int) : Kst := if giveK (hearF k t) one t pl la then { hearF k t with vc := some one } else hearF k t
def voiD (k : Kst) (one t pl la : Int) : List D := [.tup [.str "voice", .int (hearF k t).num, .int one, .int (hearF k t).tm, .bl (giveK (hearF k t) one t pl la)]]
theorem hear_ok {k : Kst} (h : KpOk k) {t : Int} : KpOk (hearF k t) := by
  unfold hearF
  by_cases e : t > k.tm
  · rw [if_pos e]
    exact ⟨h.up, h.low, h.some, h.num, by show 0 ≤ t; have := h.tm; omega, h.ts, Nat.zero_le _, h.few⟩
  · rw [if_neg e]; exact h
def spTk2 (C : Addr) : Sp := fun vs H Q _ => ∃ (a p : Addr) (x : Str) (one other t pl la : Int) (k : Kst), vs = [.ref a, .ref p] ∧ K2V C H a k ∧ KpOk k ∧ H p = some (.tup [.str x, .int one, .int other, .int t, .int pl, .int la]) ∧ ∀ (l : Addr) (xs : List V) (H' : Hp), H' l = some (.lst xs) → IsTL H' xs (voiD k one t pl la) → xs.length ≤ 9 → H l = none → K2V C H' a (askF k one t pl la) → Off a H H' → Q (.ref l) H'
theorem scTk : FnScope ["keeper", "letter", "one", "given"] ["keeper", "letter"] (defScope s_take_ask) := ⟨rfl, rfl, rfl, by decide +kernel, rfl, by decide +kernel, by decide +kernel⟩
theorem ok_tk2 {f fH : Addr} {fd dH : FuncData} {C : Addr} (Y : KpC K C) (F : Fun K "take_ask" "take_ask" s_take_ask f fd) (MH : Meth K C "hear" fH) (FH : FnOk P w K mg base CX0 2 fH dH ["self", "term"] (spHear2 C)) (bH : Binds K dH ["self", "term"] []) (CG : Cal P w K mg base "may_give" 5 ["keeper", "letter"] (spMay2 C)) : FnOk P w K mg base CX0 6 f fd ["keeper", "letter"] (spTk2 C) := by
  refine F.ok scTk (fun vs H Q E ⟨_, _, _, _, _, _, _, _, _, e, _⟩ => by subst e; rfl) (fun cdv A outer s H vs Q E hr h => ?_)
  obtain ⟨a, p, x, one, other, t, pl, la, k, rfl, hk, ko, hp, q⟩ := h
  obtain ⟨gG, dG, GG, mG, kG, bG⟩ := CG.ex
  have r2 := hr.mono (show 2 ≤ 5 by omega)
  refine ⟨_, @pss_p _ _ _ _ _ (ps_set (i := 2) scTk.nd (by rfl) (by exact Or.inl rfl) (pe_ix ix_tup (pv 1) (pe_int) px_i))
    (@pss_p _ _ _ _ _ (ps_expr (pe_meth (pv 0) Y.cl MH FH r2 bH .nil pass0 (pa_s (pe_ix ix_tup (pv 1) (pe_int) px_i) pa_nil)))
    (@pss_p _ _ _ _ _ (ps_set (i := 3) scTk.nd (by rfl) (by exact Or.inl rfl) (pe_call GG hr (by rfl) mG kG bG .nil pass0 (pa_n (pv 0) (pa_n (pv 1) pa_nil))))
    (@pss_p _ _ _ _ _ (ps_if (pt_val (pv 3)) (@pss_o _ _ _ (ps_fld (pv 0) (pv 2) (by rfl))) pss_nil)
    (@pss_o _ _ _ (ps_ret (pe_lst (pa_t (QE.h (qx_tup (qa_str (qa_at (pe_fld (pv 0) (by rfl)) (qa_n (pv 2) (qa_at (pe_fld (pv 0) (by rfl)) (qa_n (pv 3) qa_nil))))))) pa_nil))))))), ?_⟩
  have hk' := hk
  obtain ⟨dx0, fs0, vp0, vr0, vst0, an0, ah0, av0, aw0, ha0, f0, ok0, S0⟩ := hk'
  refine ⟨_, rfl, p, _, _, .int one, rfl, rfl, SqT.of hp, atI_nat (j := 1) rfl, _, rfl, a, dx0, fs0, rfl, ha0, ok0.no (by decide +kernel), _, rfl, p, _, _, .int t, rfl, rfl, SqT.of hp, atI_nat (j := 3) rfl, a, t, k, rfl, hk, fun H1 hk1 o1 => ?_⟩
  have hp1 := (o1.tups ha0) _ _ hp
  have kh := hear_ok ko (t := t)
  unfold askF voiD at q
  generalize hearF k t = k1 at hk1 kh q
  refine ⟨_, rfl, _, rfl, a, p, x, one, other, t, pl, la, k1, rfl, hk1, kh, hp1, fun H2 s2 => ?_⟩
  have hk2 := hk1.same s2
  have o2 : Off a H H2 := o1.trans (off_same s2)
  have nH : ∀ l : Addr, H2 l = none → H l = none := fun l hl => by
    cases e : H l with
    | none => rfl
    | some o =>
      by_cases hla : l = a
      · obtain ⟨dx4, fs4, _, _, _, _, _, _, _, ha4, _⟩ := hk2
        rw [hla, ha4] at hl; cases hl
      · rw [o2 _ _ hla e] at hl; cases hl
  have hk2' := hk2
  obtain ⟨dx, fs, vp, vr, vst, an, ah, av, aw, ha, f, ok, S⟩ := hk2'
  cases hb : giveK k1 one t pl la with
  | true =>
    rw [hb] at q
    refine ⟨_, rfl, _, rfl, iteT ⟨_, rfl, _, rfl, a, C, dx, fs, rfl, ha, Y.cl, Y.n_voice, ok.len, ?_⟩⟩
    have k3 := ok.put (f := "voice") (v := .int one) (by decide +kernel)
    have f3 := f.put_voice (some one)
    have o3 : Off a H2 _ := off_upd (o := HO.ins C dx (L2.putF "voice" (.int one) fs))
    have hk3 : K2V C (upd H2 a (.ins C dx (L2.putF "voice" (.int one) fs))) a { k1 with vc := some one } := ⟨dx, _, vp, vr, vst, an, ah, av, aw, upd_same, f3, k3, S.sameT (o3.tups ha)⟩
    refine ⟨_, rfl, a, C, dx, _, _, rfl, upd_same, Y.cl, Y.n_number, f3.number, _, rfl, _, rfl, a, C, dx, _, _, rfl, upd_same, Y.cl, Y.n_term, f3.term, _, rfl, tiny (by show 5 ≤ 1000; decide), fun h hh => ⟨tiny (by show 1 ≤ 1000; decide), fun r hr1 => ?_⟩⟩
    have s4 := same_upd (o := HO.tup [V.str "voice", V.int k1.num, V.int one, V.int k1.tm, V.bl true]) hh
    have s5 := same_upd (o := HO.lst [V.ref h]) hr1
    have s45 := s4.trans s5
    refine q r [.ref h] _ upd_same (.cons (.tup (s5 _ _ upd_same) (.cons (.str _) (.cons (.int _) (.cons (.int _) (.cons (.int _) (.cons (.bl _) .nil)))))) .nil) (by show 1 ≤ 9; decide) (nH r ?_) (hk3.same s45) ((o2.trans o3).trans (off_same s45))
    cases e : H2 r with
    | none => rfl
    | some o =>
      by_cases hra : r = a
      · rw [hra, s4 _ _ upd_same] at hr1; cases hr1
      · rw [s4 _ _ (o3 _ _ hra e)] at hr1; cases hr1
  | false =>
    rw [hb] at q
    refine ⟨_, rfl, _, rfl, iteF ?_⟩
    refine ⟨_, rfl, a, C, dx, fs, _, rfl, ha, Y.cl, Y.n_number, f.number, _, rfl, _, rfl, a, C, dx, fs, _, rfl, ha, Y.cl, Y.n_term, f.term, _, rfl, tiny (by show 5 ≤ 1000; decide), fun h hh => ⟨tiny (by show 1 ≤ 1000; decide), fun r hr1 => ?_⟩⟩
    have s4 := same_upd (o := HO.tup [V.str "voice", V.int k1.num, V.int one, V.int k1.tm, V.bl false]) hh
    have s5 := same_upd (o := HO.lst [V.ref h]) hr1
    have s45 := s4.trans s5
    refine q r [.ref h] _ upd_same (.cons (.tup (s5 _ _ upd_same) (.cons (.str _) (.cons (.int _) (.cons (.int _) (.cons (.int _) (.cons (.bl _) .nil)))))) .nil) (by show 1 ≤ 9; decide) (nH r ?_) (hk2.same s45) (o2.trans (off_same s45))
    cases e : H2 r with
    | none => rfl
    | some o => rw [s4 _ _ e] at hr1; cases hr1
end
end K1
set_option Elab.async false
set_option linter.all false
set_option maxRecDepth 100000
set_option maxHeartbeats 4000000
namespace Kp
open PySem
abbrev SSt := Array (Int × Value) × SetTable
def addP (st : SSt) (h : Int) : SSt :=
  if st.1.toList.any (fun e => e.1 == h) then st
  else
    let L := layNew st.2 st.1 h .none
    if (!L.2.2.1 && L.2.1.tooFull) = true then ((relayAll L.2.1 L.1 (SetTable.grown L.1.size)).1, (relayAll L.2.1 L.1 (SetTable.grown L.1.size)).2.1) else (L.1, L.2.1)
def upN : List Nat → Bool
  | a :: b :: r => decide (a < b) && upN (b :: r)
  | _ => true
def goodP (st : SSt) : Bool := st.2.plain && st.2.led && st.2.fits st.1.size && upN st.2.place.toList
def onesP (st : SSt) : Bool := [0, 1, 2, 3, 4, 5, 6, 7, 8].all fun k : Int => goodP (addP st k)
def dfsP : Nat → Int → SSt → Bool
  | 0, _, st => onesP st
  | n + 1, k, st => dfsP n (k + 1) st && dfsP n (k + 1) (addP st k)
def freshP : SSt := (#[], SetTable.fresh 0 0 true)
theorem dfs_000 : dfsP 6 3 freshP = true := by decide +kernel
theorem dfs_001 : dfsP 6 3 (addP freshP 2) = true := by decide +kernel
theorem dfs_010 : dfsP 6 3 (addP freshP 1) = true := by decide +kernel
theorem dfs_011 : dfsP 6 3 (addP (addP freshP 1) 2) = true := by decide +kernel
theorem dfs_100 : dfsP 6 3 (addP freshP 0) = true := by decide +kernel
theorem dfs_101 : dfsP 6 3 (addP (addP freshP 0) 2) = true := by decide +kernel
theorem dfs_110 : dfsP 6 3 (addP (addP freshP 0) 1) = true := by decide +kernel
theorem dfs_111 : dfsP 6 3 (addP (addP (addP freshP 0) 1) 2) = true := by decide +kernel
theorem dfs_all : dfsP 9 0 freshP = true := by
  show (((dfsP 6 3 freshP && dfsP 6 3 (addP freshP 2)) && (dfsP 6 3 (addP freshP 1) && dfsP 6 3 (addP (addP freshP 1) 2))) && ((dfsP 6 3 (addP freshP 0) && dfsP 6 3 (addP (addP freshP 0) 2)) && (dfsP 6 3 (addP (addP freshP 0) 1) && dfsP 6 3 (addP (addP (addP freshP 0) 1) 2)))) = true
  rw [dfs_000, dfs_001, dfs_010, dfs_011, dfs_100, dfs_101, dfs_110, dfs_111]
  rfl
end Kp
set_option Elab.async false
set_option linter.all false
set_option maxRecDepth 100000
set_option maxHeartbeats 4000000
namespace Kp
open PySem
/-! ### a set's table by the hashes alone -/
def strip (es : Array (Int × Value)) : Array (Int × Value) := es.map fun e => (e.1, Value.none)
theorem strip_size (es : Array (Int × Value)) : (strip es).size = es.size := by simp [strip]
theorem insert_strip (es : Array (Int × Value)) (p : Nat) (h : Int) (x : Value) : SetTable.insertAt (strip es) p (h, Value.none) = strip (SetTable.insertAt es p (h, x)) := by
  apply Array.toList_inj.mp
  unfold strip
  rw [SetTable.toList_insertAt, Array.toList_map, Array.toList_map, SetTable.toList_insertAt, List.map_append, List.map_cons, List.map_take, List.map_drop]
theorem lay_strip (t : SetTable) (es : Array (Int × Value)) (h : Int) (x : Value) : layNew t (strip es) h .none = (strip (layNew t es h x).1, (layNew t es h x).2) := by
  unfold layNew
  cases e : t.freeSlot h with
  | none =>
    simp only [strip_size]
    have ep : (strip es).push (h, Value.none) = strip (es.push (h, x)) := by
      unfold strip
      rw [Array.map_push]
    rw [ep]
  | some q =>
    obtain ⟨sl, wd⟩ := q
    simp only
    rw [insert_strip es _ h x, strip_size]
theorem hashes_strip (es : Array (Int × Value)) : (strip es).map (·.1) = es.map (·.1) := by
  unfold strip
  rw [Array.map_map]
  rfl
theorem pick_strip (order : Array Nat) (es : Array (Int × Value)) : order.filterMap ((strip es)[·]?) = strip (order.filterMap (es[·]?)) := by
  apply Array.toList_inj.mp
  unfold strip
  rw [Array.toList_map, Array.toList_filterMap, Array.toList_filterMap, List.map_filterMap]
  congr 1
  funext i
  exact Array.getElem?_map
theorem relay_strip (t : SetTable) (es : Array (Int × Value)) (wanted : Nat) : relayAll t (strip es) wanted = (strip (relayAll t es wanted).1, (relayAll t es wanted).2) := by
  unfold relayAll
  rw [hashes_strip]
  cases t.relaid (es.map (·.1)) wanted with
  | none => simp only [strip_size]
  | some q =>
    obtain ⟨t', order⟩ := q
    simp only
    rw [pick_strip, strip_size, strip_size]
    split <;> rfl
end Kp
set_option Elab.async false
set_option linter.all false
set_option maxRecDepth 100000
set_option maxHeartbeats 4000000
namespace Kp
open PySem
/-- the members -/
def memP (st : SSt) : List Int := st.1.toList.map (·.1)
theorem addP_perm (st : SSt) (h : Int) : (h ∈ memP st ∧ addP st h = st) ∨ (¬ h ∈ memP st ∧ (memP (addP st h)).Perm (memP st ++ [h])) := by
  unfold addP memP
  by_cases e : st.1.toList.any (fun e => e.1 == h) = true
  · rw [if_pos e]
    obtain ⟨x, hx, hh⟩ := List.any_eq_true.mp e
    exact .inl ⟨List.mem_map.mpr ⟨x, hx, beq_iff_eq.mp hh⟩, rfl⟩
  · rw [if_neg e]
    refine .inr ⟨fun hm => ?_, ?_⟩
    · obtain ⟨x, hx, hh⟩ := List.mem_map.mp hm
      exact e (List.any_eq_true.mpr ⟨x, hx, beq_iff_eq.mpr hh⟩)
    · have p1 := (layNew_perm st.2 st.1 h .none).map (·.1)
      rw [Array.toList_push, List.map_append] at p1
      simp only
      split
      · exact ((relayAll_perm _ _ _).map (·.1)).trans p1
      · exact p1
theorem addP_mem {st : SSt} {h j : Int} : j ∈ memP (addP st h) ↔ j ∈ memP st ∨ j = h := by
  rcases addP_perm st h with ⟨h1, h2⟩ | ⟨h1, h2⟩
  · rw [h2]
    exact ⟨.inl, fun q => q.elim id fun e => e ▸ h1⟩
  · rw [h2.mem_iff, List.mem_append, List.mem_singleton]
theorem addP_nd {st : SSt} {h : Int} (n : (memP st).Nodup) : (memP (addP st h)).Nodup := by
  rcases addP_perm st h with ⟨h1, h2⟩ | ⟨h1, h2⟩
  · rw [h2]; exact n
  · refine h2.nodup_iff.mpr (List.nodup_append.mpr ⟨n, by simp, fun a ha b hb e => ?_⟩)
    rw [List.mem_singleton.mp hb] at e
    exact h1 (e ▸ ha)
theorem dfs_spec : ∀ (n : Nat) (k : Int) (st : SSt), dfsP n k st = true → ∀ vs : List Int, vs.Pairwise (· < ·) → (∀ v ∈ vs, k ≤ v ∧ v < k + n) → ∀ one : Int, 0 ≤ one → one ≤ 8 → goodP (addP (vs.foldl addP st) one) = true
  | 0, k, st, h, vs, _, hb, one, h0, h8 => by
    cases vs with
    | cons v r => have := hb v List.mem_cons_self; omega
    | nil =>
      have h' : [0, 1, 2, 3, 4, 5, 6, 7, 8].all (fun k : Int => goodP (addP st k)) = true := h
      refine List.all_eq_true.mp h' one ?_
      have : one = 0 ∨ one = 1 ∨ one = 2 ∨ one = 3 ∨ one = 4 ∨ one = 5 ∨ one = 6 ∨ one = 7 ∨ one = 8 := by omega
      rcases this with e | e | e | e | e | e | e | e | e <;> rw [e] <;> decide
  | n + 1, k, st, h, vs, pw, hb, one, h0, h8 => by
    have h' : dfsP n (k + 1) st = true ∧ dfsP n (k + 1) (addP st k) = true := Bool.and_eq_true_iff.mp h
    by_cases hk : ∃ r, vs = k :: r
    · obtain ⟨r, rfl⟩ := hk
      obtain ⟨p1, p2⟩ := List.pairwise_cons.mp pw
      exact dfs_spec n (k + 1) _ h'.2 r p2 (fun v hv => by have := p1 v hv; have := hb v (List.mem_cons_of_mem _ hv); omega) one h0 h8
    · refine dfs_spec n (k + 1) _ h'.1 vs pw (fun v hv => ?_) one h0 h8
      have hv' := hb v hv
      have : v ≠ k := fun e => by
        cases vs with
        | nil => cases hv
        | cons x r =>
          have hx := hb x List.mem_cons_self
          rcases List.mem_cons.mp hv with e1 | e1
          · exact hk ⟨r, by rw [← e1, e]⟩
          · have := (List.pairwise_cons.mp pw).1 v e1
            omega
      omega
theorem good_all {vs : List Int} (pw : vs.Pairwise (· < ·)) (hb : ∀ v ∈ vs, 0 ≤ v ∧ v ≤ 8) {one : Int} (h0 : 0 ≤ one) (h8 : one ≤ 8) : goodP ((vs ++ [one]).foldl addP freshP) = true := by
  rw [List.foldl_append]
  exact dfs_spec 9 0 freshP dfs_all vs pw (fun v hv => by have := hb v hv; omega) one h0 h8
theorem fold_mem : ∀ (vs : List Int) (st : SSt) (j : Int), j ∈ memP (vs.foldl addP st) ↔ j ∈ memP st ∨ j ∈ vs
  | [], st, j => by simp
  | v :: r, st, j => by
    rw [List.foldl_cons, fold_mem r, addP_mem, List.mem_cons, or_assoc]
theorem fold_nd : ∀ (vs : List Int) {st : SSt}, (memP st).Nodup → (memP (vs.foldl addP st)).Nodup
  | [], _, h => h
  | v :: r, _, h => fold_nd r (addP_nd h)
/-! ### a number put into a set, by the table -/
section
variable {prog : Program} {w : World} {A : Around} {E : Value → Shared → Prop} {s : Shared}
theorem hash8 {k : Int} (h0 : 0 ≤ k) (h8 : k ≤ 8) : hashInt k = k := by
  have : k = 0 ∨ k = 1 ∨ k = 2 ∨ k = 3 ∨ k = 4 ∨ k = 5 ∨ k = 6 ∨ k = 7 ∨ k = 8 := by omega
  rcases this with e | e | e | e | e | e | e | e | e <;> rw [e] <;> decide +kernel
/-- entries that are small numbers -/
def Ent8 (es : Array (Int × Value)) : Prop := ∀ e ∈ es.toList, ∃ tk, e.2 = .int e.1 tk ∧ 0 ≤ e.1 ∧ e.1 ≤ 8
theorem Ent8.of {es : Array (Int × Value)} (h : Ent8 es) : ElemsOf (intKind prog w) es.toList := fun e he => by
  obtain ⟨tk, e2, h0, h8⟩ := h e he
  refine ⟨⟨e.1, by rw [e2]; exact intKind_is _ _ _ _, (hash8 h0 h8).symm⟩, by rw [e2]; rfl⟩
/-- the set at a, its table as st tells -/
def SetS (h : Heap) (a : Addr) (st : SSt) (m : Nat) : Prop := ∃ o es ep t, h.get? a = some o ∧ o.ExactSet ∧ o.data = .set es ep t ∧ Ent8 es ∧ es.size ≤ m ∧ t.fits es.size = true ∧ strip es = st.1 ∧ t = st.2
theorem any_strip (es : Array (Int × Value)) (k : Int) : (strip es).toList.any (fun e => e.1 == k) = es.toList.any (fun e => e.1 == k) := by
  unfold strip
  rw [Array.toList_map, List.any_map]
  rfl
theorem mem_perm8 {es es1 : Array (Int × Value)} {k : Int} {tk : Tok} (h : Ent8 es) (h0 : 0 ≤ k) (h8 : k ≤ 8) (p : es1.toList.Perm (es.push (k, Value.int k tk)).toList) : Ent8 es1 := fun e he => by
  have hm := p.mem_iff.mp he
  rw [Array.toList_push, List.mem_append, List.mem_singleton] at hm
  rcases hm with hm | rfl
  · exact h e hm
  · exact ⟨tk, rfl, h0, h8⟩
theorem put_at {a : Addr} {o : Obj} {es : Array (Int × Value)} {ep : Nat} {t : SetTable} {h : Heap} (ho : h.get? a = some o) (hd : o.data = .set es ep t) (es' : Array (Int × Value)) (t' : SetTable) :
    (h.update a (Obj.putSet es' t')).get? a = some { o with data := .set es' (ep + 1) t' } := by
  have e := putSet_of es' t' hd
  have g := Heap.get?_update_self (Obj.putSet es' t') ho (by rw [e]; rfl)
  rw [e] at g
  exact g
theorem add_S {a : Addr} {st : SSt} {m : Nat} {k : Int} {tk : Tok} {Q : Bool → Shared → Prop} (hS : SetS s.heap a st m) (h0 : 0 ≤ k) (h8 : k ≤ 8) (hm : m < 100)
    (q : ∀ b h', Heap.SameBut a s.heap h' → SetS h' a (addP st k) (m + 1) → Q b { s with heap := h' }) : wpAny (model prog w) A (setAddHashed a (.int k tk) (hashInt k)) Q E s := by
  obtain ⟨o, es, ep, t, ho, hex, hd, hel, hsz, hf, e1, e2⟩ := hS
  have hkey : (intKind prog w).is k (.int k tk) = true := intKind_is _ _ _ _
  have hE : ElemsOf (intKind prog w) es.toList := hel.of
  have sb : scanBound = 4096 := rfl
  have hb : es.size < scanBound := by omega
  unfold setAddHashed setAddHashedIn
  refine wpAny_holding (wpAny_bind (wpAny_setState_of ho hd hf ?_))
  dsimp only
  rw [byScan_of rfl hb hE]
  simp only [↓reduceIte]
  unfold setAddByScan
  refine wpAny_bind (wpAny_bind (wpAny_rule (wpAny_bind ?_)))
  refine wpAny_setScan_of (knd := intKind prog w) hkey ho hd hf hE ?_
  have key : ∀ e ∈ es.toList, (intKind prog w).is k e.2 = decide (e.1 = k) := fun e he => by
    obtain ⟨tk', e2, _, _⟩ := hel e he
    rw [e2]
    show Value.isInt k (.int e.1 tk') = _
    by_cases hk : e.1 = k
    · rw [hk, decide_eq_true rfl]; exact hkey
    · rw [decide_eq_false hk]
      cases hb : Value.isInt k (.int e.1 tk') with
      | false => rfl
      | true =>
        obtain ⟨t', z⟩ := Value.isInt_shape hb
        injection z with z
        exact absurd z hk
  have est : st = (strip es, t) := by rw [e1, e2]
  cases hr : es.toList.findIdx? (fun e => (intKind prog w).is k e.2) with
  | some j =>
    obtain ⟨hj, hpj, _⟩ := List.findIdx?_eq_some_iff_getElem.mp hr
    have hk := key _ (List.getElem_mem hj)
    rw [hpj] at hk
    have hk := of_decide_eq_true hk.symm
    have same : addP st k = st := by
      rw [est]
      unfold addP
      rw [if_pos]
      rw [any_strip]
      exact List.any_eq_true.mpr ⟨_, List.getElem_mem hj, beq_iff_eq.mpr hk⟩
    refine wpAny_pure (wpAny_pure ?_)
    have es0 : s = { s with heap := s.heap } := by cases s; rfl
    have := q false s.heap (Heap.SameBut.refl a s.heap) ⟨o, es, ep, t, ho, hex, hd, hel, by omega, hf, by rw [same]; exact e1, by rw [same]; exact e2⟩
    rw [← es0] at this
    exact this
  | none =>
    have no : ¬ ((strip es).toList.any (fun e => e.1 == k) = true) := fun z => by
      rw [any_strip] at z
      obtain ⟨x, hx, hk⟩ := List.any_eq_true.mp z
      have h1 := List.findIdx?_eq_none_iff.mp hr x hx
      rw [key x hx, decide_eq_true (beq_iff_eq.mp hk)] at h1
      cases h1
    have add : addP st k = (let L := layNew t (strip es) k .none; if (!L.2.2.1 && L.2.1.tooFull) = true then ((relayAll L.2.1 L.1 (SetTable.grown L.1.size)).1, (relayAll L.2.1 L.1 (SetTable.grown L.1.size)).2.1) else (L.1, L.2.1)) := by
      rw [est]
      unfold addP
      rw [if_neg no]
    rw [lay_strip t es k (.int k tk)] at add
    have p1 := layNew_perm t es k (.int k tk)
    have f1 := layNew_fits t es k (.int k tk)
    have hk8 := hash8 h0 h8
    rw [hk8]
    generalize layNew t es k (.int k tk) = L at add p1 f1 ⊢
    obtain ⟨es1, t1, wd, gave⟩ := L
    dsimp only at add p1 f1 ⊢
    have hel1 := mem_perm8 hel h0 h8 p1
    have hsz1 : es1.size ≤ m + 1 := by
      have := p1.length_eq
      rw [Array.toList_push, List.length_append, Array.length_toList, Array.length_toList] at this
      simp at this
      omega
    have big : ∀ n : Nat, n ≤ m + 1 → n ≤ sizeLine := fun n hn => by rw [sizeLine_eq]; omega
    have gw : ∀ (b : Bool) {s₁ : Shared} {R : Unit → Shared → Prop}, R () s₁ → wpAny (model prog w) A (match b with | true => rule "set.scan.the-table-gave-way" | false => pure ()) R E s₁ := fun b s₁ R hR => by
      cases b
      · exact wpAny_pure hR
      · exact wpAny_rule hR
    refine wpAny_bind (gw _ ?_)
    have tail : ∀ (g : Bool → Sem Unit) (R : Option Bool → Shared → Prop), (∀ (b : Bool) (s₁ : Shared) (R : Unit → Shared → Prop), R () s₁ → wpAny (model prog w) A (g b) R E s₁) → (∀ h', Heap.SameBut a s.heap h' → SetS h' a (addP st k) (m + 1) → R (some true) { s with heap := h' }) → wpAny (model prog w) A (do
        storeSet a es1 t1
        if (!wd && t1.tooFull) = true then do
          g (relayAll t1 es1 (SetTable.grown es1.size)).2.2
          storeSet a (relayAll t1 es1 (SetTable.grown es1.size)).1 (relayAll t1 es1 (SetTable.grown es1.size)).2.1
          pure (some true)
        else pure (some true)) R E s := fun g R hg hR => by
      refine wpAny_bind (wpAny_storeSet_of ho hd ?_ (big _ hsz1))
      have g1 := put_at ho hd es1 t1
      have b1 := Heap.SameBut.update s.heap a (Obj.putSet es1 t1)
      by_cases hw : (!wd && t1.tooFull) = true
      · rw [if_pos hw]
        rw [if_pos hw, strip_size, relay_strip] at add
        have p2 := relayAll_perm t1 es1 (SetTable.grown es1.size)
        have f2 := relayAll_fits t1 es1 (SetTable.grown es1.size)
        generalize relayAll t1 es1 (SetTable.grown es1.size) = RL at add p2 f2 ⊢
        obtain ⟨es2, t2, gv⟩ := RL
        dsimp only at add p2 f2 ⊢
        have hsz2 : es2.size ≤ m + 1 := by
          have := p2.length_eq
          rw [Array.length_toList, Array.length_toList] at this
          omega
        refine wpAny_bind (hg _ _ _ ?_)
        refine wpAny_bind (wpAny_storeSet_of g1 rfl ?_ (big _ hsz2))
        have g2 := put_at g1 rfl es2 t2
        refine wpAny_pure (hR _ (b1.trans (Heap.SameBut.update _ a _)) ⟨_, es2, _, t2, g2, hex, rfl, fun e he => hel1 e (p2.mem_iff.mp he), hsz2, f2, by rw [add], by rw [add]⟩)
      · rw [if_neg hw]
        rw [if_neg hw] at add
        exact wpAny_pure (hR _ b1 ⟨_, es1, _, t1, g1, hex, rfl, hel1, hsz1, f1, by rw [add], by rw [add]⟩)
    split
    · refine wpAny_bind ?_
      rw [hashByValue_scannable 8 (x := .int k tk) rfl]
      refine wpAny_pure ?_
      rw [if_pos (show plainKind (.int k tk) = true from rfl)]
      refine tail _ _ (fun b s₁ R hR => gw b hR) fun h' hb' hS' => ?_
      exact wpAny_pure (q true h' hb' hS')
    · refine wpAny_bind (wpAny_pure ?_)
      simp only [↓reduceIte]
      refine tail _ _ (fun b s₁ R hR => gw b hR) fun h' hb' hS' => ?_
      exact wpAny_pure (q true h' hb' hS')
end
end Kp
set_option Elab.async false
set_option linter.all false
set_option maxRecDepth 100000
set_option maxHeartbeats 4000000
namespace Kp
open PySem PySem.Spec
/-! ### set(tuple of small numbers) -/
section
variable {prog : Program} {w : World} {A : Around} {R : Result → Shared → Prop} {I : Addr} {fp wr : List Addr} {n : Nat} {P : Nat → Value → Prop} {St : Nat → Heap → Prop}
def upTo (val : Nat → Int) (i : Nat) (st : SSt) : SSt := ((List.range i).map val).foldl addP st
theorem upTo_succ (val : Nat → Int) (i : Nat) (st : SSt) : upTo val (i + 1) st = addP (upTo val i st) (val i) := by
  unfold upTo
  rw [List.range_succ, List.map_append, List.foldl_append]
  rfl
theorem SetS.stays {h h' : Heap} {a : Addr} {st : SSt} {m : Nat} (x : SetS h a st m) (k : ∀ o, h.get? a = some o → h'.get? a = some o) : SetS h' a st m := by
  obtain ⟨o, es, ep, t, ho, r⟩ := x
  exact ⟨o, es, ep, t, k _ ho, r⟩
theorem loop_S (W : Walks prog w A.in1 I fp wr n P St) (S : Addr) (hSf : S ∉ fp) (val : Nat → Int) (st0 : SSt) (hval : ∀ i v, P i v → ∃ t, v = .int (val i) t) (hb : ∀ i, i < n → 0 ≤ val i ∧ val i ≤ 8) (hn : n < 90) :
    ∀ (k i : Nat) (s : Shared), n - i = k → i ≤ n → St i s.heap → SetS s.heap S (upTo val i st0) i →
      (∀ h' tk, (∀ b o, b ∉ S :: wr → s.heap.get? b = some o → h'.get? b = some o) → SetS h' S (upTo val n st0) n → R (.ok (.ret .none)) { s with heap := h', toks := tk }) →
      codeAny (model prog w) A (.builtin "set.update.loop" ⟨[.ref S, .ref I], []⟩) R s := by
  have hSw : S ∉ wr := fun h => hSf (W.sub _ h)
  intro k
  induction k with
  | zero =>
    intro i s hk hi hst hS hR
    obtain rfl : i = n := by omega
    refine codeAny_builtin PyProof.Rows.F.entry_set_update_loop ?_
    rw [Around.under_plainId PyProof.Rows.F.plain_set_update_loop _]
    show wpAny _ A.in1 (pyNext (.ref I) >>= _) _ _ s
    refine wpAny_bind (W.done s _ _ hst fun h' tk hm => wpAny_pure (hR h' tk (fun b o hb => hm b o fun z => hb (List.mem_cons_of_mem _ z)) (hS.stays fun o e => hm S o hSw e)))
  | succ k ih =>
    intro i s hk hi hst hS hR
    have hlt : i < n := by omega
    refine codeAny_builtin PyProof.Rows.F.entry_set_update_loop ?_
    rw [Around.under_plainId PyProof.Rows.F.plain_set_update_loop _]
    show wpAny _ A.in1 (pyNext (.ref I) >>= _) _ _ s
    refine wpAny_bind (W.item i s _ _ hlt hst fun v h1 tk1 hP hst1 hm1 => ?_)
    obtain ⟨t, rfl⟩ := hval i v hP
    have hS1 : SetS h1 S (upTo val i st0) i := hS.stays fun o e => hm1 S o hSw e
    show wpAny _ A.in1 (holding [Value.int (val i) t] (setAdd S (.int (val i) t)) >>= _) _ _ _
    refine wpAny_bind (wpAny_holding ?_)
    unfold setAdd
    refine wpAny_holding (wpAny_bind ((intKind prog w).pyHash (k := val i) (intKind_is _ _ _ _) ?_))
    obtain ⟨g0, g8⟩ := hb i hlt
    refine add_S hS1 g0 g8 (by omega) fun b h2 sb hS2 => ?_
    rw [← upTo_succ] at hS2
    refine wpAny_pure ⟨plainId_quiet PyProof.Rows.F.plain_set_update_loop _, ih (i + 1) _ (by omega) hlt (W.frame _ _ _ hst1 fun b hb o e => ?_) hS2 fun h3 tk3 hm3 hS3 => ?_⟩
    · rw [sb.2 b (fun z : b = S => hSf (z ▸ hb))]; exact e
    · refine hR h3 tk3 (fun b o hb e => hm3 b o hb ?_) hS3
      have hbS : b ≠ S := fun z => hb (by rw [z]; exact List.mem_cons_self)
      rw [sb.2 b hbS]
      exact hm1 b o (fun z => hb (List.mem_cons_of_mem _ z)) e
end
theorem sub_tup_set : isSubtype (.type "tuple") (.type "set") = pure false := by rw [isSubtype_type]; kernel_rfl
theorem sub_tup_fset : isSubtype (.type "tuple") (.type "frozenset") = pure false := by rw [isSubtype_type]; kernel_rfl
section
variable {prog : Program} {w : World} {A : Around} {E : Value → Shared → Prop} {s : Shared}
/-- whether sets are walked by their tables -/
def ledW (w : World) : Bool := !w.params.followText "set-order"
def newS (w : World) : Obj := { cls := .type "set", dict := none, data := .set #[] 0 (.fresh 0 0 (ledW w)) }
theorem new_S (a : Value) {Q₁ : Value → Shared → Prop} (h : Q₁ (.ref s.heap.objs.size) { s with heap := s.heap.push (newS w) }) :
    codeAny (model prog w) A (.call (.builtin "set.__new__") ⟨[.type "set", a], []⟩) (wants Q₁ E) s := by
  refine codeAny_of_tree ?_; show wpAny _ A.in1 (checkBuiltinCall "set.__new__" ⟨[.type "set", a], []⟩ >>= fun _ => again (.builtin "set.__new__" ⟨[.type "set", a], []⟩)) _ _ s
  refine wpAny_bind (wpAny_of_eq (F.newCall_set_1 a) (wpAny_pure ⟨plainId_quiet F.plain_set_new _, ?_⟩))
  refine codeAny_builtin F.entry_set_new ?_; rw [Around.under_plainId F.plain_set_new _]; unfold Builtin.«set.__new__» Builtin.Frozenset.newClass
  have hsub := sub_set_self
  obtain ⟨hp, g, d, tk, os⟩ := s
  dsimp only
  wp_walk
  refine wpAny_askSetting (wpAny_pure ?_)
  dsimp only
  simp only [newObj]
  refine wpAny_bind (wpAny_alloc (wpAny_pure ?_)); exact wpAny_pure h
theorem new_SetS : SetS ((s.heap.push (newS w))) s.heap.objs.size (#[], SetTable.fresh 0 0 (ledW w)) 0 := ⟨newS w, #[], 0, _, Heap.get?_push_size _ rfl, ⟨rfl, rfl, rfl⟩, rfl, fun e he => by simp at he, Nat.le_refl _, by cases ledW w <;> decide, by simp [strip], rfl⟩
theorem range_getD (ns : List Int) : (List.range ns.length).map (fun i => ns.getD i 0) = ns := by
  refine List.ext_getElem (by simp) fun i h1 h2 => ?_
  simp [h2]
theorem fill_S {l S : Addr} {items : Array Value} {ns : List Int} {st0 : SSt} {Q : Unit → Shared → Prop} {E2 : Value → Shared → Prop} (hh : A.handled = none) (hl : s.heap.IsTuple l items) (hi : PyProof.Rows.IntsAre items.toList ns) (h8 : ∀ v ∈ ns, 0 ≤ v ∧ v ≤ 8) (hn : ns.length < 90) (hS : SetS s.heap S st0 0) (hne : l ≠ S)
    (q : ∀ (h' : Heap) (tk : Nat), (∀ b o, b ≠ S → s.heap.get? b = some o → h'.get? b = some o) → SetS h' S (ns.foldl addP st0) ns.length → Q () { s with heap := h', toks := tk }) :
    wpAny (model prog w) A (pyIter (.ref l)) (fun a s' => wpAny (model prog w) A (do let _ ← runValue (.builtin "set.update.loop" ⟨[.ref S, a], []⟩); pure ()) Q E2 s') E s := by
  have hsz : ns.length = items.size := by rw [← Array.length_toList]; exact hi.length.symm
  have hlt : l < s.heap.objs.size := by obtain ⟨o, e, _⟩ := hl; exact Heap.lt_size e
  have hSlt : S < s.heap.objs.size := by obtain ⟨o, _, _, _, e, _⟩ := hS; exact Heap.lt_size e
  refine wpAny_pyIter_tuple hl ?_
  refine wpAny_bind (wpAny_runValue ?_)
  refine loop_S (Walks.tuple (A := A.in1) (by simpa using hh) s.heap.objs.size l (Nat.ne_of_lt hlt) items) S ?_ (fun i => ns.getD i 0) st0 (fun i v hv => hi.int_at i v (by rw [Array.getElem?_toList]; exact hv)) (fun i hi' => ?_) (by omega) (items.size - 0) 0 _ rfl (Nat.zero_le _) ⟨⟨_, Heap.get?_push_size _ rfl, rfl, rfl⟩, hl.push _⟩ (hS.stays fun o e => Heap.get?_push_of_some _ e) fun h' tk hk hS' => ?_
  · simp only [List.mem_cons, List.not_mem_nil, or_false, not_or]
    exact ⟨Nat.ne_of_lt hSlt, hne.symm⟩
  · have hi2 : i < ns.length := by omega
    have e : ns.getD i 0 = ns[i] := by simp [hi2]
    rw [e]
    exact h8 _ (List.getElem_mem hi2)
  · unfold upTo at hS'
    rw [← hsz, range_getD] at hS'
    refine wpAny_pure (q h' tk (fun b o hb e => hk b o ?_ (Heap.get?_push_of_some _ e)) hS')
    simp only [List.mem_cons, List.not_mem_nil, or_false, not_or]
    exact ⟨hb, fun z => absurd (Heap.lt_size e) (by rw [z]; exact Nat.lt_irrefl _)⟩
theorem call_set_tup {l : Addr} {items : Array Value} {ns : List Int} {Q : Value → Shared → Prop} (hh : A.handled = none) (hl : s.heap.IsTuple l items) (hi : PyProof.Rows.IntsAre items.toList ns) (h8 : ∀ v ∈ ns, 0 ≤ v ∧ v ≤ 8) (hn : ns.length < 90)
    (q : ∀ (h' : Heap) (tk : Nat), SetS h' s.heap.objs.size (ns.foldl addP (#[], SetTable.fresh 0 0 (ledW w))) ns.length → (∀ b o, b < s.heap.objs.size → s.heap.get? b = some o → h'.get? b = some o) → Q (.ref s.heap.objs.size) { s with heap := h', toks := tk }) :
    wpAny (model prog w) A (call (.type "set") [.ref l]) Q E s := by
  obtain ⟨c, tl, hmro⟩ := F.called_set.mro; have hmade := F.called_set.made; have hsub := F.called_set.sub
  refine wpAny_call (codeAny_of_tree ?_); show wpAny _ _ (callAny (.type "set") _) _ _ _
  refine wpAny_pure ⟨Code.quiet_builtin _ (by decide +kernel), ?_⟩; refine codeAny_builtin F.entry_type_call ?_
  rw [Around.under_plain (weight_type_call_type "set" [.ref l] []) rfl]; have h1 := F.called_set.notType; have h2 := F.called_set.canCreate
  have hct := F.typeCall_set_1 (.ref l)
  repeat (any_goals (first | assumption | wp_step))
  have hsz : ns.length = items.size := by rw [← Array.length_toList]; exact hi.length.symm
  refine codeAny_mono (new_S (w := w) (.ref l) (E := E) (Q₁ := fun obj s₁ => obj = .ref s.heap.objs.size ∧ s₁ = { s with heap := s.heap.push (newS w) }) ⟨rfl, rfl⟩) fun r s₁ hr => ?_
  cases r with
  | error e => exact hr
  | ok fl =>
    cases fl with
    | ret obj =>
      obtain ⟨rfl, rfl⟩ := hr
      have hS : (s.heap.push (newS w)).get? s.heap.objs.size = some (newS w) := Heap.get?_push_size _ rfl
      have hT : Shared.TypeIs { s with heap := s.heap.push (newS w) } (.ref s.heap.objs.size) "set" := ⟨_, hS, rfl⟩
      have hli := F.called_set.init.lookup; have hbi := F.called_set.init.bind (.ref s.heap.objs.size)
      repeat (any_goals (first | assumption | wp_step))
      refine codeAny_mono (codeAny_call_builtin (R := wants (fun r s₂ => r = .none ∧ ∃ h' tk, s₂ = { s with heap := h', toks := tk } ∧ SetS h' s.heap.objs.size (ns.foldl addP (#[], SetTable.fresh 0 0 (ledW w))) ns.length ∧ (∀ b o, b < s.heap.objs.size → s.heap.get? b = some o → h'.get? b = some o)) E) F.called_set.init.plain F.entry_set_init (check_set_init_1 hT ?_)) fun r₂ s₂ hr₂ => ?_
      · have hl1 : (s.heap.push (newS w)).IsTuple l items := hl.push _
        have hTl : Shared.TypeIs { s with heap := s.heap.push (newS w) } (.ref l) "tuple" := hl1.typeIs
        have hls : l < s.heap.objs.size := by obtain ⟨o, e, _⟩ := hl; exact Heap.lt_size e
        have hsls := sub_tup_set
        have hslf := sub_tup_fset
        have hne : (Value.type "tuple" == Value.type "dict") = false := by decide
        unfold Builtin.«set.__init__» noKeywords Builtin.Frozenset.updateFrom
        generalize hPI : pyIter = PI
        wp_walk
        subst hPI
        refine fill_S (A := A.in1.in1) (by simp [hh]) hl1 hi h8 hn new_SetS (Nat.ne_of_lt hls) fun h' tk hk hS' => ?_
        show wpAny _ _ (ret Value.none) _ _ _
        refine wpAny_pure ⟨rfl, h', tk, rfl, hS', fun b o hb e => hk b o (Nat.ne_of_lt hb) (Heap.get?_push_of_some _ e)⟩
      · cases r₂ with
        | error e => exact hr₂
        | ok fl₂ =>
          cases fl₂ with
          | ret r =>
            obtain ⟨rfl, h', tk, rfl, hS', hk'⟩ := hr₂
            repeat (any_goals (first | assumption | wp_step))
            exact q _ _ hS' hk'
          | _ => exact hr₂.elim
    | _ => exact hr.elim
end
end Kp
set_option Elab.async false
set_option linter.all false
set_option maxRecDepth 100000
set_option maxHeartbeats 4000000
namespace Kp
open PySem PySem.Spec
/-! ### a rising row of places -/
def UpA (xs : Array Nat) : Prop := ∀ i j : Nat, i < j → j < xs.size → xs.getD i 0 < xs.getD j 0
theorem upN_pw : ∀ {l : List Nat}, upN l = true → l.Pairwise (· < ·)
  | [], _ => .nil
  | [_], _ => List.pairwise_singleton ..
  | a :: b :: r, h => by
    have h' : decide (a < b) = true ∧ upN (b :: r) = true := Bool.and_eq_true_iff.mp h
    have ih := upN_pw h'.2
    have hab := of_decide_eq_true h'.1
    refine .cons (fun x hx => ?_) ih
    rcases List.mem_cons.mp hx with rfl | hx
    · exact hab
    · exact Nat.lt_trans hab ((List.pairwise_cons.mp ih).1 x hx)
theorem upA_of {xs : Array Nat} (h : upN xs.toList = true) : UpA xs := fun i j hij hj => by
  have hi : i < xs.size := by omega
  have := List.pairwise_iff_getElem.mp (upN_pw h) i j (by simpa using hi) (by simpa using hj) hij
  simpa [hi, hj] using this
theorem go_spec {xs : Array Nat} {j : Nat} (up : UpA xs) : ∀ (fuel lo hi : Nat), hi - lo ≤ fuel → lo ≤ hi → hi ≤ xs.size → (∀ k, k < lo → xs.getD k 0 < j) → (∀ k, hi ≤ k → k < xs.size → j ≤ xs.getD k 0) →
    SetTable.below.go xs j fuel lo hi ≤ xs.size ∧ (∀ k, k < SetTable.below.go xs j fuel lo hi → xs.getD k 0 < j) ∧ (∀ k, SetTable.below.go xs j fuel lo hi ≤ k → k < xs.size → j ≤ xs.getD k 0)
  | 0, lo, hi, hf, hlh, hs, h1, h2 => by
    obtain rfl : lo = hi := by omega
    exact ⟨hs, h1, h2⟩
  | fuel + 1, lo, hi, hf, hlh, hs, h1, h2 => by
    unfold SetTable.below.go
    by_cases hlt : lo < hi
    · rw [if_pos hlt]
      have hm : (lo + hi) / 2 < hi := by omega
      have hl : lo ≤ (lo + hi) / 2 := by omega
      have e : xs.getD ((lo + hi) / 2) j = xs.getD ((lo + hi) / 2) 0 := by
        have : (lo + hi) / 2 < xs.size := by omega
        simp [this]
      simp only [e]
      by_cases hv : xs.getD ((lo + hi) / 2) 0 < j
      · rw [if_pos hv]
        refine go_spec up fuel _ hi (by omega) (by omega) hs (fun k hk => ?_) h2
        by_cases hk2 : k = (lo + hi) / 2
        · rw [hk2]; exact hv
        · exact Nat.lt_trans (up k _ (by omega) (by omega)) hv
      · rw [if_neg hv]
        refine go_spec up fuel lo _ (by omega) hl (by omega) h1 fun k hk hks => ?_
        by_cases hk2 : k = (lo + hi) / 2
        · rw [hk2]; omega
        · have := up _ k (show (lo + hi) / 2 < k by omega) hks
          omega
    · rw [if_neg hlt]
      obtain rfl : lo = hi := by omega
      exact ⟨hs, h1, h2⟩
/-- where the walk stands behind i places -/
def slotF (xs : Array Nat) : Nat → Nat
  | 0 => 0
  | i + 1 => xs.getD i 0 + 1
theorem below_slot {xs : Array Nat} (up : UpA xs) {i : Nat} (hi : i ≤ xs.size) : SetTable.below xs (slotF xs i) = i := by
  unfold SetTable.below
  obtain ⟨g1, g2, g3⟩ := go_spec (j := slotF xs i) up xs.size 0 xs.size (by omega) (by omega) (Nat.le_refl _) (fun k hk => by omega) (fun k hk hk2 => by omega)
  generalize SetTable.below.go xs (slotF xs i) xs.size 0 xs.size = r at g1 g2 g3
  cases i with
  | zero =>
    by_cases h : r = 0
    · exact h
    · have := g2 0 (by omega)
      have es : slotF xs 0 = 0 := rfl
      omega
  | succ i =>
    have es : slotF xs (i + 1) = xs.getD i 0 + 1 := rfl
    rw [es] at g2 g3
    by_cases h1 : r < i + 1
    · have a := g3 r (Nat.le_refl _) (by omega)
      by_cases h2 : r = i
      · rw [h2] at a; omega
      · have b := up r i (by omega) (by omega)
        omega
    · by_cases h2 : i + 1 < r
      · have a := g2 (i + 1) h2
        have b := up i (i + 1) (by omega) (by omega)
        omega
      · omega
/-! ### picked in whatever order -/
theorem era_perm {α : Type} : ∀ {l : List α} {i : Nat} (h : i < l.length), ([l[i]] ++ l.eraseIdx i).Perm l
  | a :: l, 0, h => .refl _
  | a :: l, i + 1, h => by
    have ih := era_perm (l := l) (i := i) (by simpa using h)
    exact (List.Perm.swap a _ _).trans (ih.cons a)
theorem pick_go_perm {α : Type} (next : Nat → Nat) : ∀ (fuel k : Nat) (left : List α) (out : Array α), left.length ≤ fuel → (pickOrder.go next fuel k left out).toList.Perm (out.toList ++ left)
  | 0, k, left, out, h => by
    have : left = [] := List.length_eq_zero_iff.mp (by omega)
    subst this
    rw [List.append_nil]
    exact .refl _
  | fuel + 1, k, left, out, h => by
    unfold pickOrder.go
    cases e : left[next k % left.length]? with
    | none =>
      have : left = [] := by
        cases left with
        | nil => rfl
        | cons a r =>
          have hl : next k % (a :: r).length < (a :: r).length := Nat.mod_lt _ (by simp)
          rw [List.getElem?_eq_getElem hl] at e
          cases e
      subst this
      exact List.append_nil _ ▸ .refl _
    | some x =>
      obtain ⟨hl, hx⟩ := List.getElem?_eq_some_iff.mp e
      refine (pick_go_perm next fuel (k + 1) _ _ (by rw [List.length_eraseIdx_of_lt hl]; omega)).trans ?_
      rw [Array.toList_push, List.append_assoc]
      refine List.Perm.append_left _ ?_
      exact hx ▸ era_perm hl
theorem pick_perm {α : Type} (next : Nat → Nat) (xs : Array α) : (pickOrder next xs).toList.Perm xs.toList := by
  unfold pickOrder
  have := pick_go_perm next xs.size 0 xs.toList #[] (by simp)
  simpa using this
/-! ### a set's iterator -/
theorem own_sit : Manifest.owners.lookup (String.ofList "rotareti_tes".toList.reverse) = some Manifest.sig_set_iterator := by kernel_rfl
theorem slot_sit : Slot "set_iterator" "__next__" "set_iterator.__next__" := .of (owner := "set_iterator") (n := "__next__") (by rw [typeLookup_type, builtinLookup_eq_fast]; kernel_rfl) (by decide +kernel) (by decide +kernel) (by decide +kernel) (by first | exact .inl (by decide +kernel) | exact .inr (by decide +kernel)) (by rw [isSubtype_type]; kernel_rfl)
theorem entry_sit : entryFor table "set_iterator.__next__" = some Builtin.«set_iterator.__next__» := entryFor_of_tree (by kernel_rfl)
theorem args_sit (a : Value) : argsOk "set_iterator.__next__" ⟨[a], []⟩ := by unfold argsOk; rw [signature?_of (id := "set_iterator.__next__") (n := "__txen__".toList) (o := "rotareti_tes".toList) (by kernel_rfl) own_sit]; kernel_rfl
theorem entry_siter : entryFor table "set.__iter__" = some Builtin.«frozenset.__iter__» := entryFor_alias (id' := "frozenset.__iter__") (by kernel_rfl) rfl (by decide +kernel) (by kernel_rfl)
theorem slot_siti : Slot "set_iterator" "__iter__" "set_iterator.__iter__" := .of (owner := "set_iterator") (n := "__iter__") (by rw [typeLookup_type, builtinLookup_eq_fast]; kernel_rfl) (by decide +kernel) (by decide +kernel) (by decide +kernel) (by first | exact .inl (by decide +kernel) | exact .inr (by decide +kernel)) (by rw [isSubtype_type]; kernel_rfl)
section
variable {prog : Program} {w : World} {A : Around} {E : Value → Shared → Prop} {s : Shared}
def sIt (a : Addr) (slot i n ep : Nat) : Array Value := #[.int slot 0, .int i 0, .ref a, .int n 0, .int ep 0]
def SIt (h : Heap) (it a : Addr) (slot i n ep : Nat) : Prop := ∃ o, h.get? it = some o ∧ o.cls = .type "set_iterator" ∧ o.data = .fields (sIt a slot i n ep)
theorem byText_S {Q : Bool → Shared → Prop} (h : Q (w.params.followText "set-order") s) : wpAny (model prog w) A setsByText Q E s := by
  unfold setsByText
  exact wpAny_bind (wpAny_askSetting (wpAny_pure h))
theorem drawn_S {a : Addr} {o : Obj} {es : Array (Int × Value)} {ep : Nat} {t : SetTable} {Q : Bool → Shared → Prop} (ho : s.heap.get? a = some o) (hd : o.data = .set es ep t) (hf : t.fits es.size = true) (hp : w.params.followText "set-order" = true ∨ t.plain = true) (h : Q false s) : wpAny (model prog w) A (setDrawn a) Q E s := by
  unfold setDrawn
  refine wpAny_bind (wpAny_setState_of ho hd hf (wpAny_bind (byText_S (wpAny_pure ?_))))
  have e : (!w.params.followText "set-order" && (!t.plain && decide (es.size > 1))) = false := by
    rcases hp with e | e <;> rw [e] <;> simp
  show Q (!w.params.followText "set-order" && (!t.plain && decide (es.size > 1))) s
  rw [e]
  exact h
theorem iter_S {a : Addr} {o : Obj} {es : Array (Int × Value)} {ep : Nat} {t : SetTable} {Q : Value → Shared → Prop} (ho : s.heap.get? a = some o) (hex : o.ExactSet) (hd : o.data = .set es ep t) (hf : t.fits es.size = true) (hp : w.params.followText "set-order" = true ∨ t.plain = true)
    (h : Q (.ref s.heap.objs.size) { s with heap := s.heap.push { cls := .type "set_iterator", data := .fields (sIt a 0 0 es.size ep) } }) : wpAny (model prog w) A (pyIter (.ref a)) Q E s := by
  have hT : s.TypeIs (.ref a) "set" := ⟨o, ho, hex.1⟩
  refine wpAny_pyIter_slot hT F.slot_set_iter (wpAny_call_entry F.slot_set_iter hT entry_siter ?_ (F.args_set_iter_1 _))
  unfold Builtin.«frozenset.__iter__» Builtin.Frozenset.slot0 slotArgs
  simp only [List.isEmpty_nil, Bool.not_true, Bool.false_eq_true, ↓reduceIte, bind_assoc, List.length_nil, bne_self_eq_false]
  unfold Builtin.Frozenset.addrOf Builtin.Frozenset.sizeOf
  refine wpAny_bind (wpAny_pure ?_)
  try dsimp only
  refine wpAny_bind (wpAny_pure ?_)
  refine wpAny_bind (wpAny_bind (wpAny_setEntries_of ho hd hf (wpAny_pure ?_)))
  refine wpAny_bind (drawn_S ho hd hf hp ?_)
  rw [if_neg Bool.false_ne_true]
  refine wpAny_bind (wpAny_pure (wpAny_bind (wpAny_setEpoch_of ho hd hf ?_)))
  refine wpAny_bind (wpAny_newObj_type (wpAny_pure ⟨_, rfl, "set_iterator", _, ⟨_, Heap.get?_push_size _ rfl, rfl⟩, slot_sit.lookup, ?_⟩))
  exact h
/-- what comes next by the table, or by a text's order -/
theorem next_S {a : Addr} {o : Obj} {es : Array (Int × Value)} {ep slot i : Nat} {t : SetTable} {r : Option (Value × Nat)} {Q : Option (Value × Nat) → Shared → Prop} (ho : s.heap.get? a = some o) (hd : o.data = .set es ep t) (hf : t.fits es.size = true)
    (hp : (w.params.followText "set-order" = true ∧ r = ((pickOrder (w.params.setOrder a ep) es)[i]?).map fun e => (e.2, slot)) ∨ (w.params.followText "set-order" = false ∧ t.plain = true ∧ t.led = true ∧ r = (match es[SetTable.below t.place slot]?, t.place[SetTable.below t.place slot]? with | some (_, x), some j => some (x, j + 1) | _, _ => none))) (h : Q r s) : wpAny (model prog w) A (setNext a slot i ep) Q E s := by
  unfold setNext
  refine wpAny_bind (wpAny_setState_of ho hd hf ?_)
  dsimp only
  refine wpAny_bind (byText_S ?_)
  rcases hp with ⟨e, rfl⟩ | ⟨e, e1, e2, rfl⟩
  · rw [e, if_pos rfl, if_neg (by simp)]
    refine wpAny_bind ?_
    unfold setWalk
    refine wpAny_bind (wpAny_setState_of ho hd hf ?_)
    dsimp only
    refine wpAny_bind (byText_S ?_)
    rw [e, if_pos rfl]
    exact wpAny_bind (wpAny_askSetting (wpAny_pure (wpAny_pure h)))
  · rw [e, if_neg Bool.false_ne_true]
    have ed : ¬ ((!t.plain && decide (es.size > 1)) = true) := by rw [e1]; simp
    refine wpAny_ite_split (fun z => absurd z ed) (fun _ => ?_)
    have el : ¬ ((!t.led && !es.isEmpty) = true) := by rw [e2]; simp
    refine wpAny_bind ?_
    refine wpAny_ite_split (fun z => absurd z el) (fun _ => ?_)
    exact wpAny_pure (wpAny_pure h)
end
end Kp
set_option Elab.async false
set_option linter.all false
set_option maxRecDepth 100000
set_option maxHeartbeats 4000000
namespace Kp
open PySem PySem.Spec
section
variable {prog : Program} {w : World} {A : Around} {E : Value → Shared → Prop} {s : Shared}
theorem item_S {it a : Addr} {o : Obj} {es : Array (Int × Value)} {ep slot slot' i : Nat} {t : SetTable} {x : Value} {Q : Option Value → Shared → Prop} (hit : SIt s.heap it a slot i es.size ep) (ho : s.heap.get? a = some o) (hd : o.data = .set es ep t) (hf : t.fits es.size = true)
    (nx : ∀ {A : Around} {E : Value → Shared → Prop} {Q : Option (Value × Nat) → Shared → Prop}, Q (some (x, slot')) s → wpAny (model prog w) A (setNext a slot i ep) Q E s)
    (q : ∀ h', SIt h' it a slot' (i + 1) es.size ep → Heap.ExtBut it s.heap h' → Q (some x) { s with heap := h' }) : wpAny (model prog w) A (pyNext (.ref it)) Q E s := by
  obtain ⟨oi, hoi, hc, hdi⟩ := hit
  have hT : s.TypeIs (.ref it) "set_iterator" := ⟨oi, hoi, hc⟩
  unfold pyNext
  refine wpAny_bind (wpAny_attempt (wpAny_callSpecial?_slot (name := Str.ofString "__next__") hT slot_sit (wpAny_call_entry slot_sit hT entry_sit ?_ (args_sit _))))
  unfold Builtin.«set_iterator.__next__» slotArgs
  simp only [List.isEmpty_nil, Bool.not_true, Bool.false_eq_true, ↓reduceIte, bind_assoc, List.length_nil, bne_self_eq_false]
  refine wpAny_bind (wpAny_pure ?_)
  refine wpAny_bind (wpAny_fieldsOf hoi hdi ?_)
  unfold sIt
  dsimp only
  refine wpAny_bind (wpAny_setEntries_of ho hd hf ?_)
  rw [if_neg (by simp)]
  simp only [Int.toNat_natCast]
  refine wpAny_bind (nx ?_)
  dsimp only
  refine wpAny_bind (wpAny_setField hoi hdi (by simp [sIt]) ?_)
  have d1 := Obj.data_mapFields (f := fun v => v.setIfInBounds 0 (rawInt (slot' : Int))) hdi
  have g1 : (s.heap.update it (Obj.mapFields fun v => v.setIfInBounds 0 (rawInt (slot' : Int)))).get? it = some (Obj.mapFields (fun v => v.setIfInBounds 0 (rawInt (slot' : Int))) oi) := Heap.get?_update_self _ hoi (Obj.isFreed_of_fields d1)
  refine wpAny_bind (wpAny_setField g1 d1 (by simp [sIt]) ?_)
  have d2 := Obj.data_mapFields (f := fun v => v.setIfInBounds 1 (rawInt ((i : Int) + 1))) d1
  refine wpAny_pure ⟨_, rfl, wpAny_pure (q _ ⟨_, Heap.get?_update_self _ g1 (Obj.isFreed_of_fields d2), ?_, ?_⟩ ?_)⟩
  · exact (Obj.cls_mapFields ..).trans ((Obj.cls_mapFields ..).trans hc)
  · rw [d2]
    simp [sIt, rawInt]
  · exact ((Heap.SameBut.update ..).trans (Heap.SameBut.update ..)).extBut
theorem end_S {it a : Addr} {o : Obj} {es : Array (Int × Value)} {ep slot i : Nat} {t : SetTable} {Q : Option Value → Shared → Prop} (hh : A.handled = none) (hit : SIt s.heap it a slot i es.size ep) (ho : s.heap.get? a = some o) (hd : o.data = .set es ep t) (hf : t.fits es.size = true)
    (nx : ∀ {A : Around} {E : Value → Shared → Prop} {Q : Option (Value × Nat) → Shared → Prop}, Q none s → wpAny (model prog w) A (setNext a slot i ep) Q E s)
    (q : ∀ h', Heap.ExtBut it s.heap h' → Q none { s with heap := h' }) : wpAny (model prog w) A (pyNext (.ref it)) Q E s := by
  obtain ⟨oi, hoi, hc, hdi⟩ := hit
  have hT : s.TypeIs (.ref it) "set_iterator" := ⟨oi, hoi, hc⟩
  unfold pyNext
  refine wpAny_bind (wpAny_attempt (wpAny_callSpecial?_slot (name := Str.ofString "__next__") hT slot_sit (wpAny_call_entry slot_sit hT entry_sit ?_ (args_sit _))))
  unfold Builtin.«set_iterator.__next__» slotArgs
  simp only [List.isEmpty_nil, Bool.not_true, Bool.false_eq_true, ↓reduceIte, bind_assoc, List.length_nil, bne_self_eq_false]
  refine wpAny_bind (wpAny_pure ?_)
  refine wpAny_bind (wpAny_fieldsOf hoi hdi ?_)
  unfold sIt
  dsimp only
  refine wpAny_bind (wpAny_setEntries_of ho hd hf ?_)
  rw [if_neg (by simp)]
  simp only [Int.toNat_natCast]
  refine wpAny_bind (nx ?_)
  dsimp only
  refine wpAny_bind (wpAny_setField hoi hdi (by simp [sIt]) ?_)
  refine wpAny_bind ?_; simp only [newExc, newTuple]
  refine wpAny_bind (wpAny_newObj_type ?_ (by size_fits)); refine wpAny_bind (m := firstArgMember _ _) (wpAny_of_eq (a := Value.none) (by first | rfl | (simp only [firstArgMember]; rfl)) ?_)
  refine wpAny_newObj_type ?_ (by size_fits); simp only [raiseNew]
  refine wpAny_bind (wpAny_handled ?_); rw [show A.in1.handled = none from hh]
  refine wpAny_bind (wpAny_pure (wpAny_throw ?_)); refine wpAny_bind (wpAny_isInstance (T := "StopIteration") (b := true) ⟨_, Heap.get?_push_size _ rfl, rfl⟩ isSubtype_stop ?_)
  exact wpAny_pure (q _ (((Heap.SameBut.update ..).extBut.push _).push _))
end
end Kp
set_option Elab.async false
set_option linter.all false
set_option maxRecDepth 100000
set_option maxHeartbeats 4000000
namespace Kp
open PySem PySem.Spec
theorem entry_siti : entryFor table "set_iterator.__iter__" = some Builtin.«dict_keyiterator.__iter__» := entryFor_alias (id' := "dict_keyiterator.__iter__") (by kernel_rfl) rfl (by decide +kernel) (by kernel_rfl)
theorem args_siti (a : Value) : argsOk "set_iterator.__iter__" ⟨[a], []⟩ := by unfold argsOk; rw [signature?_of (id := "set_iterator.__iter__") (n := "__reti__".toList) (o := "rotareti_tes".toList) (by kernel_rfl) own_sit]; kernel_rfl
section
variable {prog : Program} {w : World} {A : Around} {E : Value → Shared → Prop} {s : Shared}
/-- the order in which a set is walked: its values, and where the walk stands behind i of them -/
structure OrdS (prog : Program) (w : World) (a : Addr) (o : Obj) (es : Array (Int × Value)) (ep : Nat) (its : Array Value) (sl : Nat → Nat) : Prop where
  zero : sl 0 = 0
  perm : its.toList.Perm (es.toList.map (·.2))
  more : ∀ {A : Around} {E : Value → Shared → Prop} {s : Shared} {Q : Option (Value × Nat) → Shared → Prop} {i : Nat} {x : Value}, s.heap.get? a = some o → its[i]? = some x → Q (some (x, sl (i + 1))) s → wpAny (model prog w) A (setNext a (sl i) i ep) Q E s
  last : ∀ {A : Around} {E : Value → Shared → Prop} {s : Shared} {Q : Option (Value × Nat) → Shared → Prop}, s.heap.get? a = some o → Q none s → wpAny (model prog w) A (setNext a (sl its.size) its.size ep) Q E s
theorem ord_text {a : Addr} {o : Obj} {es : Array (Int × Value)} {ep : Nat} {t : SetTable} (hd : o.data = .set es ep t) (hf : t.fits es.size = true) (hw : w.params.followText "set-order" = true) : OrdS prog w a o es ep ((pickOrder (w.params.setOrder a ep) es).map (·.2)) (fun _ => 0) := by
  refine ⟨rfl, ?_, fun {A E s Q i x} ho hx q => next_S ho hd hf (.inl ⟨hw, rfl⟩) ?_, fun {A E s Q} ho q => next_S ho hd hf (.inl ⟨hw, rfl⟩) ?_⟩
  · rw [Array.toList_map]
    exact (pick_perm _ es).map _
  · rw [Array.getElem?_map] at hx
    cases e : (pickOrder (w.params.setOrder a ep) es)[i]? with
    | none => rw [e] at hx; cases hx
    | some y => rw [e] at hx; cases hx; exact q
  · rw [Array.getElem?_eq_none (by simp)]
    exact q
theorem ord_table {a : Addr} {o : Obj} {es : Array (Int × Value)} {ep : Nat} {t : SetTable} (hd : o.data = .set es ep t) (hf : t.fits es.size = true) (hw : w.params.followText "set-order" = false) (hp : t.plain = true) (hl : t.led = true) (up : UpA t.place) : OrdS prog w a o es ep (es.map (·.2)) (slotF t.place) := by
  have hsz : t.place.size = es.size := by
    unfold SetTable.fits at hf
    simp only [Bool.and_eq_true, beq_iff_eq] at hf
    exact hf.1
  refine ⟨rfl, by rw [Array.toList_map], fun {A E s Q i x} ho hx q => next_S ho hd hf (.inr ⟨hw, hp, hl, rfl⟩) ?_, fun {A E s Q} ho q => next_S ho hd hf (.inr ⟨hw, hp, hl, rfl⟩) ?_⟩
  · rw [Array.getElem?_map] at hx
    have hi : i < es.size := by
      rcases Nat.lt_or_ge i es.size with h | h
      · exact h
      · rw [Array.getElem?_eq_none h] at hx; cases hx
    rw [below_slot up (by omega)]
    have e1 : es[i]? = some es[i] := Array.getElem?_eq_getElem hi
    have e2 : t.place[i]? = some (t.place.getD i 0) := by
      have : i < t.place.size := by omega
      simp [this]
    rw [e1] at hx
    cases hx
    rw [e1, e2]
    exact q
  · rw [below_slot up (by simp [hsz]), Array.getElem?_eq_none (by simp)]
    exact q
theorem walk_S (hh : A.handled = none) {I a : Addr} (hne : a ≠ I) {o : Obj} {es : Array (Int × Value)} {ep : Nat} {t : SetTable} {its : Array Value} {sl : Nat → Nat} (hd : o.data = .set es ep t) (hf : t.fits es.size = true) (R : OrdS prog w a o es ep its sl) :
    Walks prog w A I [I, a] [I] its.size (fun i v => its[i]? = some v) (fun i h => SIt h I a (sl i) i es.size ep ∧ h.get? a = some o) where
  sub := fun b hb => by simp at hb; simp [hb]
  frame := fun i h h' st hk => by
    obtain ⟨⟨oi, e1, e2, e3⟩, e4⟩ := st
    exact ⟨⟨oi, hk I (by simp) _ e1, e2, e3⟩, hk a (by simp) _ e4⟩
  item := fun i s Q E hi st hQ => by
    have hx : its[i]? = some its[i] := Array.getElem?_eq_getElem hi
    refine item_S st.1 st.2 hd hf (fun {A E Q} q => R.more st.2 hx q) fun h' hit' hb => ?_
    exact hQ _ h' s.toks hx ⟨hit', hb a o hne st.2⟩ fun b ob hnb e => hb b ob (fun z => hnb (by simp [z])) e
  done := fun s Q E st hQ => end_S hh st.1 st.2 hd hf (fun {A E Q} q => R.last st.2 q) fun h' hb => hQ h' s.toks fun b ob hnb e => hb b ob (fun z => hnb (by simp [z])) e
  self := fun i s Q E st hQ => by
    obtain ⟨⟨oi, e1, e2, _⟩, _⟩ := st
    have hT : s.TypeIs (.ref I) "set_iterator" := ⟨oi, e1, e2⟩
    refine wpAny_pyIter_slot hT slot_siti (wpAny_call_entry slot_siti hT entry_siti ?_ (args_siti _))
    show wpAny _ _ (ret (.ref I)) _ _ s
    exact wpAny_pure ⟨_, rfl, "set_iterator", _, hT, slot_sit.lookup, hQ⟩
theorem hint_S {r : Addr} {Q : Bool → Shared → Prop} (hT : s.TypeIs (.ref r) "set") (h : Q false s) : wpAny (model prog w) A (Builtin.List.listLengthHint (.ref r)) Q E s := by
  unfold Builtin.List.listLengthHint
  refine wpAny_bind (wpAny_specialOf hT PySem.F.slot_set_len.lookup ?_)
  generalize hid : ("set.__len__" : String) = id0
  wp_delta
  rw [show splitId id0 = some ("set", "__len__") from by subst hid; decide +kernel]
  subst hid
  refine wpAny_bind (wpAny_isInstance (T := "set") (b := true) hT sub_set_self ?_)
  refine wpAny_ite_split (fun z => absurd z (by decide)) (fun _ => ?_)
  refine wpAny_ite_split (fun _ => ?_) (fun z => absurd (by decide +kernel) z)
  exact wpAny_bind (wpAny_typeOf hT (wpAny_pure h))
theorem src_S {a : Addr} {o : Obj} {es : Array (Int × Value)} {ep : Nat} {t : SetTable} {its : Array Value} {sl : Nat → Nat} (hex : o.ExactSet) (hd : o.data = .set es ep t) (hf : t.fits es.size = true) (hp : w.params.followText "set-order" = true ∨ t.plain = true) (R : OrdS prog w a o es ep its sl) :
    PySem.W.KdlSrc prog w "set" a a its.size (fun i v => its[i]? = some v) (fun h => h.get? a = some o) where
  type := fun s hm => ⟨o, hm, hex.1⟩
  there := fun h hm => ⟨Heap.lt_size hm, Heap.lt_size hm⟩
  keep := fun h h' hm hk => hk a (.inl rfl) o hm
  notList := by decide
  notTuple := by decide
  hint := fun A E s Q hm hq => hint_S ⟨o, hm, hex.1⟩ hq
  iter := fun A s hh hm => ⟨_, _, fun E Q hq => iter_S hm hex hd hf hp hq, walk_S hh (Nat.ne_of_lt (Heap.lt_size hm)) hd hf R, by rw [R.zero]; exact ⟨⟨_, Heap.get?_push_size _ rfl, rfl, rfl⟩, Heap.get?_push_of_some _ hm⟩⟩
end
end Kp
namespace Kp
open PySem L2 PySem.Spec PyProof.Rows
section
variable {X : Cx}
/-- a set whose table is known -/
def setO (a : Addr) (st : SSt) (m : Nat) : HO := .ext fun h => SetS h a st m
theorem call_setT (hc : X.calm = true) : CallR X (.type "set") (fun xs H Q => ∃ (p : Addr) (ns : List Int), xs = [.ref p] ∧ SqT X.K H p (ns.map V.int) ∧ (∀ v ∈ ns, 0 ≤ v ∧ v ≤ 8) ∧ ns.length < 60 ∧ ∀ l, H l = none → Q (.ref l) (upd H l (setO l (ns.foldl addP (#[], SetTable.fresh 0 0 (ledW X.w))) ns.length))) := by
  intro pins s σ H xs us Q I r h
  obtain ⟨p, ns, rfl, hq, h8, hn, q⟩ := h
  obtain ⟨u, rfl, rx⟩ := vals1 r
  cases rx
  obtain ⟨its, rv, pl, hz⟩ := I.tuple hq
  refine call_set_tup (I.ok.hd hc) (show s.heap.IsTuple p its.toArray from pl) (ints_are (us := its) (by simpa using rv)) h8 (by omega) fun h' tk hS hk => ?_
  have ex : ∃ o, h'.get? s.heap.objs.size = some o := by obtain ⟨o, _, _, _, e, _⟩ := hS; exact ⟨o, e⟩
  exact ⟨.ref s.heap.objs.size, _, I.laid (t' := tk) (o := setO s.heap.objs.size (ns.foldl addP (#[], SetTable.fresh 0 0 (ledW X.w))) ns.length) (fun b o e => hk b o (Heap.lt_size e) e) (Nat.le_refl _) ⟨hS, ex, fun h1 h2 x k => SetS.stays x k⟩, rfl, q _ (I.hok.fresh (Nat.le_refl _))⟩
theorem ints8 {es : Array (Int × Value)} (h : Ent8 es) : IntsAre (es.toList.map (·.2)) (es.toList.map (·.1)) := by
  have : ∀ l : List (Int × Value), (∀ e ∈ l, ∃ tk, e.2 = .int e.1 tk ∧ 0 ≤ e.1 ∧ e.1 ≤ 8) → IntsAre (l.map (·.2)) (l.map (·.1)) := fun l => by
    induction l with
    | nil => intro _; exact .nil
    | cons x l ih =>
      intro hl
      obtain ⟨tk, e, _⟩ := hl x List.mem_cons_self
      rw [List.map_cons, List.map_cons, e]
      exact .cons _ _ (ih fun y hy => hl y (List.mem_cons_of_mem _ hy))
  exact this _ h
theorem ints_perm : ∀ {us vs : List Value} {ns : List Int}, us.Perm vs → IntsAre vs ns → ∃ ms, IntsAre us ms ∧ ms.Perm ns := fun {us vs ns} p => by
  induction p generalizing ns with
  | nil => intro h; cases h; exact ⟨[], .nil, .nil⟩
  | cons x p ih =>
    intro h
    cases h with
    | cons n t hr =>
      obtain ⟨ms, h1, h2⟩ := ih hr
      exact ⟨n :: ms, .cons _ _ h1, h2.cons n⟩
  | swap x y l =>
    intro h
    cases h with
    | cons n t hr => cases hr with
      | cons m u hr2 => exact ⟨_, .cons _ _ (.cons _ _ hr2), .swap ..⟩
  | trans p1 p2 ih1 ih2 =>
    intro h
    obtain ⟨ms, h1, h2⟩ := ih2 h
    obtain ⟨ks, h3, h4⟩ := ih1 h1
    exact ⟨ks, h3, h4.trans h2⟩
theorem up_lt {l : List Int} (h : l.Pairwise (· ≤ ·)) (n : l.Nodup) : l.Pairwise (· < ·) := by
  have := h.and n
  exact this.imp fun ⟨a, b⟩ => by omega
theorem call_sortedSet (hc : X.calm = true) : CallR X (.builtin "sorted") (fun xs H Q => ∃ (p : Addr) (st : SSt) (m : Nat), xs = [.ref p] ∧ H p = some (setO p st m) ∧ (ledW X.w = false ∨ goodP st = true) ∧ (memP st).Nodup ∧ m < 60 ∧
    ∀ l (ys : List Int), H l = none → ys.Perm (memP st) → ys.Pairwise (· < ·) → Q (.ref l) (upd H l (.lst (ys.map V.int)))) := by
  intro pins s σ H xs us Q I r h
  obtain ⟨p, st, m, rfl, hp, hg, nd, hm, q⟩ := h
  obtain ⟨u, rfl, rx⟩ := vals1 r
  cases rx
  obtain ⟨hS, _⟩ := (show ObjOk X.prog X.w H s.heap p (setO p st m) from I.hok p _ hp)
  obtain ⟨o, es, ep, t, ho, hex, hd, hel, hsz, hf, e1, e2⟩ := hS
  have hh := I.ok.hd hc
  have mem : es.toList.map (·.1) = memP st := by
    unfold memP
    rw [← e1]
    unfold strip
    rw [Array.toList_map, List.map_map]
    rfl
  have hor : ∃ its sl, OrdS X.prog X.w p o es ep its sl ∧ (X.w.params.followText "set-order" = true ∨ t.plain = true) := by
    cases hw : X.w.params.followText "set-order" with
    | true => exact ⟨_, _, ord_text hd hf hw, .inl rfl⟩
    | false =>
      have hg2 : goodP st = true := by
        rcases hg with hg | hg
        · unfold ledW at hg; rw [hw] at hg; cases hg
        · exact hg
      unfold goodP at hg2
      rw [← e2] at hg2
      simp only [Bool.and_eq_true] at hg2
      obtain ⟨⟨⟨g1, g2⟩, g3⟩, g4⟩ := hg2
      exact ⟨_, _, ord_table hd hf hw g1 g2 (upA_of g4), .inr g1⟩
  obtain ⟨its, sl, R, hpl⟩ := hor
  obtain ⟨ms, hms, hpm⟩ := ints_perm R.perm (ints8 hel)
  have hil : its.size = es.size := by
    have := R.perm.length_eq
    rw [List.length_map, Array.length_toList, Array.length_toList] at this
    exact this
  refine Calls.call_function_entry kind_sorted plain_sorted entry_sorted (args_sorted1 _) ?_
  unfold Builtin.«sorted»
  refine wpAny_bind (m := checkCount "sorted" 1 1 _) (wpAny_pure ?_)
  refine wpAny_bind (PySem.W.kdu_collect (A := X.A.in1) (src_S hex hd hf hpl R) hh ho (by rw [hil, sizeLine_eq]; omega) fun h' tk acc hk hacc => ?_)
  have eacc : acc = its := by
    refine Array.ext hacc.1 fun i h1 h2 => ?_
    have : its[i]? = some acc[i] := hacc.2 i acc[i] (Array.getElem?_eq_getElem h1)
    rw [Array.getElem?_eq_getElem h2] at this
    exact (Option.some.inj this).symm
  subst eacc
  refine wpAny_bind (wpAny_newList ?_ (by rw [Array.length_toList, hil, sizeLine_eq]; omega))
  have hoL : (h'.push (seqObj "list" acc.toList.toArray 0)).get? h'.objs.size = some (seqObj "list" acc.toList.toArray 0) := Heap.get?_push_size _ rfl
  refine wpAny_bind (wpAny_holding (wpAny_call_entry slot_list_sort ⟨_, hoL, rfl⟩ entry_list_sort (list_sort_tree hoL hms (by rw [Array.length_toList, hil]; omega) fun out ns' a1 a2 a3 => ⟨_, rfl, wpAny_pure ⟨_, rfl, ?_⟩⟩) (args_list_sort _)))
  have I1 : Inv X pins σ H { s with heap := h', toks := tk } := I.kept hk
  have fr : H h'.objs.size = none := I1.hok.fresh (Nat.le_refl _)
  obtain ⟨e, he⟩ := sortedHeap_at (out := out) hoL
  have pm : ns'.Perm (memP st) := (a2.trans hpm).trans (by rw [mem])
  refine ⟨.ref _, _, I1.laid (t' := tk) (o := .lst (ns'.map V.int)) (fun b o hb => ?_) (Nat.le_refl _) ⟨?_, out.toList, e, ints_back a1, by rw [Array.toArray_toList]; exact he⟩, rfl, q _ ns' fr pm (up_lt a3 (pm.nodup_iff.mpr nd))⟩
  · have hb2 := Heap.lt_size hb
    rw [sortedHeap_old (Nat.ne_of_lt hb2) (by rw [size_push']; exact Nat.lt_succ_of_lt hb2), Heap.get?_push_ne _ _ _ (Nat.ne_of_lt hb2)]
    exact hb
  · have l1 := pm.length_eq
    have l2 : (memP st).length = es.size := by rw [← mem, List.length_map, Array.length_toList]
    rw [List.length_map, sizeLine_eq]
    omega
end
end Kp
set_option Elab.async false
set_option linter.all false
set_option maxRecDepth 100000
set_option maxHeartbeats 4000000
namespace K1
open PySem L2 Kp
section
variable {P : Program} {w : World} {K : PySem.W.Frag} {mg : Str → Option Value} {base : Heap}
/-! ### a number put into a rising row -/
def insU (x : Int) (vs : List Int) : List Int := vs.filter (fun v => decide (v < x)) ++ x :: vs.filter (fun v => decide (x < v))
theorem insU_mem {x : Int} {vs : List Int} {y : Int} : y ∈ insU x vs ↔ y ∈ vs ∨ y = x := by
  unfold insU
  simp only [List.mem_append, List.mem_cons, List.mem_filter, decide_eq_true_eq]
  constructor
  · rintro (⟨h, _⟩ | h | ⟨h, _⟩)
    · exact .inl h
    · exact .inr h
    · exact .inl h
  · rintro (h | h)
    · by_cases h1 : y < x
      · exact .inl ⟨h, h1⟩
      · by_cases h2 : y = x
        · exact .inr (.inl h2)
        · exact .inr (.inr ⟨h, by omega⟩)
    · exact .inr (.inl h)
theorem insU_up {x : Int} {vs : List Int} (h : vs.Pairwise (· < ·)) : (insU x vs).Pairwise (· < ·) := by
  unfold insU
  refine List.pairwise_append.mpr ⟨h.filter _, List.pairwise_cons.mpr ⟨fun y hy => ?_, h.filter _⟩, fun a ha b hb => ?_⟩
  · exact of_decide_eq_true (List.mem_filter.mp hy).2
  · have h1 := of_decide_eq_true (List.mem_filter.mp ha).2
    rcases List.mem_cons.mp hb with e | e
    · rw [e]; exact h1
    · have h2 := of_decide_eq_true (List.mem_filter.mp e).2
      omega
theorem upx {a b : List Int} (ha : a.Pairwise (· < ·)) (hb : b.Pairwise (· < ·)) (h : ∀ x, x ∈ a ↔ x ∈ b) : a = b := by
  have pm : a.Perm b := (List.perm_ext_iff_of_nodup (ha.imp fun h => by omega) (hb.imp fun h => by omega)).mpr h
  exact pm.eq_of_pairwise (fun x y _ _ h1 h2 => by omega) ha hb
theorem insU_in {x : Int} {vs : List Int} (h : vs.Pairwise (· < ·)) (hx : x ∈ vs) : insU x vs = vs := upx (insU_up h) h fun y => by rw [insU_mem]; exact ⟨fun q => q.elim id fun e => e ▸ hx, .inl⟩
/-- voices that are seats' numbers, rising -/
structure VsOk (k : Kst) : Prop where
  up : k.vs.Pairwise (· < ·)
  low : ∀ v ∈ k.vs, 0 ≤ v ∧ v ≤ 8
theorem low_len0 : ∀ {l : List Int} {lo : Int}, l.Pairwise (· < ·) → (∀ v ∈ l, lo ≤ v ∧ v ≤ 8) → lo ≤ 9 → (l.length : Int) ≤ 9 - lo
  | [], lo, _, _, h => by show (0 : Int) ≤ 9 - lo; omega
  | x :: r, lo, up, low, h => by
    obtain ⟨u1, u2⟩ := List.pairwise_cons.mp up
    have hx := low x List.mem_cons_self
    have := low_len0 (lo := x + 1) u2 (fun v hv => by have := u1 v hv; have := low v (List.mem_cons_of_mem _ hv); omega) (by omega)
    rw [List.length_cons]
    omega
theorem low_len {l : List Int} (up : l.Pairwise (· < ·)) (low : ∀ v ∈ l, 0 ≤ v ∧ v ≤ 8) : l.length ≤ 9 := by
  have := low_len0 (lo := 0) up low (by omega)
  omega
theorem hear_vs {k : Kst} (h : VsOk k) {t : Int} : VsOk (hearF k t) := by
  unfold hearF
  by_cases e : t > k.tm
  · rw [if_pos e]
    exact ⟨.nil, fun v hv => absurd hv List.not_mem_nil⟩
  · rw [if_neg e]; exact h
def tvK (k : Kst) (one : Int) : Kst := { k with vs := insU one k.vs }
def tvC (k : Kst) (t : Int) (g : Bool) : Bool := decide (k.way = "standing") && (decide (t = k.tm) && g)
def tvF (k : Kst) (one t : Int) (g : Bool) : Kst := if tvC (hearF k t) t g then (if mostK (tvK (hearF k t) one) then ledF (tvK (hearF k t) one) else tvK (hearF k t) one) else hearF k t
def tvD (k : Kst) (one t : Int) (g : Bool) : List D := if tvC (hearF k t) t g then (if mostK (tvK (hearF k t) one) then ledD (tvK (hearF k t) one) else []) else []
theorem hear_st {k : Kst} (h : StOk k) {t : Int} : StOk (hearF k t) := by
  refine ⟨hear_ok h.ok, ?_, ?_, ?_⟩ <;> unfold hearF <;> split
  · exact h.ag0
  · exact h.ag0
  · exact h.ag1
  · exact h.ag1
  · exact h.few
  · exact h.few
theorem tv_hd {k : Kst} (h : StOk k) (v : VsOk k) (ht : 1 ≤ k.tm) {one : Int} (h0 : 0 ≤ one) (h8 : one ≤ 8) : HdOk (tvK k one) := by
  have : (insU one k.vs).length ≤ 9 := low_len (insU_up v.up) fun y hy => by
    rcases insU_mem.mp hy with e | e
    · exact v.low y e
    · omega
  exact ⟨⟨h.ok.up, h.ok.low, h.ok.some, h.ok.num, h.ok.tm, h.ok.ts, by show (insU one k.vs).length ≤ 20; omega, h.ok.few⟩, ht, h.ag0, h.ag1, h.few⟩
def spTv2 (C : Addr) : Sp := fun vs H Q _ => ∃ (a p : Addr) (x : Str) (one other t : Int) (g : Bool) (k : Kst), vs = [.ref a, .ref p] ∧ K2V C H a k ∧ StOk k ∧ VsOk k ∧ 0 ≤ one ∧ one ≤ 8 ∧ 1 ≤ t ∧ H p = some (.tup [.str x, .int one, .int other, .int t, .bl g]) ∧ ∀ (l : Addr) (xs : List V) (H' : Hp), H' l = some (.lst xs) → IsTL H' xs (tvD k one t g) → xs.length ≤ 9 → H l = none → K2V C H' a (tvF k one t g) → Off a H H' → Q (.ref l) H'
theorem boot_setT : bootBuiltins "set" = some (.type "set") := by decide +kernel
theorem scTv : FnScope ["keeper", "letter"] ["keeper", "letter"] (defScope s_take_voice) := ⟨rfl, rfl, rfl, by decide +kernel, rfl, by decide +kernel, by decide +kernel⟩
theorem ok_tv2 {f fH : Addr} {fd dH : FuncData} {C : Addr} (Y : KpC K C) (F : Fun K "take_voice" "take_voice" s_take_voice f fd) (T : Txt mg) (hset : mg "set" = none) (MH : Meth K C "hear" fH) (FH : FnOk P w K mg base CX0 2 fH dH ["self", "term"] (spHear2 C)) (bH : Binds K dH ["self", "term"] []) (CM : Cal P w K mg base "has_most_voices" 4 ["keeper"] (spHm2 C)) (CC : Cal P w K mg base "come_to_be_head" 6 ["keeper"] (spCh2 C)) : FnOk P w K mg base CX0 7 f fd ["keeper", "letter"] (spTv2 C) := by
  refine F.ok scTv (fun vs H Q E ⟨_, _, _, _, _, _, _, _, e, _⟩ => by subst e; rfl) (fun cdv A outer s H vs Q E hr h => ?_)
  obtain ⟨a, p, x, one, other, t, g, k, rfl, hk, ko, kv, h0, h8, ht, hp, q⟩ := h
  obtain ⟨gM, dM, GM, mM, kM, bM⟩ := CM.ex
  obtain ⟨gC, dC, GC, mC, kC, bC⟩ := CC.ex
  have r2 := hr.mono (show 2 ≤ 6 by omega)
  have r4 := hr.mono (show 4 ≤ 6 by omega)
  refine ⟨_, @pss_p _ _ _ _ _ (ps_expr (pe_meth (pv 0) Y.cl MH FH r2 bH .nil pass0 (pa_s (pe_ix ix_tup (pv 1) (pe_int) px_i) pa_nil)))
    (@pss_p _ _ _ _ _ (ps_if (PW.pt (pw_or (pt_cmpR op_ne (pe_fld (pv 0) (by rfl)) pe_str (nomark _)) (pw_or (pt_cmpR op_ne (pe_ix ix_tup (pv 1) (pe_int) px_i) (pe_fld (pv 0) (by rfl)) (nomark _)) (pw_or1 (pt_not (pt_val (pe_ix ix_tup (pv 1) (pe_int) px_i))))))) (@pss_o _ _ _ (ps_ret (pe_lst pa_nil))) pss_nil)
    (@pss_p _ _ _ _ _ (ps_fld (pv 0) (pe_callTy call_tuple_of (by rfl) T.tuple boot_tuple (pa_cons (pe_callB (call_sortedSet (by rfl)) (by rfl) T.sorted PyProof.Rows.boot_sorted (pa_cons (pe_callTy (call_setT (by rfl)) (by rfl) hset boot_setT (pa_cons (pe_op op_catU (pe_fld (pv 0) (by rfl)) (QE.h (qx_tup (qa_s (pe_ix ix_tup (pv 1) (pe_int) px_i) qa_nil)))) pa_nil)) pa_nil)) pa_nil)) (by rfl))
    (@pss_p _ _ _ _ _ (ps_if (pt_val (pe_call GM r4 (by rfl) mM kM bM .nil pass0 (pa_n (pv 0) pa_nil))) (@pss_o _ _ _ (ps_ret (pe_call GC hr (by rfl) mC kC bC .nil pass0 (pa_n (pv 0) pa_nil)))) pss_nil)
    (@pss_o _ _ _ (ps_ret (pe_lst pa_nil)))))), ?_⟩
  have hk' := hk
  obtain ⟨dx0, fs0, vp0, vr0, vst0, an0, ah0, av0, aw0, ha0, f0, ok0, S0⟩ := hk'
  refine ⟨_, rfl, a, dx0, fs0, rfl, ha0, ok0.no (by decide +kernel), _, rfl, p, _, _, .int t, rfl, rfl, SqT.of hp, atI_nat (j := 3) rfl, a, t, k, rfl, hk, fun H1 hk1 o1 => ?_⟩
  have hp1 := (o1.tups ha0) _ _ hp
  have kh := hear_st ko (t := t)
  have kvh := hear_vs kv (t := t)
  unfold tvF tvD at q
  generalize hearF k t = k1 at hk1 kh kvh q
  have nH1 : ∀ l : Addr, H1 l = none → H l = none := fun l hl => by
    cases e : H l with
    | none => rfl
    | some o =>
      by_cases hla : l = a
      · obtain ⟨dx4, fs4, _, _, _, _, _, _, _, ha4, _⟩ := hk1
        rw [hla, ha4] at hl; cases hl
      · rw [o1 _ _ hla e] at hl; cases hl
  have none_ret : tvC k1 t g = false → ∀ l, H1 l = none → Q (.ref l) (upd H1 l (.lst [])) := fun hc l hl => by
    rw [hc] at q
    exact q l [] _ upd_same .nil (by decide) (nH1 l hl) (hk1.same (same_upd hl)) (o1.trans (off_new hl))
  have hk1' := hk1
  obtain ⟨dx, fs, vp, vr, vst, an, ah, av, aw, ha, f, ok, S⟩ := hk1'
  refine ⟨_, rfl, a, C, dx, fs, _, rfl, ha, Y.cl, Y.n_way, f.way, rfl, _, rfl, ?_⟩
  by_cases hw : k1.way = "standing"
  case neg =>
    rw [decide_eq_false (fun z : V.str k1.way = V.str "standing" => hw (by injection z))]
    refine iteT (iteT ⟨tiny (by show 0 ≤ 1000; decide), fun l hl => none_ret ?_ l hl⟩)
    unfold tvC; rw [decide_eq_false hw]; rfl
  rw [decide_eq_true (show V.str k1.way = V.str "standing" by rw [hw])]
  refine iteF ⟨_, rfl, p, _, _, .int t, rfl, rfl, SqT.of hp1, atI_nat (j := 3) rfl, _, rfl, a, C, dx, fs, _, rfl, ha, Y.cl, Y.n_term, f.term, rfl, _, rfl, ?_⟩
  by_cases ht1 : t = k1.tm
  case neg =>
    rw [decide_eq_false (fun z : V.int t = V.int k1.tm => ht1 (by injection z))]
    refine iteT (iteT ⟨tiny (by show 0 ≤ 1000; decide), fun l hl => none_ret ?_ l hl⟩)
    unfold tvC; rw [decide_eq_true hw, decide_eq_false ht1]; rfl
  rw [decide_eq_true (show V.int t = V.int k1.tm by rw [ht1])]
  refine iteF ⟨_, rfl, p, _, _, .bl g, rfl, rfl, SqT.of hp1, atI_nat (j := 4) rfl, _, rfl, ?_⟩
  cases g with
  | false =>
    refine iteT ⟨tiny (by show 0 ≤ 1000; decide), fun l hl => none_ret ?_ l hl⟩
    unfold tvC; simp
  | true =>
    have hC : tvC k1 t true = true := by unfold tvC; rw [decide_eq_true hw, decide_eq_true ht1]; rfl
    rw [hC] at q
    refine iteF ⟨_, rfl, a, C, dx, fs, _, rfl, ha, Y.cl, Y.n_voices, f.voices, _, rfl, p, _, _, .int one, rfl, rfl, SqT.of hp1, atI_nat (j := 1) rfl, tiny (by show 1 ≤ 1000; decide), fun t1 ht1' => ?_⟩
    have s1 := same_upd (o := HO.tup [V.int one]) ht1'
    have l9 := low_len kvh.up kvh.low
    refine ⟨av, t1, k1.vs.map V.int, [V.int one], rfl, rfl, s1 _ _ S.voices, upd_same, by rw [List.length_map, sizeLine_eq]; show k1.vs.length + 1 ≤ _; omega, fun t2 H2 ht2 s2 => ?_⟩
    have e2 : k1.vs.map V.int ++ [V.int one] = (k1.vs ++ [one]).map V.int := by simp
    rw [e2] at ht2
    have s12 := s1.trans s2
    refine ⟨t2, k1.vs ++ [one], rfl, SqT.of ht2, fun v hv => ?_, by rw [List.length_append]; show k1.vs.length + 1 < 60; omega, fun t3 ht3 => ?_⟩
    · rcases List.mem_append.mp hv with e | e
      · exact kvh.low v e
      · rw [List.mem_singleton.mp e]; exact ⟨h0, h8⟩
    have s3 := same_upd (o := setO t3 ((k1.vs ++ [one]).foldl addP (#[], SetTable.fresh 0 0 (ledW w))) (k1.vs ++ [one]).length) ht3
    refine ⟨t3, _, _, rfl, upd_same, ?_, fold_nd _ (by show ([] : List Int).Nodup; exact .nil), by rw [List.length_append]; show k1.vs.length + 1 < 60; omega, fun l4 ys hl4 pm up => ?_⟩
    · show ledW w = false ∨ goodP ((k1.vs ++ [one]).foldl addP (#[], SetTable.fresh 0 0 (ledW w))) = true
      cases hw2 : ledW w with
      | false => exact .inl rfl
      | true => exact .inr (good_all kvh.up kvh.low h0 h8)
    have eys : ys = insU one k1.vs := upx up (insU_up kvh.up) fun y => by
      rw [pm.mem_iff, fold_mem, insU_mem, List.mem_append, List.mem_singleton]
      exact ⟨fun q => q.elim (fun z => absurd z List.not_mem_nil) id, .inr⟩
    subst eys
    have s4 := same_upd (o := HO.lst ((insU one k1.vs).map V.int)) hl4
    refine ⟨l4, _, rfl, .inl ⟨SqL.of upd_same, fun t5 ht5 => ?_⟩⟩
    have s5 := same_upd (o := HO.tup ((insU one k1.vs).map V.int)) ht5
    have sA := s12.trans (s3.trans (s4.trans s5))
    refine ⟨_, rfl, a, C, dx, fs, rfl, sA _ _ ha, Y.cl, Y.n_voices, ok.len, ?_⟩
    have n5 : t5 ≠ a := fun z => by rw [z, (s12.trans (s3.trans s4)) _ _ ha] at ht5; cases ht5
    have oB : Off a H1 _ := (off_same sA).trans (off_upd (o := HO.ins C dx (L2.putF "voices" (.ref t5) fs)))
    have sT := oB.tups ha
    have hk2 : K2V C _ a (tvK k1 one) := ⟨dx, _, vp, vr, vst, an, ah, t5, aw, upd_same, f.put_voices t5, ok.put (by decide +kernel), ⟨S.pack.offT sT, rwO_sameT S.row sT, S.store.offT sT, sT _ _ S.nexts, sT _ _ S.held, by rw [upd_ne n5]; exact upd_same, sT _ _ S.waits⟩⟩
    have o2 := o1.trans oB
    have kH := tv_hd kh kvh (by omega) h0 h8
    refine ⟨_, rfl, a, tvK k1 one, rfl, hk2, kH.ok, fun H5 s6 => ⟨_, rfl, ?_⟩⟩
    have hk5 := hk2.same s6
    have o5 := o2.trans (off_same s6)
    have nH : ∀ l : Addr, H5 l = none → H l = none := fun l hl => by
      cases e : H l with
      | none => rfl
      | some o =>
        by_cases hla : l = a
        · obtain ⟨dx4, fs4, _, _, _, _, _, _, _, ha4, _⟩ := hk5
          rw [hla, ha4] at hl; cases hl
        · rw [o5 _ _ hla e] at hl; cases hl
    clear hk2 sT oB sA s3 s4 s5 ht3 ht5 hl4
    cases hb : mostK (tvK k1 one) with
    | true =>
      rw [hb] at q
      exact iteT ⟨_, rfl, a, tvK k1 one, rfl, hk5, kH, fun l xs H6 hl hI h9 n6 hk6 o6 => q l xs H6 hl hI h9 (nH l n6) hk6 (o5.trans o6)⟩
    | false =>
      rw [hb] at q
      exact iteF ⟨tiny (by show 0 ≤ 1000; decide), fun l hl => q l [] _ upd_same .nil (by decide) (nH l hl) (hk5.same (same_upd hl)) (o5.trans (off_new hl))⟩
end
end K1
set_option Elab.async false
set_option linter.all false
set_option maxRecDepth 100000
set_option maxHeartbeats 4000000
namespace Kp
open PySem PySem.Spec PyProof.Rows
/-! ### x >= y of rows of ints, equally long -/
def lexGe : List Int → List Int → Bool
  | x :: xs, y :: ys => if x = y then lexGe xs ys else decide (y ≤ x)
  | _, _ => true
section
open PySem.SeqAt
open PySem.AutoSeq1 (wpAny_loadPart')
open PySem.MeetsSeq PySem.MeetsSeq2 PySem.MeetsSeq3
theorem ge_int5 (A : Around) (s : Shared) (a : Int) (t : Tok) (c : Int) (u : Tok) (prog : Program) (w : World) (E : Value → Shared → Prop) (Q : Value → Shared → Prop) (h : Q (.bool (decide (c ≤ a))) s) :
    wpAny (model prog w) A (richCompare .GtE (.int a t) (.int c u)) Q E s := (PyProof.Rows.ge_int h : wpAny (model prog w) A (compareOp .GtE (.int a t) (.int c u)) Q E s)
theorem ints_at {vs : List Value} {ns : List Int} (h : IntsAre vs ns) {i : Nat} (hi : i < vs.length) : ∃ t, ∃ hn : i < ns.length, vs[i] = .int ns[i] t := by
  have hn : i < ns.length := by rw [← h.length]; exact hi
  obtain ⟨t, e⟩ := h.int_at i vs[i] (List.getElem?_eq_getElem hi)
  exact ⟨t, hn, by rw [e]; simp [hn]⟩
theorem ge_loop5 (l b : Addr) (items items2 : Array Value) (n n2 : Nat) (dd dd2 : Option Addr) (sl sl2 : Array (Option Value)) (ns ms : List Int) (hi : IntsAre items.toList ns) (hj : IntsAre items2.toList ms) (hsz : items.size = items2.size) (k : Nat) :
    ∀ i : Nat, items.size - i = k → Meets (Builtin.«list.__eq__.loop» ⟨[.ref l, .ref b, rawInt i, rawInt 5], []⟩)
      (fun A R s => s.heap.get? l = some ⟨.type "list", dd, .seq items n, sl⟩ ∧ s.heap.get? b = some ⟨.type "list", dd2, .seq items2 n2, sl2⟩ ∧ R (.ok (.ret (.bool (lexGe (ns.drop i) (ms.drop i))))) s) := by
  have z1 : items.size = ns.length := by rw [← hi.length]; simp
  have z2 : items2.size = ms.length := by rw [← hj.length]; simp
  induction k with
  | zero =>
    intro i hk prog w A R s ⟨hl, hb, h⟩
    obtain ⟨hp, g, d, tk, os⟩ := s
    wp_walk using wpAny_loadPart' hl, wpAny_loadPart' hb
    have i1 : items[((i : Nat) : Int).toNat]? = none := by simp; omega
    have i2 : items2[((i : Nat) : Int).toNat]? = none := by simp; omega
    rw [i1, i2]
    wp_walk using wpAny_loadPart' hl, wpAny_loadPart' hb
    rw [List.drop_eq_nil_of_le (by omega)] at h
    have e : lexGe [] (ms.drop i) = true := rfl
    rw [e] at h
    show R (.ok (.ret (.bool (decide (items.size ≥ items2.size))))) _
    rw [decide_eq_true (by omega)]
    exact h
  | succ k ih =>
    intro i hk prog w A R s ⟨hl, hb, h⟩
    obtain ⟨hp, g, d, tk, os⟩ := s
    wp_walk using wpAny_loadPart' hl, wpAny_loadPart' hb
    have g1 : i < items.toList.length := by simp; omega
    have g2 : i < items2.toList.length := by simp; omega
    obtain ⟨t, hn, e1⟩ := ints_at hi g1
    obtain ⟨u, hm, e2⟩ := ints_at hj g2
    have i1 : items[((i : Nat) : Int).toNat]? = some (.int ns[i] t) := by rw [← e1]; simp
    have i2 : items2[((i : Nat) : Int).toNat]? = some (.int ms[i] u) := by rw [← e2]; simp
    have hc : ((i : Int) + 1) = ((i + 1 : Nat) : Int) := by push_cast; rfl
    rw [List.drop_eq_getElem_cons hn, List.drop_eq_getElem_cons hm] at h
    have el : lexGe (ns[i] :: ns.drop (i + 1)) (ms[i] :: ms.drop (i + 1)) = if ns[i] = ms[i] then lexGe (ns.drop (i + 1)) (ms.drop (i + 1)) else decide (ms[i] ≤ ns[i]) := rfl
    rw [el] at h
    rw [i1, i2]
    refine wpAny_bind (SeqAt.EqAt.int_int ns[i] t ms[i] u prog w _ _ ?_)
    by_cases he : ns[i] = ms[i]
    · rw [if_pos he] at h
      rw [show (ns[i] == ms[i]) = true by simp [he]]
      wp_walk
      rw [hc]
      refine ⟨plainId_quiet plain_eq_loop _, codeAny_builtin entry_eq_loop ?_⟩
      rw [Around.under_plainId plain_eq_loop _]
      exact ih (i + 1) (by omega) prog w A R _ ⟨hl, hb, h⟩
    · rw [if_neg he] at h
      rw [show (ns[i] == ms[i]) = false by simp [he]]
      have hr := ge_int5 A.in1 ⟨hp, g, d, tk, os⟩ ns[i] t ms[i] u prog w
      wp_walk using wpAny_loadPart' hl, wpAny_loadPart' hb
      rw [i1, i2]
      wp_walk using hr
      exact h
theorem list_ge5 (l b : Addr) (items items2 : Array Value) (n n2 : Nat) (dd dd2 : Option Addr) (sl sl2 : Array (Option Value)) (ns ms : List Int) (hi : IntsAre items.toList ns) (hj : IntsAre items2.toList ms) (hsz : items.size = items2.size) : Meets (Builtin.«list.__ge__» ⟨[.ref l, .ref b], []⟩)
      (fun A R s => s.heap.get? l = some ⟨.type "list", dd, .seq items n, sl⟩ ∧ s.heap.get? b = some ⟨.type "list", dd2, .seq items2 n2, sl2⟩ ∧ R (.ok (.ret (.bool (lexGe ns ms)))) s) := by
  intro prog w A R s ⟨hl, hb, h⟩
  obtain ⟨hp, g, d, tk, os⟩ := s
  have f3 := AutoSeq1.sub_list_list
  wp_walk using wpAny_loadPart' hl, wpAny_loadPart' hb
  refine ⟨plainId_quiet plain_eq_loop _, codeAny_builtin entry_eq_loop ?_⟩
  rw [Around.under_plainId plain_eq_loop _]
  exact ge_loop5 l b items items2 n n2 dd dd2 sl sl2 ns ms hi hj hsz _ 0 rfl prog w A R _ ⟨hl, hb, h⟩
end
end Kp
namespace L2
open PySem PySem.Spec PyProof.Rows
theorem op_geL {X : Cx} (hu : X.A.units < cLine) : OpR X (compareOp .GtE) (fun x y H Q => ∃ (p q : Addr) (ns ms : List Int), x = .ref p ∧ y = .ref q ∧ SqL X.K H p (ns.map V.int) ∧ SqL X.K H q (ms.map V.int) ∧ ns.length = ms.length ∧ Q (.bl (Kp.lexGe ns ms)) H) := by
  intro pins s σ H x y v u Q I rx ry h
  obtain ⟨p, q', ns, ms, rfl, rfl, h1, h2, hl, q⟩ := h
  cases rx
  cases ry
  obtain ⟨its, r1, p1, _⟩ := I.list h1
  obtain ⟨jts, r2, p2, _⟩ := I.list h2
  have i1 := ints_are r1
  have i2 := ints_are r2
  obtain ⟨⟨c1, d1, dt1, s1⟩, ho1, hc1, n1, hd1⟩ := p1.isList
  obtain ⟨⟨c2, d2, dt2, s2⟩, ho2, hc2, n2, hd2⟩ := p2.isList
  simp only at hc1 hd1 hc2 hd2
  subst hc1 hd1 hc2 hd2
  refine richCompare_meets_room (op := .GtE) ⟨_, ho1, rfl⟩ ⟨_, ho2, rfl⟩ PySem.F.slot_list_ge PySem.F.entry_list_ge (PySem.F.args_list_ge_2 _ _) (Kp.list_ge5 p q' its.toArray jts.toArray n1 n2 d1 d2 s1 s2 ns ms (by simpa using i1) (by simpa using i2) ?_) ⟨ho1, ho2, ?_⟩ hu
  · have := i1.length
    have := i2.length
    simp only [List.size_toArray]
    omega
  · exact ⟨(fun x => nomatch x), ⟨.bl (Kp.lexGe ns ms), H, I, rfl, q⟩⟩
end L2
set_option Elab.async false
set_option linter.all false
set_option maxRecDepth 100000
namespace Kp
open PySem L2
/-! ### displays of written flat things, as they are -/
def tFix (xs : List V) : TA := fun _ H Q => Q xs H
structure FA (X : Cx) (es : List Expr) (xs : List V) : Prop where
  h : PA X es (tFix xs)
section
variable {X : Cx} {es : List Expr} {xs : List V} {p : Pos} {j : Nat}
end
end Kp
namespace Kp
open PySem L2
end Kp
namespace Kp
open PySem L2
end Kp
set_option Elab.async false
set_option linter.all false
set_option maxRecDepth 100000
set_option maxHeartbeats 4000000
namespace K1
open PySem L2 Kp
section
variable {P : Program} {w : World} {K : PySem.W.Frag} {mg : Str → Option Value} {base : Heap}
def cellF (ns : List Int) (k : Int) : Int := ns.getD k.toNat 0
def spCellF (K : PySem.W.Frag) : Sp := fun vs H Q _ => ∃ (a : Addr) (ns : List Int) (k : Int), vs = [.ref a, .int k] ∧ SqL K H a (ns.map V.int) ∧ 0 ≤ k ∧ Q (.int (cellF ns k)) H
theorem scCf : FnScope ["_law_script", "_law_k"] ["_law_script", "_law_k"] (defScope sCell) := ⟨rfl, rfl, rfl, by decide +kernel, rfl, by decide +kernel, by decide +kernel⟩
theorem ok_cellF {f : Addr} {fd : FuncData} (F : Fun K "_law_cell_at" "_law_cell_at" sCell f fd) (T : Txt mg) : FnOk P w K mg base CX0 1 f fd ["_law_script", "_law_k"] (spCellF K) := by
  refine F.ok scCf (fun vs H Q E ⟨_, _, _, e, _⟩ => by subst e; rfl) (fun cdv A outer s H vs Q E hr h => ?_)
  obtain ⟨a, ns, k, rfl, hS, h0, q⟩ := h
  obtain ⟨j, rfl⟩ := Int.eq_ofNat_of_zero_le h0
  refine ⟨_, @pss_p _ _ _ _ _ (ps_if (pt_cmpR op_lt (pv 1) (pe_callB call_len_seq (by rfl) T.len PySem.boot_len (pa_n (pv 0) pa_nil)) (nomark _)) (@pss_o _ _ _ (ps_ret (pe_ix ix_list (pv 0) (pv 1) px_n))) pss_nil)
    (@pss_o _ _ _ (ps_ret (pe_int))), ?_⟩
  unfold cellF at q
  rw [Int.toNat_natCast] at q
  refine ⟨_, rfl, _, rfl, a, _, rfl, .inl hS, _, _, rfl, rfl, _, rfl, ite2 (fun hlt => ?_) (fun hlt => ?_)⟩
  · have hj : j < ns.length := by have := of_decide_eq_true hlt; rw [List.length_map] at this; omega
    rw [getD_at hj] at q
    exact ⟨_, rfl, _, rfl, a, _, _, .int ns[j], rfl, rfl, hS, atI_nat (by simp [hj]), q⟩
  · have hj : ns.length ≤ j := by have := ndec hlt; rw [List.length_map] at this; omega
    rw [List.getD_eq_getElem?_getD, List.getElem?_eq_none hj] at q
    exact q
def spMixG (K : PySem.W.Frag) : Sp := fun vs H Q _ => ∃ (a : Addr) (ns : List Int) (k : Int), vs = [.ref a, .int k] ∧ SqL K H a (ns.map V.int) ∧ 0 ≤ k ∧ ∀ m : Int, 0 ≤ m → m < 2147483629 → Q (.int m) H
theorem scMg : FnScope ["_law_script", "_law_k", "_law_number"] ["_law_script", "_law_k"] (defScope sMixed) := ⟨rfl, rfl, rfl, by decide +kernel, rfl, by decide +kernel, by decide +kernel⟩
theorem ok_mixG {f : Addr} {fd : FuncData} (F : Fun K "_law_mixed" "_law_mixed" sMixed f fd) (CC : Cal P w K mg base "_law_cell_at" 1 ["_law_script", "_law_k"] (spCellF K)) : FnOk P w K mg base CX0 2 f fd ["_law_script", "_law_k"] (spMixG K) := by
  refine F.ok scMg (fun vs H Q E ⟨_, _, _, e, _⟩ => by subst e; rfl) (fun cdv A outer s H vs Q E hr h => ?_)
  obtain ⟨a, ns, k, rfl, hS, h0, q⟩ := h
  obtain ⟨gC, dC, GC, mC, kC, bC⟩ := CC.ex
  refine ⟨_, @pss_p _ _ _ _ _ (ps_set (i := 2) scMg.nd (by rfl) (by exact Or.inl rfl) (pe_op op_mod (pe_op op_mul (pe_op op_add (pe_call GC hr (by rfl) mC kC bC .nil pass0 (pa_n (pv 0) (pa_n (pv 1) pa_nil))) (pe_op op_mul (pe_int) (pv 1))) (pe_int)) (pe_int)))
    (@pss_o _ _ _ (ps_ret (pe_op op_mod (pe_op op_add (pe_op op_add (pe_op op_mul (pv 2) (pv 2)) (pe_op op_mul (pe_int) (pv 2))) (pv 1)) (pe_int)))), ?_⟩
  refine ⟨_, rfl, _, rfl, a, ns, k, rfl, hS, h0, _, rfl, _, _, rfl, rfl, .inl ⟨by decide, by decide⟩, _, _, rfl, rfl, _, _, rfl, rfl, .inr ⟨by decide, by decide⟩, _, _, rfl, rfl, (by show (0 : Int) < 2147483647; decide), ?_⟩
  have b := emod_in ((cellF ns k + 7919 * k) * 48271) (m := 2147483647) (by decide)
  show gName 2 (V.int ((cellF ns k + 7919 * k) * 48271 % 2147483647)) _ _ _
  generalize (cellF ns k + 7919 * k) * 48271 % 2147483647 = n at b
  have b2 := emod_in (n * n + 7 * n + k) (m := 2147483629) (by decide)
  exact ⟨_, rfl, _, rfl, _, _, rfl, rfl, .inl ⟨by omega, by omega⟩, _, rfl, _, _, rfl, rfl, .inl ⟨by decide, by decide⟩, _, _, rfl, rfl, _, rfl, _, _, rfl, rfl, _, _, rfl, rfl, (by show (0 : Int) < 2147483629; decide), q _ b2.1 b2.2⟩
def spDraw : Sp := fun vs H Q _ => ∃ (n : Int) (l : Addr) (ss : List Int), vs = [.int n, .ref l] ∧ H l = some (.lst (ss.map V.int)) ∧ ss.length ≤ 100 ∧ (∀ s ∈ ss, 0 < s ∧ s < 1073741824) ∧ ∀ (r : Addr) (ds : List Int) (H' : Hp), H' r = some (.lst (ds.map V.int)) → ds.length = ss.length → (∀ (i : Nat) (s d : Int), ss[i]? = some s → ds[i]? = some d → 0 ≤ d ∧ d < s) → Same H H' → Q (.ref r) H'
theorem scDr : FnScope ["_law_number", "_law_sizes", "_law_some", "_law_size"] ["_law_number", "_law_sizes"] (defScope s__law_drawn) := ⟨rfl, rfl, rfl, by decide +kernel, rfl, by decide +kernel, by decide +kernel⟩
theorem ok_draw {f : Addr} {fd : FuncData} (F : Fun K "_law_drawn" "_law_drawn" s__law_drawn f fd) : FnOk P w K mg base CX0 1 f fd ["_law_number", "_law_sizes"] spDraw := by
  refine F.ok scDr (fun vs H Q E ⟨_, _, _, e, _⟩ => by subst e; rfl) (fun cdv A outer s H vs Q E hr h => ?_)
  obtain ⟨n, l, ss, rfl, hl, hln, hpos, q⟩ := h
  refine ⟨_, @pss_p _ _ _ _ _ (ps_set (i := 2) scDr.nd (by rfl) (by exact Or.inl rfl) (pe_lst pa_nil))
    (@pss_p _ _ _ _ _ (ps_for PassesOwn.never (by rfl) (pi_list (pv 1)) (pg_name (i := 3) scDr.nd (by rfl) (by exact Or.inl rfl)) (@pss_p _ _ _ _ _ (ps_expr (pe_bm PySem.F.plainAttrs_list PySem.F.slot_list_append PySem.F.type_list_append mt_append (pv 2) (pa_b (pe_op op_mod (pv 0) (pv 3)) pa_nil)))
    (@pss_o _ _ _ (ps_set (i := 0) scDr.nd (by rfl) (by exact Or.inl rfl) (pe_op op_fdiv (pv 0) (pv 3))))))
    (@pss_o _ _ _ (ps_ret (pv 2)))), ?_⟩
  refine ⟨tiny (by show 0 ≤ 1000; decide), fun r hr0 => ?_⟩
  have s0 := same_upd (o := HO.lst []) hr0
  have nlr : l ≠ r := fun z => by rw [z, hr0] at hl; cases hl
  refine ⟨_, rfl, l, rfl, ⟨_, SqL.of (s0 _ _ hl)⟩, for_list (K := K) (a := l) (xs := ss.map V.int) (fun i σ H' => ∃ (m : Int) (ds : List Int) (t : Option V), σ = [some (.int m), some (.ref l), some (.ref r), t] ∧ H' r = some (.lst (ds.map V.int)) ∧ ds.length = i ∧ (∀ (i : Nat) (s d : Int), ss[i]? = some s → ds[i]? = some d → 0 ≤ d ∧ d < s) ∧ Same H H')
    ⟨n, [], none, rfl, upd_same, rfl, fun i s d _ h => by simp at h, s0⟩ (fun i σ H' _ ⟨_, _, _, _, _, _, _, s1⟩ => SqL.of (s1 _ _ hl)) ?_ ?_⟩
  · rintro i x σ H' hx ⟨m, ds, t, rfl, hr1, hd, hb, s1⟩
    have hi : i < ss.length := by have := (List.getElem?_eq_some_iff.mp hx).1; rwa [List.length_map] at this
    rw [List.getElem?_map, List.getElem?_eq_getElem hi] at hx
    cases hx
    have hp := hpos _ (List.getElem_mem hi)
    refine ⟨_, rfl, .inl ⟨rfl, _, SqL.of hr1⟩, _, rfl, _, rfl, _, _, rfl, rfl, hp.1, r, _, _, rfl, rfl, hr1, by rw [List.length_map, sizeLine_eq]; omega, ?_⟩
    refine ⟨_, rfl, _, rfl, _, _, rfl, rfl, hp, ?_⟩
    have bm := emod_in m hp.1
    refine ⟨_, ds ++ [m % ss[i]], _, rfl, by rw [List.map_append]; exact upd_same, by rw [List.length_append, hd]; rfl, fun j s d h1 h2 => ?_, fun b o e => by rw [upd_ne (fun z => by rw [z, hr0] at e; cases e)]; exact s1 _ _ e⟩
    by_cases hj : j < ds.length
    · rw [List.getElem?_append_left hj] at h2
      exact hb j s d h1 h2
    · rw [List.getElem?_append_right (by omega)] at h2
      have e0 : j - ds.length = 0 := by
        cases e : j - ds.length with
        | zero => rfl
        | succ k => rw [e] at h2; simp at h2
      rw [e0] at h2
      obtain rfl : j = i := by omega
      rw [List.getElem?_eq_getElem hi] at h1
      cases h1
      cases h2
      exact bm
  · rintro σ H' ⟨m, ds, t, rfl, hr1, hd, hb, s1⟩
    rw [List.length_map] at hd
    exact ⟨_, rfl, q r ds H' hr1 hd hb s1⟩
end
end K1
set_option Elab.async false
set_option linter.all false
set_option maxRecDepth 100000
set_option maxHeartbeats 4000000
namespace K1
open PySem L2 Kp
section
variable {P : Program} {w : World} {K : PySem.W.Frag} {mg : Str → Option Value} {base : Heap}
/-- the law's own account of a keeper: a list of nine -/
structure OwnV (H : Hp) (lo : Addr) (k : Kst) (lv lr : Addr) (us : List V) : Prop where
  at_ : H lo = some (.lst [.int k.num, .int k.tm, .str k.way, .ref lv, vcV k.hd, .ref lr, .int k.nx, .int k.ag, vcV k.vc])
  v : H lv = some (.lst (k.vs.map V.int))
  r : H lr = some (.lst us)
  e : IsTL H us (entD k.ts)
  nv : lv ≠ lo
  nr : lr ≠ lo
  xv : lv ≠ k.gx
  xr : lr ≠ k.gx
  al : ∃ ys, H k.gx = some (.lst ys)
def Own (H : Hp) (lo : Addr) (k : Kst) : Prop := ∃ lv lr us, OwnV H lo k lv lr us
theorem Own.frame {H H' : Hp} {lo : Addr} {k : Kst} (h : Own H lo k) (s : SameT H H') (sl : ∀ b xs, H b = some (.lst xs) → H' b = some (.lst xs)) : Own H' lo k := by
  obtain ⟨lv, lr, us, a1, a2, a3, a4, a5, a6, a7, a8, ys, a9⟩ := h
  exact ⟨lv, lr, us, sl _ _ a1, sl _ _ a2, sl _ _ a3, a4.sameT s, a5, a6, a7, a8, ys, sl _ _ a9⟩
theorem Own.same {H H' : Hp} {lo : Addr} {k : Kst} (h : Own H lo k) (s : Same H H') : Own H' lo k := h.frame (sameT_of s) fun b xs e => s _ _ e
theorem Own.off {H H' : Hp} {lo a C dx : Addr} {fs : List (Str × V)} {k : Kst} (h : Own H lo k) (o : Off a H H') (ha : H a = some (.ins C dx fs)) : Own H' lo k := h.frame (o.tups ha) fun b xs e => o b _ (fun z => by rw [z, ha] at e; cases e) e
theorem Off.tupsL {a : Addr} {xs : List V} {H H' : Hp} (o : Off a H H') (ha : H a = some (.lst xs)) : SameT H H' := fun b ys e => o b _ (fun z => by rw [z, ha] at e; cases e) e
theorem al_off {lo x : Addr} {H H' : Hp} (o : Off lo H H') (h : ∃ ys, H' lo = some (.lst ys)) (al : ∃ ys, H x = some (.lst ys)) : ∃ ys, H' x = some (.lst ys) := by
  by_cases e : x = lo
  · rw [e]; exact h
  · obtain ⟨ys, hy⟩ := al
    exact ⟨ys, o _ _ e hy⟩
theorem al_upd {lo x : Addr} {H : Hp} {zs : List V} (al : ∃ ys, H x = some (.lst ys)) : ∃ ys, upd H lo (.lst zs) x = some (.lst ys) := al_off off_upd ⟨_, upd_same⟩ al
theorem al_same {x : Addr} {H H' : Hp} (s : Same H H') (al : ∃ ys, H x = some (.lst ys)) : ∃ ys, H' x = some (.lst ys) := al.imp fun ys h => s _ _ h
theorem al_ne {x l : Addr} {H : Hp} (al : ∃ ys, H x = some (.lst ys)) (h : H l = none) : l ≠ x := fun z => by
  obtain ⟨ys, hy⟩ := al
  rw [z, hy] at h; cases h
/-! ### most -/
def spMostL : Sp := fun vs H Q _ => ∃ (sp lv : Addr) (ms ys : List Int), vs = [.ref sp, .ref lv] ∧ H sp = some (.tup (ms.map V.int)) ∧ H lv = some (.lst (ys.map V.int)) ∧ ms.length ≤ 1000 ∧ ∀ H', Same H H' → Q (.bl (decide (ms.length < 2 * amongI ms ys))) H'
theorem scMo : FnScope ["_law_seats", "_law_voices"] ["_law_seats", "_law_voices"] (defScope s__law_most) := ⟨rfl, rfl, rfl, by decide +kernel, rfl, by decide +kernel, by decide +kernel⟩
theorem ok_mostL {f : Addr} {fd : FuncData} (F : Fun K "_law_most" "_law_most" s__law_most f fd) (T : Txt mg) : FnOk P w K mg base CX0 1 f fd ["_law_seats", "_law_voices"] spMostL := by
  refine F.ok scMo (fun vs H Q E ⟨_, _, _, _, e, _⟩ => by subst e; rfl) (fun cdv A outer s H vs Q E hr h => ?_)
  obtain ⟨sp, lv, ms, ys, rfl, hs, hv, hl, q⟩ := h
  refine ⟨_, @pss_o _ _ _ (ps_ret (pe_cmpR op_gt (pe_op op_mul (pe_int) (pe_callB call_len_seq (by rfl) T.len PySem.boot_len (pa_cons (pe_comp (NB := ["_law_seat", "_law_voices"]) (n := 1) (fr := [1]) (compOk1 (outer := defScope s__law_most) (x := "_law_voices") (by rfl) (by decide +kernel) (by rfl) (by rfl) (by rfl) (by rfl)) (by rfl) (pi_tup (pv 0))
      (fun _ _ _ _ _ => pg_name (i := 0) (show (["_law_seat", "_law_voices"] : List Str).Nodup by decide +kernel) (by rfl) (by exact Or.inl rfl)) (fun _ _ _ _ _ => pifs_one (pt_cmpR (op_inK (K := K) (by rfl)) (pv 0) (pv 1) (by rfl))) (fun _ _ _ _ _ => pv 0)) pa_nil))) (pe_callB call_len_seq (by rfl) T.len PySem.boot_len (pa_n (pv 0) pa_nil)) (nomark _))), ?_⟩
  have hT := SqT.of (K := K) hs
  refine ⟨_, rfl, sp, rfl, ⟨_, hT⟩, comp_fltT (K := K) (ms := ms) hT hl (fun n => decide (n ∈ ys)) ?_ ?_⟩
  · intro i hi t H4 R s4 ht hR
    obtain ⟨t0, rfl⟩ := one_slot ht
    have hR' := hR [some (.int ms[i])] H4 rfl (Same.refl _)
    refine ⟨_, rfl, _, rfl, lv, _, rfl, .inl (SqL.of (s4 _ _ hv)), rfl, flat_ints _, _, rfl, ?_⟩
    show if (inV (V.int ms[i]) (ys.map V.int)) = true then _ else _
    rw [in_ints]
    cases hd : decide (ms[i] ∈ ys) with
    | true => rw [hd] at hR'; exact iteT ⟨_, rfl, hR'⟩
    | false => rw [hd] at hR'; exact iteF hR'
  · intro D1 H3 s4 hD hd
    have hle : (ms.filter fun n => decide (n ∈ ys)).length ≤ ms.length := List.length_filter_le ..
    refine ⟨D1, _, rfl, .inl (SqL.of hd), _, _, rfl, rfl, ?_, ?_⟩
    · rw [List.length_map]
      exact .inl ⟨by omega, by omega⟩
    · refine ⟨_, rfl, sp, _, rfl, .inr (SqT.of (s4 _ _ hs)), _, _, rfl, rfl, ?_⟩
      rw [List.length_map, List.length_map]
      have e : decide ((ms.length : Int) < 2 * ((ms.filter fun n => decide (n ∈ ys)).length : Int)) = decide (ms.length < 2 * amongI ms ys) := by
        unfold amongI
        exact decide_eq_decide.mpr (by omega)
      show Q (.bl (decide ((ms.length : Int) < 2 * ((ms.filter fun n => decide (n ∈ ys)).length : Int)))) H3
      rw [e]
      exact q H3 s4
/-! ### heard, woken -/
def spHrd : Sp := fun vs H Q _ => ∃ (lo : Addr) (t : Int) (k : Kst), vs = [.ref lo, .int t] ∧ Own H lo k ∧ ∀ H', Own H' lo (hearF k t) → Off lo H H' → Q .non H'
theorem scHd : FnScope ["_law_own", "_law_term"] ["_law_own", "_law_term"] (defScope s__law_heard) := ⟨rfl, rfl, rfl, by decide +kernel, rfl, by decide +kernel, by decide +kernel⟩
theorem ok_hrd {f : Addr} {fd : FuncData} (F : Fun K "_law_heard" "_law_heard" s__law_heard f fd) : FnOk P w K mg base CX0 1 f fd ["_law_own", "_law_term"] spHrd := by
  refine F.ok scHd (fun vs H Q E ⟨_, _, _, e, _⟩ => by subst e; rfl) (fun cdv A outer s H vs Q E hr h => ?_)
  obtain ⟨lo, t, k, rfl, ⟨lv, lr, us, O⟩, q⟩ := h
  refine ⟨_, @pss_o _ _ _ (ps_if (pt_cmpR op_gt (pv 1) (pe_ix ix_list (pv 0) pe_int px_i) (nomark _)) (@pss_p _ _ _ _ _ (ps_asg (pv 1) (pg_sub (pv 0) pe_int set_list))
    (@pss_p _ _ _ _ _ (ps_asg (pe_str) (pg_sub (pv 0) pe_int set_list))
    (@pss_p _ _ _ _ _ (ps_asg (pe_lst pa_nil) (pg_sub (pv 0) pe_int set_list))
    (@pss_p _ _ _ _ _ (ps_asg (pe_non) (pg_sub (pv 0) pe_int set_list))
    (@pss_o _ _ _ (ps_asg (pe_non) (pg_sub (pv 0) pe_int set_list))))))) pss_nil), ?_⟩
  unfold hearF at q
  refine ⟨_, rfl, _, rfl, lo, _, _, .int k.tm, rfl, rfl, SqL.of O.at_, atI_nat (j := 1) rfl, _, _, rfl, rfl, _, rfl, ite2 (fun h => ?_) (fun h => ?_)⟩
  · have e : t > k.tm := of_decide_eq_true h
    rw [if_pos e] at q
    refine ⟨_, rfl, _, rfl, lo, _, _, 1, rfl, rfl, O.at_, rfl, ?_⟩
    refine ⟨_, rfl, lo, _, _, 2, rfl, rfl, upd_same, rfl, ?_⟩
    refine ⟨tiny (by show 0 ≤ 1000; decide), fun l3 hl3 => ?_⟩
    have n3 : l3 ≠ lo := fun z => by rw [z, upd_same] at hl3; cases hl3
    have s3 := same_upd (o := HO.lst []) hl3
    refine ⟨_, rfl, lo, _, _, 3, rfl, rfl, s3 _ _ upd_same, rfl, ?_⟩
    refine ⟨_, rfl, lo, _, _, 4, rfl, rfl, upd_same, rfl, ?_⟩
    refine ⟨_, rfl, lo, _, _, 8, rfl, rfl, upd_same, rfl, ?_⟩
    refine q _ ⟨l3, lr, us, upd_same, off_upd _ _ n3 (off_upd _ _ n3 (off_upd _ _ n3 upd_same)), ?_, ?_, n3, O.nr, al_ne (al_upd (al_upd O.al)) hl3, O.xr, al_upd (al_upd (al_upd (al_same s3 (al_upd (al_upd O.al)))))⟩ ?_
    · exact off_upd _ _ O.nr (off_upd _ _ O.nr (off_upd _ _ O.nr (s3 _ _ (off_upd _ _ O.nr (off_upd _ _ O.nr O.r)))))
    · exact O.e.sameT (Off.tupsL (off_upd.trans (off_upd.trans ((off_same s3).trans (off_upd.trans (off_upd.trans off_upd))))) O.at_)
    · exact off_upd.trans (off_upd.trans ((off_same s3).trans (off_upd.trans (off_upd.trans off_upd))))
  · have e : ¬ t > k.tm := ndec h
    rw [if_neg e] at q
    exact q H ⟨lv, lr, us, O⟩ Off.refl
def spWkn : Sp := fun vs H Q _ => ∃ (lo : Addr) (k : Kst), vs = [.ref lo] ∧ Own H lo k ∧ ∀ H', Own H' lo (wakeF k) → Off lo H H' → Q .non H'
theorem scWn : FnScope ["_law_own"] ["_law_own"] (defScope s__law_woken) := ⟨rfl, rfl, rfl, by decide +kernel, rfl, by decide +kernel, by decide +kernel⟩
theorem ent_len {H : Hp} {us : List V} {ts : List Int} (h : IsTL H us (entD ts)) : us.length = ts.length := by rw [h.length]; unfold entD; rw [List.length_map]
theorem ok_wkn {f : Addr} {fd : FuncData} (F : Fun K "_law_woken" "_law_woken" s__law_woken f fd) (T : Txt mg) : FnOk P w K mg base CX0 1 f fd ["_law_own"] spWkn := by
  refine F.ok scWn (fun vs H Q E ⟨_, _, e, _⟩ => by subst e; rfl) (fun cdv A outer s H vs Q E hr h => ?_)
  obtain ⟨lo, k, rfl, ⟨lv, lr, us, O⟩, q⟩ := h
  refine ⟨_, @pss_p _ _ _ _ _ (ps_asg (pe_str) (pg_sub (pv 0) pe_int set_list))
    (@pss_p _ _ _ _ _ (ps_asg (pe_lst pa_nil) (pg_sub (pv 0) pe_int set_list))
    (@pss_p _ _ _ _ _ (ps_asg (pe_non) (pg_sub (pv 0) pe_int set_list))
    (@pss_p _ _ _ _ _ (ps_asg (pe_op op_add (pe_callB call_len_seq (by rfl) T.len PySem.boot_len (pa_s (pe_ix ix_list (pv 0) pe_int px_i) pa_nil)) (pe_int)) (pg_sub (pv 0) pe_int set_list))
    (@pss_o _ _ _ (ps_asg (pe_int) (pg_sub (pv 0) pe_int set_list)))))), ?_⟩
  refine ⟨_, rfl, lo, _, _, 2, rfl, rfl, O.at_, rfl, ?_⟩
  refine ⟨tiny (by show 0 ≤ 1000; decide), fun l3 hl3 => ?_⟩
  have n3 : l3 ≠ lo := fun z => by rw [z, upd_same] at hl3; cases hl3
  have s3 := same_upd (o := HO.lst []) hl3
  refine ⟨_, rfl, lo, _, _, 3, rfl, rfl, s3 _ _ upd_same, rfl, ?_⟩
  refine ⟨_, rfl, lo, _, _, 4, rfl, rfl, upd_same, rfl, ?_⟩
  have hr4 := off_upd (o := HO.lst (([.int k.num, .int k.tm, .str "plain", .ref l3, .non, .ref lr, .int k.nx, .int k.ag, vcV k.vc] : List V))) _ _ O.nr (off_upd (o := HO.lst (([.int k.num, .int k.tm, .str "plain", .ref l3, vcV k.hd, .ref lr, .int k.nx, .int k.ag, vcV k.vc] : List V))) _ _ O.nr (s3 _ _ (off_upd (o := HO.lst (([.int k.num, .int k.tm, .str "plain", .ref lv, vcV k.hd, .ref lr, .int k.nx, .int k.ag, vcV k.vc] : List V))) _ _ O.nr O.r)))
  refine ⟨_, rfl, lo, _, _, .ref lr, rfl, rfl, SqL.of upd_same, atI_nat (j := 5) rfl, lr, us, rfl, .inl (SqL.of hr4), _, _, rfl, rfl, ?_⟩
  refine ⟨_, rfl, lo, _, _, 6, rfl, rfl, upd_same, rfl, ?_⟩
  refine ⟨_, rfl, lo, _, _, 7, rfl, rfl, upd_same, rfl, ?_⟩
  have el := ent_len O.e
  refine q _ ⟨l3, lr, us, ?_, off_upd _ _ n3 (off_upd _ _ n3 (off_upd _ _ n3 (off_upd _ _ n3 upd_same))), off_upd _ _ O.nr (off_upd _ _ O.nr hr4), ?_, n3, O.nr, al_ne (al_upd O.al) hl3, O.xr, al_upd (al_upd (al_upd (al_upd (al_same s3 (al_upd O.al)))))⟩ ?_
  · rw [upd_same, el]
    rfl
  · exact O.e.sameT (Off.tupsL (off_upd.trans ((off_same s3).trans (off_upd.trans (off_upd.trans (off_upd.trans off_upd))))) O.at_)
  · exact off_upd.trans ((off_same s3).trans (off_upd.trans (off_upd.trans (off_upd.trans off_upd))))
end
end K1
set_option Elab.async false
set_option linter.all false
set_option maxRecDepth 100000
set_option maxHeartbeats 4000000
namespace K1
open PySem L2 Kp
section
variable {P : Program} {w : World} {K : PySem.W.Frag} {mg : Str → Option Value} {base : Heap}
theorem isTL_map {H : Hp} {f : Nat → V} {g : Nat → D} : ∀ {L : List Nat}, (∀ i ∈ L, IsT H (f i) (g i)) → IsTL H (L.map f) (L.map g)
  | [], _ => .nil
  | i :: L, h => .cons (h i List.mem_cons_self) (isTL_map fun j hj => h j (List.mem_cons_of_mem _ hj))
theorem range_get (ms : List Int) : (List.range ms.length).map (fun i => ms.getD i 0) = ms := by
  refine List.ext_getElem (by simp) fun i h1 h2 => ?_
  simp [h2]
theorem flt_letters {H : Hp} {us : List V} {ms : List Int} (q : Int → Bool) (g : Int → D) (hl : us.length = ms.length) (h : ∀ (i : Nat) (v : V), us[i]? = some v → ∃ m, ms[i]? = some m ∧ IsT H v (g m)) : IsTL H (((List.range us.length).filter fun i => q (ms.getD i 0)).map fun i => us.getD i .non) ((ms.filter q).map g) := by
  have e : (ms.filter q).map g = ((List.range us.length).filter fun i => q (ms.getD i 0)).map fun i => g (ms.getD i 0) := by
    conv => lhs; rw [← range_get ms]
    rw [List.filter_map, List.map_map, hl]
    rfl
  rw [e]
  refine isTL_map fun i hi => ?_
  have hi2 : i < us.length := List.mem_range.mp (List.mem_filter.mp hi).1
  obtain ⟨m, em, hm⟩ := h i us[i] (List.getElem?_eq_getElem hi2)
  have e1 : us.getD i .non = us[i] := by simp [hi2]
  have e2 : ms.getD i 0 = m := by rw [List.getD_eq_getElem?_getD, em]; rfl
  rw [e1, e2]
  exact hm
/-! ### what a new head writes -/
def agL (k : Kst) : Int := if k.ms = [k.num] then (k.ts.length : Int) + 1 else k.ag
def hdD (k : Kst) (o : Int) : D := .tup [.str "hand", .int k.num, .int o, .int k.tm, .int (k.ts.length : Int), .int (endT 0 k.ts), .tup [.tup [.int k.tm, .tup [.str "open"]]], .int (agL k)]
theorem term_last (ts : List Int) (t : Int) : termAt 0 0 (ts ++ [t]) (ts.length : Int) = endT 0 ts := by
  have e := termAt_end 0 0 ts
  unfold endP at e
  rw [Int.zero_add] at e
  rw [← e]
  unfold termAt
  by_cases h : (ts.length : Int) = 0
  · rw [if_pos h, if_pos h]
  · rw [if_neg h, if_neg h]
    have hj : ((ts.length : Int) - 0 - 1).toNat < ts.length := by omega
    rw [List.getD_eq_getElem?_getD, List.getD_eq_getElem?_getD, List.getElem?_append_left hj]
theorem ent_last (ts : List Int) (t : Int) : ((entD (ts ++ [t])).drop ts.length).take 5 = [.tup [.int t, .tup [.str "open"]]] := by
  unfold entD
  rw [List.map_append, List.drop_left' (by rw [List.length_map])]
  rfl
theorem led_in {k : Kst} (h : k.num ∈ k.ms) : ledF k = { hdK k with ag := agL k } ∧ ledD k = (othK k).map (hdD k) := by
  have e1 : ledF k = { hdK k with ag := agL k } := by
    unfold ledF outF agk agL
    by_cases e : k.ms = [k.num]
    · have e2 : (hdK k).ms = [(hdK k).num] := e
      rw [if_pos e2, if_pos e]
      have e3 : ((hdK k).ts.length : Int) = (k.ts.length : Int) + 1 := by
        show ((k.ts ++ [k.tm]).length : Int) = _
        simp
      rw [e3, if_pos (show (hdK k).num ∈ (hdK k).ms from h)]
    · have e2 : ¬ (hdK k).ms = [(hdK k).num] := e
      rw [if_neg e2, if_neg e, if_pos (show (hdK k).num ∈ (hdK k).ms from h)]
      rfl
  refine ⟨e1, ?_⟩
  unfold ledD
  rw [e1]
  have eb : ∀ o, beatD { hdK k with ag := agL k } o = [hdD k o] := fun o => by
    unfold beatD
    rw [if_pos (show ({ hdK k with ag := agL k } : Kst).way = "head" from rfl)]
    unfold handD hdD
    show [D.tup [.str "hand", .int k.num, .int o, .int k.tm, .int ((k.ts.length : Int) + 1 - 1), .int (termAt 0 0 (k.ts ++ [k.tm]) ((k.ts.length : Int) + 1 - 1)), .tup (((entD (k.ts ++ [k.tm])).drop ((k.ts.length : Int) + 1 - 1).toNat).take 5), .int (agL k)]] = _
    rw [Int.add_sub_cancel, term_last, Int.toNat_natCast, ent_last]
  induction othK k with
  | nil => rfl
  | cons o os ih => rw [List.flatMap_cons, eb, ih]; rfl
theorem led_out {k : Kst} (h : ¬ k.num ∈ k.ms) : ledF k = { hdK k with way := "plain", hd := none } ∧ ledD k = [] := by
  have hm : ¬ (hdK k).ms = [(hdK k).num] := fun e => h (by
    have e' : k.ms = [k.num] := e
    rw [e']; exact List.mem_singleton.mpr rfl)
  have e1 : ledF k = { hdK k with way := "plain", hd := none } := by
    unfold ledF outF agk
    rw [if_neg hm, if_neg (show ¬ (hdK k).num ∈ (hdK k).ms from h)]
  refine ⟨e1, ?_⟩
  unfold ledD
  rw [e1]
  induction othK k with
  | nil => rfl
  | cons o os ih =>
    rw [List.flatMap_cons, ih]
    unfold beatD
    rw [if_neg (show ¬ ({ hdK k with way := "plain", hd := none } : Kst).way = "head" from (by decide : ¬ ("plain" : Str) = "head"))]
    rfl
def spLed : Sp := fun vs H Q _ => ∃ (lo sp : Addr) (k : Kst), vs = [.ref lo, .ref sp] ∧ Own H lo k ∧ H sp = some (.tup (k.ms.map V.int)) ∧ HdOk k ∧ ∀ (l : Addr) (xs : List V) (H' : Hp), H' l = some (.lst xs) → IsTL H' xs (ledD k) → H l = none → Own H' lo (ledF k) → Off lo H H' → Q (.ref l) H'
theorem scLd : FnScope ["_law_own", "_law_seats", "_law_end", "_law_last", "_law_some"] ["_law_own", "_law_seats"] (defScope s__law_led) := ⟨rfl, rfl, rfl, by decide +kernel, rfl, by decide +kernel, by decide +kernel⟩
abbrev own5 (k : Kst) (way : Str) (lv : Addr) (hd : V) (lr : Addr) (nx ag : Int) : HO := .lst [.int k.num, .int k.tm, .str way, .ref lv, hd, .ref lr, .int nx, .int ag, vcV k.vc]
theorem PSs.weakU {X : Cx} {sts : List Stmt} {t t' : TS} (h : PSs X sts t) (w : ∀ D σ H, t' D σ H → t D σ H) : PSs X sts t' := fun pins s σ H D I q => h pins s σ H D I (w D σ H q)
def tLd2 : TS := fun D σ H => ∃ (lo sp : Addr) (k : Kst), σ = [some (.ref lo), some (.ref sp), some (.int (k.ts.length : Int)), none, none] ∧ Own H lo (hdK k) ∧ H sp = some (.tup (k.ms.map V.int)) ∧ HdOk k ∧ ∀ (l : Addr) (xs : List V) (H' : Hp), H' l = some (.lst xs) → IsTL H' xs (ledD k) → H l = none → Own H' lo (ledF k) → Off lo H H' → D.rt (.ref l) H'
def tLd3 : TS := fun D σ H => ∃ (lo sp : Addr) (k : Kst), σ = [some (.ref lo), some (.ref sp), some (.int (k.ts.length : Int)), some (.int (endT 0 k.ts)), none] ∧ k.num ∈ k.ms ∧ Own H lo (ledF k) ∧ H sp = some (.tup (k.ms.map V.int)) ∧ HdOk k ∧ ∀ (l : Addr) (xs : List V) (H' : Hp), H' l = some (.lst xs) → IsTL H' xs (ledD k) → H l = none → Same H H' → D.rt (.ref l) H'
def tLd4 : TS := fun D σ H => ∃ (lo sp : Addr) (k : Kst), σ = [some (.ref lo), some (.ref sp), some (.int (k.ts.length : Int)), some (.int (endT 0 k.ts)), none] ∧ k.num ∈ k.ms ∧ Own H lo (hdK k) ∧ H sp = some (.tup (k.ms.map V.int)) ∧ HdOk k ∧ ∀ (l : Addr) (xs : List V) (H' : Hp), H' l = some (.lst xs) → IsTL H' xs (ledD k) → H l = none → Own H' lo (ledF k) → Off lo H H' → D.rt (.ref l) H'
theorem ent_at {H : Hp} : ∀ {us : List V} {ts : List Int} {i : Nat} {t : Int}, IsTL H us (entD ts) → ts[i]? = some t → ∃ p q, us[i]? = some (.ref p) ∧ H p = some (.tup [.int t, .ref q]) ∧ H q = some (.tup [.str "open"])
  | _, [], i, t, _, e => by simp at e
  | _, t0 :: ts, 0, t, h, e => by
    cases e
    cases h with
    | cons h r =>
      cases h with
      | @tup a vs _ ha hv =>
        cases hv with
        | cons h1 h2 =>
          cases h1
          cases h2 with
          | cons h3 h4 =>
            cases h4
            cases h3 with
            | @tup b ws _ hb hw =>
              cases hw with
              | cons g1 g2 =>
                cases g1
                cases g2
                exact ⟨a, b, rfl, ha, hb⟩
  | _, t0 :: ts, i + 1, t, h, e => by
    cases h with
    | cons h r => exact ent_at (i := i) r e
theorem letter_at {H : Hp} {v : V} {d0 d1 : D} {m : Int} {r : List D} (h : IsT H v (.tup (d0 :: d1 :: .int m :: r))) : ∃ a vs, v = .ref a ∧ H a = some (.tup vs) ∧ vs[2]? = some (.int m) := by
  cases h with
  | @tup a vs _ ha hv =>
    cases hv with
    | cons h1 h2 =>
      cases h2 with
      | cons h3 h4 =>
        cases h4 with
        | cons h5 h6 =>
          cases h5
          exact ⟨a, _, rfl, ha, rfl⟩
theorem ok_led {f : Addr} {fd : FuncData} (F : Fun K "_law_led" "_law_led" s__law_led f fd) (T : Txt mg) : FnOk P w K mg base CX0 1 f fd ["_law_own", "_law_seats"] spLed := by
  refine F.ok scLd (fun vs H Q E ⟨_, _, _, e, _⟩ => by subst e; rfl) (fun cdv A outer s H vs Q E hr h => ?_)
  obtain ⟨lo, sp, k, rfl, ⟨lv, lr, us, O⟩, hs, kh, q⟩ := h
  refine ⟨_, @pss_p _ _ _ _ _ (ps_asg (pe_str) (pg_sub (pv 0) pe_int set_list))
    (@pss_p _ _ _ _ _ (ps_asg (pe_ix ix_list (pv 0) pe_int px_i) (pg_sub (pv 0) pe_int set_list))
    (@pss_p _ _ _ _ _ (ps_set (i := 2) scLd.nd (by rfl) (by exact Or.inr rfl) (pe_callB call_len_seq (by rfl) T.len PySem.boot_len (pa_s (pe_ix ix_list (pv 0) pe_int px_i) pa_nil)))
    (@pss_p _ _ _ _ _ (ps_asg (pe_op op_add (pv 2) pe_int) (pg_sub (pv 0) pe_int set_list))
    (@pss_p _ _ _ _ _ (ps_asg (pe_op op_cat (pe_ix ix_list (pv 0) pe_int px_i) (pe_lst (pa_t (QE.h (qx_tup (qa_s (pe_ix ix_list (pv 0) pe_int px_i) (qa_tup (qa_str qa_nil) qa_nil)))) pa_nil))) (pg_sub (pv 0) pe_int set_list))
    (PSs.weakU (t' := tLd2) (@pss_p _ _ _ _ _ (ps_if (pt_cmpR op_notIn_seq (pe_ix ix_list (pv 0) pe_int px_i) (pv 1) (by rfl)) (@pss_p _ _ _ _ _ (ps_asg (pe_str) (pg_sub (pv 0) pe_int set_list))
    (@pss_p _ _ _ _ _ (ps_asg (pe_non) (pg_sub (pv 0) pe_int set_list))
    (@pss_o _ _ _ (ps_ret (pe_lst pa_nil))))) pss_nil)
    (@pss_p _ _ _ _ _ (ps_set (i := 3) scLd.nd (by rfl) (by exact Or.inr rfl) (pe_int))
    (@pss_p _ _ _ _ _ (ps_if (pt_cmpR op_gt (pv 2) pe_int (nomark _)) (@pss_o _ _ _ (ps_set (i := 3) scLd.nd (by rfl) (by exact Or.inr rfl) (pe_ix ix_tup (pe_ix ix_list (pe_ix ix_list (pv 0) pe_int px_i) (pe_op op_sub (pv 2) pe_int) px_b) pe_int px_i))) pss_nil)
    (PSs.weakU (t' := tLd4) (@pss_p _ _ _ _ _ (ps_if (pt_cmpR (op_eqU hr.units0) (pv 1) (QE.h (qx_tup (qa_s (pe_ix ix_list (pv 0) pe_int px_i) qa_nil))) (nomark _)) (@pss_o _ _ _ (ps_asg (pe_op op_add (pv 2) pe_int) (pg_sub (pv 0) pe_int set_list))) pss_nil)
    (PSs.weakU (t' := tLd3) (@pss_p _ _ _ _ _ (ps_comp (i := 4) scLd.nd (by rfl) (by exact Or.inl rfl) (NB := ["_law_other", "_law_own", "_law_end", "_law_last"]) (n := 1) (fr := [0, 2, 3]) (compOk3 (outer := defScope s__law_led) (x := "_law_own") (y := "_law_end") (z := "_law_last") (by rfl) (by decide +kernel) (by rfl) (by rfl) (by rfl) (by rfl) (by rfl) (by rfl) (by rfl) (by rfl) (by rfl) (by rfl)) (by rfl) (pi_tup (pv 1))
      (fun _ _ _ _ _ => pg_name (i := 0) (show (["_law_other", "_law_own", "_law_end", "_law_last"] : List Str).Nodup by decide +kernel) (by rfl) (by exact Or.inl rfl)) (fun _ _ _ _ _ => pifs_nil)
      (fun _ _ _ _ _ => QE.h (qx_tup (qa_str (qa_s (pe_ix (ix_listK (K := K) (by rfl)) (pv 1) pe_int px_i) (qa_n (pv 0) (qa_s (pe_ix (ix_listK (K := K) (by rfl)) (pv 1) pe_int px_i) (qa_n (pv 2) (qa_n (pv 3) (qa_tup (qa_s (pe_ix (ix_listK (K := K) (by rfl)) (pe_ix (ix_listK (K := K) (by rfl)) (pv 1) pe_int px_i) (pv 2) px_n) qa_nil) (qa_s (pe_ix (ix_listK (K := K) (by rfl)) (pv 1) pe_int px_i) qa_nil)))))))))))
    (@pss_o _ _ _ (ps_ret (pe_comp (NB := ["_law_letter", "_law_own"]) (n := 1) (fr := [0]) (compOk1 (outer := defScope s__law_led) (x := "_law_own") (by rfl) (by decide +kernel) (by rfl) (by rfl) (by rfl) (by rfl)) (by rfl) (pi_list (pv 4))
      (fun _ _ _ _ _ => pg_name (i := 0) (show (["_law_letter", "_law_own"] : List Str).Nodup by decide +kernel) (by rfl) (by exact Or.inl rfl)) (fun _ _ _ _ _ => pifs_one (pt_cmpR op_ne (pe_ix (ix_tupK (K := K) (by rfl)) (pv 0) pe_int px_i) (pe_ix (ix_listK (K := K) (by rfl)) (pv 1) pe_int px_i) (nomark _))) (fun _ _ _ _ _ => pv 0))))) ?w2)) ?w3)))) ?w1))))), ?_⟩
  case w1 =>
    clear O hs kh q
    rintro D σ H ⟨lo, sp, k, rfl, ⟨lv, lr, us, O⟩, hs, kh, q⟩
    refine ⟨_, rfl, lo, _, _, .int k.num, rfl, rfl, SqL.of O.at_, atI_nat (j := 0) rfl, _, rfl, sp, _, rfl, .inr (SqT.of hs), rfl, flat_ints _, _, rfl, ?_⟩
    show if (!inV (V.int k.num) (k.ms.map V.int)) = true then _ else _
    rw [in_ints]
    by_cases hin : k.num ∈ k.ms
    · rw [decide_eq_true hin]
      refine iteF ?_
      have fin : tLd4 D [some (.ref lo), some (.ref sp), some (.int (k.ts.length : Int)), some (.int (endT 0 k.ts)), none] H := ⟨lo, sp, k, rfl, hin, ⟨lv, lr, us, O⟩, hs, kh, q⟩
      refine ⟨_, rfl, _, _, rfl, rfl, _, rfl, ite2 (fun h => ?_) (fun h => ?_)⟩
      · have h0 : 0 < (k.ts.length : Int) := of_decide_eq_true h
        have hj : k.ts.length - 1 < k.ts.length := by omega
        have hlast : (k.ts ++ [k.tm])[k.ts.length - 1]? = some (endT 0 k.ts) := by
          rw [List.getElem?_append_left hj]
          unfold endT
          rcases List.eq_nil_or_concat k.ts with e | ⟨r, x, e⟩
          · rw [e] at hj; exact absurd hj (by simp)
          · rw [e]; simp
        obtain ⟨p, q2, e1, e2, e3⟩ := ent_at (ts := k.ts ++ [k.tm]) O.e hlast
        have ej : (k.ts.length : Int) - 1 = ((k.ts.length - 1 : Nat) : Int) := by omega
        refine ⟨_, rfl, lo, _, _, .ref lr, rfl, rfl, SqL.of O.at_, atI_nat (j := 5) rfl, _, rfl, _, _, rfl, rfl, lr, us, _, .ref p, rfl, rfl, SqL.of O.r, ?_, p, _, _, .int (endT 0 k.ts), rfl, rfl, SqT.of e2, atI_nat (j := 0) rfl, fin⟩
        show atI us ((k.ts.length : Int) - 1) = some (.ref p)
        rw [ej]
        exact atI_nat e1
      · have h0 : ¬ 0 < (k.ts.length : Int) := ndec h
        have e0 : k.ts = [] := List.length_eq_zero_iff.mp (by omega)
        have e1 : endT 0 k.ts = 0 := by rw [e0]; rfl
        rw [e1] at fin
        exact fin
    · rw [decide_eq_false hin]
      obtain ⟨e1, e2⟩ := led_out hin
      refine iteT ⟨_, rfl, lo, _, _, 2, rfl, rfl, O.at_, rfl, ?_⟩
      refine ⟨_, rfl, lo, _, _, 4, rfl, rfl, upd_same, rfl, tiny (by show 0 ≤ 1000; decide), fun l hl => ?_⟩
      have n1 : l ≠ lo := fun z => by rw [z, upd_same] at hl; cases hl
      have s1 := same_upd (o := HO.lst []) hl
      have oA : Off lo H _ := (off_upd (o := own5 k "plain" lv (.int k.num) lr ((k.ts.length : Int) + 1) k.ag)).trans ((off_upd (o := own5 k "plain" lv .non lr ((k.ts.length : Int) + 1) k.ag)).trans (off_same s1))
      refine q l [] _ upd_same (by rw [e2]; exact .nil) ?_ (by rw [e1]; exact ⟨lv, lr, us, s1 _ _ upd_same, oA _ _ O.nv O.v, oA _ _ O.nr O.r, O.e.sameT (oA.tupsL O.at_), O.nv, O.nr, O.xv, O.xr, al_off oA ⟨_, s1 _ _ upd_same⟩ O.al⟩) oA
      cases e : H l with
      | none => rfl
      | some o => exact absurd (hl.symm.trans (off_upd _ _ n1 (off_upd _ _ n1 e))) (fun z => by cases z)
  case w3 =>
    clear O hs kh q
    rintro D σ H ⟨lo, sp, k, rfl, hin, ⟨lv, lr, us, O⟩, hs, kh, q⟩
    obtain ⟨e1, e2⟩ := led_in hin
    refine ⟨_, rfl, _, rfl, lo, _, _, .int k.num, rfl, rfl, SqL.of O.at_, atI_nat (j := 0) rfl, tiny (by show 1 ≤ 1000; decide), fun t ht => ?_⟩
    have s1 := same_upd (o := HO.tup [V.int k.num]) ht
    have nl1 : ∀ l : Addr, upd H t (HO.tup [V.int k.num]) l = none → H l = none := fun l hl => by
      cases e : H l with
      | none => rfl
      | some o => rw [s1 _ _ e] at hl; cases hl
    refine ⟨sp, t, k.ms.map V.int, [V.int k.num], rfl, rfl, SqT.of (s1 _ _ hs), SqT.of upd_same, flat_ints _, rfl, _, rfl, ?_⟩
    rw [show eqVs (k.ms.map V.int) [V.int k.num] = decide (k.ms = [k.num]) from eqVs_ints k.ms [k.num]]
    by_cases he : k.ms = [k.num]
    · rw [decide_eq_true he]
      have eag : agL k = (k.ts.length : Int) + 1 := by unfold agL; rw [if_pos he]
      refine iteT ⟨_, rfl, _, _, rfl, rfl, _, rfl, lo, _, _, 7, rfl, rfl, s1 _ _ O.at_, rfl, ?_⟩
      have oA : Off lo H _ := (off_same s1).trans (off_upd (o := own5 k "head" lv (.int k.num) lr ((k.ts.length : Int) + 1) ((k.ts.length : Int) + 1)))
      refine ⟨lo, sp, k, rfl, hin, ?_, (oA.tupsL O.at_) _ _ hs, kh, fun l xs H' hl hI hn sH => ?_⟩
      · rw [e1, eag]
        exact ⟨lv, lr, us, upd_same, oA _ _ O.nv O.v, oA _ _ O.nr O.r, O.e.sameT (oA.tupsL O.at_), O.nv, O.nr, O.xv, O.xr, al_off oA ⟨_, upd_same⟩ O.al⟩
      · refine q l xs H' hl hI ?_ ?_ (oA.trans (off_same sH))
        · cases e : H l with
          | none => rfl
          | some o =>
            by_cases hz : l = lo
            · rw [hz, upd_same] at hn; cases hn
            · exact absurd (hn.symm.trans (oA _ _ hz e)) (fun z => by cases z)
        · rw [e1, eag]
          exact Own.same (k := { hdK k with ag := (k.ts.length : Int) + 1 }) ⟨lv, lr, us, upd_same, oA _ _ O.nv O.v, oA _ _ O.nr O.r, O.e.sameT (oA.tupsL O.at_), O.nv, O.nr, O.xv, O.xr, al_off oA ⟨_, upd_same⟩ O.al⟩ sH
    · rw [decide_eq_false he]
      have eag : agL k = k.ag := by unfold agL; rw [if_neg he]
      have hO : Own H lo (ledF k) := by rw [e1, eag]; exact ⟨lv, lr, us, O⟩
      exact iteF ⟨lo, sp, k, rfl, hin, hO.same s1, s1 _ _ hs, kh, fun l xs H' hl hI hn sH => q l xs H' hl hI (nl1 l hn) (hO.same (s1.trans sH)) (off_same (s1.trans sH))⟩
  case w2 =>
    clear O hs kh q
    rintro D σ H ⟨lo, sp, k, rfl, hin, hO, hs, kh, q⟩
    obtain ⟨e1, e2⟩ := led_in hin
    rw [e1] at hO
    obtain ⟨lv, lr, us, O⟩ := hO
    have hT := SqT.of (K := K) hs
    have hm9 := kh.ok.few
    have hlast : (k.ts ++ [k.tm])[k.ts.length]? = some k.tm := by simp
    obtain ⟨p, q2, g1, g2, g3⟩ := ent_at (ts := k.ts ++ [k.tm]) O.e hlast
    refine ⟨_, rfl, sp, rfl, ⟨_, hT⟩, comp_idx (J := Itt K sp) (k := 1) (n := k.ms.length) (fun i H v => ∃ m, k.ms[i]? = some m ∧ IsT H v (hdD k m)) (fun i H H' v s ⟨m, e, h⟩ => ⟨m, e, h.sameT s⟩) (by rw [sizeLine_eq]; omega) (fun i H3 hi s4 => ?_) (fun H3 s4 => ?_) ?_ ?_⟩
    · exact ⟨k.ms.map V.int, .int k.ms[i], SqT.of (s4 _ _ hs), by simp [hi]⟩
    · exact ⟨k.ms.map V.int, SqT.of (s4 _ _ hs), by simp⟩
    · intro i H3 t x H4 R hi s4 ht y hR
      obtain ⟨t0, rfl⟩ := one_slot ht
      obtain ⟨rfl, hy⟩ := y
      have hv := hy _ (SqT.of (s4 _ _ hs))
      rw [List.getElem?_map, List.getElem?_eq_getElem hi] at hv
      cases hv
      have hlo := s4 _ _ O.at_
      refine ⟨_, rfl, lo, _, _, .int k.num, rfl, rfl, SqL.of hlo, atI_nat (j := 0) rfl, _, rfl, _, rfl, lo, _, _, .int k.tm, rfl, rfl, SqL.of hlo, atI_nat (j := 1) rfl, _, rfl, _, rfl, _, rfl, lo, _, _, .ref lr, rfl, rfl, SqL.of hlo, atI_nat (j := 5) rfl, _, rfl, lr, us, _, .ref p, rfl, rfl, SqL.of (s4 _ _ O.r), atI_nat g1, tiny (by show 1 ≤ 1000; decide), fun t5 ht5 => ?_⟩
      have s5 := same_upd (o := HO.tup [V.ref p]) ht5
      refine ⟨_, rfl, lo, _, _, .int (agL k), rfl, rfl, SqL.of (s5 _ _ hlo), atI_nat (j := 7) rfl, tiny (by show 8 ≤ 1000; decide), fun t6 ht6 => ?_⟩
      have s6 := same_upd (o := HO.tup [V.str "hand", V.int k.num, V.int k.ms[i], V.int k.tm, V.int (k.ts.length : Int), V.int (endT 0 k.ts), V.ref t5, V.int (agL k)]) ht6
      have sA := s4.trans (s5.trans s6)
      refine hR [_] _ _ rfl (s5.trans s6) ⟨k.ms[i], by simp [hi], .tup upd_same (.cons (.str _) (.cons (.int _) (.cons (.int _) (.cons (.int _) (.cons (.int _) (.cons (.int _) (.cons (.tup (s6 _ _ upd_same) (.cons (.tup (sA _ _ g2) (.cons (.int _) (.cons (.tup (sA _ _ g3) (.cons (.str _) .nil)) .nil))) .nil)) (.cons (.int _) .nil))))))))⟩
    · intro D1 H3 ls s3 hD1 hd1 hlen hls
      refine ⟨_, rfl, D1, rfl, ⟨_, SqL.of hd1⟩, comp_pure (J := Itl K D1) (k := 1) (n := ls.length) (fun i => !decide (k.ms.getD i 0 = k.num)) (fun i => ls.getD i .non) (by rw [hlen, sizeLine_eq]; omega) (fun i H5 hi s5 => ⟨ls, ls[i], SqL.of (s5 _ _ hd1), by simp [hi]⟩) (fun H5 s5 => ⟨ls, SqL.of (s5 _ _ hd1), by simp⟩) ?_ ?_⟩
      · intro i H5 t x H6 R hi s5 ht y hR
        obtain ⟨t0, rfl⟩ := one_slot ht
        obtain ⟨rfl, hy⟩ := y
        have hv := hy _ (SqL.of (s5 _ _ hd1))
        rw [List.getElem?_eq_getElem hi] at hv
        cases hv
        obtain ⟨m, em, hm⟩ := hls i ls[i] (List.getElem?_eq_getElem hi)
        have hR' := hR [some ls[i]] _ rfl (Same.refl _)
        have ed1 : ls.getD i .non = ls[i] := by simp [hi]
        have ed2 : k.ms.getD i 0 = m := by rw [List.getD_eq_getElem?_getD, em]; rfl
        rw [ed1, ed2] at hR'
        obtain ⟨a, vs, ea, ha, h2⟩ := letter_at hm
        rw [ea] at hR' ⊢
        refine ⟨_, rfl, a, _, _, .int m, rfl, rfl, SqT.of (s5 _ _ ha), atI_nat h2, _, rfl, lo, _, _, .int k.num, rfl, rfl, SqL.of (s5 _ _ (s3 _ _ O.at_)), atI_nat (j := 0) rfl, rfl, _, rfl, ?_⟩
        rw [dec_int]
        by_cases hmk : m = k.num
        · rw [decide_eq_true hmk] at hR'
          rw [show (m == k.num) = true by simp [hmk]]
          exact iteF hR'
        · rw [decide_eq_false hmk] at hR'
          rw [show (m == k.num) = false by simp [hmk]]
          exact iteT ⟨_, rfl, hR'⟩
      · intro D2 H5 s5 hD2 hd2
        refine q D2 _ H5 hd2 ?_ ?_ (s3.trans s5)
        · rw [e2]
          unfold othK
          exact flt_letters (fun m => !decide (m = k.num)) (hdD k) hlen fun i v hv => by
            obtain ⟨m, em, hm⟩ := hls i v hv
            exact ⟨m, em, hm.sameT (sameT_of s5)⟩
        · cases e : H D2 with
          | none => rfl
          | some o => rw [s3 _ _ e] at hD2; cases hD2
  have el := ent_len O.e
  refine ⟨_, rfl, lo, _, _, 2, rfl, rfl, O.at_, rfl, ?_⟩
  refine ⟨_, rfl, lo, _, _, .int k.num, rfl, rfl, SqL.of upd_same, atI_nat (j := 0) rfl, _, rfl, lo, _, _, 4, rfl, rfl, upd_same, rfl, ?_⟩
  refine ⟨_, rfl, lo, _, _, .ref lr, rfl, rfl, SqL.of upd_same, atI_nat (j := 5) rfl, lr, us, rfl, .inl (SqL.of (off_upd _ _ O.nr (off_upd _ _ O.nr O.r))), ?_⟩
  rw [el]
  refine ⟨_, rfl, _, _, rfl, rfl, _, rfl, lo, _, _, 6, rfl, rfl, upd_same, rfl, ?_⟩
  have o3 : Off lo H _ := (off_upd (o := own5 k "head" lv (vcV k.hd) lr k.nx k.ag)).trans ((off_upd (o := own5 k "head" lv (.int k.num) lr k.nx k.ag)).trans (off_upd (o := own5 k "head" lv (.int k.num) lr ((k.ts.length : Int) + 1) k.ag)))
  refine ⟨_, rfl, lo, _, _, .ref lr, rfl, rfl, SqL.of upd_same, atI_nat (j := 5) rfl, _, rfl, lo, _, _, .int k.tm, rfl, rfl, SqL.of upd_same, atI_nat (j := 1) rfl, tiny (by show 1 ≤ 1000; decide), fun t1 ht1 => ⟨tiny (by show 2 ≤ 1000; decide), fun t2 ht2 => ⟨tiny (by show 1 ≤ 1000; decide), fun l1 hl1 => ?_⟩⟩⟩
  have s1 := same_upd (o := HO.tup [V.str "open"]) ht1
  have s2 := same_upd (o := HO.tup [V.int k.tm, V.ref t1]) ht2
  have s3 := same_upd (o := HO.lst [V.ref t2]) hl1
  have s13 := s1.trans (s2.trans s3)
  have hf := kh.few
  refine ⟨lr, l1, us, [.ref t2], rfl, rfl, s13 _ _ (o3 _ _ O.nr O.r), upd_same, by rw [el, sizeLine_eq]; show k.ts.length + 1 ≤ _; omega, fun l2 hl2 => ?_⟩
  have s4 := same_upd (o := HO.lst (us ++ [V.ref t2])) hl2
  have s14 := s13.trans s4
  have n2 : l2 ≠ lo := fun z => by rw [z, s13 _ _ upd_same] at hl2; cases hl2
  refine ⟨_, rfl, lo, _, _, 5, rfl, rfl, s14 _ _ upd_same, rfl, ?_⟩
  have oA := o3.trans ((off_same s14).trans (off_upd (o := own5 k "head" lv (.int k.num) l2 ((k.ts.length : Int) + 1) k.ag)))
  have sT := oA.tupsL O.at_
  have oB : Off lo _ _ := off_upd (H := upd (upd (upd (upd (upd (upd (upd H lo (own5 k "head" lv (vcV k.hd) lr k.nx k.ag)) lo (own5 k "head" lv (.int k.num) lr k.nx k.ag)) lo (own5 k "head" lv (.int k.num) lr ((k.ts.length : Int) + 1) k.ag)) t1 (HO.tup [V.str "open"])) t2 (HO.tup [V.int k.tm, V.ref t1])) l1 (HO.lst [V.ref t2])) l2 (HO.lst (us ++ [V.ref t2]))) (o := own5 k "head" lv (.int k.num) l2 ((k.ts.length : Int) + 1) k.ag)
  have nt2 : t2 ≠ lo := fun z => by rw [z, s1 _ _ upd_same] at ht2; cases ht2
  have nt1 : t1 ≠ lo := fun z => by rw [z, upd_same] at ht1; cases ht1
  refine ⟨lo, sp, k, rfl, ⟨lv, l2, us ++ [.ref t2], upd_same, oA _ _ O.nv O.v, oB _ _ n2 upd_same, ?_, O.nv, n2, O.xv, al_ne (al_same s13 (al_upd (al_upd (al_upd O.al)))) hl2, al_off oA ⟨_, upd_same⟩ O.al⟩, sT _ _ hs, kh, fun l xs H' hl hI nl hO off => q l xs H' hl hI ?_ hO (oA.trans off)⟩
  · show IsTL _ (us ++ [.ref t2]) (entD (k.ts ++ [k.tm]))
    unfold entD
    rw [List.map_append]
    refine (O.e.sameT sT).append (.cons (.tup (vs := [V.int k.tm, V.ref t1]) (oB _ _ nt2 (s4 _ _ (s3 _ _ upd_same))) (.cons (.int _) (.cons (.tup (vs := [V.str "open"]) (oB _ _ nt1 (s4 _ _ (s3 _ _ (s2 _ _ upd_same)))) (.cons (.str _) .nil)) .nil))) .nil)
  · cases e : H l with
    | none => rfl
    | some o =>
      by_cases hl2 : l = lo
      · rw [hl2, upd_same] at nl; cases nl
      · exact absurd (nl.symm.trans (oA _ _ hl2 e)) (fun z => by cases z)
end
end K1
set_option Elab.async false
set_option linter.all false
set_option maxRecDepth 100000
set_option maxHeartbeats 4000000
namespace K1
open PySem L2 Kp
section
variable {P : Program} {w : World} {K : PySem.W.Frag} {mg : Str → Option Value} {base : Heap}
theorem call_len_seqK {X : Cx} {K' : PySem.W.Frag} (h : X.K = K') : CallR X (.builtin "len") (fun xs H Q => ∃ p ys, xs = [.ref p] ∧ (SqL K' H p ys ∨ SqT K' H p ys) ∧ Q (.int ys.length) H) := h ▸ call_len_seq
theorem atI_end {α : Type} {xs : List α} {v : α} (h : xs.getLast? = some v) : atI xs (-1) = some v := by
  obtain ⟨ys, rfl⟩ : ∃ ys, xs = ys ++ [v] := by
    rcases List.eq_nil_or_concat xs with e | ⟨r, x, e⟩
    · rw [e] at h; cases h
    · rw [e] at h
      have e2 : x = v := by simpa using h
      exact ⟨r, by rw [e, e2]; simp⟩
  unfold atI ixN
  rw [if_neg (by decide), if_pos (by rw [List.length_append]; show -((ys.length + 1 : Nat) : Int) ≤ -1; omega)]
  have e : (-1 + ((ys ++ [v]).length : Int)).toNat = ys.length := by rw [List.length_append]; show (-1 + (((ys.length + 1 : Nat)) : Int)).toNat = _; omega
  show (ys ++ [v])[_]? = some v
  rw [e, List.getElem?_append_right (Nat.le_refl _), Nat.sub_self]
  rfl
/-- the last of the law's entries -/
theorem ent_end {H : Hp} {us : List V} {ts : List Int} (h : IsTL H us (entD ts)) (n : ts ≠ []) : ∃ p q, atI us (-1) = some (.ref p) ∧ H p = some (.tup [.int (endT 0 ts), .ref q]) := by
  have hl := ent_len h
  have hj : ts.length - 1 < ts.length := by
    cases ts with
    | nil => exact absurd rfl n
    | cons a b => simp
  have e : ts[ts.length - 1]? = some (endT 0 ts) := by
    unfold endT
    rcases List.eq_nil_or_concat ts with e | ⟨r, x, e⟩
    · exact absurd e n
    · rw [e]; simp
  obtain ⟨p, q, e1, e2, _⟩ := ent_at h e
  exact ⟨p, q, atI_end (by rw [List.getLast?_eq_getElem?, hl]; exact e1), e2⟩
theorem off_none {lo : Addr} {H H' : Hp} (o : Off lo H H') (h : ∃ x, H' lo = some x) (l : Addr) (hl : H' l = none) : H l = none := by
  cases e : H l with
  | none => rfl
  | some x =>
    by_cases hz : l = lo
    · obtain ⟨y, hy⟩ := h
      rw [hz, hy] at hl; cases hl
    · rw [o _ _ hz e] at hl; cases hl
def spStd : Sp := fun vs H Q _ => ∃ (lo sp : Addr) (k : Kst), vs = [.ref lo, .ref sp] ∧ Own H lo k ∧ H sp = some (.tup (k.ms.map V.int)) ∧ StOk k ∧ ∀ (l : Addr) (xs : List V) (H' : Hp), H' l = some (.lst xs) → IsTL H' xs (stD k) → H l = none → Own H' lo (stF k) → Off lo H H' → Q (.ref l) H'
def tSt3 : TS := fun D σ H => ∃ (lo sp : Addr) (k : Kst), σ = [some (.ref lo), some (.ref sp), some (.int (endT 0 k.ts)), none] ∧ Own H lo k ∧ H sp = some (.tup (k.ms.map V.int)) ∧ k.ms.length ≤ 9 ∧ ∀ (l : Addr) (xs : List V) (H' : Hp), H' l = some (.lst xs) → IsTL H' xs (askD k) → H l = none → Same H H' → D.rt (.ref l) H'
theorem scSo : FnScope ["_law_own", "_law_seats", "_law_last", "_law_some"] ["_law_own", "_law_seats"] (defScope s__law_stood) := ⟨rfl, rfl, rfl, by decide +kernel, rfl, by decide +kernel, by decide +kernel⟩
theorem ok_std {f : Addr} {fd : FuncData} (F : Fun K "_law_stood" "_law_stood" s__law_stood f fd) (T : Txt mg) (CM : Cal P w K mg base "_law_most" 1 ["_law_seats", "_law_voices"] spMostL) (CL : Cal P w K mg base "_law_led" 1 ["_law_own", "_law_seats"] spLed) : FnOk P w K mg base CX0 2 f fd ["_law_own", "_law_seats"] spStd := by
  refine F.ok scSo (fun vs H Q E ⟨_, _, _, e, _⟩ => by subst e; rfl) (fun cdv A outer s H vs Q E hr h => ?_)
  obtain ⟨lo, sp, k, rfl, ⟨lv, lr, us, O⟩, hs, kh, q⟩ := h
  obtain ⟨gM, dM, GM, mM, kM, bM⟩ := CM.ex
  obtain ⟨gL, dL, GL, mL, kL, bL⟩ := CL.ex
  have r1 := hr
  refine ⟨_, @pss_p _ _ _ _ _ (ps_asg (pe_op op_add (pe_ix ix_list (pv 0) pe_int px_i) pe_int) (pg_sub (pv 0) pe_int set_list))
    (@pss_p _ _ _ _ _ (ps_asg (pe_str) (pg_sub (pv 0) pe_int set_list))
    (@pss_p _ _ _ _ _ (ps_asg (pe_lst (pa_s (pe_ix ix_list (pv 0) pe_int px_i) pa_nil)) (pg_sub (pv 0) pe_int set_list))
    (@pss_p _ _ _ _ _ (ps_asg (pe_non) (pg_sub (pv 0) pe_int set_list))
    (@pss_p _ _ _ _ _ (ps_asg (pe_ix ix_list (pv 0) pe_int px_i) (pg_sub (pv 0) pe_int set_list))
    (@pss_p _ _ _ _ _ (ps_if (pt_val (pe_call GM r1 (by rfl) mM kM bM .nil pass0 (pa_n (pv 1) (pa_s (pe_ix ix_list (pv 0) pe_int px_i) pa_nil)))) (@pss_o _ _ _ (ps_ret (pe_call GL r1 (by rfl) mL kL bL .nil pass0 (pa_n (pv 0) (pa_n (pv 1) pa_nil))))) pss_nil)
    (@pss_p _ _ _ _ _ (ps_set (i := 2) scSo.nd (by rfl) (by exact Or.inr rfl) (pe_int))
    (@pss_p _ _ _ _ _ (ps_if (pt_cmpR op_gt (pe_callB call_len_seq (by rfl) T.len PySem.boot_len (pa_s (pe_ix ix_list (pv 0) pe_int px_i) pa_nil)) pe_int (nomark _)) (@pss_o _ _ _ (ps_set (i := 2) scSo.nd (by rfl) (by exact Or.inr rfl) (pe_ix ix_tup (pe_ix ix_list (pe_ix ix_list (pv 0) pe_int px_i) (pe_un un_neg pe_int) px_u) pe_int px_i))) pss_nil)
    (PSs.weakU (t' := tSt3) (@pss_p _ _ _ _ _ (ps_comp (i := 3) scSo.nd (by rfl) (by exact Or.inl rfl) (NB := ["_law_other", "_law_own", "_law_last"]) (n := 1) (fr := [0, 2]) (compOk2 (outer := defScope s__law_stood) (x := "_law_own") (y := "_law_last") (by rfl) (by decide +kernel) (by rfl) (by rfl) (by rfl) (by rfl) (by rfl) (by rfl) (by rfl)) (by rfl) (pi_tup (pv 1))
      (fun _ _ _ _ _ => pg_name (i := 0) (show (["_law_other", "_law_own", "_law_last"] : List Str).Nodup by decide +kernel) (by rfl) (by exact Or.inl rfl)) (fun _ _ _ _ _ => pifs_nil)
      (fun _ _ _ _ _ => QE.h (qx_tup (qa_str (qa_s (pe_ix (ix_listK (K := K) (by rfl)) (pv 1) pe_int px_i) (qa_n (pv 0) (qa_s (pe_ix (ix_listK (K := K) (by rfl)) (pv 1) pe_int px_i) (qa_k (pe_callB (call_len_seqK (K' := K) (by rfl)) (by rfl) T.len PySem.boot_len (pa_s (pe_ix (ix_listK (K := K) (by rfl)) (pv 1) pe_int px_i) pa_nil)) (qa_n (pv 2) qa_nil)))))))))
    (@pss_o _ _ _ (ps_ret (pe_comp (NB := ["_law_letter", "_law_own"]) (n := 1) (fr := [0]) (compOk1 (outer := defScope s__law_stood) (x := "_law_own") (by rfl) (by decide +kernel) (by rfl) (by rfl) (by rfl) (by rfl)) (by rfl) (pi_list (pv 3))
      (fun _ _ _ _ _ => pg_name (i := 0) (show (["_law_letter", "_law_own"] : List Str).Nodup by decide +kernel) (by rfl) (by exact Or.inl rfl)) (fun _ _ _ _ _ => pifs_one (pt_cmpR op_ne (pe_ix (ix_tupK (K := K) (by rfl)) (pv 0) pe_int px_i) (pe_ix (ix_listK (K := K) (by rfl)) (pv 1) pe_int px_i) (nomark _))) (fun _ _ _ _ _ => pv 0))))) ?w2)))))))), ?_⟩
  case w2 =>
    clear O hs kh q
    rintro D σ H ⟨lo, sp, k, rfl, ⟨lv, lr, us, O⟩, hs, hm9, q⟩
    have hT := SqT.of (K := K) hs
    have el := ent_len O.e
    refine ⟨_, rfl, sp, rfl, ⟨_, hT⟩, comp_idx (J := Itt K sp) (k := 1) (n := k.ms.length) (fun i H v => ∃ m, k.ms[i]? = some m ∧ IsT H v (.tup [.str "ask", .int k.num, .int m, .int k.tm, .int (k.ts.length : Int), .int (endT 0 k.ts)])) (fun i H H' v s ⟨m, e, h⟩ => ⟨m, e, h.sameT s⟩) (by rw [sizeLine_eq]; omega) (fun i H3 hi s4 => ?_) (fun H3 s4 => ?_) ?_ ?_⟩
    · exact ⟨k.ms.map V.int, .int k.ms[i], SqT.of (s4 _ _ hs), by simp [hi]⟩
    · exact ⟨k.ms.map V.int, SqT.of (s4 _ _ hs), by simp⟩
    · intro i H3 t x H4 R hi s4 ht y hR
      obtain ⟨t0, rfl⟩ := one_slot ht
      obtain ⟨rfl, hy⟩ := y
      have hv := hy _ (SqT.of (s4 _ _ hs))
      rw [List.getElem?_map, List.getElem?_eq_getElem hi] at hv
      cases hv
      have hlo := s4 _ _ O.at_
      refine ⟨_, rfl, lo, _, _, .int k.num, rfl, rfl, SqL.of hlo, atI_nat (j := 0) rfl, _, rfl, _, rfl, lo, _, _, .int k.tm, rfl, rfl, SqL.of hlo, atI_nat (j := 1) rfl, _, rfl, lo, _, _, .ref lr, rfl, rfl, SqL.of hlo, atI_nat (j := 5) rfl, lr, us, rfl, .inl (SqL.of (s4 _ _ O.r)), _, rfl, tiny (by show 6 ≤ 1000; decide), fun t6 ht6 => ?_⟩
      refine hR [_] _ _ rfl (same_upd ht6) ⟨k.ms[i], by simp [hi], .tup upd_same (.cons (.str _) (.cons (.int _) (.cons (.int _) (.cons (.int _) (.cons ?_ (.cons (.int _) .nil))))))⟩
      rw [el]
      exact .int _
    · intro D1 H3 ls s3 hD1 hd1 hlen hls
      refine ⟨_, rfl, D1, rfl, ⟨_, SqL.of hd1⟩, comp_pure (J := Itl K D1) (k := 1) (n := ls.length) (fun i => !decide (k.ms.getD i 0 = k.num)) (fun i => ls.getD i .non) (by rw [hlen, sizeLine_eq]; omega) (fun i H5 hi s5 => ⟨ls, ls[i], SqL.of (s5 _ _ hd1), by simp [hi]⟩) (fun H5 s5 => ⟨ls, SqL.of (s5 _ _ hd1), by simp⟩) ?_ ?_⟩
      · intro i H5 t x H6 R hi s5 ht y hR
        obtain ⟨t0, rfl⟩ := one_slot ht
        obtain ⟨rfl, hy⟩ := y
        have hv := hy _ (SqL.of (s5 _ _ hd1))
        rw [List.getElem?_eq_getElem hi] at hv
        cases hv
        obtain ⟨m, em, hm⟩ := hls i ls[i] (List.getElem?_eq_getElem hi)
        have hR' := hR [some ls[i]] _ rfl (Same.refl _)
        have ed1 : ls.getD i .non = ls[i] := by simp [hi]
        have ed2 : k.ms.getD i 0 = m := by rw [List.getD_eq_getElem?_getD, em]; rfl
        rw [ed1, ed2] at hR'
        obtain ⟨a, vs, ea, ha, h2⟩ := letter_at hm
        rw [ea] at hR' ⊢
        refine ⟨_, rfl, a, _, _, .int m, rfl, rfl, SqT.of (s5 _ _ ha), atI_nat h2, _, rfl, lo, _, _, .int k.num, rfl, rfl, SqL.of (s5 _ _ (s3 _ _ O.at_)), atI_nat (j := 0) rfl, rfl, _, rfl, ?_⟩
        rw [dec_int]
        by_cases hmk : m = k.num
        · rw [decide_eq_true hmk] at hR'
          rw [show (m == k.num) = true by simp [hmk]]
          exact iteF hR'
        · rw [decide_eq_false hmk] at hR'
          rw [show (m == k.num) = false by simp [hmk]]
          exact iteT ⟨_, rfl, hR'⟩
      · intro D2 H5 s5 hD2 hd2
        refine q D2 _ H5 hd2 ?_ ?_ (s3.trans s5)
        · unfold askD othK
          exact flt_letters (fun m => !decide (m = k.num)) (fun m => .tup [.str "ask", .int k.num, .int m, .int k.tm, .int (k.ts.length : Int), .int (endT 0 k.ts)]) hlen fun i v hv => by
            obtain ⟨m, em, hm⟩ := hls i v hv
            exact ⟨m, em, hm.sameT (sameT_of s5)⟩
        · cases e : H D2 with
          | none => rfl
          | some o => rw [s3 _ _ e] at hD2; cases hD2
  refine ⟨_, rfl, lo, _, _, .int k.tm, rfl, rfl, SqL.of O.at_, atI_nat (j := 1) rfl, _, _, rfl, rfl, _, rfl, lo, _, _, 1, rfl, rfl, O.at_, rfl, ?_⟩
  refine ⟨_, rfl, lo, _, _, 2, rfl, rfl, upd_same, rfl, ?_⟩
  refine ⟨_, rfl, lo, _, _, .int k.num, rfl, rfl, SqL.of upd_same, atI_nat (j := 0) rfl, tiny (by show 1 ≤ 1000; decide), fun l3 hl3 => ?_⟩
  have n3 : l3 ≠ lo := fun z => by rw [z, upd_same] at hl3; cases hl3
  have s3 := same_upd (o := HO.lst [V.int k.num]) hl3
  refine ⟨_, rfl, lo, _, _, 3, rfl, rfl, s3 _ _ upd_same, rfl, ?_⟩
  refine ⟨_, rfl, lo, _, _, 4, rfl, rfl, upd_same, rfl, ?_⟩
  refine ⟨_, rfl, lo, _, _, .int k.num, rfl, rfl, SqL.of upd_same, atI_nat (j := 0) rfl, _, rfl, lo, _, _, 8, rfl, rfl, upd_same, rfl, ?_⟩
  have oA : Off lo H _ := (off_upd (o := HO.lst [V.int k.num, V.int (k.tm + 1), V.str k.way, V.ref lv, vcV k.hd, V.ref lr, V.int k.nx, V.int k.ag, vcV k.vc])).trans ((off_upd (o := HO.lst [V.int k.num, V.int (k.tm + 1), V.str "standing", V.ref lv, vcV k.hd, V.ref lr, V.int k.nx, V.int k.ag, vcV k.vc])).trans ((off_same s3).trans ((off_upd (o := HO.lst [V.int k.num, V.int (k.tm + 1), V.str "standing", V.ref l3, vcV k.hd, V.ref lr, V.int k.nx, V.int k.ag, vcV k.vc])).trans ((off_upd (o := HO.lst [V.int k.num, V.int (k.tm + 1), V.str "standing", V.ref l3, V.non, V.ref lr, V.int k.nx, V.int k.ag, vcV k.vc])).trans (off_upd (o := HO.lst [V.int k.num, V.int (k.tm + 1), V.str "standing", V.ref l3, V.non, V.ref lr, V.int k.nx, V.int k.ag, V.int k.num]))))))
  have hv3 := off_upd (o := HO.lst [V.int k.num, V.int (k.tm + 1), V.str "standing", V.ref l3, V.non, V.ref lr, V.int k.nx, V.int k.ag, V.int k.num]) _ _ n3 (off_upd (o := HO.lst [V.int k.num, V.int (k.tm + 1), V.str "standing", V.ref l3, V.non, V.ref lr, V.int k.nx, V.int k.ag, vcV k.vc]) _ _ n3 (off_upd (o := HO.lst [V.int k.num, V.int (k.tm + 1), V.str "standing", V.ref l3, vcV k.hd, V.ref lr, V.int k.nx, V.int k.ag, vcV k.vc]) _ _ n3 (upd_same (H := upd (upd H lo (HO.lst [V.int k.num, V.int (k.tm + 1), V.str k.way, V.ref lv, vcV k.hd, V.ref lr, V.int k.nx, V.int k.ag, vcV k.vc])) lo (HO.lst [V.int k.num, V.int (k.tm + 1), V.str "standing", V.ref lv, vcV k.hd, V.ref lr, V.int k.nx, V.int k.ag, vcV k.vc])) (a := l3) (o := HO.lst [V.int k.num]))))
  have hO5 : OwnV _ lo (stK k) l3 lr us := ⟨upd_same, hv3, oA _ _ O.nr O.r, O.e.sameT (oA.tupsL O.at_), n3, O.nr, al_ne (al_upd (al_upd O.al)) hl3, O.xr, al_off oA ⟨_, upd_same⟩ O.al⟩
  have hs5 := (oA.tupsL O.at_) _ _ hs
  have kH := stK_ok kh
  refine ⟨_, rfl, _, rfl, lo, _, _, .ref l3, rfl, rfl, SqL.of upd_same, atI_nat (j := 3) rfl, sp, l3, k.ms, [k.num], rfl, hs5, hv3, by have := kH.ok.few; show k.ms.length ≤ 1000; have : k.ms.length ≤ 9 := this; omega, fun H6 s6 => ⟨_, rfl, ?_⟩⟩
  have oB := oA.trans (off_same s6)
  have hO6 : Own H6 lo (stK k) := Own.same ⟨l3, lr, us, hO5⟩ s6
  have hs6 := s6 _ _ hs5
  have nl6 := off_none oB (by obtain ⟨_, _, _, O6⟩ := hO6; exact ⟨_, O6.at_⟩)
  clear hs5 hO5 hv3 oA
  unfold stF stD at q
  have em : decide (k.ms.length < 2 * amongI k.ms [k.num]) = mostK (stK k) := rfl
  rw [em]
  cases hb : mostK (stK k) with
  | true =>
    rw [hb] at q
    exact iteT ⟨_, rfl, _, rfl, lo, sp, stK k, rfl, hO6, hs6, kH, fun l xs H7 hl hI hn hO7 o7 => q l xs H7 hl hI (nl6 l hn) hO7 (oB.trans o7)⟩
  | false =>
    rw [hb] at q
    refine iteF ?_
    have fin : ∀ D : Ends, (∀ (l : Addr) (xs : List V) (H' : Hp), H' l = some (.lst xs) → IsTL H' xs (askD (stK k)) → H6 l = none → Same H6 H' → D.rt (.ref l) H') → tSt3 D [some (.ref lo), some (.ref sp), some (.int (endT 0 k.ts)), none] H6 := fun D hq => ⟨lo, sp, stK k, rfl, hO6, hs6, kH.ok.few, hq⟩
    have hO6' := hO6
    obtain ⟨lv6, lr6, us6, O6⟩ := hO6'
    have el6 := ent_len O6.e
    have hq : ∀ (l : Addr) (xs : List V) (H' : Hp), H' l = some (.lst xs) → IsTL H' xs (askD (stK k)) → H6 l = none → Same H6 H' → Q (.ref l) H' := fun l xs H' hl hI hn s7 => q l xs H' hl hI (nl6 l hn) (hO6.same s7) (oB.trans (off_same s7))
    refine ⟨_, rfl, lo, _, _, .ref lr6, rfl, rfl, SqL.of O6.at_, atI_nat (j := 5) rfl, lr6, us6, rfl, .inl (SqL.of O6.r), _, _, rfl, rfl, _, rfl, ite2 (fun h => ?_) (fun h => ?_)⟩
    · have h0 : 0 < (us6.length : Int) := of_decide_eq_true h
      have hne : (stK k).ts ≠ [] := fun e => by rw [el6, e] at h0; exact absurd h0 (by decide)
      obtain ⟨p, q2, e1, e2⟩ := ent_end O6.e hne
      exact ⟨_, rfl, lo, _, _, .ref lr6, rfl, rfl, SqL.of O6.at_, atI_nat (j := 5) rfl, _, rfl, lr6, us6, _, .ref p, rfl, rfl, SqL.of O6.r, e1, p, _, _, .int (endT 0 k.ts), rfl, rfl, SqT.of e2, atI_nat (j := 0) rfl, fin _ hq⟩
    · have h0 : ¬ 0 < (us6.length : Int) := ndec h
      have e0 : k.ts = [] := List.length_eq_zero_iff.mp (by have : us6.length = k.ts.length := el6; omega)
      have e1 : endT 0 k.ts = 0 := by rw [e0]; rfl
      rw [e1] at fin
      exact fin _ hq
end
end K1
set_option Elab.async false
set_option linter.all false
set_option maxRecDepth 100000
set_option maxHeartbeats 4000000
namespace K1
open PySem L2 Kp
section
variable {P : Program} {w : World} {K : PySem.W.Frag} {mg : Str → Option Value} {base : Heap}
def spVoc : Sp := fun vs H Q _ => ∃ (lo sp p : Addr) (x : Str) (one other t : Int) (g : Bool) (k : Kst), vs = [.ref lo, .ref sp, .ref p] ∧ Own H lo k ∧ H sp = some (.tup (k.ms.map V.int)) ∧ StOk k ∧ VsOk k ∧ 0 ≤ one ∧ one ≤ 8 ∧ 1 ≤ t ∧ H p = some (.tup [.str x, .int one, .int other, .int t, .bl g]) ∧ ∀ (l : Addr) (xs : List V) (H' : Hp), H' l = some (.lst xs) → IsTL H' xs (tvD k one t g) → H l = none → Own H' lo (tvF k one t g) → Off lo H H' → Q (.ref l) H'
def tVo : TS := fun D σ H => ∃ (lo sp p : Addr) (k : Kst), σ = [some (.ref lo), some (.ref sp), some (.ref p)] ∧ Own H lo k ∧ H sp = some (.tup (k.ms.map V.int)) ∧ HdOk k ∧ ∀ (l : Addr) (xs : List V) (H' : Hp), H' l = some (.lst xs) → IsTL H' xs (if mostK k then ledD k else []) → H l = none → Own H' lo (if mostK k then ledF k else k) → Off lo H H' → D.rt (.ref l) H'
theorem scVo : FnScope ["_law_own", "_law_seats", "_law_letter"] ["_law_own", "_law_seats", "_law_letter"] (defScope s__law_voiced) := ⟨rfl, rfl, rfl, by decide +kernel, rfl, by decide +kernel, by decide +kernel⟩
theorem hear_ms (k : Kst) (t : Int) : (hearF k t).ms = k.ms ∧ (hearF k t).num = k.num := by
  unfold hearF
  split <;> exact ⟨rfl, rfl⟩
theorem ok_voc {f : Addr} {fd : FuncData} (F : Fun K "_law_voiced" "_law_voiced" s__law_voiced f fd) (T : Txt mg) (CH : Cal P w K mg base "_law_heard" 1 ["_law_own", "_law_term"] spHrd) (CM : Cal P w K mg base "_law_most" 1 ["_law_seats", "_law_voices"] spMostL) (CL : Cal P w K mg base "_law_led" 1 ["_law_own", "_law_seats"] spLed) : FnOk P w K mg base CX0 2 f fd ["_law_own", "_law_seats", "_law_letter"] spVoc := by
  refine F.ok scVo (fun vs H Q E ⟨_, _, _, _, _, _, _, _, _, e, _⟩ => by subst e; rfl) (fun cdv A outer s H vs Q E hr h => ?_)
  obtain ⟨lo, sp, p, x, one, other, t, g, k, rfl, hO, hs, kh, kv, h0, h8, ht, hp, q⟩ := h
  obtain ⟨gH, dH, GH, mH, kH, bH⟩ := CH.ex
  obtain ⟨gM, dM, GM, mM, kM, bM⟩ := CM.ex
  obtain ⟨gL, dL, GL, mL, kL, bL⟩ := CL.ex
  have r1 := hr
  refine ⟨_, @pss_p _ _ _ _ _ (ps_expr (pe_call GH r1 (by rfl) mH kH bH .nil pass0 (pa_n (pv 0) (pa_s (pe_ix ix_tup (pv 2) pe_int px_i) pa_nil))))
    (@pss_p _ _ _ _ _ (ps_if (PW.pt (pw_or (pt_cmpR op_ne (pe_ix ix_list (pv 0) pe_int px_i) pe_str (nomark _)) (pw_or (pt_cmpR op_ne (pe_ix ix_tup (pv 2) pe_int px_i) (pe_ix ix_list (pv 0) pe_int px_i) (nomark _)) (pw_or1 (pt_not (pt_val (pe_ix ix_tup (pv 2) pe_int px_i))))))) (@pss_o _ _ _ (ps_ret (pe_lst pa_nil))) pss_nil)
    (@pss_p _ _ _ _ _ (ps_if (pt_cmpR op_notIn_seq (pe_ix ix_tup (pv 2) pe_int px_i) (pe_ix ix_list (pv 0) pe_int px_i) (by rfl)) (@pss_o _ _ _ (ps_asg (pe_callB call_sortedI (by rfl) T.sorted PyProof.Rows.boot_sorted (pa_b (pe_op op_cat (pe_ix ix_list (pv 0) pe_int px_i) (pe_lst (pa_s (pe_ix ix_tup (pv 2) pe_int px_i) pa_nil))) pa_nil)) (pg_sub (pv 0) pe_int set_list))) pss_nil)
    (PSs.weakU (t' := tVo) (@pss_p _ _ _ _ _ (ps_if (pt_val (pe_call GM r1 (by rfl) mM kM bM .nil pass0 (pa_n (pv 1) (pa_s (pe_ix ix_list (pv 0) pe_int px_i) pa_nil)))) (@pss_o _ _ _ (ps_ret (pe_call GL r1 (by rfl) mL kL bL .nil pass0 (pa_n (pv 0) (pa_n (pv 1) pa_nil))))) pss_nil)
    (@pss_o _ _ _ (ps_ret (pe_lst pa_nil)))) ?w1))), ?_⟩
  case w1 =>
    clear hO hs kh kv hp q
    rintro D σ H ⟨lo, sp, p, k, rfl, hO, hs, kh, q⟩
    have hO' := hO
    obtain ⟨lv, lr, us, O⟩ := hO'
    have h9 := kh.ok.few
    refine ⟨_, rfl, _, rfl, lo, _, _, .ref lv, rfl, rfl, SqL.of O.at_, atI_nat (j := 3) rfl, sp, lv, k.ms, k.vs, rfl, hs, O.v, by omega, fun H6 s6 => ⟨_, rfl, ?_⟩⟩
    have em : decide (k.ms.length < 2 * amongI k.ms k.vs) = mostK k := rfl
    rw [em]
    have nl : ∀ l : Addr, H6 l = none → H l = none := fun l hl => by
      cases e : H l with
      | none => rfl
      | some o => rw [s6 _ _ e] at hl; cases hl
    cases hb : mostK k with
    | true =>
      rw [hb] at q
      exact iteT ⟨_, rfl, _, rfl, lo, sp, k, rfl, hO.same s6, s6 _ _ hs, kh, fun l xs H7 hl hI hn hO7 o7 => q l xs H7 hl hI (nl l hn) hO7 ((off_same s6).trans o7)⟩
    | false =>
      rw [hb] at q
      exact iteF ⟨tiny (by show 0 ≤ 1000; decide), fun l hl => q l [] _ upd_same .nil (nl l hl) (hO.same (s6.trans (same_upd hl))) (off_same (s6.trans (same_upd hl)))⟩
  refine ⟨_, rfl, _, rfl, p, _, _, .int t, rfl, rfl, SqT.of hp, atI_nat (j := 3) rfl, lo, t, k, rfl, hO, fun H1 hO1 o1 => ?_⟩
  have hat : ∃ y, H lo = some (.lst y) := by obtain ⟨_, _, _, O⟩ := hO; exact ⟨_, O.at_⟩
  obtain ⟨y0, hy0⟩ := hat
  have sT1 := o1.tupsL hy0
  have hp1 := sT1 _ _ hp
  have hs1 := sT1 _ _ hs
  have kh1 := hear_st kh (t := t)
  have kv1 := hear_vs kv (t := t)
  rw [← (hear_ms k t).1] at hs1
  unfold tvF tvD at q
  generalize hearF k t = k1 at hO1 kh1 kv1 q hs1
  have nl1 := off_none o1 (by obtain ⟨_, _, _, O6⟩ := hO1; exact ⟨_, O6.at_⟩)
  have none_ret : tvC k1 t g = false → ∀ l, H1 l = none → Q (.ref l) (upd H1 l (.lst [])) := fun hc l hl => by
    rw [hc] at q
    exact q l [] _ upd_same .nil (nl1 l hl) (hO1.same (same_upd hl)) (o1.trans (off_new hl))
  have hO1' := hO1
  obtain ⟨lv, lr, us, O⟩ := hO1'
  refine ⟨_, rfl, lo, _, _, .str k1.way, rfl, rfl, SqL.of O.at_, atI_nat (j := 2) rfl, rfl, _, rfl, ?_⟩
  by_cases hw : k1.way = "standing"
  case neg =>
    rw [decide_eq_false (fun z : V.str k1.way = V.str "standing" => hw (by injection z))]
    refine iteT (iteT ⟨tiny (by show 0 ≤ 1000; decide), fun l hl => none_ret ?_ l hl⟩)
    unfold tvC; rw [decide_eq_false hw]; rfl
  rw [decide_eq_true (show V.str k1.way = V.str "standing" by rw [hw])]
  refine iteF ⟨_, rfl, p, _, _, .int t, rfl, rfl, SqT.of hp1, atI_nat (j := 3) rfl, _, rfl, lo, _, _, .int k1.tm, rfl, rfl, SqL.of O.at_, atI_nat (j := 1) rfl, rfl, _, rfl, ?_⟩
  by_cases ht1 : t = k1.tm
  case neg =>
    rw [decide_eq_false (fun z : V.int t = V.int k1.tm => ht1 (by injection z))]
    refine iteT (iteT ⟨tiny (by show 0 ≤ 1000; decide), fun l hl => none_ret ?_ l hl⟩)
    unfold tvC; rw [decide_eq_true hw, decide_eq_false ht1]; rfl
  rw [decide_eq_true (show V.int t = V.int k1.tm by rw [ht1])]
  refine iteF ⟨_, rfl, p, _, _, .bl g, rfl, rfl, SqT.of hp1, atI_nat (j := 4) rfl, _, rfl, ?_⟩
  cases g with
  | false =>
    refine iteT ⟨tiny (by show 0 ≤ 1000; decide), fun l hl => none_ret ?_ l hl⟩
    unfold tvC; simp
  | true =>
    have hC : tvC k1 t true = true := by unfold tvC; rw [decide_eq_true hw, decide_eq_true ht1]; rfl
    rw [hC] at q
    have kHd := tv_hd kh1 kv1 (one := one) (by omega) h0 h8
    refine iteF ⟨_, rfl, p, _, _, .int one, rfl, rfl, SqT.of hp1, atI_nat (j := 1) rfl, _, rfl, lo, _, _, .ref lv, rfl, rfl, SqL.of O.at_, atI_nat (j := 3) rfl, lv, _, rfl, .inl (SqL.of O.v), rfl, flat_ints _, _, rfl, ?_⟩
    show if (!inV (V.int one) (k1.vs.map V.int)) = true then _ else _
    rw [in_ints]
    by_cases hin : one ∈ k1.vs
    · rw [decide_eq_true hin]
      have ek : tvK k1 one = k1 := by unfold tvK; rw [insU_in kv1.up hin]
      rw [ek] at q kHd
      exact iteF ⟨lo, sp, p, k1, rfl, hO1, hs1, kHd, fun l xs H' hl hI hn hO' off => q l xs H' hl hI (nl1 l hn) hO' (o1.trans off)⟩
    · rw [decide_eq_false hin]
      have l9 := low_len kv1.up kv1.low
      refine iteT ⟨_, rfl, lo, _, _, .ref lv, rfl, rfl, SqL.of O.at_, atI_nat (j := 3) rfl, _, rfl, p, _, _, .int one, rfl, rfl, SqT.of hp1, atI_nat (j := 1) rfl, tiny (by show 1 ≤ 1000; decide), fun l2 hl2 => ?_⟩
      have s2 := same_upd (o := HO.lst [V.int one]) hl2
      refine ⟨lv, l2, k1.vs.map V.int, [V.int one], rfl, rfl, s2 _ _ O.v, upd_same, by rw [List.length_map, sizeLine_eq]; show k1.vs.length + 1 ≤ _; omega, fun l3 hl3 => ?_⟩
      have e3 : k1.vs.map V.int ++ [V.int one] = (k1.vs ++ [one]).map V.int := by simp
      rw [e3]
      have s3 := same_upd (o := HO.lst ((k1.vs ++ [one]).map V.int)) hl3
      refine ⟨l3, k1.vs ++ [one], rfl, SqL.of upd_same, by rw [List.length_append]; show k1.vs.length + 1 < 64; omega, fun l4 ys hl4 pm up => ?_⟩
      have nd : (k1.vs ++ [one]).Nodup := List.nodup_append.mpr ⟨kv1.up.imp fun h => by omega, by simp, fun a ha b hb e => hin (by rw [List.mem_singleton.mp hb] at e; exact e ▸ ha)⟩
      have eys : ys = insU one k1.vs := upx (up_lt up (pm.nodup_iff.mpr nd)) (insU_up kv1.up) fun y => by rw [pm.mem_iff, insU_mem, List.mem_append, List.mem_singleton]
      subst eys
      have s4 := same_upd (o := HO.lst ((insU one k1.vs).map V.int)) hl4
      have sA := s2.trans (s3.trans s4)
      have n4 : l4 ≠ lo := fun z => by rw [z, (s2.trans s3) _ _ O.at_] at hl4; cases hl4
      refine ⟨_, rfl, lo, _, _, 3, rfl, rfl, sA _ _ O.at_, rfl, ?_⟩
      have oB : Off lo H1 _ := (off_same sA).trans (off_upd (o := HO.lst [V.int k1.num, V.int k1.tm, V.str k1.way, V.ref l4, vcV k1.hd, V.ref lr, V.int k1.nx, V.int k1.ag, vcV k1.vc]))
      have hO2 : Own _ lo (tvK k1 one) := ⟨l4, lr, us, upd_same, off_upd _ _ n4 upd_same, oB _ _ O.nr O.r, O.e.sameT (oB.tupsL O.at_), n4, O.nr, al_ne (al_same (s2.trans s3) O.al) hl4, O.xr, al_off oB ⟨_, upd_same⟩ O.al⟩
      have nl2 := off_none oB ⟨_, upd_same⟩
      exact ⟨lo, sp, p, tvK k1 one, rfl, hO2, (oB.tupsL O.at_) _ _ hs1, kHd, fun l xs H' hl hI hn hO' off => q l xs H' hl hI (nl1 l (nl2 l hn)) hO' (o1.trans (oB.trans off))⟩
end
end K1
set_option Elab.async false
set_option linter.all false
set_option maxRecDepth 100000
set_option maxHeartbeats 4000000
namespace K1
open PySem L2 Kp
section
variable {P : Program} {w : World} {K : PySem.W.Frag} {mg : Str → Option Value} {base : Heap}
def spAsk : Sp := fun vs H Q _ => ∃ (lo p : Addr) (x : Str) (one other t pl la : Int) (k : Kst), vs = [.ref lo, .ref p] ∧ Own H lo k ∧ KpOk k ∧ H p = some (.tup [.str x, .int one, .int other, .int t, .int pl, .int la]) ∧ ∀ (l : Addr) (xs : List V) (H' : Hp), H' l = some (.lst xs) → IsTL H' xs (voiD k one t pl la) → H l = none → Own H' lo (askF k one t pl la) → Off lo H H' → Q (.ref l) H'
def vD (k : Kst) (one : Int) (b : Bool) : List D := [.tup [.str "voice", .int k.num, .int one, .int k.tm, .bl b]]
def vF (k : Kst) (one : Int) (b : Bool) : Kst := if b then { k with vc := some one } else k
def g1B (k : Kst) (one t : Int) : Bool := decide (t = k.tm) && (decide (k.vc = none) || decide (k.vc = some one))
theorem lex_new (la pl : Int) (ts : List Int) : lexGe [la, pl] [endT 0 ts, (ts.length : Int)] = asNewB la pl 0 0 ts := by
  have e : lexGe [la, pl] [endT 0 ts, (ts.length : Int)] = if la = endT 0 ts then (if pl = (ts.length : Int) then true else decide ((ts.length : Int) ≤ pl)) else decide (endT 0 ts ≤ la) := rfl
  rw [e]
  unfold asNewB endP
  rw [Int.zero_add]
  by_cases h : la = endT 0 ts
  · rw [if_pos h, decide_eq_true h, decide_eq_false (show ¬ endT 0 ts < la by omega)]
    by_cases h2 : pl = (ts.length : Int)
    · rw [if_pos h2, decide_eq_true (show (ts.length : Int) ≤ pl by omega)]; rfl
    · rw [if_neg h2]; rfl
  · rw [if_neg h, decide_eq_false h]
    rw [Bool.false_and, Bool.or_false]
    exact decide_eq_decide.mpr (by omega)
theorem none_same {H H' : Hp} (s : Same H H') {l : Addr} (h : H' l = none) : H l = none := by
  cases e : H l with
  | none => rfl
  | some o => rw [s _ _ e] at h; cases h
def tAsQ (k : Kst) (one : Int) (b : Bool) (lo : Addr) (H : Hp) (D : Ends) : Prop := ∀ (l : Addr) (xs : List V) (H' : Hp), H' l = some (.lst xs) → IsTL H' xs (vD k one b) → H l = none → Own H' lo (vF k one b) → Off lo H H' → D.rt (.ref l) H'
def tAs2 : TS := fun D σ H => ∃ (lo p el : Addr) (x : Str) (one other t pl la : Int) (k : Kst), σ = [some (.ref lo), some (.ref p), some (.ref el), none] ∧ Own H lo k ∧ H p = some (.tup [.str x, .int one, .int other, .int t, .int pl, .int la]) ∧ H el = some (.lst [.int (endT 0 k.ts), .int (k.ts.length : Int)]) ∧ tAsQ k one (giveK k one t pl la) lo H D
def tAs3 : TS := fun D σ H => ∃ (lo p el : Addr) (x : Str) (one other t pl la : Int) (k : Kst), σ = [some (.ref lo), some (.ref p), some (.ref el), some (.bl (g1B k one t))] ∧ Own H lo k ∧ H p = some (.tup [.str x, .int one, .int other, .int t, .int pl, .int la]) ∧ H el = some (.lst [.int (endT 0 k.ts), .int (k.ts.length : Int)]) ∧ tAsQ k one (giveK k one t pl la) lo H D
def tAs4 : TS := fun D σ H => ∃ (lo p el : Addr) (x : Str) (one other t pl la : Int) (k : Kst) (b : Bool), σ = [some (.ref lo), some (.ref p), some (.ref el), some (.bl b)] ∧ Own H lo k ∧ H p = some (.tup [.str x, .int one, .int other, .int t, .int pl, .int la]) ∧ tAsQ k one b lo H D
theorem scAs : FnScope ["_law_own", "_law_letter", "_law_end", "_law_given"] ["_law_own", "_law_letter"] (defScope s__law_asked) := ⟨rfl, rfl, rfl, by decide +kernel, rfl, by decide +kernel, by decide +kernel⟩
theorem ok_askL {f : Addr} {fd : FuncData} (F : Fun K "_law_asked" "_law_asked" s__law_asked f fd) (T : Txt mg) (CH : Cal P w K mg base "_law_heard" 1 ["_law_own", "_law_term"] spHrd) : FnOk P w K mg base CX0 2 f fd ["_law_own", "_law_letter"] spAsk := by
  refine F.ok scAs (fun vs H Q E ⟨_, _, _, _, _, _, _, _, _, e, _⟩ => by subst e; rfl) (fun cdv A outer s H vs Q E hr h => ?_)
  obtain ⟨lo, p, x, one, other, t, pl, la, k, rfl, hO, kh, hp, q⟩ := h
  obtain ⟨gH, dH, GH, mH, kH, bH⟩ := CH.ex
  have r1 := hr
  refine ⟨_, @pss_p _ _ _ _ _ (ps_expr (pe_call GH r1 (by rfl) mH kH bH .nil pass0 (pa_n (pv 0) (pa_s (pe_ix ix_tup (pv 1) pe_int px_i) pa_nil))))
    (@pss_p _ _ _ _ _ (ps_set (i := 2) scAs.nd (by rfl) (by exact Or.inl rfl) (QE.h (qx_lst (qa_int (qa_k (pe_callB call_len_seq (by rfl) T.len PySem.boot_len (pa_s (pe_ix ix_list (pv 0) pe_int px_i) pa_nil)) qa_nil)))))
    (@pss_p _ _ _ _ _ (ps_if (pt_cmpR op_gt (pe_ix ix_list (pv 2) pe_int px_i) pe_int (nomark _)) (@pss_o _ _ _ (ps_asg (pe_ix ix_tup (pe_ix ix_list (pe_ix ix_list (pv 0) pe_int px_i) (pe_un un_neg pe_int) px_u) pe_int px_i) (pg_sub (pv 2) pe_int set_list))) pss_nil)
    (PSs.weakU (t' := tAs2) (@pss_p _ _ _ _ _ (ps_set (i := 3) scAs.nd (by rfl) (by exact Or.inl rfl) (pe_and (pe_cmpR op_eq (pe_ix ix_tup (pv 1) pe_int px_i) (pe_ix ix_list (pv 0) pe_int px_i) (nomark _)) (pe_one (pe_or (pe_cmpR op_isN (pe_ix ix_list (pv 0) pe_int px_i) pe_non (nomark _)) (pe_one (pe_cmpR op_eq (pe_ix ix_list (pv 0) pe_int px_i) (pe_ix ix_tup (pv 1) pe_int px_i) (nomark _)))))))
    (PSs.weakU (t' := tAs3) (@pss_p _ _ _ _ _ (ps_set (i := 3) scAs.nd (by rfl) (by exact Or.inl rfl) (pe_and (pv 3) (pe_one (pe_cmpR (op_geL hr.units0) (pe_lst (pa_s (pe_ix ix_tup (pv 1) pe_int px_i) (pa_s (pe_ix ix_tup (pv 1) pe_int px_i) pa_nil))) (pv 2) (nomark _)))))
    (PSs.weakU (t' := tAs4) (@pss_p _ _ _ _ _ (ps_if (pt_val (pv 3)) (@pss_o _ _ _ (ps_asg (pe_ix ix_tup (pv 1) pe_int px_i) (pg_sub (pv 0) pe_int set_list))) pss_nil)
    (@pss_o _ _ _ (ps_ret (pe_lst (pa_t (QE.h (qx_tup (qa_str (qa_s (pe_ix ix_list (pv 0) pe_int px_i) (qa_s (pe_ix ix_tup (pv 1) pe_int px_i) (qa_s (pe_ix ix_list (pv 0) pe_int px_i) (qa_n (pv 3) qa_nil))))))) pa_nil))))) ?w4)) ?w3)) ?w2))), ?_⟩
  case w2 =>
    clear hO kh hp q
    rintro D σ H ⟨lo, p, el, x, one, other, t, pl, la, k, rfl, hO, hp, he, q⟩
    have fin : ∀ b, b = g1B k one t → tAs3 D [some (.ref lo), some (.ref p), some (.ref el), some (.bl b)] H := fun b e => by rw [e]; exact ⟨lo, p, el, x, one, other, t, pl, la, k, rfl, hO, hp, he, q⟩
    unfold g1B at fin
    obtain ⟨lv, lr, us, O⟩ := hO
    refine ⟨_, rfl, p, _, _, .int t, rfl, rfl, SqT.of hp, atI_nat (j := 3) rfl, _, rfl, lo, _, _, .int k.tm, rfl, rfl, SqL.of O.at_, atI_nat (j := 1) rfl, rfl, _, rfl, ?_⟩
    rw [dec_int]
    by_cases h1 : t = k.tm
    · rw [show (t == k.tm) = true by simp [h1]]
      rw [decide_eq_true h1] at fin
      refine iteT ⟨_, rfl, lo, _, _, vcV k.vc, rfl, rfl, SqL.of O.at_, atI_nat (j := 8) rfl, rfl, _, rfl, ?_⟩
      cases hv : k.vc with
      | none =>
        rw [hv] at fin
        exact iteT (fin _ rfl)
      | some u =>
        rw [hv] at fin
        have O8 := O.at_
        rw [hv] at O8
        refine iteF ⟨_, rfl, lo, _, _, .int u, rfl, rfl, SqL.of O8, atI_nat (j := 8) rfl, _, rfl, p, _, _, .int one, rfl, rfl, SqT.of hp, atI_nat (j := 1) rfl, rfl, ?_⟩
        refine fin _ ?_
        rw [dec_int, decide_eq_false (show ¬ (some u : Option Int) = none from fun z => by cases z)]
        show (u == one) = (true && (false || decide (some u = some one)))
        rw [Bool.true_and, Bool.false_or, Bool.eq_iff_iff]
        simp
    · rw [show (t == k.tm) = false by simp [h1]]
      rw [decide_eq_false h1] at fin
      exact iteF (fin _ rfl)
  case w3 =>
    clear hO kh hp q
    rintro D σ H ⟨lo, p, el, x, one, other, t, pl, la, k, rfl, hO, hp, he, q⟩
    have eg : giveK k one t pl la = (g1B k one t && asNewB la pl 0 0 k.ts) := rfl
    rw [eg] at q
    refine ⟨_, rfl, _, rfl, ?_⟩
    cases hb : g1B k one t with
    | false =>
      rw [hb] at q
      exact iteF ⟨lo, p, el, x, one, other, t, pl, la, k, false, rfl, hO, hp, q⟩
    | true =>
      rw [hb, Bool.true_and] at q
      refine iteT ⟨_, rfl, p, _, _, .int la, rfl, rfl, SqT.of hp, atI_nat (j := 5) rfl, _, rfl, p, _, _, .int pl, rfl, rfl, SqT.of hp, atI_nat (j := 4) rfl, tiny (by show 2 ≤ 1000; decide), fun l2 hl2 => ?_⟩
      have s2 := same_upd (o := HO.lst [V.int la, V.int pl]) hl2
      refine ⟨_, rfl, l2, el, [la, pl], [endT 0 k.ts, (k.ts.length : Int)], rfl, rfl, SqL.of upd_same, SqL.of (s2 _ _ he), rfl, ?_⟩
      rw [lex_new]
      refine ⟨lo, p, el, x, one, other, t, pl, la, k, _, rfl, hO.same s2, s2 _ _ hp, fun l xs H' hl hI hn hO' off => q l xs H' hl hI ?_ hO' ((off_same s2).trans off)⟩
      cases e : H l with
      | none => rfl
      | some o => rw [s2 _ _ e] at hn; cases hn
  case w4 =>
    clear hO kh hp q
    rintro D σ H ⟨lo, p, el, x, one, other, t, pl, la, k, b, rfl, hO, hp, q⟩
    obtain ⟨lv, lr, us, O⟩ := hO
    refine ⟨_, rfl, _, rfl, ?_⟩
    cases b with
    | true =>
      refine iteT ⟨_, rfl, p, _, _, .int one, rfl, rfl, SqT.of hp, atI_nat (j := 1) rfl, _, rfl, lo, _, _, 8, rfl, rfl, O.at_, rfl, ?_⟩
      have oA : Off lo H _ := off_upd (o := HO.lst [V.int k.num, V.int k.tm, V.str k.way, V.ref lv, vcV k.hd, V.ref lr, V.int k.nx, V.int k.ag, V.int one])
      have hp1 := (oA.tupsL O.at_) _ _ hp
      have nl := off_none oA ⟨_, upd_same⟩
      refine ⟨_, rfl, lo, _, _, .int k.num, rfl, rfl, SqL.of upd_same, atI_nat (j := 0) rfl, _, rfl, p, _, _, .int one, rfl, rfl, SqT.of hp1, atI_nat (j := 1) rfl, _, rfl, lo, _, _, .int k.tm, rfl, rfl, SqL.of upd_same, atI_nat (j := 1) rfl, _, rfl, tiny (by show 5 ≤ 1000; decide), fun t1 ht1 => ⟨tiny (by show 1 ≤ 1000; decide), fun l hl => ?_⟩⟩
      have s1 := same_upd (o := HO.tup [V.str "voice", V.int k.num, V.int one, V.int k.tm, V.bl true]) ht1
      have s2 := same_upd (o := HO.lst [V.ref t1]) hl
      have s12 := s1.trans s2
      refine q l [.ref t1] _ upd_same (.cons (.tup (s2 _ _ upd_same) (.cons (.str _) (.cons (.int _) (.cons (.int _) (.cons (.int _) (.cons (.bl _) .nil)))))) .nil) (nl l ?_) (Own.same (k := { k with vc := some one }) ⟨lv, lr, us, upd_same, oA _ _ O.nv O.v, oA _ _ O.nr O.r, O.e.sameT (oA.tupsL O.at_), O.nv, O.nr, O.xv, O.xr, al_off oA ⟨_, upd_same⟩ O.al⟩ s12) (oA.trans (off_same s12))
      exact none_same s1 hl
    | false =>
      refine iteF ⟨_, rfl, lo, _, _, .int k.num, rfl, rfl, SqL.of O.at_, atI_nat (j := 0) rfl, _, rfl, p, _, _, .int one, rfl, rfl, SqT.of hp, atI_nat (j := 1) rfl, _, rfl, lo, _, _, .int k.tm, rfl, rfl, SqL.of O.at_, atI_nat (j := 1) rfl, _, rfl, tiny (by show 5 ≤ 1000; decide), fun t1 ht1 => ⟨tiny (by show 1 ≤ 1000; decide), fun l hl => ?_⟩⟩
      have s1 := same_upd (o := HO.tup [V.str "voice", V.int k.num, V.int one, V.int k.tm, V.bl false]) ht1
      have s2 := same_upd (o := HO.lst [V.ref t1]) hl
      have s12 := s1.trans s2
      exact q l [.ref t1] _ upd_same (.cons (.tup (s2 _ _ upd_same) (.cons (.str _) (.cons (.int _) (.cons (.int _) (.cons (.int _) (.cons (.bl _) .nil)))))) .nil) (none_same s1 hl) (Own.same (k := k) ⟨lv, lr, us, O⟩ s12) (off_same s12)
  refine ⟨_, rfl, _, rfl, p, _, _, .int t, rfl, rfl, SqT.of hp, atI_nat (j := 3) rfl, lo, t, k, rfl, hO, fun H1 hO1 o1 => ?_⟩
  have hat : ∃ y, H lo = some (.lst y) := by obtain ⟨_, _, _, O⟩ := hO; exact ⟨_, O.at_⟩
  obtain ⟨y0, hy0⟩ := hat
  have hp1 := (o1.tupsL hy0) _ _ hp
  have nl1 := off_none o1 (by obtain ⟨_, _, _, O6⟩ := hO1; exact ⟨_, O6.at_⟩)
  unfold askF voiD at q
  generalize hearF k t = k1 at hO1 q
  have hO1' := hO1
  obtain ⟨lv, lr, us, O⟩ := hO1'
  have el := ent_len O.e
  refine ⟨_, rfl, lo, _, _, .ref lr, rfl, rfl, SqL.of O.at_, atI_nat (j := 5) rfl, lr, us, rfl, .inl (SqL.of O.r), tiny (by show 2 ≤ 1000; decide), fun e1 he1 => ?_⟩
  have s1 := same_upd (o := HO.lst [V.int 0, V.int (us.length : Int)]) he1
  have ne1 : e1 ≠ lo := fun z => by rw [z, O.at_] at he1; cases he1
  have fin : ∀ (D : Ends) (H2 : Hp), H2 e1 = some (.lst [.int (endT 0 k1.ts), .int (k1.ts.length : Int)]) → Own H2 lo k1 → Off e1 (upd H1 e1 (HO.lst [V.int 0, V.int (us.length : Int)])) H2 → (∀ v H', Q v H' → D.rt v H') → tAs2 D [some (.ref lo), some (.ref p), some (.ref e1), none] H2 := fun D H2 h1 hO2 o2 hD => by
    refine ⟨lo, p, e1, x, one, other, t, pl, la, k1, rfl, hO2, ?_, h1, fun l xs H' hl hI hn hO' off => hD _ _ (q l xs H' hl hI (nl1 l ?_) hO' ?_)⟩
    · exact o2 _ _ (fun z => by rw [z, he1] at hp1; cases hp1) (s1 _ _ hp1)
    · exact none_same s1 (off_none o2 ⟨_, h1⟩ l hn)
    · refine o1.trans fun b o hb e => off b o hb (o2 b o (fun z => by rw [z, he1] at e; cases e) (s1 _ _ e))
  refine ⟨_, rfl, e1, _, _, .int (us.length : Int), rfl, rfl, SqL.of upd_same, atI_nat (j := 1) rfl, _, _, rfl, rfl, _, rfl, ite2 (fun h => ?_) (fun h => ?_)⟩
  · have h0 : 0 < (us.length : Int) := of_decide_eq_true h
    have hne : k1.ts ≠ [] := fun e => by rw [el, e] at h0; exact absurd h0 (by decide)
    obtain ⟨pp, q2, e2, e3⟩ := ent_end O.e hne
    refine ⟨_, rfl, lo, _, _, .ref lr, rfl, rfl, SqL.of (s1 _ _ O.at_), atI_nat (j := 5) rfl, _, rfl, lr, us, _, .ref pp, rfl, rfl, SqL.of (s1 _ _ O.r), e2, pp, _, _, .int (endT 0 k1.ts), rfl, rfl, SqT.of (s1 _ _ e3), atI_nat (j := 0) rfl, _, rfl, e1, _, _, 0, rfl, rfl, upd_same, rfl, ?_⟩
    have oE : Off e1 (upd H1 e1 (HO.lst [V.int 0, V.int (us.length : Int)])) _ := off_upd (o := HO.lst [V.int (endT 0 k1.ts), V.int (us.length : Int)])
    have sTe := oE.tupsL upd_same
    have nlv : lv ≠ e1 := fun z => by have := O.v; rw [z, he1] at this; cases this
    have nlr : lr ≠ e1 := fun z => by have := O.r; rw [z, he1] at this; cases this
    refine fin _ _ (by rw [← el]; exact upd_same) ⟨lv, lr, us, oE _ _ ne1.symm (s1 _ _ O.at_), oE _ _ nlv (s1 _ _ O.v), oE _ _ nlr (s1 _ _ O.r), (O.e.sameT (sameT_of s1)).sameT sTe, O.nv, O.nr, O.xv, O.xr, al_off oE ⟨_, upd_same⟩ (al_same s1 O.al)⟩ oE fun v H' h => h
  · have h0 : ¬ 0 < (us.length : Int) := ndec h
    have e0 : k1.ts = [] := List.length_eq_zero_iff.mp (by omega)
    have e1' : endT 0 k1.ts = 0 := by rw [e0]; rfl
    exact fin _ _ (by rw [e1', ← el]; exact upd_same) (hO1.same s1) Off.refl fun v H' h => h
end
end K1
set_option Elab.async false
set_option linter.all false
set_option maxRecDepth 100000
set_option maxHeartbeats 4000000
namespace K1
open PySem L2 Kp
section
variable {P : Program} {w : World} {K : PySem.W.Frag} {mg : Str → Option Value} {base : Heap}
/-- a thing of tuples, or a list of such -/
def ThA (H : Hp) (v : V) (d : D) : Prop := IsT H v d ∨ ∃ a vs ds, v = .ref a ∧ d = .lst ds ∧ H a = some (.lst vs) ∧ IsTL H vs ds
def isLst : D → Bool | .lst _ => true | _ => false
theorem kit_lstD (K : PySem.W.Frag) : ∀ d : D, PySem.W.kitOne K (.type (tyN d)) (.type "list") = some (isLst d)
  | .non => by with_unfolding_all rfl
  | .bl _ => by with_unfolding_all rfl
  | .int _ => by with_unfolding_all rfl
  | .str _ => by with_unfolding_all rfl
  | .tup _ => by with_unfolding_all rfl
  | .lst _ => by with_unfolding_all rfl
theorem ThA.ty {H : Hp} {K : PySem.W.Frag} {v : V} {d : D} (h : ThA H v d) : TyOf K H v (.type (tyN d)) := by
  rcases h with h | ⟨a, vs, ds, rfl, rfl, e, _⟩
  · cases h with
    | non => exact .non
    | bl b => exact .bl b
    | int i => exact .int i
    | str x => exact .str x
    | tup e _ => exact .tup e
  · exact .lst e
def wdLe : Nat → D → Prop
  | _, .non => True
  | _, .bl _ => True
  | _, .int _ => True
  | _, .str _ => True
  | 0, .tup _ => False
  | 0, .lst _ => False
  | n + 1, .tup ds => ds.length ≤ 1000 ∧ ∀ x ∈ ds, wdLe n x
  | n + 1, .lst ds => ds.length ≤ 1000 ∧ ∀ x ∈ ds, wdLe n x
theorem ThA.tup {H : Hp} {v : V} {ds : List D} (h : ThA H v (.tup ds)) : ∃ a vs, v = .ref a ∧ H a = some (.tup vs) ∧ IsTL H vs ds := by
  rcases h with h | ⟨a, vs, ds', _, e, _⟩
  · cases h with
    | tup e r => exact ⟨_, _, rfl, e, r⟩
  · cases e
theorem ThA.lst {H : Hp} {v : V} {ds : List D} (h : ThA H v (.lst ds)) : ∃ a vs, v = .ref a ∧ H a = some (.lst vs) ∧ IsTL H vs ds := by
  rcases h with h | ⟨a, vs, ds', e1, e, h1, h2⟩
  · cases h
  · cases e
    exact ⟨a, vs, e1, h1, h2⟩
theorem IsTL.at {H : Hp} : ∀ {vs : List V} {ds : List D} {i : Nat} {v : V}, IsTL H vs ds → vs[i]? = some v → ∃ d, ds[i]? = some d ∧ IsT H v d
  | _, _, 0, v, .cons h _, e => by cases e; exact ⟨_, rfl, h⟩
  | _, _, i + 1, v, .cons _ t, e => IsTL.at (i := i) t e
  | _, _, i, v, .nil, e => by simp at e
def spAlk (n : Nat) : Sp := fun vs H Q _ => ∃ (v u : V) (d : D), vs = [v, u] ∧ ThA H v d ∧ ThA H u d ∧ wdLe n d ∧ ∀ H', Same H H' → Q (.bl true) H'
theorem scAk : FnScope ["_law_found", "_law_due"] ["_law_found", "_law_due"] (defScope s__law_alike) := ⟨rfl, rfl, rfl, by decide +kernel, rfl, by decide +kernel, by decide +kernel⟩
theorem all_true (n : Nat) : ((List.range n).map fun _ => true).all id = true := by
  rw [List.all_map, List.all_eq_true]
  intro x _
  rfl
theorem flat_eq {H : Hp} {v u : V} {d : D} (h : ThA H v d) (h' : ThA H u d) (t : isTup d = false) (l : isLst d = false) : v = u ∧ scal v v = true := by
  rcases h with h | ⟨a, vs, ds, _, e, _⟩
  · rcases h' with h' | ⟨a, vs, ds, _, e, _⟩
    · cases h with
      | non => cases h'; exact ⟨rfl, rfl⟩
      | bl b => cases h'; exact ⟨rfl, rfl⟩
      | int i => cases h'; exact ⟨rfl, rfl⟩
      | str x => cases h'; exact ⟨rfl, rfl⟩
      | tup => cases t
    · rw [e] at l; cases l
  · rw [e] at l; cases l
theorem alk_flat {f : Addr} {cdv : Value} {A : Around} {outer : List Env} {s : Shared} {H : Hp} {Q : VK} {E : XK} {v u : V} {d : D} (T : Txt mg) (hv : ThA H v d) (hu : ThA H u d) (t1 : isTup d = false) (t2 : isLst d = false) (q : ∀ H', Same H H' → Q (.bl true) H') :
    ∃ t, PSs (cxOf CX0 P w K mg base ["_law_found", "_law_due"] "_law_alike" (defScope s__law_alike) f cdv A outer s H E).nox (defBody s__law_alike) t ∧ t { nx := fun x H' => Q V.non H', rt := Q } (L2.start ["_law_found", "_law_due"] [v, u]) H := by
  obtain ⟨e, sc⟩ := flat_eq hv hu t1 t2
  refine ⟨_, @pss_p _ _ _ _ _ (ps_if (PW.pt (pw_or (pt_val (pe_callB call_isi (by rfl) T.isi boot_isi (pa_n (pv 1) (pa_n (pe_ty (by rfl) T.tuple boot_tuple) pa_nil)))) (pw_or1 (pt_val (pe_callB call_isi (by rfl) T.isi boot_isi (pa_n (pv 1) (pa_n (pe_ty (by rfl) T.list boot_list) pa_nil))))))) pss_never pss_nil)
    (@pss_p _ _ _ _ _ (ps_if (PW.pt (pw_or (pt_cmpR op_ne (pe_callB call_isi (by rfl) T.isi boot_isi (pa_n (pv 1) (pa_n (pe_ty (by rfl) T.bool boot_bool) pa_nil))) (pe_callB call_isi (by rfl) T.isi boot_isi (pa_n (pv 0) (pa_n (pe_ty (by rfl) T.bool boot_bool) pa_nil))) (nomark _)) (pw_or1 (pt_cmpR op_ne (pe_callB call_isi (by rfl) T.isi boot_isi (pa_n (pv 1) (pa_n (pe_ty (by rfl) T.str boot_str) pa_nil))) (pe_callB call_isi (by rfl) T.isi boot_isi (pa_n (pv 0) (pa_n (pe_ty (by rfl) T.str boot_str) pa_nil))) (nomark _))))) pss_never pss_nil)
    (@pss_o _ _ _ (ps_ret (pe_cmpR op_eq (pv 0) (pv 1) (nomark _))))), ?_⟩
  refine ⟨_, rfl, _, _, _, _, rfl, hu.ty, kit_tup K d, _, rfl, ?_⟩
  rw [t1]
  refine iteF ⟨_, rfl, _, _, _, _, rfl, hu.ty, kit_lstD K d, _, rfl, ?_⟩
  rw [t2]
  refine iteF ⟨_, rfl, _, _, _, _, rfl, hu.ty, kit_bool K d, _, rfl, _, _, _, _, rfl, hv.ty, kit_bool K d, rfl, _, rfl, ?_⟩
  rw [decide_eq_true rfl]
  refine iteF ⟨_, rfl, _, _, _, _, rfl, hu.ty, kit_str K d, _, rfl, _, _, _, _, rfl, hv.ty, kit_str K d, rfl, _, rfl, ?_⟩
  rw [decide_eq_true rfl]
  refine iteF ⟨_, rfl, _, rfl, ?_, ?_⟩
  · rw [← e]; exact sc
  · rw [decide_eq_true e]
    exact q H (Same.refl _)
theorem ok_alk {f : Addr} {fd : FuncData} (F : Fun K "_law_alike" "_law_alike" s__law_alike f fd) (T : Txt mg) (hm : mg "_law_alike" = some (.ref f)) (b : Binds K fd ["_law_found", "_law_due"] []) (n : Nat) : FnOk P w K mg base CX0 (n + 1) f fd ["_law_found", "_law_due"] (spAlk n) := by
  induction n with
  | zero =>
    refine F.ok scAk (fun vs H Q E ⟨_, _, _, e, _⟩ => by subst e; rfl) (fun cdv A outer s H vs Q E hr h => ?_)
    obtain ⟨v, u, d, rfl, hv, hu, hw, q⟩ := h
    cases d with
    | tup ds => exact hw.elim
    | lst ds => exact hw.elim
    | _ => exact alk_flat T hv hu rfl rfl q
  | succ n G =>
    refine F.ok scAk (fun vs H Q E ⟨_, _, _, e, _⟩ => by subst e; rfl) (fun cdv A outer s H vs Q E hr h => ?_)
    obtain ⟨v, u, d, rfl, hv, hu, hw, q⟩ := h
    cases d with
    | non => exact alk_flat T hv hu rfl rfl q
    | bl _ => exact alk_flat T hv hu rfl rfl q
    | int _ => exact alk_flat T hv hu rfl rfl q
    | str _ => exact alk_flat T hv hu rfl rfl q
    | tup ds =>
      obtain ⟨a1, xs, rfl, h1, l1⟩ := ThA.tup hv
      obtain ⟨a2, ys, rfl, h2, l2⟩ := ThA.tup hu
      have hw0 : ds.length ≤ 1000 ∧ ∀ x ∈ ds, wdLe n x := hw
      have e1 := l1.length
      have e2 := l2.length
      refine ⟨_, @pss_p _ _ _ _ _ (ps_if (PW.pt (pw_or (pt_val (pe_callB call_isi (by rfl) T.isi boot_isi (pa_n (pv 1) (pa_n (pe_ty (by rfl) T.tuple boot_tuple) pa_nil)))) (pw_or1 (pt_val (pe_callB call_isi (by rfl) T.isi boot_isi (pa_n (pv 1) (pa_n (pe_ty (by rfl) T.list boot_list) pa_nil))))))) (@pss_p _ _ _ _ _ (ps_if (PW.pt (pw_or (pt_cmpR op_ne (pe_callB call_isi (by rfl) T.isi boot_isi (pa_n (pv 1) (pa_n (pe_ty (by rfl) T.tuple boot_tuple) pa_nil))) (pe_callB call_isi (by rfl) T.isi boot_isi (pa_n (pv 0) (pa_n (pe_ty (by rfl) T.tuple boot_tuple) pa_nil))) (nomark _)) (pw_or1 (pt_cmpR op_ne (pe_callB call_isi (by rfl) T.isi boot_isi (pa_n (pv 1) (pa_n (pe_ty (by rfl) T.list boot_list) pa_nil))) (pe_callB call_isi (by rfl) T.isi boot_isi (pa_n (pv 0) (pa_n (pe_ty (by rfl) T.list boot_list) pa_nil))) (nomark _))))) pss_never pss_nil)
    (@pss_o _ _ _ (ps_ret (pe_and (pe_cmpR op_eq (pe_callB call_len_seq (by rfl) T.len PySem.boot_len (pa_n (pv 0) pa_nil)) (pe_callB call_len_seq (by rfl) T.len PySem.boot_len (pa_n (pv 1) pa_nil)) (nomark _)) (pe_one (pe_callB (call_all (by rfl)) (by rfl) T.all boot_allB (pa_cons (pe_comp (NB := ["_law_one", "_law_other"]) (n := 2) (fr := []) (compOk0 (outer := defScope s__law_alike) (by rfl) (by decide +kernel) (by rfl)) (by rfl) (pi_zip (t1 := true) (t2 := true) (by rfl) T.zip (pa_n (pv 0) (pa_n (pv 1) pa_nil)))
      (fun _ _ _ _ _ => pg_tupK (K := K) (n := 2) (by rfl) (by rfl) (pgs_cons (pg_name (i := 0) (show (["_law_one", "_law_other"] : List Str).Nodup by decide +kernel) (by rfl) (by exact Or.inl rfl)) (pgs_cons (pg_name (i := 1) (show (["_law_one", "_law_other"] : List Str).Nodup by decide +kernel) (by rfl) (by exact Or.inl rfl)) pgs_nil))) (fun _ _ _ _ _ => pifs_nil) (fun _ _ _ _ _ => pe_call G hr (by rfl) hm F.kp b .nil pass0 (pa_n (pv 0) (pa_n (pv 1) pa_nil)))) pa_nil))))))) pss_nil) pss_never, ?_⟩
      refine ⟨_, rfl, _, _, _, _, rfl, hu.ty, kit_tup K _, _, rfl, ?_⟩
      refine iteT (iteT ?_)
      refine ⟨_, rfl, _, _, _, _, rfl, hu.ty, kit_tup K _, _, rfl, _, _, _, _, rfl, hv.ty, kit_tup K _, rfl, _, rfl, ?_⟩
      rw [decide_eq_true rfl]
      refine iteF ⟨_, rfl, _, _, _, _, rfl, hu.ty, kit_lstD K _, _, rfl, _, _, _, _, rfl, hv.ty, kit_lstD K _, rfl, _, rfl, ?_⟩
      rw [decide_eq_true rfl]
      refine iteF ⟨_, rfl, a1, xs, rfl, .inr (SqT.of h1), _, rfl, a2, ys, rfl, .inr (SqT.of h2), rfl, _, rfl, ?_⟩
      rw [dec_int, show ((xs.length : Int) == (ys.length : Int)) = true by rw [e1, e2]; simp]
      refine iteT ⟨_, rfl, _, rfl, a1, a2, xs, ys, rfl, SqT.of h1, SqT.of h2, comp_pure (J := Itz K true true a1 a2) (k := 2) (n := xs.length) (fun _ => true) (fun i => .bl true) (by rw [sizeLine_eq]; omega) ?_ ?_ ?_ ?_⟩
      · intro i H2 hi s1
        have hi2 : i < ys.length := by omega
        exact ⟨xs, ys, xs[i], ys[i], SqT.of (s1 _ _ h1), SqT.of (s1 _ _ h2), List.getElem?_eq_getElem hi, List.getElem?_eq_getElem hi2⟩
      · intro H2 s1
        exact ⟨xs, ys, SqT.of (s1 _ _ h1), SqT.of (s1 _ _ h2), .inl (Nat.le_refl _)⟩
      · intro i H2 t v H3 R hi s1 ht y hR
        obtain ⟨q', x, y, rfl, hq, rfl, g1, g2⟩ := y
        have g1' := g1 _ (SqT.of (s1 _ _ h1))
        have g2' := g2 _ (SqT.of (s1 _ _ h2))
        obtain ⟨d1, ed1, i1⟩ := l1.at g1'
        obtain ⟨d2, ed2, i2⟩ := l2.at g2'
        rw [ed1] at ed2
        cases ed2
        have ht' : ∃ t0 t1, t = [t0, t1] := by
          match t, ht with
          | [t0, t1], _ => exact ⟨t0, t1, rfl⟩
        obtain ⟨t0, t1, rfl⟩ := ht'
        have sp := same_upd (o := HO.tup [x, y]) hq
        have sA := sameT_of (s1.trans sp)
        refine ⟨q', _, rfl, SqT.of upd_same, rfl, _, _, rfl, _, _, rfl, rfl, ⟨_, rfl, _, rfl, x, y, d1, rfl, .inl (i1.sameT sA), .inl (i2.sameT sA), hw0.2 _ (List.mem_of_getElem? ed1), fun H' s2 => ?_⟩⟩
        exact hR [some x, some y] H' rfl (sp.trans s2)
      · intro D1 H' s1 hD hd
        refine ⟨D1, (List.range xs.length).map fun _ => true, rfl, SqL.of ?_, ?_⟩
        · rw [hd, List.filter_eq_self.mpr (fun _ _ => rfl), List.map_map]
          rfl
        · rw [all_true]
          exact q H' s1
    | lst ds =>
      obtain ⟨a1, xs, rfl, h1, l1⟩ := ThA.lst hv
      obtain ⟨a2, ys, rfl, h2, l2⟩ := ThA.lst hu
      have hw0 : ds.length ≤ 1000 ∧ ∀ x ∈ ds, wdLe n x := hw
      have e1 := l1.length
      have e2 := l2.length
      refine ⟨_, @pss_p _ _ _ _ _ (ps_if (PW.pt (pw_or (pt_val (pe_callB call_isi (by rfl) T.isi boot_isi (pa_n (pv 1) (pa_n (pe_ty (by rfl) T.tuple boot_tuple) pa_nil)))) (pw_or1 (pt_val (pe_callB call_isi (by rfl) T.isi boot_isi (pa_n (pv 1) (pa_n (pe_ty (by rfl) T.list boot_list) pa_nil))))))) (@pss_p _ _ _ _ _ (ps_if (PW.pt (pw_or (pt_cmpR op_ne (pe_callB call_isi (by rfl) T.isi boot_isi (pa_n (pv 1) (pa_n (pe_ty (by rfl) T.tuple boot_tuple) pa_nil))) (pe_callB call_isi (by rfl) T.isi boot_isi (pa_n (pv 0) (pa_n (pe_ty (by rfl) T.tuple boot_tuple) pa_nil))) (nomark _)) (pw_or1 (pt_cmpR op_ne (pe_callB call_isi (by rfl) T.isi boot_isi (pa_n (pv 1) (pa_n (pe_ty (by rfl) T.list boot_list) pa_nil))) (pe_callB call_isi (by rfl) T.isi boot_isi (pa_n (pv 0) (pa_n (pe_ty (by rfl) T.list boot_list) pa_nil))) (nomark _))))) pss_never pss_nil)
    (@pss_o _ _ _ (ps_ret (pe_and (pe_cmpR op_eq (pe_callB call_len_seq (by rfl) T.len PySem.boot_len (pa_n (pv 0) pa_nil)) (pe_callB call_len_seq (by rfl) T.len PySem.boot_len (pa_n (pv 1) pa_nil)) (nomark _)) (pe_one (pe_callB (call_all (by rfl)) (by rfl) T.all boot_allB (pa_cons (pe_comp (NB := ["_law_one", "_law_other"]) (n := 2) (fr := []) (compOk0 (outer := defScope s__law_alike) (by rfl) (by decide +kernel) (by rfl)) (by rfl) (pi_zip (t1 := false) (t2 := false) (by rfl) T.zip (pa_n (pv 0) (pa_n (pv 1) pa_nil)))
      (fun _ _ _ _ _ => pg_tupK (K := K) (n := 2) (by rfl) (by rfl) (pgs_cons (pg_name (i := 0) (show (["_law_one", "_law_other"] : List Str).Nodup by decide +kernel) (by rfl) (by exact Or.inl rfl)) (pgs_cons (pg_name (i := 1) (show (["_law_one", "_law_other"] : List Str).Nodup by decide +kernel) (by rfl) (by exact Or.inl rfl)) pgs_nil))) (fun _ _ _ _ _ => pifs_nil) (fun _ _ _ _ _ => pe_call G hr (by rfl) hm F.kp b .nil pass0 (pa_n (pv 0) (pa_n (pv 1) pa_nil)))) pa_nil))))))) pss_nil) pss_never, ?_⟩
      refine ⟨_, rfl, _, _, _, _, rfl, hu.ty, kit_tup K _, _, rfl, ?_⟩
      refine iteF ⟨_, rfl, _, _, _, _, rfl, hu.ty, kit_lstD K _, _, rfl, iteT ?_⟩
      refine ⟨_, rfl, _, _, _, _, rfl, hu.ty, kit_tup K _, _, rfl, _, _, _, _, rfl, hv.ty, kit_tup K _, rfl, _, rfl, ?_⟩
      rw [decide_eq_true rfl]
      refine iteF ⟨_, rfl, _, _, _, _, rfl, hu.ty, kit_lstD K _, _, rfl, _, _, _, _, rfl, hv.ty, kit_lstD K _, rfl, _, rfl, ?_⟩
      rw [decide_eq_true rfl]
      refine iteF ⟨_, rfl, a1, xs, rfl, .inl (SqL.of h1), _, rfl, a2, ys, rfl, .inl (SqL.of h2), rfl, _, rfl, ?_⟩
      rw [dec_int, show ((xs.length : Int) == (ys.length : Int)) = true by rw [e1, e2]; simp]
      refine iteT ⟨_, rfl, _, rfl, a1, a2, xs, ys, rfl, SqL.of h1, SqL.of h2, comp_pure (J := Itz K false false a1 a2) (k := 2) (n := xs.length) (fun _ => true) (fun i => .bl true) (by rw [sizeLine_eq]; omega) ?_ ?_ ?_ ?_⟩
      · intro i H2 hi s1
        have hi2 : i < ys.length := by omega
        exact ⟨xs, ys, xs[i], ys[i], SqL.of (s1 _ _ h1), SqL.of (s1 _ _ h2), List.getElem?_eq_getElem hi, List.getElem?_eq_getElem hi2⟩
      · intro H2 s1
        exact ⟨xs, ys, SqL.of (s1 _ _ h1), SqL.of (s1 _ _ h2), .inl (Nat.le_refl _)⟩
      · intro i H2 t v H3 R hi s1 ht y hR
        obtain ⟨q', x, y, rfl, hq, rfl, g1, g2⟩ := y
        have g1' := g1 _ (SqL.of (s1 _ _ h1))
        have g2' := g2 _ (SqL.of (s1 _ _ h2))
        obtain ⟨d1, ed1, i1⟩ := l1.at g1'
        obtain ⟨d2, ed2, i2⟩ := l2.at g2'
        rw [ed1] at ed2
        cases ed2
        have ht' : ∃ t0 t1, t = [t0, t1] := by
          match t, ht with
          | [t0, t1], _ => exact ⟨t0, t1, rfl⟩
        obtain ⟨t0, t1, rfl⟩ := ht'
        have sp := same_upd (o := HO.tup [x, y]) hq
        have sA := sameT_of (s1.trans sp)
        refine ⟨q', _, rfl, SqT.of upd_same, rfl, _, _, rfl, _, _, rfl, rfl, ⟨_, rfl, _, rfl, x, y, d1, rfl, .inl (i1.sameT sA), .inl (i2.sameT sA), hw0.2 _ (List.mem_of_getElem? ed1), fun H' s2 => ?_⟩⟩
        exact hR [some x, some y] H' rfl (sp.trans s2)
      · intro D1 H' s1 hD hd
        refine ⟨D1, (List.range xs.length).map fun _ => true, rfl, SqL.of ?_, ?_⟩
        · rw [hd, List.filter_eq_self.mpr (fun _ _ => rfl), List.map_map]
          rfl
        · rw [all_true]
          exact q H' s1
end
end K1
set_option Elab.async false
set_option linter.all false
set_option maxRecDepth 100000
set_option maxHeartbeats 4000000
namespace K1
open PySem L2 Kp
section
variable {P : Program} {w : World} {K : PySem.W.Frag} {mg : Str → Option Value} {base : Heap}
mutual
theorem IsT.alike {K : PySem.W.Frag} {H : Hp} : ∀ (n : Nat) {d : D} {v u : V}, wdLe n d → IsT H v d → IsT H u d → Alike K H n v u
  | n, _, _, _, _, .non, h => by cases h; exact .flat rfl
  | n, _, _, _, _, .bl b, h => by cases h; exact .flat rfl
  | n, _, _, _, _, .int i, h => by cases h; exact .flat rfl
  | n, _, _, _, _, .str x, h => by cases h; exact .flat rfl
  | 0, _, _, _, w, .tup _ _, _ => w.elim
  | n + 1, _, _, _, w, .tup e r, h => by
    cases h with
    | tup e' r' => exact .tup (SqT.of e) (SqT.of e') (r.length.trans r'.length.symm) (IsTL.alike n w.2 r r')
theorem IsTL.alike {K : PySem.W.Frag} {H : Hp} : ∀ (n : Nat) {ds : List D} {vs us : List V}, (∀ d ∈ ds, wdLe n d) → IsTL H vs ds → IsTL H us ds → ∀ (i : Nat) (x y : V), vs[i]? = some x → us[i]? = some y → Alike K H n x y
  | n, _, _, _, _, .nil, _, i, x, y, e, _ => by simp at e
  | n, _, _, _, w, .cons h t, h', i, x, y, e1, e2 => by
    cases h' with
    | cons g r =>
      cases i with
      | zero => cases e1; cases e2; exact IsT.alike n (w _ List.mem_cons_self) h g
      | succ i => exact IsTL.alike n (fun d hd => w d (List.mem_cons_of_mem _ hd)) t r i x y e1 e2
end
/-! ### kept -/
def spKpt : Sp := fun vs H Q _ => ∃ (lk f u : Addr) (ps xs ys : List V) (ds : List D), vs = [.ref lk, .ref f, .ref u] ∧ H lk = some (.lst ps) ∧ ps.length ≤ 1000 ∧ H f = some (.lst xs) ∧ H u = some (.lst ys) ∧ IsTL H xs ds ∧ IsTL H ys ds ∧ (∀ d ∈ ds, wdLe 4 d) ∧ ds.length ≤ 1000 ∧ ∀ (pl : Addr) (H' : Hp), H' lk = some (.lst (ps ++ [.ref pl])) → H' pl = some (.lst [.ref f, .ref u]) → H pl = none → Off lk H H' → Q (.bl true) H'
theorem scKp : FnScope ["_law_kept_here", "_law_found", "_law_due"] ["_law_kept_here", "_law_found", "_law_due"] (defScope s__law_kept) := ⟨rfl, rfl, rfl, by decide +kernel, rfl, by decide +kernel, by decide +kernel⟩
theorem ok_kpt {f : Addr} {fd : FuncData} (F : Fun K "_law_kept" "_law_kept" s__law_kept f fd) (CA : Cal P w K mg base "_law_alike" 6 ["_law_found", "_law_due"] (spAlk 5)) : FnOk P w K mg base CX0 7 f fd ["_law_kept_here", "_law_found", "_law_due"] spKpt := by
  refine F.ok scKp (fun vs H Q E ⟨_, _, _, _, _, _, _, e, _⟩ => by subst e; rfl) (fun cdv A outer s H vs Q E hr h => ?_)
  obtain ⟨lk, f1, u1, ps, xs, ys, ds, rfl, hk, hps, hf, hu, if_, iu, hw, hd, q⟩ := h
  obtain ⟨gA, dA, GA, mA, kA, bA⟩ := CA.ex
  refine ⟨_, @pss_p _ _ _ _ _ (ps_if (pt_not (pt_val (pe_call GA hr (by rfl) mA kA bA .nil pass0 (pa_n (pv 1) (pa_n (pv 2) pa_nil))))) (@pss_o _ _ _ (ps_ret pe_bl)) pss_nil)
    (@pss_p _ _ _ _ _ (ps_expr (pe_bm PySem.F.plainAttrs_list PySem.F.slot_list_append PySem.F.type_list_append mt_append (pv 0) (pa_cons (QE.h (qx_lst (qa_n (pv 1) (qa_n (pv 2) qa_nil)))) pa_nil)))
    (@pss_o _ _ _ (ps_ret pe_bl))), ?_⟩
  refine ⟨_, rfl, _, rfl, .ref f1, .ref u1, .lst ds, rfl, .inr ⟨f1, xs, ds, rfl, rfl, hf, if_⟩, .inr ⟨u1, ys, ds, rfl, rfl, hu, iu⟩, ⟨hd, hw⟩, fun H1 s1 => ⟨_, rfl, iteF ?_⟩⟩
  refine ⟨_, rfl, .inl ⟨rfl, _, SqL.of (s1 _ _ hk)⟩, _, rfl, _, rfl, tiny (by show 2 ≤ 1000; decide), fun pl hpl => ?_⟩
  have s2 := same_upd (o := HO.lst [V.ref f1, V.ref u1]) hpl
  have s12 := s1.trans s2
  have npl : pl ≠ lk := fun z => by rw [z, s1 _ _ hk] at hpl; cases hpl
  refine ⟨lk, ps, _, rfl, rfl, s12 _ _ hk, by rw [sizeLine_eq]; omega, ?_⟩
  refine q pl _ upd_same (by rw [upd_ne npl]; exact upd_same) (none_same s1 hpl) ((off_same s12).trans off_upd)
/-! ### stands -/
theorem eqVs_flat : ∀ {xs : List V}, xs.all flatV = true → eqVs xs xs = true
  | [], _ => rfl
  | x :: xs, h => by
    have h' : flatV x = true ∧ xs.all flatV = true := Bool.and_eq_true_iff.mp (by rw [← List.all_cons]; exact h)
    show (eqV x x && eqVs xs xs) = true
    rw [eqV_self h'.1, eqVs_flat h'.2]
    rfl
theorem flat_vcL (o : Option Int) : flatV (vcV o) = true := by cases o <;> rfl
def spStn (C : Addr) : Sp := fun vs H Q _ => ∃ (a lo : Addr) (k : Kst), vs = [.ref a, .ref lo] ∧ K2V C H a k ∧ Own H lo k ∧ k.ts.length ≤ 900 ∧ k.vs.length ≤ 900 ∧ ∀ H', Same H H' → Q (.bl true) H'
def tSd (K : PySem.W.Frag) (C : Addr) : TS := fun D σ H => ∃ (a lo : Addr) (k : Kst), σ = [some (.ref a), some (.ref lo)] ∧ K2V C H a k ∧ Own H lo k ∧ ∀ H', Same H H' → D.rt (.bl true) H'
theorem scSnL : FnScope ["_law_keeper", "_law_own"] ["_law_keeper", "_law_own"] (defScope s__law_stands) := ⟨rfl, rfl, rfl, by decide +kernel, rfl, by decide +kernel, by decide +kernel⟩
theorem entW (ts : List Int) : ∀ d ∈ entD ts, wdLe 2 d := fun d hd => by
  obtain ⟨t, _, rfl⟩ := List.mem_map.mp hd
  refine ⟨by show 2 ≤ 1000; decide, fun x hx => ?_⟩
  simp only [List.mem_cons, List.not_mem_nil, or_false] at hx
  rcases hx with rfl | rfl
  · trivial
  · exact ⟨by show 1 ≤ 1000; decide, fun y hy => by rw [List.mem_singleton.mp hy]; trivial⟩
theorem ok_stn {f : Addr} {fd : FuncData} {C : Addr} (Y : KpC K C) (F : Fun K "_law_stands" "_law_stands" s__law_stands f fd) (T : Txt mg) : FnOk P w K mg base CX0 1 f fd ["_law_keeper", "_law_own"] (spStn C) := by
  refine F.ok scSnL (fun vs H Q E ⟨_, _, _, e, _⟩ => by subst e; rfl) (fun cdv A outer s H vs Q E hr h => ?_)
  obtain ⟨a, lo, k, rfl, hk, hO, ht9, hv9, q⟩ := h
  refine ⟨_, @pss_p _ _ _ _ _ (ps_if (pt_cmpR (op_neL hr.units0) (QE.h (qx_lst (qa_at (pe_fld (pv 0) (by rfl)) (qa_at (pe_fld (pv 0) (by rfl)) (qa_at (pe_fld (pv 0) (by rfl)) (qa_at (pe_fld (pv 0) (by rfl)) qa_nil)))))) (QE.h (qx_lst (qa_s (pe_ix ix_list (pv 1) pe_int px_i) (qa_s (pe_ix ix_list (pv 1) pe_int px_i) (qa_s (pe_ix ix_list (pv 1) pe_int px_i) (qa_s (pe_ix ix_list (pv 1) pe_int px_i) qa_nil)))))) (nomark _)) (@pss_o _ _ _ (ps_ret pe_bl)) pss_nil)
    (@pss_p _ _ _ _ _ (ps_if (PW.pt (pw_or (pt_cmpR (op_neU hr.units0) (pe_fld (pv 0) (by rfl)) (pe_callTy call_tuple_of (by rfl) T.tuple boot_tuple (pa_s (pe_ix ix_list (pv 1) pe_int px_i) pa_nil)) (nomark _)) (pw_or1 (pt_cmpR (op_neA hr.units100) (pe_fld (pv 0) (by rfl)) (QE.h (qx_tup (qa_int (qa_int (qa_k (pe_callTy call_tuple_of (by rfl) T.tuple boot_tuple (pa_s (pe_ix ix_list (pv 1) pe_int px_i) pa_nil)) qa_nil))))) (nomark _))))) (@pss_o _ _ _ (ps_ret pe_bl)) pss_nil)
    (PSs.weakU (t' := tSd K C) (@pss_o _ _ _ (ps_ret (pe_and (pe_cmpR (op_eqU hr.units0) (pe_fld (pv 0) (by rfl)) (pe_op op_repT (QE.h (qx_tup (qa_s (pe_ix ix_list (pv 1) pe_int px_i) qa_nil))) pe_int) (nomark _)) (pe_and (pe_cmpR (op_eqU hr.units0) (pe_fld (pv 0) (by rfl)) (pe_op op_repT (QE.h (qx_tup (qa_int qa_nil))) pe_int) (nomark _)) (pe_one (pe_cmpR op_eq (pe_fld (pv 0) (by rfl)) (pe_ix ix_list (pv 1) pe_int px_i) (nomark _))))))) ?w1)), ?_⟩
  case w1 =>
    clear hk hO ht9 hv9 q
    rintro D σ H ⟨a, lo, k, rfl, hk, hO, q⟩
    obtain ⟨dx, fs, vp, vr, vst, an, ah, av, aw, ha, f, ok, S⟩ := hk
    obtain ⟨lv, lr, us, O⟩ := hO
    refine ⟨_, rfl, a, C, dx, fs, _, rfl, ha, Y.cl, Y.n_nexts, f.nexts, _, rfl, lo, _, _, .int k.nx, rfl, rfl, SqL.of O.at_, atI_nat (j := 6) rfl, tiny (by show 1 ≤ 1000; decide), fun t1 ht1 => ?_⟩
    have s1 := same_upd (o := HO.tup [V.int k.nx]) ht1
    refine ⟨t1, 9, [V.int k.nx], rfl, rfl, upd_same, by simp, by decide, by decide, by show 1 ≤ 1000; decide, fun t2 ht2 => ?_⟩
    have s2 := same_upd (o := HO.tup (List.replicate (9 : Int).toNat [V.int k.nx]).flatten) ht2
    have s12 := s1.trans s2
    have f9 : ∀ z : Int, (List.replicate 9 (V.int z)).all flatV = true := fun z => rfl
    refine ⟨an, t2, _, _, rfl, rfl, SqT.of (s12 _ _ S.nexts), SqT.of upd_same, f9 _, f9 _, _, rfl, ?_⟩
    rw [show eqVs (List.replicate 9 (V.int k.nx)) (List.replicate (9 : Int).toNat [V.int k.nx]).flatten = true from eqVs_flat (f9 _)]
    refine iteT ⟨_, rfl, a, C, dx, fs, _, rfl, s12 _ _ ha, Y.cl, Y.n_held, f.held, tiny (by show 1 ≤ 1000; decide), fun t3 ht3 => ?_⟩
    have s3 := same_upd (o := HO.tup [V.int 0]) ht3
    refine ⟨t3, 9, [V.int 0], rfl, rfl, upd_same, by simp, by decide, by decide, by show 1 ≤ 1000; decide, fun t4 ht4 => ?_⟩
    have s4 := same_upd (o := HO.tup (List.replicate (9 : Int).toNat [V.int 0]).flatten) ht4
    have s14 := s12.trans (s3.trans s4)
    refine ⟨ah, t4, _, _, rfl, rfl, SqT.of (s14 _ _ S.held), SqT.of upd_same, f9 _, f9 _, _, rfl, ?_⟩
    rw [show eqVs (List.replicate 9 (V.int 0)) (List.replicate (9 : Int).toNat [V.int 0]).flatten = true from eqVs_flat (f9 _)]
    refine iteT ⟨_, rfl, a, C, dx, fs, _, rfl, s14 _ _ ha, Y.cl, Y.n_agreed, f.agreed, _, rfl, lo, _, _, .int k.ag, rfl, rfl, SqL.of (s14 _ _ O.at_), atI_nat (j := 7) rfl, rfl, ?_⟩
    rw [decide_eq_true rfl]
    exact q _ s14
  have hk' := hk
  have hO' := hO
  obtain ⟨dx, fs, vp, vr, vst, an, ah, av, aw, ha, f, ok, S⟩ := hk'
  obtain ⟨lv, lr, us, O⟩ := hO'
  refine ⟨_, rfl, a, C, dx, fs, _, rfl, ha, Y.cl, Y.n_term, f.term, _, rfl, a, C, dx, fs, _, rfl, ha, Y.cl, Y.n_way, f.way, _, rfl, a, C, dx, fs, _, rfl, ha, Y.cl, Y.n_head, f.head, _, rfl, a, C, dx, fs, _, rfl, ha, Y.cl, Y.n_voice, f.voice, tiny (by show 4 ≤ 1000; decide), fun l1 hl1 => ?_⟩
  have s1 := same_upd (o := HO.lst [V.int k.tm, V.str k.way, vcV k.hd, vcV k.vc]) hl1
  have O1 := s1 _ _ O.at_
  refine ⟨_, rfl, lo, _, _, .int k.tm, rfl, rfl, SqL.of O1, atI_nat (j := 1) rfl, _, rfl, lo, _, _, .str k.way, rfl, rfl, SqL.of O1, atI_nat (j := 2) rfl, _, rfl, lo, _, _, vcV k.hd, rfl, rfl, SqL.of O1, atI_nat (j := 4) rfl, _, rfl, lo, _, _, vcV k.vc, rfl, rfl, SqL.of O1, atI_nat (j := 8) rfl, tiny (by show 4 ≤ 1000; decide), fun l2 hl2 => ?_⟩
  have s2 := same_upd (o := HO.lst [V.int k.tm, V.str k.way, vcV k.hd, vcV k.vc]) hl2
  have fl : ([V.int k.tm, V.str k.way, vcV k.hd, vcV k.vc] : List V).all flatV = true := by
    rw [List.all_eq_true]
    intro x hx
    simp only [List.mem_cons, List.not_mem_nil, or_false] at hx
    rcases hx with rfl | rfl | rfl | rfl
    · rfl
    · rfl
    · exact flat_vcL _
    · exact flat_vcL _
  refine ⟨l1, l2, _, _, rfl, rfl, SqL.of (s2 _ _ upd_same), SqL.of upd_same, fl, fl, _, rfl, ?_⟩
  rw [eqVs_flat fl]
  have s12 := s1.trans s2
  refine iteF ⟨_, rfl, a, C, dx, fs, _, rfl, s12 _ _ ha, Y.cl, Y.n_voices, f.voices, _, rfl, lo, _, _, .ref lv, rfl, rfl, SqL.of (s12 _ _ O.at_), atI_nat (j := 3) rfl, lv, _, rfl, .inl ⟨SqL.of (s12 _ _ O.v), fun t3 ht3 => ?_⟩⟩
  have s3 := same_upd (o := HO.tup (k.vs.map V.int)) ht3
  have s13 := s12.trans s3
  refine ⟨av, t3, _, _, rfl, rfl, SqT.of (s13 _ _ S.voices), SqT.of upd_same, flat_ints _, flat_ints _, _, rfl, ?_⟩
  rw [eqVs_flat (flat_ints _)]
  have hr0 := S.row
  obtain ⟨r, c, ru, rfl, hr1, hr2, hr3⟩ := hr0
  refine iteF ⟨_, rfl, a, C, dx, fs, _, rfl, s13 _ _ ha, Y.cl, Y.n_row, f.row, _, rfl, lo, _, _, .ref lr, rfl, rfl, SqL.of (s13 _ _ O.at_), atI_nat (j := 5) rfl, lr, us, rfl, .inl ⟨SqL.of (s13 _ _ O.r), fun t4 ht4 => ?_⟩⟩
  have s4 := same_upd (o := HO.tup us) ht4
  have s14 := s13.trans s4
  refine ⟨tiny (by show 3 ≤ 1000; decide), fun t5 ht5 => ?_⟩
  have s5 := same_upd (o := HO.tup [V.int 0, V.int 0, V.ref t4]) ht5
  have s15 := s14.trans s5
  have i1 := (etO_isT hr3).sameT (sameT_of s15)
  have i2 := O.e.sameT (sameT_of s15)
  refine ⟨r, t5, [V.int 0, V.int 0, V.ref c], [V.int 0, V.int 0, V.ref t4], 3, rfl, rfl, SqT.of (s15 _ _ hr1), SqT.of upd_same, rfl, fun i x y e1 e2 => ?_, by decide, _, rfl, iteF ?_⟩
  · match i, e1, e2 with
    | 0, e1, e2 => cases e1; cases e2; exact .flat rfl
    | 1, e1, e2 => cases e1; cases e2; exact .flat rfl
    | 2, e1, e2 =>
      cases e1
      cases e2
      exact .tup (SqT.of (s15 _ _ hr2)) (SqT.of (s5 _ _ upd_same)) (i1.length.trans i2.length.symm) (IsTL.alike 2 (entW _) i1 i2)
    | i + 3, e1, _ => simp at e1
  · exact ⟨a, lo, k, rfl, hk.same s15, hO.same s15, fun H' s => q H' (s15.trans s)⟩
end
end K1
set_option Elab.async false
set_option linter.all false
set_option maxRecDepth 100000
set_option maxHeartbeats 4000000
namespace K1
open PySem L2 Kp
section
variable {P : Program} {w : World} {K : PySem.W.Frag} {mg : Str → Option Value} {base : Heap}
/-- a keeper's state behind n deeds -/
structure GoodK (ms : List Int) (n : Nat) (k : Kst) : Prop where
  ms_eq : k.ms = ms
  ok : KpOk k
  vs : VsOk k
  ag0 : 0 ≤ k.ag
  ag1 : k.ag ≤ (k.ts.length : Int)
  len : k.ts.length ≤ n
theorem GoodK.st {ms : List Int} {n : Nat} {k : Kst} (h : GoodK ms n k) (hn : n ≤ 70) : StOk k := ⟨h.ok, h.ag0, h.ag1, Nat.le_trans h.len hn⟩
theorem GoodK.up {ms : List Int} {n m : Nat} {k : Kst} (h : GoodK ms n k) (hm : n ≤ m) : GoodK ms m k := ⟨h.ms_eq, h.ok, h.vs, h.ag0, h.ag1, Nat.le_trans h.len hm⟩
theorem good_wake {ms : List Int} {n : Nat} {k : Kst} (h : GoodK ms n k) : GoodK ms n (wakeF k) :=
  ⟨h.ms_eq, ⟨h.ok.up, h.ok.low, h.ok.some, h.ok.num, h.ok.tm, h.ok.ts, Nat.zero_le _, h.ok.few⟩, ⟨.nil, fun v hv => absurd hv List.not_mem_nil⟩, by show (0 : Int) ≤ 0; omega, by show (0 : Int) ≤ (k.ts.length : Int); omega, h.len⟩
theorem good_hear {ms : List Int} {n : Nat} {k : Kst} (h : GoodK ms n k) (t : Int) : GoodK ms n (hearF k t) := by
  refine ⟨(hear_ms k t).1.trans h.ms_eq, hear_ok h.ok, hear_vs h.vs, ?_, ?_, ?_⟩ <;> unfold hearF <;> split
  · exact h.ag0
  · exact h.ag0
  · exact h.ag1
  · exact h.ag1
  · exact h.len
  · exact h.len
theorem good_led {ms : List Int} {n : Nat} {k : Kst} (hm : k.ms = ms) (h : HdOk k) (hv : VsOk k) (hl : k.ts.length ≤ n) : GoodK ms (n + 1) (ledF k) := by
  obtain ⟨e1, e2, e3, e4, e5, e6, e7⟩ := led_of k
  have hk := (led_ok h).2
  have hlen : (ledF k).ts.length = k.ts.length + 1 := by rw [e4]; simp
  have hag : (ledF k).ag = k.ag ∨ (ledF k).ag = (k.ts.length : Int) + 1 := by
    by_cases hin : k.num ∈ k.ms
    · rw [(led_in hin).1]
      show agL k = k.ag ∨ agL k = _
      unfold agL
      split
      · exact .inr rfl
      · exact .inl rfl
    · rw [(led_out hin).1]
      exact .inl rfl
  refine ⟨e2.trans hm, hk, ⟨by rw [e6]; exact hv.up, by rw [e6]; exact hv.low⟩, ?_, ?_, by rw [hlen]; omega⟩
  · have := h.ag0
    rcases hag with e | e <;> rw [e] <;> omega
  · have := h.ag1
    rw [hlen]
    rcases hag with e | e <;> rw [e] <;> omega
theorem good_st {ms : List Int} {n : Nat} {k : Kst} (h : GoodK ms n k) (hn : n ≤ 70) : GoodK ms (n + 1) (stF k) := by
  have kH := stK_ok (h.st hn)
  have hv : VsOk (stK k) := ⟨List.pairwise_singleton .., fun v hv => by rw [List.mem_singleton.mp hv]; exact h.ok.num⟩
  unfold stF
  split
  · exact good_led h.ms_eq kH hv h.len
  · exact ⟨h.ms_eq, kH.ok, hv, h.ag0, h.ag1, Nat.le_succ_of_le h.len⟩
theorem good_tv {ms : List Int} {n : Nat} {k : Kst} (h : GoodK ms n k) (hn : n ≤ 70) {one t : Int} {g : Bool} (h0 : 0 ≤ one) (h8 : one ≤ 8) (ht : 1 ≤ t) : GoodK ms (n + 1) (tvF k one t g) := by
  have g1 := good_hear h t
  unfold tvF
  generalize hearF k t = k1 at g1
  by_cases hc : tvC k1 t g = true
  · rw [if_pos hc]
    have ht1 : t = k1.tm := by
      unfold tvC at hc
      simp only [Bool.and_eq_true, decide_eq_true_eq] at hc
      exact hc.2.1
    have kH := tv_hd (g1.st hn) g1.vs (one := one) (by omega) h0 h8
    have hv : VsOk (tvK k1 one) := ⟨insU_up g1.vs.up, fun y hy => by
      rcases insU_mem.mp hy with e | e
      · exact g1.vs.low y e
      · omega⟩
    by_cases hm : mostK (tvK k1 one) = true
    · rw [if_pos hm]; exact good_led g1.ms_eq kH hv g1.len
    · rw [if_neg hm]; exact ⟨g1.ms_eq, kH.ok, hv, g1.ag0, g1.ag1, Nat.le_succ_of_le g1.len⟩
  · rw [if_neg hc]; exact g1.up (Nat.le_succ _)
theorem good_ask {ms : List Int} {n : Nat} {k : Kst} (h : GoodK ms n k) (one t pl la : Int) : GoodK ms n (askF k one t pl la) := by
  have g1 := good_hear h t
  unfold askF
  generalize hearF k t = k1 at g1
  split
  · exact ⟨g1.ms_eq, ⟨g1.ok.up, g1.ok.low, g1.ok.some, g1.ok.num, g1.ok.tm, g1.ok.ts, g1.ok.vs, g1.ok.few⟩, ⟨g1.vs.up, g1.vs.low⟩, g1.ag0, g1.ag1, g1.len⟩
  · exact g1
theorem gx_hear (k : Kst) (t : Int) : (hearF k t).gx = k.gx := by
  unfold hearF
  split <;> rfl
theorem gx_led (k : Kst) : (ledF k).gx = k.gx := by
  by_cases hin : k.num ∈ k.ms
  · rw [(led_in hin).1]; rfl
  · rw [(led_out hin).1]; rfl
theorem gx_st (k : Kst) : (stF k).gx = k.gx := by
  unfold stF
  split
  · rw [gx_led]; rfl
  · rfl
theorem gx_tv (k : Kst) (one t : Int) (g : Bool) : (tvF k one t g).gx = k.gx := by
  unfold tvF
  split
  · split
    · rw [gx_led]; exact gx_hear k t
    · exact gx_hear k t
  · exact gx_hear k t
theorem gx_ask (k : Kst) (one t pl la : Int) : (askF k one t pl la).gx = k.gx := by
  unfold askF
  split
  · exact gx_hear k t
  · exact gx_hear k t
/-! ### how deep letters are -/
theorem wdLe.mono : ∀ {n m : Nat} {d : D}, wdLe n d → n ≤ m → wdLe m d
  | _, _, .non, _, _ => by unfold wdLe; trivial
  | _, _, .bl _, _, _ => by unfold wdLe; trivial
  | _, _, .int _, _, _ => by unfold wdLe; trivial
  | _, _, .str _, _, _ => by unfold wdLe; trivial
  | 0, _, .tup _, h, _ => h.elim
  | 0, _, .lst _, h, _ => h.elim
  | n + 1, m + 1, .tup ds, h, hm => ⟨h.1, fun x hx => wdLe.mono (h.2 x hx) (by omega)⟩
  | n + 1, m + 1, .lst ds, h, hm => ⟨h.1, fun x hx => wdLe.mono (h.2 x hx) (by omega)⟩
theorem w_beat (k : Kst) (o : Int) : ∀ d ∈ beatD k o, wdLe 4 d := fun d hd => by
  unfold beatD at hd
  split at hd
  · rw [List.mem_singleton.mp hd]
    refine ⟨by show 8 ≤ 1000; decide, fun x hx => ?_⟩
    simp only [List.mem_cons, List.not_mem_nil, or_false] at hx
    rcases hx with rfl | rfl | rfl | rfl | rfl | rfl | rfl | rfl
    · trivial
    · trivial
    · trivial
    · trivial
    · trivial
    · trivial
    · refine ⟨?_, fun y hy => ?_⟩
      · have : ((entD k.ts).drop (k.nx - 1).toNat |>.take 5).length ≤ 5 := by rw [List.length_take]; omega
        omega
      · exact entW _ y (List.mem_of_mem_drop (List.mem_of_mem_take hy))
    · trivial
  · exact absurd hd List.not_mem_nil
theorem w_led (k : Kst) : ∀ d ∈ ledD k, wdLe 4 d := fun d hd => by
  obtain ⟨o, _, h⟩ := List.mem_flatMap.mp hd
  exact w_beat _ _ d h
theorem w_flat6 {ds : List D} (hl : ds.length ≤ 1000) (h : ∀ x ∈ ds, wdLe 0 x) : wdLe 4 (.tup ds) := ⟨hl, fun x hx => wdLe.mono (h x hx) (by omega)⟩
theorem w_st (k : Kst) : ∀ d ∈ stD k, wdLe 4 d := fun d hd => by
  unfold stD at hd
  split at hd
  · exact w_led _ d hd
  · obtain ⟨o, _, rfl⟩ := List.mem_map.mp hd
    refine w_flat6 (by show 6 ≤ 1000; decide) fun x hx => ?_
    simp only [List.mem_cons, List.not_mem_nil, or_false] at hx
    rcases hx with rfl | rfl | rfl | rfl | rfl | rfl <;> trivial
theorem w_tv (k : Kst) (one t : Int) (g : Bool) : ∀ d ∈ tvD k one t g, wdLe 4 d := fun d hd => by
  unfold tvD at hd
  split at hd
  · split at hd
    · exact w_led _ d hd
    · exact absurd hd List.not_mem_nil
  · exact absurd hd List.not_mem_nil
theorem w_voi (k : Kst) (one t pl la : Int) : ∀ d ∈ voiD k one t pl la, wdLe 4 d := fun d hd => by
  rw [List.mem_singleton.mp hd]
  refine w_flat6 (by show 5 ≤ 1000; decide) fun x hx => ?_
  simp only [List.mem_cons, List.not_mem_nil, or_false] at hx
  rcases hx with rfl | rfl | rfl | rfl | rfl <;> trivial
/-! ### what is kept -/
def Pair (lo lk : Addr) (H : Hp) (v : V) : Prop := ∃ (pl f u : Addr) (xs ys : List V) (ds : List D), v = .ref pl ∧ H pl = some (.lst [.ref f, .ref u]) ∧ H f = some (.lst xs) ∧ H u = some (.lst ys) ∧ IsTL H xs ds ∧ IsTL H ys ds ∧ (∀ d ∈ ds, wdLe 4 d) ∧ pl ≠ lo ∧ f ≠ lo ∧ u ≠ lo ∧ pl ≠ lk ∧ f ≠ lk ∧ u ≠ lk
theorem Pair.frame {lo lk : Addr} {H H' : Hp} {v : V} (h : Pair lo lk H v) (s : SameT H H') (sl : ∀ b xs, b ≠ lo → b ≠ lk → H b = some (.lst xs) → H' b = some (.lst xs)) : Pair lo lk H' v := by
  obtain ⟨pl, f, u, xs, ys, ds, e, h1, h2, h3, h4, h5, h6, n1, n2, n3, n4, n5, n6⟩ := h
  exact ⟨pl, f, u, xs, ys, ds, e, sl _ _ n1 n4 h1, sl _ _ n2 n5 h2, sl _ _ n3 n6 h3, h4.sameT s, h5.sameT s, h6, n1, n2, n3, n4, n5, n6⟩
/-- where the law stands behind n deeds -/
structure LI (C : Addr) (H0 : Hp) (ms : List Int) (sp a lo lk : Addr) (n : Nat) (H : Hp) (k : Kst) (ps : List V) : Prop where
  kv : K2V C H a k
  own : Own H lo k
  good : GoodK ms n k
  hsp : H sp = some (.tup (ms.map V.int))
  hlk : H lk = some (.lst ps)
  few : ps.length ≤ n
  all : ∀ v ∈ ps, Pair lo lk H v
  same : Same H0 H
  ne : lo ≠ lk
  na : H0 a = none
  no : H0 lo = none
  nk : H0 lk = none
  gx : k.gx = lk
theorem same_off {H0 H H' : Hp} {x : Addr} (s : Same H0 H) (o : Off x H H') (h : H0 x = none) : Same H0 H' := fun b y e => o b y (fun z => by rw [z, h] at e; cases e) (s _ _ e)
theorem K2V.at {C : Addr} {H : Hp} {a : Addr} {k : Kst} (h : K2V C H a k) : ∃ dx fs, H a = some (.ins C dx fs) := by
  obtain ⟨dx, fs, _, _, _, _, _, _, _, ha, _⟩ := h
  exact ⟨dx, fs, ha⟩
theorem Own.at {H : Hp} {lo : Addr} {k : Kst} (h : Own H lo k) : ∃ xs, H lo = some (.lst xs) := by
  obtain ⟨_, _, _, O⟩ := h
  exact ⟨_, O.at_⟩
theorem LI.same' {C : Addr} {H0 : Hp} {ms : List Int} {sp a lo lk : Addr} {n : Nat} {H H' : Hp} {k : Kst} {ps : List V} (L : LI C H0 ms sp a lo lk n H k ps) (s : Same H H') : LI C H0 ms sp a lo lk n H' k ps :=
  ⟨L.kv.same s, L.own.same s, L.good, s _ _ L.hsp, s _ _ L.hlk, L.few, fun v hv => (L.all v hv).frame (sameT_of s) fun b xs _ _ e => s _ _ e, L.same.trans s, L.ne, L.na, L.no, L.nk, L.gx⟩
theorem LI.up {C : Addr} {H0 : Hp} {ms : List Int} {sp a lo lk : Addr} {n : Nat} {H : Hp} {k : Kst} {ps : List V} (L : LI C H0 ms sp a lo lk n H k ps) : LI C H0 ms sp a lo lk (n + 1) H k ps :=
  ⟨L.kv, L.own, L.good.up (Nat.le_succ _), L.hsp, L.hlk, Nat.le_succ_of_le L.few, L.all, L.same, L.ne, L.na, L.no, L.nk, L.gx⟩
/-- the keeper and its account change together -/
theorem LI.both {C : Addr} {H0 : Hp} {ms : List Int} {sp a lo lk : Addr} {n m : Nat} {H H1 H2 : Hp} {k k' : Kst} {ps : List V} (L : LI C H0 ms sp a lo lk n H k ps) (k1 : K2V C H1 a k') (o1 : Off a H H1) (O2 : Own H2 lo k') (o2 : Off lo H1 H2) (g : GoodK ms m k') (hm : n ≤ m) (hx : k'.gx = k.gx) : LI C H0 ms sp a lo lk m H2 k' ps := by
  obtain ⟨dx, fs, ha⟩ := L.kv.at
  obtain ⟨dx1, fs1, ha1⟩ := k1.at
  obtain ⟨ls, hlo⟩ := L.own.at
  have nla : lo ≠ a := fun z => by rw [z, ha] at hlo; cases hlo
  have nka : lk ≠ a := fun z => by have := L.hlk; rw [z, ha] at this; cases this
  have hlo1 := o1 _ _ nla hlo
  have t1 := o1.tups ha
  have t2 := o2.tupsL hlo1
  have t12 : SameT H H2 := fun b xs e => t2 _ _ (t1 _ _ e)
  have lst1 : ∀ b xs, H b = some (.lst xs) → H1 b = some (.lst xs) := fun b xs e => o1 b _ (fun z => by rw [z, ha] at e; cases e) e
  refine ⟨k1.frame t2 fun o e => o2 _ _ nla.symm e, O2, g, t12 _ _ L.hsp, o2 _ _ L.ne.symm (lst1 _ _ L.hlk), Nat.le_trans L.few hm, fun v hv => (L.all v hv).frame t12 fun b xs n1 _ e => o2 _ _ n1 (lst1 _ _ e), same_off (same_off L.same o1 L.na) o2 L.no, L.ne, L.na, L.no, L.nk, hx.trans L.gx⟩
theorem LI.keep {C : Addr} {H0 : Hp} {ms : List Int} {sp a lo lk : Addr} {n : Nat} {H H3 : Hp} {k : Kst} {ps xs ys : List V} {pl f u : Addr} {ds : List D} (L : LI C H0 ms sp a lo lk n H k ps) (hf : H f = some (.lst xs)) (hu : H u = some (.lst ys)) (i1 : IsTL H xs ds) (i2 : IsTL H ys ds) (hw : ∀ d ∈ ds, wdLe 4 d) (nf : f ≠ lo) (nu : u ≠ lo) (nf2 : f ≠ lk) (nu2 : u ≠ lk)
    (hk : H3 lk = some (.lst (ps ++ [.ref pl]))) (hpl : H3 pl = some (.lst [.ref f, .ref u])) (np : H pl = none) (o : Off lk H H3) (hps : ps.length + 1 ≤ n) : LI C H0 ms sp a lo lk n H3 k (ps ++ [.ref pl]) := by
  obtain ⟨dx, fs, ha⟩ := L.kv.at
  obtain ⟨ls, hlo⟩ := L.own.at
  have nka : lk ≠ a := fun z => by have := L.hlk; rw [z, ha] at this; cases this
  have t := o.tupsL L.hlk
  have hpl1 : pl ≠ lo := fun z => by rw [z, hlo] at np; cases np
  have hpl2 : pl ≠ lk := fun z => by rw [z, L.hlk] at np; cases np
  have hO : Own H3 lo k := by
    obtain ⟨lv, lr, us, O⟩ := L.own
    have x1 := O.xv
    have x2 := O.xr
    rw [L.gx] at x1 x2
    exact ⟨lv, lr, us, o _ _ L.ne O.at_, o _ _ x1 O.v, o _ _ x2 O.r, O.e.sameT t, O.nv, O.nr, O.xv, O.xr, by rw [L.gx]; exact ⟨_, hk⟩⟩
  refine ⟨L.kv.frame t fun x e => o _ _ nka.symm e, hO, L.good, t _ _ L.hsp, hk, by rw [List.length_append]; exact hps, fun v hv => ?_, same_off L.same o L.nk, L.ne, L.na, L.no, L.nk, L.gx⟩
  rcases List.mem_append.mp hv with hv | hv
  · exact (L.all v hv).frame t fun b xs _ n2 e => o _ _ n2 e
  · rw [List.mem_singleton.mp hv]
    exact ⟨pl, f, u, xs, ys, ds, rfl, hpl, o _ _ nf2 hf, o _ _ nu2 hu, i1.sameT t, i2.sameT t, hw, hpl1, nf, nu, hpl2, nf2, nu2⟩
end
end K1
set_option Elab.async false
set_option linter.all false
set_option maxRecDepth 100000
set_option maxHeartbeats 4000000
namespace K1
open PySem L2 Kp
section
theorem LI.step {C : Addr} {H0 : Hp} {ms : List Int} {sp a lo lk : Addr} {n : Nat} {H H1 H2 : Hp} {k k' : Kst} {ps xs ys : List V} {l1 l2 : Addr} {ds : List D} (L : LI C H0 ms sp a lo lk n H k ps) (hl1 : H1 l1 = some (.lst xs)) (i1 : IsTL H1 xs ds) (n1 : H l1 = none) (k1 : K2V C H1 a k') (o1 : Off a H H1)
    (hl2 : H2 l2 = some (.lst ys)) (i2 : IsTL H2 ys ds) (n2 : H1 l2 = none) (O2 : Own H2 lo k') (o2 : Off lo H1 H2) (g : GoodK ms (n + 1) k') (hx : k'.gx = k.gx) (hw : ∀ d ∈ ds, wdLe 4 d) :
    H2 lk = some (.lst ps) ∧ H2 l1 = some (.lst xs) ∧ IsTL H2 xs ds ∧ ∀ (pl : Addr) (H3 : Hp), H3 lk = some (.lst (ps ++ [.ref pl])) → H3 pl = some (.lst [.ref l1, .ref l2]) → H2 pl = none → Off lk H2 H3 → LI C H0 ms sp a lo lk (n + 1) H3 k' (ps ++ [.ref pl]) := by
  have L2 := L.both k1 o1 O2 o2 g (Nat.le_succ n) hx
  obtain ⟨dx, fs, ha⟩ := L.kv.at
  obtain ⟨ls, hlo⟩ := L.own.at
  have nla : lo ≠ a := fun z => by rw [z, ha] at hlo; cases hlo
  have nka : lk ≠ a := fun z => by have := L.hlk; rw [z, ha] at this; cases this
  have hlo1 := o1 _ _ nla hlo
  have hlk1 := o1 _ _ nka L.hlk
  have e1 : l1 ≠ lo := fun z => by rw [z, hlo] at n1; cases n1
  have e2 : l1 ≠ lk := fun z => by rw [z, L.hlk] at n1; cases n1
  have e3 : l2 ≠ lo := fun z => by rw [z, hlo1] at n2; cases n2
  have e4 : l2 ≠ lk := fun z => by rw [z, hlk1] at n2; cases n2
  have h12 := o2 _ _ e1 hl1
  have i12 := i1.sameT (o2.tupsL hlo1)
  exact ⟨L2.hlk, h12, i12, fun pl H3 g1 g2 g3 g4 => L2.keep h12 hl2 i12 i2 hw e1 e3 e2 e4 g1 g2 g3 g4 (Nat.succ_le_succ L.few)⟩
/-- what the law's function finds behind the keeper's -/
theorem LI.mid {C : Addr} {H0 : Hp} {ms : List Int} {sp a lo lk : Addr} {n : Nat} {H H1 : Hp} {k : Kst} {ps : List V} (L : LI C H0 ms sp a lo lk n H k ps) (o1 : Off a H H1) : Own H1 lo k ∧ H1 sp = some (.tup (k.ms.map V.int)) ∧ SameT H H1 := by
  obtain ⟨dx, fs, ha⟩ := L.kv.at
  have t := o1.tups ha
  exact ⟨L.own.off o1 ha, by rw [L.good.ms_eq]; exact t _ _ L.hsp, t⟩
theorem len9 {H : Hp} {xs : List V} {ds : List D} (i : IsTL H xs ds) (h : xs.length ≤ 9) : ds.length ≤ 1000 := by rw [← i.length]; omega
end
end K1
set_option Elab.async false
set_option linter.all false
set_option maxRecDepth 100000
set_option maxHeartbeats 4000000
namespace K1
open PySem L2 Kp
section
variable {P : Program} {w : World} {K : PySem.W.Frag} {mg : Str → Option Value} {base : Heap}
theorem sw_s {a b : Expr} {p : Pos} {t : Option Expr} {n : Nat} {env : Env} : swapsWith (.Subscript a b p) t n env = pure false := rfl
theorem qa_c {X : Cx} {a : Expr} {o : List CmpOp} {b es : List Expr} {p : Pos} {te : TE} {t : TA} (ha : PE X (.Compare a o b p) te) (r : QA X es t) : QA X (.Compare a o b p :: es) (tCons te t) := ⟨pa_c ha r.h⟩
theorem px_s {a b : Expr} {pos : Pos} : PlainIx (.Subscript a b pos) := fun _ _ => rfl
def tMn (K : PySem.W.Frag) (C : Addr) : TS := fun D σ H => ∃ (sc sp a lo lk : Addr) (ns : List Int) (s1 : Option V) (H0 : Hp) (ms : List Int) (k : Kst), σ = [some (.ref sc), s1, some (.ref sp), some (.ref a), some (.ref lo), some (.ref lk), none, none, none, none, none, none] ∧ SqL K H0 sc (ns.map V.int) ∧ ns.length ≤ 63 ∧ LI C H0 ms sp a lo lk 0 H k [] ∧ ∀ H', D.rt (.bl true) H'
def tEd (C : Addr) : TS := fun D σ H => ∃ (sc sp a lo lk : Addr) (s1 s6 s7 s8 s9 s10 : Option V) (H0 : Hp) (ms : List Int) (n : Nat) (k : Kst) (ps : List V), σ = [some (.ref sc), s1, some (.ref sp), some (.ref a), some (.ref lo), some (.ref lk), s6, s7, s8, s9, s10, none] ∧ n ≤ 70 ∧ LI C H0 ms sp a lo lk n H k ps ∧ ∀ H', D.rt (.bl true) H'
def tChn (C : Addr) : TS := fun D σ H => ∃ (sc rs sp a lo lk : Addr) (s6 s7 s8 s9 s10 : Option V) (ds : List Int) (H0 : Hp) (ms : List Int) (n : Nat) (k : Kst) (ps : List V), σ = [some (.ref sc), some (.ref rs), some (.ref sp), some (.ref a), some (.ref lo), some (.ref lk), s6, s7, s8, s9, s10, none] ∧ H rs = some (.lst (ds.map V.int)) ∧ ds.length = 6 ∧ (∀ d ∈ ds, 0 ≤ d ∧ d < 8) ∧ (∀ d, ds[2]? = some d → d < 6) ∧ (∀ d, ds[5]? = some d → d < 3) ∧ n ≤ 69 ∧ LI C H0 ms sp a lo lk n H k ps ∧ ∀ (s7 s8 s9 s10 : Option V) (H' : Hp) (k' : Kst) (ps' : List V), LI C H0 ms sp a lo lk (n + 1) H' k' ps' → D.nx [some (.ref sc), some (.ref rs), some (.ref sp), some (.ref a), some (.ref lo), some (.ref lk), s6, s7, s8, s9, s10, none] H'
def tAskK (C : Addr) : TS := fun D σ H => ∃ (sc rs sp a lo lk p : Addr) (s6 s7 s8 s10 : Option V) (one other t pl la : Int) (H0 : Hp) (ms : List Int) (n : Nat) (k : Kst) (ps : List V), σ = [some (.ref sc), some (.ref rs), some (.ref sp), some (.ref a), some (.ref lo), some (.ref lk), s6, s7, s8, some (.ref p), s10, none] ∧ H p = some (.tup [.str "ask", .int one, .int other, .int t, .int pl, .int la]) ∧ n ≤ 69 ∧ LI C H0 ms sp a lo lk n H k ps ∧ ∀ (H' : Hp) (k' : Kst) (ps' : List V), LI C H0 ms sp a lo lk (n + 1) H' k' ps' → D.nx [some (.ref sc), some (.ref rs), some (.ref sp), some (.ref a), some (.ref lo), some (.ref lk), s6, s7, s8, some (.ref p), s10, none] H'
def tVoiK (C : Addr) : TS := fun D σ H => ∃ (sc rs sp a lo lk p : Addr) (s6 s7 s8 s10 : Option V) (one other t : Int) (g : Bool) (H0 : Hp) (ms : List Int) (n : Nat) (k : Kst) (ps : List V), σ = [some (.ref sc), some (.ref rs), some (.ref sp), some (.ref a), some (.ref lo), some (.ref lk), s6, s7, s8, some (.ref p), s10, none] ∧ H p = some (.tup [.str "voice", .int one, .int other, .int t, .bl g]) ∧ 0 ≤ one ∧ one ≤ 8 ∧ 1 ≤ t ∧ n ≤ 69 ∧ LI C H0 ms sp a lo lk n H k ps ∧ ∀ (H' : Hp) (k' : Kst) (ps' : List V), LI C H0 ms sp a lo lk (n + 1) H' k' ps' → D.nx [some (.ref sc), some (.ref rs), some (.ref sp), some (.ref a), some (.ref lo), some (.ref lk), s6, s7, s8, some (.ref p), s10, none] H'
def spLaw (K : PySem.W.Frag) : Sp := fun vs H Q _ => ∃ (a : Addr) (ns : List Int), vs = [.ref a] ∧ SqL K H a (ns.map V.int) ∧ ns.length ≤ 63 ∧ ∀ H', Q (.bl true) H'
theorem scL42 : FnScope ["_law_script", "_law_some", "_law_seats", "_law_keeper", "_law_own", "_law_kept_here", "_law_at", "_law_last", "_law_place", "_law_letter", "_law_one", "_law_pair"] ["_law_script"] (defScope sLaw) := ⟨rfl, rfl, rfl, by decide +kernel, rfl, by decide +kernel, by decide +kernel⟩
theorem ok_law {f fI fH fW : Addr} {fd dI dH dW : FuncData} {C : Addr} {pa pb pc : Str} (Y : KpC K C) (F : Fun K "law" "law" sLaw f fd) (T : Txt mg) (glK : mg "Keeper" = some (.ref C)) (MI : Mk K C fI) (FI : FnOk P w K mg base CX0 4 fI dI ["self", pa, pb] (spI42 C)) (bI : Binds K dI ["self", pa, pb] []) (MH : Meth K C "hear" fH) (FH : FnOk P w K mg base CX0 2 fH dH ["self", pc] (spHear2 C)) (bH : Binds K dH ["self", pc] []) (MW : Meth K C "wake" fW) (FW : FnOk P w K mg base CX0 3 fW dW ["self"] (spW42 C)) (bW : Binds K dW ["self"] [])
    (CX : Cal P w K mg base "_law_mixed" 2 ["_law_script", "_law_k"] (spMixG K)) (CD : Cal P w K mg base "_law_drawn" 1 ["_law_number", "_law_sizes"] spDraw) (CP : Cal P w K mg base "_law_kept" 7 ["_law_kept_here", "_law_found", "_law_due"] spKpt) (CN : Cal P w K mg base "_law_stands" 1 ["_law_keeper", "_law_own"] (spStn C)) (CZ : Cal P w K mg base "_law_woken" 1 ["_law_own"] spWkn) (CS : Cal P w K mg base "stand" 7 ["keeper"] (spSt2 C)) (CT : Cal P w K mg base "_law_stood" 2 ["_law_own", "_law_seats"] spStd) (CA : Cal P w K mg base "take_ask" 6 ["keeper", "letter"] (spTk2 C)) (CQ : Cal P w K mg base "_law_asked" 2 ["_law_own", "_law_letter"] spAsk) (CV : Cal P w K mg base "take_voice" 7 ["keeper", "letter"] (spTv2 C)) (CO : Cal P w K mg base "_law_voiced" 2 ["_law_own", "_law_seats", "_law_letter"] spVoc) : FnOk P w K mg base CX0 9 f fd ["_law_script"] (spLaw K) := by
  refine F.ok scL42 (fun vs H Q E ⟨_, _, e, _⟩ => by subst e; rfl) (fun cdv A outer s H vs Q E hr h => ?_)
  obtain ⟨sc, ns, rfl, hS, hlen, q⟩ := h
  obtain ⟨gX, dX, GX, mX, kX, bX⟩ := CX.ex
  obtain ⟨gD, dD, GD, mD, kD, bD⟩ := CD.ex
  obtain ⟨gP, dP, GP, mP, kP, bP⟩ := CP.ex
  obtain ⟨gN, dN, GN, mN, kN, bN⟩ := CN.ex
  obtain ⟨gZ, dZ, GZ, mZ, kZ, bZ⟩ := CZ.ex
  obtain ⟨gS, dS, GS, mS, kS, bS⟩ := CS.ex
  obtain ⟨gT, dT, GT, mT, kT, bT⟩ := CT.ex
  obtain ⟨gA, dA, GA, mA, kA, bA⟩ := CA.ex
  obtain ⟨gQ, dQ, GQ, mQ, kQ, bQ⟩ := CQ.ex
  obtain ⟨gV, dV, GV, mV, kV, bV⟩ := CV.ex
  obtain ⟨gO, dO, GO, mO, kO, bO⟩ := CO.ex
  have r1 := hr.mono (show 1 ≤ 8 by omega)
  have r2 := hr.mono (show 2 ≤ 8 by omega)
  have rI := hr.mono (show 4 + 1 ≤ 8 by omega)
  have rW := hr.mono (show 3 ≤ 8 by omega)
  have rP := hr.mono (show 7 ≤ 8 by omega)
  have rS := rP
  have rV := rP
  have rA := hr.mono (show 6 ≤ 8 by omega)
  refine ⟨_, @pss_p _ _ _ _ _ (ps_set (i := 1) scL42.nd (by rfl) (by exact Or.inl rfl) (pe_call GD r1 (by rfl) mD kD bD .nil pass0 (pa_k (pe_call GX r2 (by rfl) mX kX bX .nil pass0 (pa_n (pv 0) (pa_i pe_int pa_nil))) (pa_l (QE.h (qx_lst (qa_int (qa_int (qa_int (qa_nil)))))) pa_nil))))
    (@pss_q _ _ _ _ _ (qs_set (i := 2) scL42.nd (by rfl) (by exact Or.inl rfl) (qx_ix ix_list (qx_lst (qa_tup (qa_int (qa_nil)) (qa_tup (qa_int (qa_int (qa_nil))) (qa_tup (qa_int (qa_int (qa_int (qa_nil)))) (qa_tup (qa_int (qa_int (qa_int (qa_int (qa_nil))))) (qa_tup (qa_int (qa_int (qa_int (qa_int (qa_int (qa_nil)))))) (qa_tup (qa_int (qa_int (qa_int (qa_int (qa_int (qa_int (qa_int (qa_int (qa_int (qa_nil)))))))))) (qa_nil)))))))) (pe_ix ix_list (pv 1) pe_int px_i) px_s) sw_s)
    (@pss_p _ _ _ _ _ (ps_set (i := 3) scL42.nd (by rfl) (by exact Or.inl rfl) (pe_make MI FI rI (by rfl) glK bI .nil pass0 (pa_s (pe_ix ix_list (pv 1) pe_int px_i) (pa_n (pv 2) pa_nil))))
    (@pss_p _ _ _ _ _ (ps_set (i := 4) scL42.nd (by rfl) (by exact Or.inl rfl) (QE.h (qx_lst (qa_s (pe_ix ix_list (pv 1) pe_int px_i) (qa_b (pe_op op_mul (pe_op op_pow pe_int pe_int) (pe_callTy call_int1 (by rfl) T.int boot_int (pa_c (pe_cmpR op_eq (pe_ix ix_list (pv 1) pe_int px_i) pe_int (nomark _)) pa_nil))) (qa_str (qa_lst qa_nil (qa_non (qa_lst qa_nil (qa_int (qa_int (qa_non qa_nil))))))))))))
    (@pss_p _ _ _ _ _ (ps_expr (pe_meth (pv 3) Y.cl MH FH r2 bH .nil pass0 (pa_s (pe_ix ix_list (pv 4) pe_int px_i) pa_nil)))
    (@pss_p _ _ _ _ _ (ps_set (i := 5) scL42.nd (by rfl) (by exact Or.inl rfl) (pe_lst pa_nil))
    (PSs.weakU (t' := tMn K C) (@pss_p _ _ _ _ _ (ps_for PassesOwn.never (by rfl) (pi_range2 (by rfl) T.range (pa_i pe_int (pa_k (pe_callB call_len_seq (by rfl) T.len PySem.boot_len (pa_n (pv 0) pa_nil)) pa_nil))) (pg_name (i := 6) scL42.nd (by rfl) (by exact Or.inl rfl)) (@pss_p _ _ _ _ _ (ps_set (i := 1) scL42.nd (by rfl) (by exact Or.inl rfl) (pe_call GD r1 (by rfl) mD kD bD .nil pass0 (pa_k (pe_call GX r2 (by rfl) mX kX bX .nil pass0 (pa_n (pv 0) (pa_n (pv 6) pa_nil))) (pa_l (QE.h (qx_lst (qa_int (qa_int (qa_int (qa_int (qa_int (qa_int (qa_nil))))))))) pa_nil))))
    (@pss_p _ _ _ _ _ (PS.weakU (t' := tChn C) (ps_if (pt_cmpR op_eq (pe_ix ix_list (pv 1) pe_int px_i) pe_int (nomark _)) (@pss_p _ _ _ _ _ (ps_expr (pe_meth0 (pv 3) Y.cl MW FW rW bW .nil pass0))
    (@pss_o _ _ _ (ps_expr (pe_call GZ r1 (by rfl) mZ kZ bZ .nil pass0 (pa_n (pv 4) pa_nil))))) (@pss_o _ _ _ (ps_if (pt_cmpR op_eq (pe_ix ix_list (pv 1) pe_int px_i) pe_int (nomark _)) (@pss_o _ _ _ (ps_if (pt_not (pt_val (pe_call GP rP (by rfl) mP kP bP .nil pass0 (pa_n (pv 5) (pa_k (pe_call GS rS (by rfl) mS kS bS .nil pass0 (pa_n (pv 3) pa_nil)) (pa_k (pe_call GT r2 (by rfl) mT kT bT .nil pass0 (pa_n (pv 4) (pa_n (pv 2) pa_nil))) pa_nil)))))) (@pss_o _ _ _ (ps_ret pe_bl)) pss_nil)) (@pss_o _ _ _ (ps_if (pt_cmpR op_eq (pe_ix ix_list (pv 1) pe_int px_i) pe_int (nomark _)) (@pss_p _ _ _ _ _ (ps_set (i := 7) scL42.nd (by rfl) (by exact Or.inl rfl) (pe_ix ix_list (QE.h (qx_lst (qa_int (qa_k (pe_callB (call_max2 (by rfl)) (by rfl) T.max boot_max (pa_i pe_int (pa_b (pe_op op_sub (pe_ix ix_list (pv 4) pe_int px_i) pe_int) pa_nil))) (qa_s (pe_ix ix_list (pv 4) pe_int px_i) qa_nil))))) (pe_ix ix_list (pv 1) pe_int px_i) px_s))
    (@pss_p _ _ _ _ _ (ps_set (i := 8) scL42.nd (by rfl) (by exact Or.inl rfl) (pe_op op_mul (pe_op op_add (pe_callB call_len_seq (by rfl) T.len PySem.boot_len (pa_s (pe_ix ix_list (pv 4) pe_int px_i) pa_nil)) (pe_op op_mod (pe_ix ix_list (pv 1) pe_int px_i) pe_int)) (pe_callTy call_int1 (by rfl) T.int boot_int (pa_c (pe_cmpR op_gt (pv 7) pe_int (nomark _)) pa_nil))))
    (@pss_p _ _ _ _ _ (ps_set (i := 7) scL42.nd (by rfl) (by exact Or.inl rfl) (pe_op op_mul (pv 7) (pe_callTy call_int1 (by rfl) T.int boot_int (pa_c (pe_cmpR op_gt (pv 8) pe_int (nomark _)) pa_nil))))
    (@pss_p _ _ _ _ _ (ps_set (i := 9) scL42.nd (by rfl) (by exact Or.inl rfl) (QE.h (qx_tup (qa_str (qa_b (pe_op op_mod (pe_op op_add (pe_op op_add (pe_ix ix_list (pv 4) pe_int px_i) pe_int) (pe_ix ix_list (pv 1) pe_int px_i)) pe_int) (qa_s (pe_ix ix_list (pv 4) pe_int px_i) (qa_k (pe_callB (call_max2 (by rfl)) (by rfl) T.max boot_max (pa_i pe_int (pa_b (pe_op op_sub (pe_op op_add (pe_ix ix_list (pv 4) pe_int px_i) (pe_op op_fdiv (pe_ix ix_list (pv 1) pe_int px_i) pe_int)) pe_int) pa_nil))) (qa_n (pv 8) (qa_n (pv 7) qa_nil)))))))))
    (PSs.weakU (t' := tAskK C) (@pss_o _ _ _ (ps_if (pt_not (pt_val (pe_call GP rP (by rfl) mP kP bP .nil pass0 (pa_n (pv 5) (pa_k (pe_call GA rA (by rfl) mA kA bA .nil pass0 (pa_n (pv 3) (pa_n (pv 9) pa_nil))) (pa_k (pe_call GQ r2 (by rfl) mQ kQ bQ .nil pass0 (pa_n (pv 4) (pa_n (pv 9) pa_nil))) pa_nil)))))) (@pss_o _ _ _ (ps_ret pe_bl)) pss_nil)) ?wa))))) (@pss_p _ _ _ _ _ (ps_set (i := 10) scL42.nd (by rfl) (by exact Or.inl rfl) (pe_op op_mod (pe_op op_add (pe_op op_add (pe_ix ix_list (pv 4) pe_int px_i) pe_int) (pe_ix ix_list (pv 1) pe_int px_i)) pe_int))
    (@pss_p _ _ _ _ _ (ps_set (i := 9) scL42.nd (by rfl) (by exact Or.inl rfl) (QE.h (qx_tup (qa_str (qa_n (pv 10) (qa_s (pe_ix ix_list (pv 4) pe_int px_i) (qa_k (pe_callB (call_max2 (by rfl)) (by rfl) T.max boot_max (pa_i pe_int (pa_b (pe_op op_add (pe_ix ix_list (pv 4) pe_int px_i) (pe_ix ix_list (QE.h (qx_lst (qa_int (qa_int (qa_int (qa_neg (qa_int (qa_int qa_nil)))))))) (pe_ix ix_list (pv 1) pe_int px_i) px_s)) pa_nil))) (qa_c (pe_cmpR op_gt (pe_ix ix_list (pv 1) pe_int px_i) pe_int (nomark _)) qa_nil))))))))
    (PSs.weakU (t' := tVoiK C) (@pss_o _ _ _ (ps_if (pt_not (pt_val (pe_call GP rP (by rfl) mP kP bP .nil pass0 (pa_n (pv 5) (pa_k (pe_call GV rV (by rfl) mV kV bV .nil pass0 (pa_n (pv 3) (pa_n (pv 9) pa_nil))) (pa_k (pe_call GO r2 (by rfl) mO kO bO .nil pass0 (pa_n (pv 4) (pa_n (pv 2) (pa_n (pv 9) pa_nil)))) pa_nil)))))) (@pss_o _ _ _ (ps_ret pe_bl)) pss_nil)) ?wv)))))))) ?wc)
    (@pss_o _ _ _ (ps_if (pt_not (pt_val (pe_call GN r1 (by rfl) mN kN bN .nil pass0 (pa_n (pv 3) (pa_n (pv 4) pa_nil))))) (@pss_o _ _ _ (ps_ret pe_bl)) pss_nil)))))
    (PSs.weakU (t' := tEd C) (@pss_p _ _ _ _ _ (ps_for PassesOwn.never (by rfl) (pi_list (pv 5)) (pg_name (i := 11) scL42.nd (by rfl) (by exact Or.inl rfl)) (@pss_o _ _ _ (ps_if (pt_cmpR (op_neAL hr.units100) (pe_ix ix_list (pv 11) pe_int px_i) (pe_ix ix_list (pv 11) pe_int px_i) (nomark _)) (@pss_o _ _ _ (ps_ret pe_bl)) pss_nil)))
    (@pss_o _ _ _ (ps_ret (pe_call GN r1 (by rfl) mN kN bN .nil pass0 (pa_n (pv 3) (pa_n (pv 4) pa_nil)))))) ?we)) ?wm)))))), ?_⟩
  case wa =>
    clear hS hlen q
    rintro D σ H ⟨sc, rs, sp, a, lo, lk, p, s6, s7, s8, s10, one, other, t, pl, la, H0, ms, n, k, ps, rfl, hp, hn, L, q⟩
    refine ⟨_, rfl, _, rfl, _, rfl, a, p, "ask", one, other, t, pl, la, k, rfl, L.kv, L.good.ok, hp, fun l1 xs H1 hl1 i1 x9 n1 k1 o1 => ?_⟩
    obtain ⟨O1, _, t1⟩ := L.mid o1
    refine ⟨_, rfl, _, rfl, lo, p, "ask", one, other, t, pl, la, k, rfl, O1, L.good.ok, t1 _ _ hp, fun l2 ys H2 hl2 i2 n2 O2 o2 => ?_⟩
    obtain ⟨g1, g2, g3, g4⟩ := L.step hl1 i1 n1 k1 o1 hl2 i2 n2 O2 o2 ((good_ask L.good one t pl la).up (Nat.le_succ n)) (gx_ask ..) (w_voi k one t pl la)
    have hps := L.few
    exact ⟨lk, l1, l2, ps, xs, ys, _, rfl, g1, by omega, g2, hl2, g3, i2, w_voi k one t pl la, len9 i1 x9, fun pl' H3 j1 j2 j3 j4 => ⟨_, rfl, iteF (q H3 _ _ (g4 pl' H3 j1 j2 j3 j4))⟩⟩
  case wv =>
    clear hS hlen q
    rintro D σ H ⟨sc, rs, sp, a, lo, lk, p, s6, s7, s8, s10, one, other, t, g, H0, ms, n, k, ps, rfl, hp, h0, h8, ht, hn, L, q⟩
    refine ⟨_, rfl, _, rfl, _, rfl, a, p, "voice", one, other, t, g, k, rfl, L.kv, L.good.st (by omega), L.good.vs, h0, h8, ht, hp, fun l1 xs H1 hl1 i1 x9 n1 k1 o1 => ?_⟩
    obtain ⟨O1, hs1, t1⟩ := L.mid o1
    refine ⟨_, rfl, _, rfl, _, rfl, lo, sp, p, "voice", one, other, t, g, k, rfl, O1, hs1, L.good.st (by omega), L.good.vs, h0, h8, ht, t1 _ _ hp, fun l2 ys H2 hl2 i2 n2 O2 o2 => ?_⟩
    obtain ⟨g1, g2, g3, g4⟩ := L.step hl1 i1 n1 k1 o1 hl2 i2 n2 O2 o2 (good_tv L.good (by omega) h0 h8 ht) (gx_tv ..) (w_tv k one t g)
    have hps := L.few
    exact ⟨lk, l1, l2, ps, xs, ys, _, rfl, g1, by omega, g2, hl2, g3, i2, w_tv k one t g, len9 i1 x9, fun pl' H3 j1 j2 j3 j4 => ⟨_, rfl, iteF (q H3 _ _ (g4 pl' H3 j1 j2 j3 j4))⟩⟩
  case wc =>
    clear hS hlen q
    rintro D σ H ⟨sc, rs, sp, a, lo, lk, s6, s7, s8, s9, s10, ds, H0, ms, n, k, ps, rfl, hrs, hd6, hd, hd2, hd5, hn, L, q⟩
    obtain ⟨d0, d1, d2, d3, d4, d5, rfl⟩ : ∃ d0 d1 d2 d3 d4 d5, ds = [d0, d1, d2, d3, d4, d5] := by
      match ds, hd6 with
      | [d0, d1, d2, d3, d4, d5], _ => exact ⟨d0, d1, d2, d3, d4, d5, rfl⟩
    have b1 := hd d1 (by simp)
    have b2 := hd d2 (by simp)
    have b3 := hd d3 (by simp)
    have b5 := hd d5 (by simp)
    have c2 := hd2 d2 rfl
    have c5 := hd5 d5 rfl
    have hnum := L.good.ok.num
    have htm := L.good.ok.tm
    have hkv := L.kv
    obtain ⟨dx, fs, vp, vr, vst, an, ah, av, aw, ha, ff, ok, S⟩ := hkv
    have hown := L.own
    obtain ⟨lv, lr, us, O⟩ := hown
    have el := ent_len O.e
    have hlen := L.good.len
    refine ⟨_, rfl, rs, _, _, .int d4, rfl, rfl, SqL.of hrs, atI_nat (j := 4) rfl, rfl, _, rfl, ite2 (fun h => ?_) (fun h => ?_)⟩
    · refine ⟨_, rfl, a, dx, fs, rfl, ha, ok.no (by decide +kernel), a, k, rfl, L.kv, fun H1 k1 o1 => ?_⟩
      obtain ⟨O1, _, t1⟩ := L.mid o1
      exact ⟨_, rfl, lo, k, rfl, O1, fun H2 O2 o2 => q _ _ _ _ H2 _ _ (L.both k1 o1 O2 o2 ((good_wake L.good).up (Nat.le_succ n)) (Nat.le_succ n) rfl)⟩
    refine ⟨_, rfl, rs, _, _, .int d0, rfl, rfl, SqL.of hrs, atI_nat (j := 0) rfl, rfl, _, rfl, ite2 (fun h => ?_) (fun h => ?_)⟩
    · refine ⟨_, rfl, _, rfl, a, k, rfl, L.kv, L.good.st (by omega), fun l1 xs H1 hl1 i1 x9 n1 k1 o1 => ?_⟩
      obtain ⟨O1, hs1, t1⟩ := L.mid o1
      refine ⟨_, rfl, _, rfl, lo, sp, k, rfl, O1, hs1, L.good.st (by omega), fun l2 ys H2 hl2 i2 n2 O2 o2 => ?_⟩
      obtain ⟨g1, g2, g3, g4⟩ := L.step hl1 i1 n1 k1 o1 hl2 i2 n2 O2 o2 (good_st L.good (by omega)) (gx_st k) (w_st k)
      have hps := L.few
      exact ⟨lk, l1, l2, ps, xs, ys, _, rfl, g1, by omega, g2, hl2, g3, i2, w_st k, len9 i1 x9, fun pl' H3 j1 j2 j3 j4 => ⟨_, rfl, iteF (q _ _ _ _ H3 _ _ (g4 pl' H3 j1 j2 j3 j4))⟩⟩
    refine ⟨_, rfl, rs, _, _, .int d0, rfl, rfl, SqL.of hrs, atI_nat (j := 0) rfl, rfl, _, rfl, ite2 (fun h => ?_) (fun h => ?_)⟩
    · have hat : ∃ z : Int, atI [V.int 0, V.int (if k.tm - 1 > 0 then k.tm - 1 else 0), V.int k.tm] d5 = some (V.int z) := by
        have h3 : d5 = 0 ∨ d5 = 1 ∨ d5 = 2 := by omega
        rcases h3 with e | e | e
        · rw [e]; exact ⟨_, atI_nat (j := 0) rfl⟩
        · rw [e]; exact ⟨_, atI_nat (j := 1) rfl⟩
        · rw [e]; exact ⟨_, atI_nat (j := 2) rfl⟩
      obtain ⟨z, hz⟩ := hat
      refine ⟨_, rfl, lo, _, _, .int k.tm, rfl, rfl, SqL.of O.at_, atI_nat (j := 1) rfl, _, _, rfl, rfl, 0, _, rfl, _, rfl, lo, _, _, .int k.tm, rfl, rfl, SqL.of O.at_, atI_nat (j := 1) rfl, tiny (by show 3 ≤ 1000; decide), fun l1 hl1 => ?_⟩
      have s1 := same_upd (o := HO.lst [V.int 0, V.int (if k.tm - 1 > 0 then k.tm - 1 else 0), V.int k.tm]) hl1
      have L1 := L.same' s1
      have O1 := s1 _ _ O.at_
      have R1 := s1 _ _ O.r
      have hrs1 := s1 _ _ hrs
      refine ⟨_, rfl, rs, _, _, .int d5, rfl, rfl, SqL.of hrs1, atI_nat (j := 5) rfl, l1, _, _, .int z, rfl, rfl, SqL.of upd_same, hz, ?_⟩
      generalize upd H l1 (HO.lst [V.int 0, V.int (if k.tm - 1 > 0 then k.tm - 1 else 0), V.int k.tm]) = H1 at s1 L1 O1 R1 hrs1
      refine ⟨_, rfl, lo, _, _, .ref lr, rfl, rfl, SqL.of O1, atI_nat (j := 5) rfl, lr, us, rfl, .inl (SqL.of R1), _, rfl, rs, _, _, .int d3, rfl, rfl, SqL.of hrs1, atI_nat (j := 3) rfl, _, _, rfl, rfl, (by show (0 : Int) < 3; decide), _, _, rfl, rfl, _, rfl, _, _, rfl, rfl, .inr ⟨_, rfl, _, _, rfl, rfl, .inl ⟨by omega, by omega⟩, ?_⟩⟩
      show gName 8 (V.int (((us.length : Int) + d3 % 3) * (if decide (0 < z) = true then 1 else 0))) _ _ _
      generalize ((us.length : Int) + d3 % 3) * (if decide (0 < z) = true then 1 else 0) = pl
      refine ⟨_, rfl, _, rfl, _, _, rfl, rfl, .inr ⟨_, rfl, _, _, rfl, rfl, .inr ⟨by split <;> decide, by split <;> decide⟩, ?_⟩⟩
      show gName 7 (V.int (z * (if decide (0 < pl) = true then 1 else 0))) _ _ _
      generalize z * (if decide (0 < pl) = true then 1 else 0) = la
      refine ⟨_, rfl, lo, _, _, .int k.num, rfl, rfl, SqL.of O1, atI_nat (j := 0) rfl, _, _, rfl, rfl, _, rfl, rs, _, _, .int d1, rfl, rfl, SqL.of hrs1, atI_nat (j := 1) rfl, _, _, rfl, rfl, _, _, rfl, rfl, (by show (0 : Int) < 9; decide), _, rfl, lo, _, _, .int k.num, rfl, rfl, SqL.of O1, atI_nat (j := 0) rfl, _, rfl, lo, _, _, .int k.tm, rfl, rfl, SqL.of O1, atI_nat (j := 1) rfl, _, rfl, rs, _, _, .int d2, rfl, rfl, SqL.of hrs1, atI_nat (j := 2) rfl, _, _, rfl, rfl, ⟨by decide, by decide⟩, _, _, rfl, rfl, _, _, rfl, rfl, 1, _, rfl, _, rfl, _, rfl, tiny (by show 6 ≤ 1000; decide), fun p hp => ?_⟩
      exact ⟨sc, rs, sp, a, lo, lk, p, _, _, _, _, _, _, _, pl, la, H0, ms, n, k, ps, rfl, upd_same, hn, L1.same' (same_upd hp), fun H' k' ps' L' => q _ _ _ _ H' k' ps' L'⟩
    · have hone : 0 ≤ (k.num + 1 + d1) % 9 ∧ (k.num + 1 + d1) % 9 ≤ 8 := by omega
      refine ⟨_, rfl, lo, _, _, .int k.num, rfl, rfl, SqL.of O.at_, atI_nat (j := 0) rfl, _, _, rfl, rfl, _, rfl, rs, _, _, .int d1, rfl, rfl, SqL.of hrs, atI_nat (j := 1) rfl, _, _, rfl, rfl, _, _, rfl, rfl, (by show (0 : Int) < 9; decide), ?_⟩
      show gName 10 (V.int ((k.num + 1 + d1) % 9)) _ _ _
      generalize (k.num + 1 + d1) % 9 = one at hone
      have hat : ∃ z : Int, atI [V.int 0, V.int 0, V.int 0, V.int (-1), V.int 1, V.int 2] d2 = some (V.int z) := by
        have h6 : d2 = 0 ∨ d2 = 1 ∨ d2 = 2 ∨ d2 = 3 ∨ d2 = 4 ∨ d2 = 5 := by omega
        rcases h6 with e | e | e | e | e | e
        · rw [e]; exact ⟨_, atI_nat (j := 0) rfl⟩
        · rw [e]; exact ⟨_, atI_nat (j := 1) rfl⟩
        · rw [e]; exact ⟨_, atI_nat (j := 2) rfl⟩
        · rw [e]; exact ⟨_, atI_nat (j := 3) rfl⟩
        · rw [e]; exact ⟨_, atI_nat (j := 4) rfl⟩
        · rw [e]; exact ⟨_, atI_nat (j := 5) rfl⟩
      obtain ⟨z, hz⟩ := hat
      refine ⟨_, rfl, _, rfl, lo, _, _, .int k.num, rfl, rfl, SqL.of O.at_, atI_nat (j := 0) rfl, _, rfl, lo, _, _, .int k.tm, rfl, rfl, SqL.of O.at_, atI_nat (j := 1) rfl, _, rfl, tiny (by show 6 ≤ 1000; decide), fun l1 hl1 => ?_⟩
      have s1 := same_upd (o := HO.lst [V.int 0, V.int 0, V.int 0, V.int (-1), V.int 1, V.int 2]) hl1
      have L1 := L.same' s1
      have O1 := s1 _ _ O.at_
      have hrs1 := s1 _ _ hrs
      refine ⟨_, rfl, rs, _, _, .int d2, rfl, rfl, SqL.of hrs1, atI_nat (j := 2) rfl, l1, _, _, .int z, rfl, rfl, SqL.of upd_same, hz, _, _, rfl, rfl, 1, _, rfl, _, rfl, rs, _, _, .int d3, rfl, rfl, SqL.of hrs1, atI_nat (j := 3) rfl, _, _, rfl, rfl, tiny (by show 5 ≤ 1000; decide), fun p hp => ?_⟩
      exact ⟨sc, rs, sp, a, lo, lk, p, _, _, _, _, one, _, _, _, H0, ms, n, k, ps, rfl, upd_same, hone.1, hone.2, by split <;> omega, hn, L1.same' (same_upd hp), fun H' k' ps' L' => q _ _ _ _ H' k' ps' L'⟩
  case we =>
    clear hS hlen q
    rintro D σ H ⟨sc, sp, a, lo, lk, s1, s6, s7, s8, s9, s10, H0, ms, n, k, ps, rfl, hn, L, q⟩
    have hps := L.few
    have hln := L.good.len
    have hv9 := low_len L.good.vs.up L.good.vs.low
    refine ⟨_, rfl, lk, rfl, ⟨_, SqL.of L.hlk⟩, for_list (K := K) (a := lk) (xs := ps) (fun i σ H' => ∃ s11, σ = [some (.ref sc), s1, some (.ref sp), some (.ref a), some (.ref lo), some (.ref lk), s6, s7, s8, s9, s10, s11] ∧ Same H H') ⟨none, rfl, Same.refl _⟩ (fun i σ H' _ ⟨_, _, s⟩ => SqL.of (s _ _ L.hlk)) ?_ ?_⟩
    · rintro i x σ H' hx ⟨s11, rfl, s⟩
      obtain ⟨pl, f1, u1, xs, ys, ds, rfl, h1, h2, h3, h4, h5, h6, _⟩ := L.all x (List.mem_of_getElem? hx)
      have h4' := h4.sameT (sameT_of s)
      have h5' := h5.sameT (sameT_of s)
      exact ⟨_, rfl, pl, _, _, .ref f1, rfl, rfl, SqL.of (s _ _ h1), atI_nat (j := 0) rfl, _, rfl, pl, _, _, .ref u1, rfl, rfl, SqL.of (s _ _ h1), atI_nat (j := 1) rfl, f1, u1, xs, ys, 4, rfl, rfl, SqL.of (s _ _ h2), SqL.of (s _ _ h3), h4'.length.trans h5'.length.symm, IsTL.alike 4 h6 h4' h5', by decide, _, rfl, iteF ⟨_, rfl, s⟩⟩
    · rintro σ H' ⟨s11, rfl, s⟩
      exact ⟨_, rfl, _, rfl, a, lo, k, rfl, L.kv.same s, L.own.same s, by omega, by omega, fun H2 _ => q H2⟩
  case wm =>
    clear hS hlen q
    rintro D σ H ⟨sc, sp, a, lo, lk, ns, s1, H0, ms, k, rfl, hS, hlen, L, q⟩
    refine ⟨_, rfl, sc, _, rfl, .inl (SqL.same hS L.same), _, _, rfl, ⟨by decide, by decide, by rw [List.length_map]; omega, by rw [List.length_map]; omega⟩, ?_⟩
    refine for_range (n := _) (fun i σ H' => ∃ (s1 s6 s7 s8 s9 s10 : Option V) (k : Kst) (ps : List V), σ = [some (.ref sc), s1, some (.ref sp), some (.ref a), some (.ref lo), some (.ref lk), s6, s7, s8, s9, s10, none] ∧ i ≤ 63 ∧ LI C H0 ms sp a lo lk i H' k ps) ⟨_, _, _, _, _, _, k, [], rfl, by omega, L⟩ ?_ ?_
    · rintro i σ He hi ⟨s1, s6, s7, s8, s9, s10, k, ps, rfl, hi63, Le⟩
      rw [List.length_map] at hi
      refine ⟨_, rfl, _, rfl, sc, ns, _, rfl, SqL.same hS Le.same, by omega, fun m hm0 hm1 => ⟨tiny (by show 6 ≤ 1000; decide), fun l hl' => ?_⟩⟩
      have sl := same_upd (o := HO.lst (([4, 8, 6, 5, 7, 3] : List Int).map V.int)) hl'
      refine ⟨m, l, [4, 8, 6, 5, 7, 3], rfl, upd_same, by decide, by decide, fun rs ds Hf hrs hds hb sf => ?_⟩
      have Lf := Le.same' (sl.trans sf)
      refine ⟨sc, rs, sp, a, lo, lk, _, _, _, _, _, ds, H0, ms, i, k, ps, rfl, hrs, hds, fun d hd => ?_, fun d e => (hb 2 6 d rfl e).2, fun d e => (hb 5 3 d rfl e).2, by omega, Lf, fun s7 s8 s9 s10 Hg k' ps' Lg => ?_⟩
      · obtain ⟨j, hj, e⟩ := List.mem_iff_getElem.mp hd
        have e2 := (List.getElem?_eq_getElem hj).trans (congrArg some e)
        rw [hds] at hj
        match j, hj, e2 with
        | 0, _, e2 => have := hb 0 4 d rfl e2; omega
        | 1, _, e2 => have := hb 1 8 d rfl e2; omega
        | 2, _, e2 => have := hb 2 6 d rfl e2; omega
        | 3, _, e2 => have := hb 3 5 d rfl e2; omega
        | 4, _, e2 => have := hb 4 7 d rfl e2; omega
        | 5, _, e2 => have := hb 5 3 d rfl e2; omega
        | j + 6, hj, _ => exact absurd hj (by show ¬ j + 6 < 6; omega)
      · have hln := Lg.good.len
        have hv9 := low_len Lg.good.vs.up Lg.good.vs.low
        exact ⟨_, rfl, _, rfl, a, lo, k', rfl, Lg.kv, Lg.own, by omega, by omega, fun Hh sh => ⟨_, rfl, iteF ⟨_, _, _, _, _, _, k', ps', rfl, by omega, Lg.same' sh⟩⟩⟩
    · rintro σ He ⟨s1, s6, s7, s8, s9, s10, k, ps, rfl, hi63, Le⟩
      exact ⟨sc, sp, a, lo, lk, _, _, _, _, _, _, H0, ms, _, k, ps, rfl, by omega, Le, q⟩
  refine ⟨_, rfl, sc, ns, _, rfl, hS, by decide, fun m hm0 hm1 => ⟨tiny (by show 3 ≤ 1000; decide), fun l0 hl0 => ?_⟩⟩
  have sA := same_upd (o := HO.lst (([9, 6, 3] : List Int).map V.int)) hl0
  refine ⟨m, l0, [9, 6, 3], rfl, upd_same, by decide, by decide, fun rs ds Hb hrs hds hb sB => ?_⟩
  have sAB := sA.trans sB
  obtain ⟨d0, d1, d2, rfl⟩ : ∃ d0 d1 d2, ds = [d0, d1, d2] := by
    match ds, hds with
    | [d0, d1, d2], _ => exact ⟨d0, d1, d2, rfl⟩
  have c0 := hb 0 9 d0 rfl rfl
  have c1 := hb 1 6 d1 rfl rfl
  clear hb sA sB
  refine ⟨tiny (by show 1 ≤ 1000; decide), fun t1 ht1 => ⟨tiny (by show 2 ≤ 1000; decide), fun t2 ht2 => ⟨tiny (by show 3 ≤ 1000; decide), fun t3 ht3 => ⟨tiny (by show 4 ≤ 1000; decide), fun t4 ht4 => ⟨tiny (by show 5 ≤ 1000; decide), fun t5 ht5 => ⟨tiny (by show 9 ≤ 1000; decide), fun t6 ht6 => ⟨tiny (by show 6 ≤ 1000; decide), fun l7 hl7 => ?_⟩⟩⟩⟩⟩⟩⟩
  have u1 := same_upd (o := HO.tup (([0] : List Int).map V.int)) ht1
  have u2 := same_upd (o := HO.tup (([4, 8] : List Int).map V.int)) ht2
  have u3 := same_upd (o := HO.tup (([1, 2, 3] : List Int).map V.int)) ht3
  have u4 := same_upd (o := HO.tup (([0, 3, 5, 7] : List Int).map V.int)) ht4
  have u5 := same_upd (o := HO.tup (([0, 2, 4, 6, 8] : List Int).map V.int)) ht5
  have u6 := same_upd (o := HO.tup (([0, 1, 2, 3, 4, 5, 6, 7, 8] : List Int).map V.int)) ht6
  have u7 := same_upd (o := HO.lst [V.ref t1, V.ref t2, V.ref t3, V.ref t4, V.ref t5, V.ref t6]) hl7
  have u67 := u6.trans u7
  have u57 := u5.trans u67
  have u47 := u4.trans u57
  have u37 := u3.trans u47
  have u27 := u2.trans u37
  have uAll := u1.trans u27
  have hat : ∃ (sp : Addr) (ms : List Int), atI [V.ref t1, V.ref t2, V.ref t3, V.ref t4, V.ref t5, V.ref t6] d1 = some (.ref sp) ∧ (upd (upd (upd (upd (upd (upd (upd Hb t1 (HO.tup (([0] : List Int).map V.int))) t2 (HO.tup (([4, 8] : List Int).map V.int))) t3 (HO.tup (([1, 2, 3] : List Int).map V.int))) t4 (HO.tup (([0, 3, 5, 7] : List Int).map V.int))) t5 (HO.tup (([0, 2, 4, 6, 8] : List Int).map V.int))) t6 (HO.tup (([0, 1, 2, 3, 4, 5, 6, 7, 8] : List Int).map V.int))) l7 (HO.lst [V.ref t1, V.ref t2, V.ref t3, V.ref t4, V.ref t5, V.ref t6])) sp = some (.tup (ms.map V.int)) ∧ ms.Pairwise (· < ·) ∧ (∀ m ∈ ms, 0 ≤ m ∧ m ≤ 8) ∧ ms ≠ [] := by
    have h6 : d1 = 0 ∨ d1 = 1 ∨ d1 = 2 ∨ d1 = 3 ∨ d1 = 4 ∨ d1 = 5 := by omega
    rcases h6 with e | e | e | e | e | e
    · rw [e]; exact ⟨t1, [0], atI_nat (j := 0) rfl, u27 _ _ upd_same, by decide, by decide, by decide⟩
    · rw [e]; exact ⟨t2, [4, 8], atI_nat (j := 1) rfl, u37 _ _ upd_same, by decide, by decide, by decide⟩
    · rw [e]; exact ⟨t3, [1, 2, 3], atI_nat (j := 2) rfl, u47 _ _ upd_same, by decide, by decide, by decide⟩
    · rw [e]; exact ⟨t4, [0, 3, 5, 7], atI_nat (j := 3) rfl, u57 _ _ upd_same, by decide, by decide, by decide⟩
    · rw [e]; exact ⟨t5, [0, 2, 4, 6, 8], atI_nat (j := 4) rfl, u67 _ _ upd_same, by decide, by decide, by decide⟩
    · rw [e]; exact ⟨t6, [0, 1, 2, 3, 4, 5, 6, 7, 8], atI_nat (j := 5) rfl, u7 _ _ upd_same, by decide, by decide, by decide⟩
  obtain ⟨sp, ms, hat, hsp, mup, mlow, mne⟩ := hat
  have m9 := low_len mup mlow
  refine ⟨_, rfl, rs, _, _, .int d1, rfl, rfl, SqL.of (uAll _ _ hrs), atI_nat (j := 1) rfl, l7, _, _, .ref sp, rfl, rfl, SqL.of upd_same, hat, ?_⟩
  have sC : Same H (upd (upd (upd (upd (upd (upd (upd Hb t1 (HO.tup (([0] : List Int).map V.int))) t2 (HO.tup (([4, 8] : List Int).map V.int))) t3 (HO.tup (([1, 2, 3] : List Int).map V.int))) t4 (HO.tup (([0, 3, 5, 7] : List Int).map V.int))) t5 (HO.tup (([0, 2, 4, 6, 8] : List Int).map V.int))) t6 (HO.tup (([0, 1, 2, 3, 4, 5, 6, 7, 8] : List Int).map V.int))) l7 (HO.lst [V.ref t1, V.ref t2, V.ref t3, V.ref t4, V.ref t5, V.ref t6])) := sAB.trans uAll
  have hrsC : (upd (upd (upd (upd (upd (upd (upd Hb t1 (HO.tup (([0] : List Int).map V.int))) t2 (HO.tup (([4, 8] : List Int).map V.int))) t3 (HO.tup (([1, 2, 3] : List Int).map V.int))) t4 (HO.tup (([0, 3, 5, 7] : List Int).map V.int))) t5 (HO.tup (([0, 2, 4, 6, 8] : List Int).map V.int))) t6 (HO.tup (([0, 1, 2, 3, 4, 5, 6, 7, 8] : List Int).map V.int))) l7 (HO.lst [V.ref t1, V.ref t2, V.ref t3, V.ref t4, V.ref t5, V.ref t6])) rs = some (.lst ([d0, d1, d2].map V.int)) := uAll _ _ hrs
  show gName 2 (V.ref sp) _ (upd (upd (upd (upd (upd (upd (upd Hb t1 (HO.tup (([0] : List Int).map V.int))) t2 (HO.tup (([4, 8] : List Int).map V.int))) t3 (HO.tup (([1, 2, 3] : List Int).map V.int))) t4 (HO.tup (([0, 3, 5, 7] : List Int).map V.int))) t5 (HO.tup (([0, 2, 4, 6, 8] : List Int).map V.int))) t6 (HO.tup (([0, 1, 2, 3, 4, 5, 6, 7, 8] : List Int).map V.int))) l7 (HO.lst [V.ref t1, V.ref t2, V.ref t3, V.ref t4, V.ref t5, V.ref t6])) _
  generalize (upd (upd (upd (upd (upd (upd (upd Hb t1 (HO.tup (([0] : List Int).map V.int))) t2 (HO.tup (([4, 8] : List Int).map V.int))) t3 (HO.tup (([1, 2, 3] : List Int).map V.int))) t4 (HO.tup (([0, 3, 5, 7] : List Int).map V.int))) t5 (HO.tup (([0, 2, 4, 6, 8] : List Int).map V.int))) t6 (HO.tup (([0, 1, 2, 3, 4, 5, 6, 7, 8] : List Int).map V.int))) l7 (HO.lst [V.ref t1, V.ref t2, V.ref t3, V.ref t4, V.ref t5, V.ref t6])) = Hc at sC hrsC hsp
  clear u1 u2 u3 u4 u5 u6 u7 u67 u57 u47 u37 u27 uAll ht1 ht2 ht3 ht4 ht5 ht6 hl7 hat
  refine ⟨_, rfl, rs, _, _, .int d0, rfl, rfl, SqL.of hrsC, atI_nat (j := 0) rfl, _, rfl, fun a dx ha hdx hne => ?_⟩
  have gM : Same Hc (upd (upd Hc dx (.own a)) a (.ins C dx [])) := (same_upd hdx).trans (same_upd (by rw [upd_ne (fun z => hne z.symm)]; exact ha))
  refine ⟨a, sp, dx, d0, ms, rfl, upd_same, gM _ _ hsp, fun Hd hk offd => ⟨rfl, ?_⟩⟩
  have sD : Same Hc Hd := fun b o e => offd b o (fun z => by rw [z, ha] at e; cases e) (gM _ _ e)
  have hrsD := sD _ _ hrsC
  have hspD := sD _ _ hsp
  have na := none_same sC ha
  have sHD := sC.trans sD
  clear gM offd
  refine ⟨_, rfl, rs, _, _, .int d0, rfl, rfl, SqL.of hrsD, atI_nat (j := 0) rfl, _, _, rfl, rfl, ⟨by decide, by decide, by decide⟩, _, rfl, rs, _, _, .int d2, rfl, rfl, SqL.of hrsD, atI_nat (j := 2) rfl, rfl, .inr ⟨_, rfl, _, _, rfl, rfl, .inr ⟨by split <;> decide, by split <;> decide⟩, ?_⟩⟩
  have hTp : 0 ≤ (10 : Int) ^ Int.toNat 25 * (if decide (V.int d2 = V.int 0) = true then 1 else 0) := Int.mul_nonneg (by decide) (by split <;> decide)
  generalize hvT : ((fun i j => V.int (i * j)) ((10 : Int) ^ Int.toNat 25) (if decide (V.int d2 = V.int 0) = true then 1 else 0) : V) = vT
  have hvT2 : V.int ((10 : Int) ^ Int.toNat 25 * (if decide (V.int d2 = V.int 0) = true then 1 else 0)) = vT := hvT
  clear hvT
  generalize (10 : Int) ^ Int.toNat 25 * (if decide (V.int d2 = V.int 0) = true then 1 else 0) = T0 at hTp hvT2
  subst hvT2
  refine ⟨tiny (by show 0 ≤ 1000; decide), fun lv hlv => ⟨tiny (by show 0 ≤ 1000; decide), fun lr hlr => ⟨tiny (by show 9 ≤ 1000; decide), fun lo hlo => ?_⟩⟩⟩
  have s1 := same_upd (o := HO.lst []) hlv
  have s2 := same_upd (o := HO.lst []) hlr
  have s3 := same_upd (o := HO.lst [V.int d0, V.int T0, V.str "plain", V.ref lv, V.non, V.ref lr, V.int 1, V.int 0, V.non]) hlo
  have hlv3 := s3 _ _ (s2 _ _ (upd_same (H := Hd) (a := lv) (o := HO.lst [])))
  have hlr3 := s3 _ _ (upd_same (H := upd Hd lv (HO.lst [])) (a := lr) (o := HO.lst []))
  have hlo3 := upd_same (H := upd (upd Hd lv (HO.lst [])) lr (HO.lst [])) (a := lo) (o := HO.lst [V.int d0, V.int T0, V.str "plain", V.ref lv, V.non, V.ref lr, V.int 1, V.int 0, V.non])
  have s13 := s1.trans (s2.trans s3)
  have nlv : lv ≠ lo := fun z => by rw [← z, s2 _ _ upd_same] at hlo; cases hlo
  have nlr : lr ≠ lo := fun z => by rw [← z, upd_same] at hlo; cases hlo
  have no := none_same (sHD.trans (s1.trans s2)) hlo
  have sHE := sHD.trans s13
  have hkE := hk.same s13
  have hspE := s13 _ _ hspD
  generalize upd (upd (upd Hd lv (HO.lst [])) lr (HO.lst [])) lo (HO.lst [V.int d0, V.int T0, V.str "plain", V.ref lv, V.non, V.ref lr, V.int 1, V.int 0, V.non]) = He at hlv3 hlr3 hlo3 sHE hkE hspE s3 s13
  clear hlv hlr hlo s1 s2 s3 s13 hk hspD hrsD
  have hkE' := hkE
  obtain ⟨dx3, fs3, vp3, vr3, vst3, an3, ah3, av3, aw3, ha3, f3, ok3, S3⟩ := hkE'
  refine ⟨_, rfl, a, dx3, fs3, rfl, ha3, ok3.no (by decide +kernel), _, rfl, lo, _, _, .int T0, rfl, rfl, SqL.of hlo3, atI_nat (j := 1) rfl, a, T0, _, rfl, hkE, fun Hf hkF offF => ?_⟩
  have lstF : ∀ b xs, He b = some (.lst xs) → Hf b = some (.lst xs) := fun b xs e => offF b _ (fun z => by rw [z, ha3] at e; cases e) e
  have tF := offF.tups ha3
  have eh : hearF ⟨d0, 0, none, none, "plain", 0, [], [], 1, ms, 0⟩ T0 = ⟨d0, T0, none, none, "plain", 0, [], [], 1, ms, 0⟩ := by
    unfold hearF
    by_cases e : T0 > 0
    · rw [if_pos e]
    · rw [if_neg e, show T0 = 0 by omega]
  rw [eh] at hkF
  have sHF := same_off sHE offF na
  refine ⟨tiny (by show 0 ≤ 1000; decide), fun lk hlk => ?_⟩
  have s9 := same_upd (o := HO.lst []) hlk
  have hlvF := lstF _ _ hlv3
  have hlrF := lstF _ _ hlr3
  have hloF := lstF _ _ hlo3
  have kF : K2V C (upd Hf lk (HO.lst [])) a ⟨d0, T0, none, none, "plain", 0, [], [], 1, ms, lk⟩ := hkF.same s9
  have good : GoodK ms 0 ⟨d0, T0, none, none, "plain", 0, [], [], 1, ms, lk⟩ := ⟨rfl, ⟨mup, mlow, mne, by show 0 ≤ d0 ∧ d0 ≤ 8; omega, hTp, Nat.zero_le _, Nat.zero_le _, m9⟩, ⟨.nil, fun v hv => absurd hv List.not_mem_nil⟩, Int.le_refl _, Int.le_refl _, Nat.le_refl _⟩
  have x1 : lv ≠ lk := fun z => by rw [z, hlk] at hlvF; cases hlvF
  have x2 : lr ≠ lk := fun z => by rw [z, hlk] at hlrF; cases hlrF
  have x3 : lo ≠ lk := fun z => by rw [z, hlk] at hloF; cases hloF
  have ownF : Own (upd Hf lk (HO.lst [])) lo ⟨d0, T0, none, none, "plain", 0, [], [], 1, ms, lk⟩ := ⟨lv, lr, [], s9 _ _ hloF, s9 _ _ hlvF, s9 _ _ hlrF, .nil, nlv, nlr, x1, x2, ⟨_, upd_same⟩⟩
  exact ⟨sc, sp, a, lo, lk, ns, _, H, ms, _, rfl, hS, hlen, ⟨kF, ownF, good, s9 _ _ (tF _ _ hspE), upd_same, Nat.le_refl _, fun v hv => absurd hv List.not_mem_nil, sHF.trans s9, x3, na, no, none_same sHF hlk, rfl⟩, q⟩
end
end K1
set_option Elab.async false
set_option linter.all false
set_option maxRecDepth 100000
set_option maxHeartbeats 4000000
namespace K1
open PySem L2 Kp
section
variable {P : Program} {w : World} {K : PySem.W.Frag} {mg : Str → Option Value} {base : Heap}
theorem scEoP : FnScope ["row"] ["row"] (defScope s_end_of) := ⟨rfl, rfl, rfl, by decide +kernel, rfl, by decide +kernel, by decide +kernel⟩
theorem ok_end_ofP {f : Addr} {fd : FuncData} (F : Fun K "end_of" "end_of" s_end_of f fd) (T : Txt mg) : FnOk P w K mg base CX0 1 f fd ["row"] spEndP := by
  refine F.ok scEoP (fun vs H Q E ⟨_, _, _, _, e, _⟩ => by subst e; rfl) (fun cdv A outer s H vs Q E hr h => ?_)
  obtain ⟨v, b, l, es, rfl, ⟨rb, c, us, rfl, hb, hc, he⟩, q⟩ := h
  refine ⟨_, @pss_o _ _ _ (ps_ret (pe_op op_add (pe_ix ix_tup (pv 0) (pe_int) px_i) (pe_callB call_len_seq (by rfl) T.len PySem.boot_len (pa_s (pe_ix ix_tup (pv 0) (pe_int) px_i) pa_nil)))), ?_⟩
  refine ⟨_, rfl, rb, _, _, .int b, rfl, rfl, SqT.of hb, atI_nat (j := 0) rfl, _, rfl, rb, _, _, .ref c, rfl, rfl, SqT.of hb, atI_nat (j := 2) rfl, c, us, rfl, .inr (SqT.of hc), _, _, rfl, rfl, ?_⟩
  show Q (.int (b + (us.length : Int))) H
  rw [he.length]; exact q
theorem scHs : FnScope ["entry"] ["entry"] (defScope s_holds_seats) := ⟨rfl, rfl, rfl, by decide +kernel, rfl, by decide +kernel, by decide +kernel⟩
theorem ok_holds {f : Addr} {fd : FuncData} (F : Fun K "holds_seats" "holds_seats" s_holds_seats f fd) : FnOk P w K mg base CX0 1 f fd ["entry"] spHoldP := by
  refine F.ok scHs (fun vs H Q E ⟨_, _, _, _, e, _⟩ => by subst e; rfl) (fun cdv A outer s H vs Q E hr h => ?_)
  obtain ⟨p, t, u, x, rfl, hp, hx, k⟩ := h
  refine ⟨_, @pss_o _ _ _ (ps_ret (pe_cmpR op_eq (pe_ix ix_tup (pe_ix ix_tup (pv 0) (pe_int) px_i) (pe_int) px_i) pe_str (nomark _))), ?_⟩
  have a1 : atI [V.int t, u] 1 = some u := atI_nat (j := 1) rfl
  cases x with
  | opn =>
    obtain ⟨p2, rfl, h2⟩ := hx
    refine ⟨_, rfl, p, _, _, _, rfl, rfl, SqT.of hp, a1, p2, _, _, .str "open", rfl, rfl, SqT.of h2, atI_nat (j := 0) rfl, rfl, ?_⟩
    show Q (.bl (decide (V.str "open" = V.str "seats"))) H
    rw [decide_eq_false (vs_ne so_ne)]; exact k
  | seats ms =>
    obtain ⟨p2, q2, rfl, h2, _⟩ := hx
    refine ⟨_, rfl, p, _, _, _, rfl, rfl, SqT.of hp, a1, p2, _, _, .str "seats", rfl, rfl, SqT.of h2, atI_nat (j := 0) rfl, rfl, ?_⟩
    show Q (.bl (decide (V.str "seats" = V.str "seats"))) H
    rw [decide_eq_true rfl]; exact k
  | wish c n d =>
    obtain ⟨p2, u2, rfl, h2, _⟩ := hx
    refine ⟨_, rfl, p, _, _, _, rfl, rfl, SqT.of hp, a1, p2, _, _, .str "wish", rfl, rfl, SqT.of h2, atI_nat (j := 0) rfl, rfl, ?_⟩
    show Q (.bl (decide (V.str "wish" = V.str "seats"))) H
    rw [decide_eq_false (vs_ne sw_ne)]; exact k
theorem scSeO : FnScope ["row", "first", "seats", "entry"] ["row", "first"] (defScope s_seats_of) := ⟨rfl, rfl, rfl, by decide +kernel, rfl, by decide +kernel, by decide +kernel⟩
theorem ok_seats_of {f : Addr} {fd : FuncData} (F : Fun K "seats_of" "seats_of" s_seats_of f fd) (CH : Cal P w K mg base "holds_seats" 1 ["entry"] spHoldP) : FnOk P w K mg base CX0 2 f fd ["row", "first"] spSeatsP := by
  refine F.ok scSeO (fun vs H Q E ⟨_, _, _, _, _, _, e, _⟩ => by subst e; rfl) (fun cdv A outer s H vs Q E hr h => ?_)
  obtain ⟨v, q0, b, l, es, ms, rfl, ⟨rb, c, us, rfl, hb, hc, he⟩, hq0, k⟩ := h
  obtain ⟨gH, dH, GH, mH, kH, bH⟩ := CH.ex
  refine ⟨_, @pss_p _ _ _ _ _ (ps_set (i := 2) scSeO.nd (by rfl) (by exact Or.inl rfl) (pv 1))
    (@pss_p _ _ _ _ _ (ps_for PassesOwn.never (by rfl) (pi_tup (pe_ix ix_tup (pv 0) (pe_int) px_i)) (pg_name (i := 3) scSeO.nd (by rfl) (by exact Or.inl rfl)) (@pss_o _ _ _ (ps_if (pt_val (pe_call GH hr (by rfl) mH kH bH .nil pass0 (pa_n (pv 3) pa_nil))) (@pss_o _ _ _ (ps_set (i := 2) scSeO.nd (by rfl) (by exact Or.inl rfl) (pe_ix ix_tup (pe_ix ix_tup (pv 3) (pe_int) px_i) (pe_int) px_i))) pss_nil)))
    (@pss_o _ _ _ (ps_ret (pv 2)))), ?_⟩
  have hlen := he.length
  refine ⟨_, rfl, ?_⟩
  refine ⟨_, rfl, rb, _, _, .ref c, rfl, rfl, SqT.of hb, atI_nat (j := 2) rfl, c, rfl, ⟨_, SqT.of hc⟩, for_tup (K := K) (a := c) (xs := us) (fun i σ H' => ∃ (qi : Addr) (t : Option V), σ = [some (.ref rb), some (.ref q0), some (.ref qi), t] ∧ H' = H ∧ H qi = some (.tup ((seatsF ms (es.take i)).map V.int)))
    ⟨q0, none, rfl, rfl, by rw [List.take_zero]; exact hq0⟩ (fun i σ H' _ ⟨_, _, _, e, _⟩ => by rw [e]; exact SqT.of hc) ?_ ?_⟩
  · rintro i x σ H' hx ⟨qi, t, rfl, rfl, hqi⟩
    have hi : i < es.length := by rw [← hlen]; exact (List.getElem?_eq_some_iff.mp hx).1
    obtain ⟨p, u, gv, hp, hu⟩ := he.get hi
    rw [gv] at hx
    cases hx
    have e0 := seatsF_snoc ms es hi
    refine ⟨_, rfl, p, _, u, (es[i]).2, rfl, hp, hu, _, rfl, ?_⟩
    cases ho : (es[i]).2 with
    | opn =>
      rw [ho] at e0
      refine iteF ⟨qi, some (.ref p), rfl, rfl, ?_⟩
      rw [e0]; exact hqi
    | wish c n d =>
      rw [ho] at e0
      refine iteF ⟨qi, some (.ref p), rfl, rfl, ?_⟩
      rw [e0]; exact hqi
    | seats ns =>
      rw [ho] at e0 hu
      obtain ⟨p2, q2, rfl, h2, hq2⟩ := hu
      refine iteT ⟨_, rfl, p, _, _, .ref p2, rfl, rfl, SqT.of hp, atI_nat (j := 1) rfl, p2, _, _, .ref q2, rfl, rfl, SqT.of h2, atI_nat (j := 1) rfl, q2, some (.ref p), rfl, rfl, ?_⟩
      rw [e0]; exact hq2
  · rintro σ H' ⟨qi, t, rfl, rfl, hqi⟩
    rw [List.take_of_length_le (by omega)] at hqi
    exact ⟨_, rfl, k qi hqi⟩
end
end K1
set_option Elab.async false
set_option linter.all false
set_option maxRecDepth 100000
set_option maxHeartbeats 4000000
namespace K1
open PySem L2 Kp
section
variable {P : Program} {w : World} {K : PySem.W.Frag} {mg : Str → Option Value} {base : Heap}
/-! ### unlike -/
def spUnlike (K : PySem.W.Frag) : Sp := fun vs H Q _ => ∃ (a b : Addr) (ns ms : List Int), vs = [.ref a, .ref b] ∧ SqT K H a (ns.map V.int) ∧ SqT K H b (ms.map V.int) ∧ ns.length ≤ 1000 ∧ ∀ (c : Addr) (H' : Hp), H' c = some (.lst ((ns.filter fun n => !decide (n ∈ ms)).map V.int)) → Same H H' → Q (.ref c) H'
theorem scUn : FnScope ["numbers", "others"] ["numbers", "others"] (defScope s_unlike) := ⟨rfl, rfl, rfl, by decide +kernel, rfl, by decide +kernel, by decide +kernel⟩
theorem ok_unlike {f : Addr} {fd : FuncData} (F : Fun K "unlike" "unlike" s_unlike f fd) : FnOk P w K mg base CX0 1 f fd ["numbers", "others"] (spUnlike K) := by
  refine F.ok scUn (fun vs H Q E ⟨_, _, _, _, e, _⟩ => by subst e; rfl) (fun cdv A outer s H vs Q E hr h => ?_)
  obtain ⟨a, b, ns, ms, rfl, hS, hT, hlen, q⟩ := h
  refine ⟨_, @pss_o _ _ _ (ps_ret (pe_comp (NB := ["number", "others"]) (n := 1) (fr := [1]) (compOk1 (outer := defScope s_unlike) (x := "others") (by rfl) (by decide +kernel) (by rfl) (by rfl) (by rfl) (by rfl)) (by rfl) (pi_tup (pv 0))
      (fun _ _ _ _ _ => pg_name (i := 0) (show (["number", "others"] : List Str).Nodup by decide +kernel) (by rfl) (by exact Or.inl rfl)) (fun _ _ _ _ _ => pifs_one (pt_cmpR (op_notInK (K := K) (by rfl)) (pv 0) (pv 1) (by rfl))) (fun _ _ _ _ _ => pv 0))), ?_⟩
  refine ⟨_, rfl, a, rfl, ⟨_, hS⟩, comp_fltT (K := K) (ms := ns) hS (by omega) (fun n => !decide (n ∈ ms)) ?_ ?_⟩
  · intro i hi t H4 R s4 ht hR
    obtain ⟨t0, rfl⟩ := one_slot ht
    have hR' := hR [some (.int ns[i])] H4 rfl (Same.refl _)
    refine ⟨_, rfl, _, rfl, b, _, rfl, .inr (SqT.same hT s4), rfl, flat_ints _, _, rfl, ?_⟩
    show if (!inV (V.int ns[i]) (ms.map V.int)) = true then _ else _
    rw [in_ints]
    cases hd : decide (ns[i] ∈ ms) with
    | true => rw [hd] at hR'; exact iteF hR'
    | false => rw [hd] at hR'; exact iteT ⟨_, rfl, hR'⟩
  · intro D1 H3 s4 hD hd
    exact q D1 H3 hd s4
end
end K1
set_option Elab.async false
set_option linter.all false
set_option maxRecDepth 100000
set_option maxHeartbeats 4000000
namespace K1
open PySem L2 Kp
section
variable {P : Program} {w : World} {K : PySem.W.Frag} {mg : Str → Option Value} {base : Heap}
/-! ### most -/
theorem among_out (ms : List Int) : ∀ ns : List Int, (ns.filter fun n => !decide (n ∈ ms)).length + amongI ns ms = ns.length
  | [] => rfl
  | n :: ns => by
    have ih := among_out ms ns
    unfold amongI at ih ⊢
    by_cases hn : n ∈ ms
    · rw [List.filter_cons_of_neg (by simpa using hn), List.filter_cons_of_pos (by simpa using hn), List.length_cons, List.length_cons]; omega
    · rw [List.filter_cons_of_pos (by simpa using hn), List.filter_cons_of_neg (by simpa using hn), List.length_cons, List.length_cons]; omega
theorem scMoW : FnScope ["seats", "those", "among"] ["seats", "those"] (defScope s_most) := ⟨rfl, rfl, rfl, by decide +kernel, rfl, by decide +kernel, by decide +kernel⟩
theorem ok_most {f : Addr} {fd : FuncData} (F : Fun K "most" "most" s_most f fd) (T : Txt mg) (CU : Cal P w K mg base "unlike" 1 ["numbers", "others"] (spUnlike K)) : FnOk P w K mg base CX0 2 f fd ["seats", "those"] (spMost K) := by
  refine F.ok scMoW (fun vs H Q E ⟨_, _, _, _, e, _⟩ => by subst e; rfl) (fun cdv A outer s H vs Q E hr h => ?_)
  obtain ⟨a, b, ns, ms, rfl, ha, hb, hnd, hln, hlm, q⟩ := h
  obtain ⟨gU, dU, GU, mU, kU, bU⟩ := CU.ex
  refine ⟨_, @pss_p _ _ _ _ _ (ps_set (i := 2) scMoW.nd (by rfl) (by exact Or.inl rfl) (pe_op op_sub (pe_callB call_len_seq (by rfl) T.len PySem.boot_len (pa_n (pv 0) pa_nil)) (pe_callB call_len_seq (by rfl) T.len PySem.boot_len (pa_k (pe_call GU hr (by rfl) mU kU bU .nil pass0 (pa_n (pv 0) (pa_n (pv 1) pa_nil))) pa_nil))))
    (@pss_o _ _ _ (ps_ret (pe_cmpR op_gt (pe_op op_mul pe_int (pv 2)) (pe_callB call_len_seq (by rfl) T.len PySem.boot_len (pa_n (pv 0) pa_nil)) (nomark _)))), ?_⟩
  refine ⟨_, rfl, a, _, rfl, .inr (SqT.of ha), _, rfl, _, rfl, a, b, ns, ms, rfl, SqT.of ha, hb, hln, fun c H1 hc s1 => ⟨c, _, rfl, .inl (SqL.of hc), _, _, rfl, rfl, ?_⟩⟩
  refine ⟨_, rfl, _, _, rfl, rfl, .inl ⟨by decide, by decide⟩, _, rfl, a, _, rfl, .inr (SqT.of (s1 _ _ ha)), _, _, rfl, rfl, ?_⟩
  have e : decide (((ns.map V.int).length : Int) < 2 * (((ns.map V.int).length : Int) - (((ns.filter fun n => !decide (n ∈ ms)).map V.int).length : Int))) = decide (ns.length < 2 * amongI ns ms) := by
    have := among_out ms ns
    rw [List.length_map, List.length_map, Bool.eq_iff_iff]; simp only [decide_eq_true_eq]; omega
  have := q H1 s1
  rw [← e] at this
  exact this
end
end K1
set_option Elab.async false
set_option linter.all false
set_option maxRecDepth 100000
set_option maxHeartbeats 4000000
namespace K1
open PySem L2 Kp
section
variable {P : Program} {w : World} {K : PySem.W.Frag} {mg : Str → Option Value} {base : Heap}
/-! ### holders, reached -/
theorem held_at {hs : List Int} {n : Int} (hl : hs.length = 9) (h : 0 ≤ n ∧ n ≤ 8) : atI (hs.map V.int) n = some (.int (hs.getD n.toNat 0)) := by
  obtain ⟨j, rfl⟩ := Int.eq_ofNat_of_zero_le h.1
  refine atI_nat ?_
  have hj : j < hs.length := by omega
  simp [hj]
theorem scHo : FnScope ["seats", "held", "place"] ["seats", "held", "place"] (defScope s_holders) := ⟨rfl, rfl, rfl, by decide +kernel, rfl, by decide +kernel, by decide +kernel⟩
theorem ok_holders {f : Addr} {fd : FuncData} (F : Fun K "holders" "holders" s_holders f fd) (T : Txt mg) : FnOk P w K mg base CX0 1 f fd ["seats", "held", "place"] (spHolders K) := by
  refine F.ok scHo (fun vs H Q E ⟨_, _, _, _, _, e, _⟩ => by subst e; rfl) (fun cdv A outer s H vs Q E hr h => ?_)
  obtain ⟨a, b, ns, hs, p, rfl, ha, hb, hlt, hr9, hl9, q⟩ := h
  have hln : ns.length ≤ 1000 := by
    have := filter_nine (hlt.imp fun h => Int.ne_of_lt h) hr9 fun _ => true
    rw [List.filter_eq_self.mpr fun _ _ => rfl] at this
    have h2 := List.length_filter_le (fun n => decide (n ∈ ns) && true) nine
    have : nine.length = 9 := rfl
    omega
  refine ⟨_, @pss_o _ _ _ (ps_ret (pe_callTy call_tuple_of (by rfl) T.tuple boot_tuple (pa_cons (pe_comp (NB := ["seat", "held", "place"]) (n := 1) (fr := [1, 2]) (compOk2 (outer := defScope s_holders) (x := "held") (y := "place") (by rfl) (by decide +kernel) (by rfl) (by rfl) (by rfl) (by rfl) (by rfl) (by rfl) (by rfl)) (by rfl) (pi_tup (pv 0))
      (fun _ _ _ _ _ => pg_name (i := 0) (show (["seat", "held", "place"] : List Str).Nodup by decide +kernel) (by rfl) (by exact Or.inl rfl)) (fun _ _ _ _ _ => pifs_one (pt_cmpR op_ge (pe_ix (ix_tupK (K := K) (by rfl)) (pv 1) (pv 0) px_n) (pv 2) (nomark _))) (fun _ _ _ _ _ => pv 0)) pa_nil))), ?_⟩
  refine ⟨_, rfl, a, rfl, ⟨_, SqT.of ha⟩, comp_fltT (K := K) (ms := ns) (SqT.of ha) hln (fun n => decide (p ≤ hs.getD n.toNat 0)) ?_ ?_⟩
  · intro i hi t H4 R s4 ht hR
    obtain ⟨t0, rfl⟩ := one_slot ht
    have hR' := hR [some (.int ns[i])] H4 rfl (Same.refl _)
    refine ⟨_, rfl, _, rfl, b, _, _, _, rfl, rfl, SqT.of (s4 _ _ hb), held_at hl9 (hr9 _ (List.getElem_mem hi)), _, rfl, _, _, rfl, rfl, _, rfl, ?_⟩
    cases hd : decide (p ≤ hs.getD ns[i].toNat 0) with
    | true => rw [hd] at hR'; exact iteT ⟨_, rfl, hR'⟩
    | false => rw [hd] at hR'; exact iteF hR'
  · intro D1 H3 s4 hD hd
    refine ⟨D1, _, rfl, .inl ⟨SqL.of hd, fun c hc => ?_⟩⟩
    exact q c _ upd_same (s4.trans (same_upd hc))
/-- the places that most hold among the seats' own -/
def mostHeld (ns hs : List Int) : List Int := (ns.filter fun n => decide (ns.length < 2 * (holdI ns hs (hs.getD n.toNat 0)).length)).map fun n => hs.getD n.toNat 0
theorem held_mem {hs : List Int} {n : Int} (hl : hs.length = 9) (h : 0 ≤ n ∧ n ≤ 8) : hs.getD n.toNat 0 ∈ hs := by
  have hj : n.toNat < hs.length := by omega
  have : hs.getD n.toNat 0 = hs[n.toNat] := by simp [hj]
  rw [this]; exact List.getElem_mem hj
theorem most_held {ns hs : List Int} {p : Int} (h : ns.length < 2 * (holdI ns hs p).length) : ∃ m ∈ mostHeld ns hs, p ≤ m := by
  have ne : holdI ns hs p ≠ [] := fun e => by rw [e] at h; simp at h
  obtain ⟨m, hm, hmin⟩ := least_of (fun n => hs.getD n.toNat 0) ne
  have hm1 := List.mem_filter.mp hm
  have hpm : p ≤ hs.getD m.toNat 0 := by simpa using hm1.2
  refine ⟨_, List.mem_map.mpr ⟨m, List.mem_filter.mpr ⟨hm1.1, ?_⟩, rfl⟩, hpm⟩
  have h4 : (holdI ns hs p).length ≤ (holdI ns hs (hs.getD m.toNat 0)).length := hold_mono fun n hn h => hmin n (List.mem_filter.mpr ⟨hn, by simpa using h⟩)
  simp only [decide_eq_true_eq]; omega
theorem reached_of {ns hs : List Int} {z : Int} (hr9 : ∀ m ∈ ns, 0 ≤ m ∧ m ≤ 8) (hne : ns ≠ []) (hl : hs.length = 9) (h0 : ∀ h ∈ hs, 0 ≤ h) (hz : z ∈ 0 :: mostHeld ns hs) (hm : ∀ y ∈ 0 :: mostHeld ns hs, y ≤ z) :
    0 ≤ z ∧ z ∈ hs ∧ ns.length < 2 * (holdI ns hs z).length ∧ ∀ p ∈ hs, z < p → 2 * (holdI ns hs p).length ≤ ns.length := by
  have z0 : 0 ≤ z := hm 0 (List.mem_cons_self ..)
  have hall : holdI ns hs 0 = ns := List.filter_eq_self.mpr fun x hx => by
    have := h0 _ (held_mem hl (hr9 x hx))
    simpa using this
  have hlen := List.length_pos_iff.mpr hne
  obtain ⟨m, hm1, hm2⟩ := most_held (ns := ns) (hs := hs) (p := 0) (by rw [hall]; omega)
  have hz' : z ∈ mostHeld ns hs := by
    rcases List.mem_cons.mp hz with e | e
    · have := hm m (List.mem_cons_of_mem _ hm1)
      have e2 : m = z := by omega
      rw [← e2]; exact hm1
    · exact e
  obtain ⟨n, hn, rfl⟩ := List.mem_map.mp hz'
  obtain ⟨hn1, hn2⟩ := List.mem_filter.mp hn
  refine ⟨z0, held_mem hl (hr9 n hn1), by simpa using hn2, fun p _ hp => ?_⟩
  by_cases hc : ns.length < 2 * (holdI ns hs p).length
  · obtain ⟨y, hy1, hy2⟩ := most_held hc
    have := hm y (List.mem_cons_of_mem _ hy1)
    omega
  · omega
theorem scRe : FnScope ["seats", "held", "places"] ["seats", "held"] (defScope s_reached) := ⟨rfl, rfl, rfl, by decide +kernel, rfl, by decide +kernel, by decide +kernel⟩
theorem ok_reached {f : Addr} {fd : FuncData} (F : Fun K "reached" "reached" s_reached f fd) (T : Txt mg) (CM : Cal P w K mg base "most" 2 ["seats", "those"] (spMost K)) (CH : Cal P w K mg base "holders" 1 ["seats", "held", "place"] (spHolders K)) :
    FnOk P w K mg base CX0 3 f fd ["seats", "held"] (spReached K) := by
  refine F.ok scRe (fun vs H Q E ⟨_, _, _, _, e, _⟩ => by subst e; rfl) (fun cdv A outer s H vs Q E hr h => ?_)
  obtain ⟨a, b, ns, hs, rfl, ha, hb, hlt, hr9, hne, hl9, h0, q⟩ := h
  obtain ⟨gM, dM, GM, mM, kM, bM⟩ := CM.ex
  obtain ⟨gH, dH, GH, mH, kH, bH⟩ := CH.ex
  have r1 := hr.mono (show 1 ≤ 2 by omega)
  have hnd : ns.Nodup := hlt.imp fun h => Int.ne_of_lt h
  have hln : ns.length ≤ 9 := by
    have := filter_nine hnd hr9 fun _ => true
    rw [List.filter_eq_self.mpr fun _ _ => rfl] at this
    have h2 := List.length_filter_le (fun n => decide (n ∈ ns) && true) nine
    have : nine.length = 9 := rfl
    omega
  refine ⟨_, @pss_p _ _ _ _ _ (ps_comp (i := 2) scRe.nd (by rfl) (by exact Or.inl rfl) (NB := ["seat", "seats", "held"]) (n := 1) (fr := [0, 1]) (compOk2 (outer := defScope s_reached) (x := "seats") (y := "held") (by rfl) (by decide +kernel) (by rfl) (by rfl) (by rfl) (by rfl) (by rfl) (by rfl) (by rfl)) (by rfl) (pi_tup (pv 0))
      (fun _ _ _ _ _ => pg_name (i := 0) (show (["seat", "seats", "held"] : List Str).Nodup by decide +kernel) (by rfl) (by exact Or.inl rfl)) (fun _ _ _ _ _ => pifs_one (pt_val (pe_call GM hr (by rfl) mM kM bM .nil pass0 (pa_n (pv 1) (pa_k (pe_call GH r1 (by rfl) mH kH bH .nil pass0 (pa_n (pv 1) (pa_n (pv 2) (pa_s (pe_ix (ix_tupK (K := K) (by rfl)) (pv 2) (pv 0) px_n) pa_nil)))) pa_nil))))) (fun _ _ _ _ _ => pe_ix (ix_tupK (K := K) (by rfl)) (pv 2) (pv 0) px_n))
    (@pss_o _ _ _ (ps_ret (pe_callB (call_maxL (by rfl)) (by rfl) T.max boot_max (pa_b (pe_op op_cat (pe_lst (pa_i pe_int pa_nil)) (pv 2)) pa_nil)))), ?_⟩
  refine ⟨_, rfl, a, rfl, ⟨_, SqT.of ha⟩, comp_fmT (K := K) (ms := ns) (SqT.of ha) (by omega) (fun n => decide (ns.length < 2 * (holdI ns hs (hs.getD n.toNat 0)).length)) (fun n => V.int (hs.getD n.toNat 0)) ?_ ?_⟩
  · intro i hi t H4 R s4 ht hR
    obtain ⟨t0, rfl⟩ := one_slot ht
    have hat := held_at hl9 (hr9 _ (List.getElem_mem hi))
    refine ⟨_, rfl, _, rfl, _, rfl, _, rfl, _, rfl, b, _, _, _, rfl, rfl, SqT.of (s4 _ _ hb), hat, a, b, ns, hs, _, rfl, s4 _ _ ha, s4 _ _ hb, hlt, hr9, hl9, fun c H5 hc s5 => ?_⟩
    refine ⟨a, c, ns, _, rfl, s5 _ _ (s4 _ _ ha), SqT.of hc, hnd, by omega, Nat.le_trans (List.length_filter_le _ _) (by omega), fun H6 s6 => ⟨_, rfl, ?_⟩⟩
    have hR' := hR [some (.int ns[i])] H6 rfl (s5.trans s6)
    rw [among_hold]
    cases hd : decide (ns.length < 2 * (holdI ns hs (hs.getD ns[i].toNat 0)).length) with
    | true => rw [hd] at hR'; exact iteT ⟨_, rfl, _, rfl, b, _, _, _, rfl, rfl, SqT.of (s6 _ _ (s5 _ _ (s4 _ _ hb))), hat, hR'⟩
    | false => rw [hd] at hR'; exact iteF hR'
  · intro D1 H3 s4 hD hd
    have hd' : H3 D1 = some (.lst ((mostHeld ns hs).map V.int)) := by unfold mostHeld; rw [List.map_map]; exact hd
    refine ⟨by simp [sizeLine_eq], fun l hl => ?_⟩
    have hd2 : (upd H3 l (.lst [V.int 0])) D1 = some (.lst ((mostHeld ns hs).map V.int)) := by rw [upd_ne (ne_of_none hd' hl)]; exact hd'
    refine ⟨_, rfl, l, D1, _, _, rfl, rfl, upd_same, hd2, tinyU ?_, fun e he => ⟨e, 0 :: mostHeld ns hs, rfl, SqL.of upd_same, by simp, fun m hm hmax => ?_⟩⟩
    · unfold mostHeld
      simp only [List.length_map, List.length_cons, List.length_nil]
      have := List.length_filter_le (fun n => decide (ns.length < 2 * (holdI ns hs (hs.getD n.toNat 0)).length)) ns
      omega
    · obtain ⟨g1, g2, g3, g4⟩ := reached_of hr9 hne hl9 h0 hm hmax
      exact q m _ ((s4.trans (same_upd hl)).trans (same_upd he)) g1 g2 g3 g4
end
end K1
set_option Elab.async false
set_option linter.all false
set_option maxRecDepth 100000
set_option maxHeartbeats 4000000
namespace K1
open PySem L2 Kp
section
variable {P : Program} {w : World} {K : PySem.W.Frag} {mg : Str → Option Value} {base : Heap}
theorem scAg : FnScope ["row", "place", "last"] ["row", "place", "last"] (defScope s_agrees) := ⟨rfl, rfl, rfl, by decide +kernel, rfl, by decide +kernel, by decide +kernel⟩
theorem ok_agrees {f : Addr} {fd : FuncData} (F : Fun K "agrees" "agrees" s_agrees f fd) (CE : Cal P w K mg base "end_of" 1 ["row"] (spEndOf K)) (CT : Cal P w K mg base "term_at" 3 ["row", "place"] (spTermIn K)) : FnOk P w K mg base CX0 4 f fd ["row", "place", "last"] (spAgrees K) := by
  refine F.ok scAg (fun vs H Q E ⟨_, _, _, _, _, _, e, _⟩ => by subst e; rfl) (fun cdv A outer s H vs Q E hr h => ?_)
  obtain ⟨v, t, p, b, l, ts, rfl, ⟨es, hX⟩, q⟩ := h
  have hR : RowV K H v b l ts := ⟨es, hX⟩
  obtain ⟨⟨rb, c, rfl, hb, hc⟩, hen, hfew⟩ := hX
  replace hb := SqT.of (K := K) hb
  replace hc := SqT.of (K := K) hc
  obtain ⟨gE, dE, GE, mE, kE, bE⟩ := CE.ex
  obtain ⟨gT, dT, GT, mT, kT, bT⟩ := CT.ex
  have r1 := hr.mono (show 1 ≤ 3 by omega)
  refine ⟨_, @pss_p _ _ _ _ _ (ps_if (pt_cmpR op_lt (pv 1) (pe_ix ix_tup (pv 0) (pe_int) px_i) (nomark _)) (@pss_o _ _ _ (ps_ret pe_bl)) pss_nil)
    (@pss_o _ _ _ (ps_ret (pe_and (pe_cmpR op_le (pv 1) (pe_call GE r1 (by rfl) mE kE bE .nil pass0 (pa_n (pv 0) pa_nil)) (nomark _)) (pe_one (pe_cmpR op_eq (pe_call GT hr (by rfl) mT kT bT .nil pass0 (pa_n (pv 0) (pa_n (pv 1) pa_nil))) (pv 2) (nomark _)))))), ?_⟩
  unfold agreesB at q
  refine ⟨_, rfl, _, rfl, rb, _, _, .int b, rfl, rfl, hb, atI_nat (j := 0) rfl, _, _, rfl, rfl, _, rfl, ite2 (fun h => ?_) (fun h => ?_)⟩
  · rw [decide_eq_true (of_decide_eq_true h)] at q
    exact q
  · have hnb : ¬ p < b := fun g => h (decide_eq_true g)
    rw [decide_eq_false hnb] at q
    refine ⟨_, rfl, _, rfl, _, b, l, ts, rfl, hR, _, _, rfl, rfl, _, rfl, ite2 (fun h2 => ?_) (fun h2 => ?_)⟩
    · have hle : p ≤ endP b ts := of_decide_eq_true h2
      rw [decide_eq_true hle] at q
      refine ⟨_, rfl, _, rfl, _, b, l, ts, p, rfl, hR, by omega, hle, _, rfl, rfl, ?_⟩
      have e : decide (V.int (termAt b l ts p) = V.int t) = (false || (true && decide (termAt b l ts p = t))) := by rw [Bool.eq_iff_iff]; simp
      show Q (.bl (decide (V.int (termAt b l ts p) = V.int t))) H
      rw [e]; exact q
    · rw [decide_eq_false (fun g => h2 (decide_eq_true g))] at q
      exact q
end
end K1
set_option Elab.async false
set_option linter.all false
set_option maxRecDepth 100000
set_option maxHeartbeats 4000000
namespace K1
open PySem L2 Kp
section
variable {P : Program} {w : World} {K : PySem.W.Frag} {mg : Str → Option Value} {base : Heap}
theorem scAw : FnScope ["last", "place", "row", "end", "term"] ["last", "place", "row"] (defScope s_as_new) := ⟨rfl, rfl, rfl, by decide +kernel, rfl, by decide +kernel, by decide +kernel⟩
theorem ok_as_new0 {f : Addr} {fd : FuncData} (F : Fun K "as_new" "as_new" s_as_new f fd) (CE : Cal P w K mg base "end_of" 1 ["row"] (spEndOf K)) (CT : Cal P w K mg base "term_at" 3 ["row", "place"] (spTermIn K)) : FnOk P w K mg base CX0 4 f fd ["last", "place", "row"] (spAsNew K) := by
  refine F.ok scAw (fun vs H Q E ⟨_, _, _, _, _, _, e, _⟩ => by subst e; rfl) (fun cdv A outer s H vs Q E hr h => ?_)
  obtain ⟨v, t, p, b, l, ts, rfl, hR, q⟩ := h
  obtain ⟨gE, dE, GE, mE, kE, bE⟩ := CE.ex
  obtain ⟨gT, dT, GT, mT, kT, bT⟩ := CT.ex
  have r1 := hr.mono (show 1 ≤ 3 by omega)
  refine ⟨_, @pss_p _ _ _ _ _ (ps_set (i := 3) scAw.nd (by rfl) (by exact Or.inl rfl) (pe_call GE r1 (by rfl) mE kE bE .nil pass0 (pa_n (pv 2) pa_nil)))
    (@pss_p _ _ _ _ _ (ps_set (i := 4) scAw.nd (by rfl) (by exact Or.inl rfl) (pe_call GT hr (by rfl) mT kT bT .nil pass0 (pa_n (pv 2) (pa_n (pv 3) pa_nil))))
    (@pss_o _ _ _ (ps_ret (pe_or (pe_cmpR op_gt (pv 0) (pv 4) (nomark _)) (pe_one (pe_and (pe_cmpR op_eq (pv 0) (pv 4) (nomark _)) (pe_one (pe_cmpR op_ge (pv 1) (pv 3) (nomark _))))))))), ?_⟩
  refine ⟨_, rfl, v, b, l, ts, rfl, hR, ?_⟩
  refine ⟨_, rfl, _, rfl, v, b, l, ts, _, rfl, hR, (by unfold endP; omega), Int.le_refl _, ?_⟩
  rw [termAt_end]
  have fin := q H (Same.refl _)
  unfold asNewB at fin
  refine ⟨_, rfl, _, rfl, _, _, rfl, rfl, _, rfl, ite2 (fun hc => ?_) (fun hc => ?_)⟩
  · rw [decide_eq_true (of_decide_eq_true hc)] at fin
    exact fin
  · rw [decide_eq_false (fun h => hc (decide_eq_true h))] at fin
    refine ⟨_, rfl, _, rfl, rfl, _, rfl, ite2 (fun hc2 => ?_) (fun hc2 => ?_)⟩
    · have e2 : t = endT l ts := by
        have := of_decide_eq_true hc2
        simpa using this
      rw [decide_eq_true e2] at fin
      exact ⟨_, rfl, _, rfl, _, _, rfl, rfl, fin⟩
    · have e2 : ¬ t = endT l ts := fun e => hc2 (decide_eq_true (by rw [e]))
      rw [decide_eq_false e2] at fin
      exact fin
end
end K1
set_option Elab.async false
set_option linter.all false
set_option maxRecDepth 100000
set_option maxHeartbeats 4000000
namespace K1
open PySem L2 Kp
section
variable {P : Program} {w : World} {K : PySem.W.Frag} {mg : Str → Option Value} {base : Heap}
theorem scFr : FnScope [] [] (defScope s_fresh) := ⟨rfl, rfl, rfl, by decide +kernel, rfl, by decide +kernel, by decide +kernel⟩
theorem ok_fresh {f : Addr} {fd : FuncData} (F : Fun K "fresh" "fresh" s_fresh f fd) : FnOk P w K mg base CX0 1 f fd [] (spFreshP K) := by
  refine F.ok scFr (fun vs H Q E ⟨e, _⟩ => by subst e; rfl) (fun cdv A outer s H vs Q E hr h => ?_)
  obtain ⟨rfl, q⟩ := h
  refine ⟨_, @pss_o _ _ _ (ps_ret (QE.h (qx_tup (qa_tup qa_nil (qa_tup qa_nil qa_nil))))), ?_⟩
  refine ⟨tiny (by show 0 ≤ 1000; decide), fun e1 he1 => ⟨tiny (by show 0 ≤ 1000; decide), fun e2 he2 => ⟨tiny (by show 2 ≤ 1000; decide), fun e3 he3 => ?_⟩⟩⟩
  have t1 := same_upd (o := HO.tup []) he1
  have t2 := same_upd (o := HO.tup []) he2
  have t3 := same_upd (o := HO.tup [V.ref e1, V.ref e2]) he3
  exact q (.ref e3) _ ⟨e3, e1, e2, rfl, upd_same, ⟨[], t3 _ _ (t2 _ _ upd_same), .nil⟩, ⟨[], t3 _ _ upd_same, .nil⟩⟩ (t1.trans (t2.trans t3))
end
end K1
set_option Elab.async false
set_option linter.all false
set_option maxRecDepth 100000
set_option maxHeartbeats 4000000
namespace K1
open PySem L2 Kp
section
variable {P : Program} {w : World} {K : PySem.W.Frag} {mg : Str → Option Value} {base : Heap}
theorem scFp : FnScope ["seats"] ["seats"] (defScope s_first_pack) := ⟨rfl, rfl, rfl, by decide +kernel, rfl, by decide +kernel, by decide +kernel⟩
theorem ok_first_pack {f : Addr} {fd : FuncData} (F : Fun K "first_pack" "first_pack" s_first_pack f fd) (CH : Cal P w K mg base "fresh" 1 [] (spFreshP K)) : FnOk P w K mg base CX0 2 f fd ["seats"] spFp := by
  refine F.ok scFp (fun vs H Q E ⟨_, _, e, _⟩ => by subst e; rfl) (fun cdv A outer s H vs Q E hr h => ?_)
  obtain ⟨q0, ms, rfl, hq, k⟩ := h
  obtain ⟨gH, dH, GH, mH, kH, bH⟩ := CH.ex
  refine ⟨_, @pss_o _ _ _ (ps_ret (QE.h (qx_tup (qa_int (qa_int (qa_n (pv 0) (qa_k (pe_call0 GH hr (by rfl) mH kH bH .nil pass0) qa_nil))))))), ?_⟩
  refine ⟨_, rfl, rfl, fun vf H1 hf s1 => ⟨tiny (by show 4 ≤ 1000; decide), fun p hp => ?_⟩⟩
  have s2 := same_upd (o := HO.tup [V.int 0, V.int 0, V.ref q0, vf]) hp
  exact k (.ref p) _ ⟨p, q0, vf, rfl, upd_same, s2 _ _ (s1 _ _ hq), hf.same s2⟩ (s1.trans s2)
end
end K1
set_option Elab.async false
set_option linter.all false
set_option maxRecDepth 100000
set_option maxHeartbeats 4000000
namespace K1
open PySem L2 Kp
section
variable {P : Program} {w : World} {K : PySem.W.Frag} {mg : Str → Option Value} {base : Heap}
theorem scBg : FnScope [] [] (defScope s_begun) := ⟨rfl, rfl, rfl, by decide +kernel, rfl, by decide +kernel, by decide +kernel⟩
theorem ok_begunP {f : Addr} {fd : FuncData} (F : Fun K "begun" "begun" s_begun f fd) : FnOk P w K mg base CX0 1 f fd [] spBegP := by
  refine F.ok scBg (fun vs H Q E ⟨e, _⟩ => by subst e; rfl) (fun cdv A outer s H vs Q E hr h => ?_)
  obtain ⟨rfl, q⟩ := h
  refine ⟨_, @pss_o _ _ _ (ps_ret (QE.h (qx_tup (qa_int (qa_int (qa_tup qa_nil qa_nil)))))), ?_⟩
  refine ⟨tiny (by show 0 ≤ 1000; decide), fun e1 he1 => ⟨tiny (by show 3 ≤ 1000; decide), fun e2 he2 => ?_⟩⟩
  have t1 := same_upd (o := HO.tup []) he1
  have t2 := same_upd (o := HO.tup [V.int 0, V.int 0, V.ref e1]) he2
  exact q (.ref e2) _ ⟨e2, e1, [], rfl, upd_same, t2 _ _ upd_same, .nil⟩ (t1.trans t2)
end
end K1
set_option Elab.async false
set_option linter.all false
set_option maxRecDepth 100000
set_option maxHeartbeats 4000000
namespace K1
open PySem L2 Kp
theorem cal {P : Program} {w : World} {K : PySem.W.Frag} {mg : Str → Option Value} {base : Heap} {x : Str} {st : Stmt} {f : Addr} {fd : FuncData} {ps : List Str} {k : Nat} {sp : Sp} (F : Fun K x x st f fd) (hm : mg x = some (.ref f)) (b : Binds K fd ps []) (ok : FnOk P w K mg base CX0 k f fd ps sp) : Cal P w K mg base x k ps sp := ⟨f, fd, ok, hm, F.kp, b⟩
theorem all_mk {l : PySem.W.OpenLaw} {w : World} {K : PySem.W.Frag} {h : Heap} {mg : Str → Option Value} {fa f0 f1 f2 f3 f4 f5 f6 f7 f8 f9 f10 f11 f12 f13 f14 f15 f24 f25 f26 f27 f28 f30 f31 f32 f33 f34 f35 f36 f37 f38 f39 f40 f41 f42 f43 f44 f45 f46 f47 f48 f49 f50 f51 f52 f53 f54 f55 f56 f57 : Addr} (X : K.In h) (G : h.Ns mainGlobals mg) (hfa : mg "law" = some (.ref fa))
    {od0 an0 od1 an1 od2 an2 od3 an3 od4 an4 od5 an5 od6 an6 od7 an7 od8 an8 od9 an9 od10 an10 od11 an11 od12 an12 od13 an13 od14 an14 od15 an15 od24 an24 od25 an25 od26 an26 od27 an27 od28 an28 od30 an30 od31 an31 od32 an32 od33 an33 od34 an34 od35 an35 od36 an36 od37 an37 od38 an38 od39 an39 od40 an40 od41 an41 od42 an42 od43 an43 od44 an44 od45 an45 od46 an46 od47 an47 od48 an48 od49 an49 od50 an50 od51 an51 od52 an52 od53 an53 od54 an54 od55 an55 od56 an56 od57 an57 : Option Addr} {sl0 sl1 sl2 sl3 sl4 sl5 sl6 sl7 sl8 sl9 sl10 sl11 sl12 sl13 sl14 sl15 sl24 sl25 sl26 sl27 sl28 sl30 sl31 sl32 sl33 sl34 sl35 sl36 sl37 sl38 sl39 sl40 sl41 sl42 sl43 sl44 sl45 sl46 sl47 sl48 sl49 sl50 sl51 sl52 sl53 sl54 sl55 sl56 sl57 : Array (Option Value)} {oc0 kV0 dc0 pm0 cd0 ct0 oc1 kV1 dc1 pm1 cd1 ct1 oc2 kV2 dc2 pm2 cd2 ct2 oc3 kV3 dc3 pm3 cd3 ct3 oc4 kV4 dc4 pm4 cd4 ct4 oc5 kV5 dc5 pm5 cd5 ct5 oc6 kV6 dc6 pm6 cd6 ct6 oc7 kV7 dc7 pm7 cd7 ct7 oc8 kV8 dc8 pm8 cd8 ct8 oc9 kV9 dc9 pm9 cd9 ct9 oc10 kV10 dc10 pm10 cd10 ct10 oc11 kV11 dc11 pm11 cd11 ct11 oc12 kV12 dc12 pm12 cd12 ct12 oc13 kV13 dc13 pm13 cd13 ct13 oc14 kV14 dc14 pm14 cd14 ct14 oc15 kV15 dc15 pm15 cd15 ct15 oc24 kV24 dc24 pm24 cd24 ct24 oc25 kV25 dc25 pm25 cd25 ct25 oc26 kV26 dc26 pm26 cd26 ct26 oc27 kV27 dc27 pm27 cd27 ct27 oc28 kV28 dc28 pm28 cd28 ct28 oc30 kV30 dc30 pm30 cd30 ct30 oc31 kV31 dc31 pm31 cd31 ct31 oc32 kV32 dc32 pm32 cd32 ct32 oc33 kV33 dc33 pm33 cd33 ct33 oc34 kV34 dc34 pm34 cd34 ct34 oc35 kV35 dc35 pm35 cd35 ct35 oc36 kV36 dc36 pm36 cd36 ct36 oc37 kV37 dc37 pm37 cd37 ct37 oc38 kV38 dc38 pm38 cd38 ct38 oc39 kV39 dc39 pm39 cd39 ct39 oc40 kV40 dc40 pm40 cd40 ct40 oc41 kV41 dc41 pm41 cd41 ct41 oc42 kV42 dc42 pm42 cd42 ct42 oc43 kV43 dc43 pm43 cd43 ct43 oc44 kV44 dc44 pm44 cd44 ct44 oc45 kV45 dc45 pm45 cd45 ct45 oc46 kV46 dc46 pm46 cd46 ct46 oc47 kV47 dc47 pm47 cd47 ct47 oc48 kV48 dc48 pm48 cd48 ct48 oc49 kV49 dc49 pm49 cd49 ct49 oc50 kV50 dc50 pm50 cd50 ct50 oc51 kV51 dc51 pm51 cd51 ct51 oc52 kV52 dc52 pm52 cd52 ct52 oc53 kV53 dc53 pm53 cd53 ct53 oc54 kV54 dc54 pm54 cd54 ct54 oc55 kV55 dc55 pm55 cd55 ct55 oc56 kV56 dc56 pm56 cd56 ct56 oc57 kV57 dc57 pm57 cd57 ct57 : Value}
    (a0 : PySem.W.nsIn K mainGlobals "unlike" = some (some (.ref f0))) (l0 : K.lookup f0 = some ⟨oc0, od0, .func (PySem.W.fnOf "unlike" "unlike" (defArgs s_unlike) (defBody s_unlike) (defScope s_unlike) .none kV0 dc0 pm0 an0 cd0 ct0), sl0⟩) (c0 : PySem.W.codeIn K cd0 "unlike" = true) (k0 : PySem.W.keepIn K (.ref f0) = true)
    (a1 : PySem.W.nsIn K mainGlobals "most" = some (some (.ref f1))) (l1 : K.lookup f1 = some ⟨oc1, od1, .func (PySem.W.fnOf "most" "most" (defArgs s_most) (defBody s_most) (defScope s_most) .none kV1 dc1 pm1 an1 cd1 ct1), sl1⟩) (c1 : PySem.W.codeIn K cd1 "most" = true) (k1 : PySem.W.keepIn K (.ref f1) = true)
    (a2 : PySem.W.nsIn K mainGlobals "holds_seats" = some (some (.ref f2))) (l2 : K.lookup f2 = some ⟨oc2, od2, .func (PySem.W.fnOf "holds_seats" "holds_seats" (defArgs s_holds_seats) (defBody s_holds_seats) (defScope s_holds_seats) .none kV2 dc2 pm2 an2 cd2 ct2), sl2⟩) (c2 : PySem.W.codeIn K cd2 "holds_seats" = true) (k2 : PySem.W.keepIn K (.ref f2) = true)
    (a3 : PySem.W.nsIn K mainGlobals "seats_of" = some (some (.ref f3))) (l3 : K.lookup f3 = some ⟨oc3, od3, .func (PySem.W.fnOf "seats_of" "seats_of" (defArgs s_seats_of) (defBody s_seats_of) (defScope s_seats_of) .none kV3 dc3 pm3 an3 cd3 ct3), sl3⟩) (c3 : PySem.W.codeIn K cd3 "seats_of" = true) (k3 : PySem.W.keepIn K (.ref f3) = true)
    (a4 : PySem.W.nsIn K mainGlobals "seats_place" = some (some (.ref f4))) (l4 : K.lookup f4 = some ⟨oc4, od4, .func (PySem.W.fnOf "seats_place" "seats_place" (defArgs s_seats_place) (defBody s_seats_place) (defScope s_seats_place) .none kV4 dc4 pm4 an4 cd4 ct4), sl4⟩) (c4 : PySem.W.codeIn K cd4 "seats_place" = true) (k4 : PySem.W.keepIn K (.ref f4) = true)
    (a5 : PySem.W.nsIn K mainGlobals "holders" = some (some (.ref f5))) (l5 : K.lookup f5 = some ⟨oc5, od5, .func (PySem.W.fnOf "holders" "holders" (defArgs s_holders) (defBody s_holders) (defScope s_holders) .none kV5 dc5 pm5 an5 cd5 ct5), sl5⟩) (c5 : PySem.W.codeIn K cd5 "holders" = true) (k5 : PySem.W.keepIn K (.ref f5) = true)
    (a6 : PySem.W.nsIn K mainGlobals "reached" = some (some (.ref f6))) (l6 : K.lookup f6 = some ⟨oc6, od6, .func (PySem.W.fnOf "reached" "reached" (defArgs s_reached) (defBody s_reached) (defScope s_reached) .none kV6 dc6 pm6 an6 cd6 ct6), sl6⟩) (c6 : PySem.W.codeIn K cd6 "reached" = true) (k6 : PySem.W.keepIn K (.ref f6) = true)
    (a7 : PySem.W.nsIn K mainGlobals "begun" = some (some (.ref f7))) (l7 : K.lookup f7 = some ⟨oc7, od7, .func (PySem.W.fnOf "begun" "begun" (defArgs s_begun) (defBody s_begun) (defScope s_begun) .none kV7 dc7 pm7 an7 cd7 ct7), sl7⟩) (c7 : PySem.W.codeIn K cd7 "begun" = true) (k7 : PySem.W.keepIn K (.ref f7) = true)
    (a8 : PySem.W.nsIn K mainGlobals "end_of" = some (some (.ref f8))) (l8 : K.lookup f8 = some ⟨oc8, od8, .func (PySem.W.fnOf "end_of" "end_of" (defArgs s_end_of) (defBody s_end_of) (defScope s_end_of) .none kV8 dc8 pm8 an8 cd8 ct8), sl8⟩) (c8 : PySem.W.codeIn K cd8 "end_of" = true) (k8 : PySem.W.keepIn K (.ref f8) = true)
    (a9 : PySem.W.nsIn K mainGlobals "entry_at" = some (some (.ref f9))) (l9 : K.lookup f9 = some ⟨oc9, od9, .func (PySem.W.fnOf "entry_at" "entry_at" (defArgs s_entry_at) (defBody s_entry_at) (defScope s_entry_at) .none kV9 dc9 pm9 an9 cd9 ct9), sl9⟩) (c9 : PySem.W.codeIn K cd9 "entry_at" = true) (k9 : PySem.W.keepIn K (.ref f9) = true)
    (a10 : PySem.W.nsIn K mainGlobals "term_at" = some (some (.ref f10))) (l10 : K.lookup f10 = some ⟨oc10, od10, .func (PySem.W.fnOf "term_at" "term_at" (defArgs s_term_at) (defBody s_term_at) (defScope s_term_at) .none kV10 dc10 pm10 an10 cd10 ct10), sl10⟩) (c10 : PySem.W.codeIn K cd10 "term_at" = true) (k10 : PySem.W.keepIn K (.ref f10) = true)
    (a11 : PySem.W.nsIn K mainGlobals "behind" = some (some (.ref f11))) (l11 : K.lookup f11 = some ⟨oc11, od11, .func (PySem.W.fnOf "behind" "behind" (defArgs s_behind) (defBody s_behind) (defScope s_behind) .none kV11 dc11 pm11 an11 cd11 ct11), sl11⟩) (c11 : PySem.W.codeIn K cd11 "behind" = true) (k11 : PySem.W.keepIn K (.ref f11) = true)
    (a12 : PySem.W.nsIn K mainGlobals "as_new" = some (some (.ref f12))) (l12 : K.lookup f12 = some ⟨oc12, od12, .func (PySem.W.fnOf "as_new" "as_new" (defArgs s_as_new) (defBody s_as_new) (defScope s_as_new) .none kV12 dc12 pm12 an12 cd12 ct12), sl12⟩) (c12 : PySem.W.codeIn K cd12 "as_new" = true) (k12 : PySem.W.keepIn K (.ref f12) = true)
    (a13 : PySem.W.nsIn K mainGlobals "agrees" = some (some (.ref f13))) (l13 : K.lookup f13 = some ⟨oc13, od13, .func (PySem.W.fnOf "agrees" "agrees" (defArgs s_agrees) (defBody s_agrees) (defScope s_agrees) .none kV13 dc13 pm13 an13 cd13 ct13), sl13⟩) (c13 : PySem.W.codeIn K cd13 "agrees" = true) (k13 : PySem.W.keepIn K (.ref f13) = true)
    (a14 : PySem.W.nsIn K mainGlobals "put" = some (some (.ref f14))) (l14 : K.lookup f14 = some ⟨oc14, od14, .func (PySem.W.fnOf "put" "put" (defArgs s_put) (defBody s_put) (defScope s_put) .none kV14 dc14 pm14 an14 cd14 ct14), sl14⟩) (c14 : PySem.W.codeIn K cd14 "put" = true) (k14 : PySem.W.keepIn K (.ref f14) = true)
    (a15 : PySem.W.nsIn K mainGlobals "fresh" = some (some (.ref f15))) (l15 : K.lookup f15 = some ⟨oc15, od15, .func (PySem.W.fnOf "fresh" "fresh" (defArgs s_fresh) (defBody s_fresh) (defScope s_fresh) .none kV15 dc15 pm15 an15 cd15 ct15), sl15⟩) (c15 : PySem.W.codeIn K cd15 "fresh" = true) (k15 : PySem.W.keepIn K (.ref f15) = true)
    (a24 : PySem.W.nsIn K mainGlobals "applied" = some (some (.ref f24))) (l24 : K.lookup f24 = some ⟨oc24, od24, .func (PySem.W.fnOf "applied" "applied" (defArgs s_applied) (defBody s_applied) (defScope s_applied) .none kV24 dc24 pm24 an24 cd24 ct24), sl24⟩) (c24 : PySem.W.codeIn K cd24 "applied" = true) (k24 : PySem.W.keepIn K (.ref f24) = true)
    (a25 : PySem.W.nsIn K mainGlobals "first_pack" = some (some (.ref f25))) (l25 : K.lookup f25 = some ⟨oc25, od25, .func (PySem.W.fnOf "first_pack" "first_pack" (defArgs s_first_pack) (defBody s_first_pack) (defScope s_first_pack) .none kV25 dc25 pm25 an25 cd25 ct25), sl25⟩) (c25 : PySem.W.codeIn K cd25 "first_pack" = true) (k25 : PySem.W.keepIn K (.ref f25) = true)
    (a26 : PySem.W.nsIn K mainGlobals "seats_now" = some (some (.ref f26))) (l26 : K.lookup f26 = some ⟨oc26, od26, .func (PySem.W.fnOf "seats_now" "seats_now" (defArgs s_seats_now) (defBody s_seats_now) (defScope s_seats_now) .none kV26 dc26 pm26 an26 cd26 ct26), sl26⟩) (c26 : PySem.W.codeIn K cd26 "seats_now" = true) (k26 : PySem.W.keepIn K (.ref f26) = true)
    (a27 : PySem.W.nsIn K mainGlobals "with_place" = some (some (.ref f27))) (l27 : K.lookup f27 = some ⟨oc27, od27, .func (PySem.W.fnOf "with_place" "with_place" (defArgs s_with_place) (defBody s_with_place) (defScope s_with_place) .none kV27 dc27 pm27 an27 cd27 ct27), sl27⟩) (c27 : PySem.W.codeIn K cd27 "with_place" = true) (k27 : PySem.W.keepIn K (.ref f27) = true)
    (a28 : PySem.W.nsIn K mainGlobals "enter" = some (some (.ref f28))) (l28 : K.lookup f28 = some ⟨oc28, od28, .func (PySem.W.fnOf "enter" "enter" (defArgs s_enter) (defBody s_enter) (defScope s_enter) .none kV28 dc28 pm28 an28 cd28 ct28), sl28⟩) (c28 : PySem.W.codeIn K cd28 "enter" = true) (k28 : PySem.W.keepIn K (.ref f28) = true)
    (a30 : PySem.W.nsIn K mainGlobals "tell_waiting" = some (some (.ref f30))) (l30 : K.lookup f30 = some ⟨oc30, od30, .func (PySem.W.fnOf "tell_waiting" "tell_waiting" (defArgs s_tell_waiting) (defBody s_tell_waiting) (defScope s_tell_waiting) .none kV30 dc30 pm30 an30 cd30 ct30), sl30⟩) (c30 : PySem.W.codeIn K cd30 "tell_waiting" = true) (k30 : PySem.W.keepIn K (.ref f30) = true)
    (a31 : PySem.W.nsIn K mainGlobals "agree_on_the_following" = some (some (.ref f31))) (l31 : K.lookup f31 = some ⟨oc31, od31, .func (PySem.W.fnOf "agree_on_the_following" "agree_on_the_following" (defArgs s_agree_on_the_following) (defBody s_agree_on_the_following) (defScope s_agree_on_the_following) .none kV31 dc31 pm31 an31 cd31 ct31), sl31⟩) (c31 : PySem.W.codeIn K cd31 "agree_on_the_following" = true) (k31 : PySem.W.keepIn K (.ref f31) = true)
    (a32 : PySem.W.nsIn K mainGlobals "place_held_by_most" = some (some (.ref f32))) (l32 : K.lookup f32 = some ⟨oc32, od32, .func (PySem.W.fnOf "place_held_by_most" "place_held_by_most" (defArgs s_place_held_by_most) (defBody s_place_held_by_most) (defScope s_place_held_by_most) .none kV32 dc32 pm32 an32 cd32 ct32), sl32⟩) (c32 : PySem.W.codeIn K cd32 "place_held_by_most" = true) (k32 : PySem.W.keepIn K (.ref f32) = true)
    (a33 : PySem.W.nsIn K mainGlobals "is_out" = some (some (.ref f33))) (l33 : K.lookup f33 = some ⟨oc33, od33, .func (PySem.W.fnOf "is_out" "is_out" (defArgs s_is_out) (defBody s_is_out) (defScope s_is_out) .none kV33 dc33 pm33 an33 cd33 ct33), sl33⟩) (c33 : PySem.W.codeIn K cd33 "is_out" = true) (k33 : PySem.W.keepIn K (.ref f33) = true)
    (a34 : PySem.W.nsIn K mainGlobals "step_back" = some (some (.ref f34))) (l34 : K.lookup f34 = some ⟨oc34, od34, .func (PySem.W.fnOf "step_back" "step_back" (defArgs s_step_back) (defBody s_step_back) (defScope s_step_back) .none kV34 dc34 pm34 an34 cd34 ct34), sl34⟩) (c34 : PySem.W.codeIn K cd34 "step_back" = true) (k34 : PySem.W.keepIn K (.ref f34) = true)
    (a35 : PySem.W.nsIn K mainGlobals "agree" = some (some (.ref f35))) (l35 : K.lookup f35 = some ⟨oc35, od35, .func (PySem.W.fnOf "agree" "agree" (defArgs s_agree) (defBody s_agree) (defScope s_agree) .none kV35 dc35 pm35 an35 cd35 ct35), sl35⟩) (c35 : PySem.W.codeIn K cd35 "agree" = true) (k35 : PySem.W.keepIn K (.ref f35) = true)
    (a36 : PySem.W.nsIn K mainGlobals "beat" = some (some (.ref f36))) (l36 : K.lookup f36 = some ⟨oc36, od36, .func (PySem.W.fnOf "beat" "beat" (defArgs s_beat) (defBody s_beat) (defScope s_beat) .none kV36 dc36 pm36 an36 cd36 ct36), sl36⟩) (c36 : PySem.W.codeIn K cd36 "beat" = true) (k36 : PySem.W.keepIn K (.ref f36) = true)
    (a37 : PySem.W.nsIn K mainGlobals "other_seats" = some (some (.ref f37))) (l37 : K.lookup f37 = some ⟨oc37, od37, .func (PySem.W.fnOf "other_seats" "other_seats" (defArgs s_other_seats) (defBody s_other_seats) (defScope s_other_seats) .none kV37 dc37 pm37 an37 cd37 ct37), sl37⟩) (c37 : PySem.W.codeIn K cd37 "other_seats" = true) (k37 : PySem.W.keepIn K (.ref f37) = true)
    (a38 : PySem.W.nsIn K mainGlobals "come_to_be_head" = some (some (.ref f38))) (l38 : K.lookup f38 = some ⟨oc38, od38, .func (PySem.W.fnOf "come_to_be_head" "come_to_be_head" (defArgs s_come_to_be_head) (defBody s_come_to_be_head) (defScope s_come_to_be_head) .none kV38 dc38 pm38 an38 cd38 ct38), sl38⟩) (c38 : PySem.W.codeIn K cd38 "come_to_be_head" = true) (k38 : PySem.W.keepIn K (.ref f38) = true)
    (a39 : PySem.W.nsIn K mainGlobals "has_most_voices" = some (some (.ref f39))) (l39 : K.lookup f39 = some ⟨oc39, od39, .func (PySem.W.fnOf "has_most_voices" "has_most_voices" (defArgs s_has_most_voices) (defBody s_has_most_voices) (defScope s_has_most_voices) .none kV39 dc39 pm39 an39 cd39 ct39), sl39⟩) (c39 : PySem.W.codeIn K cd39 "has_most_voices" = true) (k39 : PySem.W.keepIn K (.ref f39) = true)
    (a40 : PySem.W.nsIn K mainGlobals "stand" = some (some (.ref f40))) (l40 : K.lookup f40 = some ⟨oc40, od40, .func (PySem.W.fnOf "stand" "stand" (defArgs s_stand) (defBody s_stand) (defScope s_stand) .none kV40 dc40 pm40 an40 cd40 ct40), sl40⟩) (c40 : PySem.W.codeIn K cd40 "stand" = true) (k40 : PySem.W.keepIn K (.ref f40) = true)
    (a41 : PySem.W.nsIn K mainGlobals "may_give" = some (some (.ref f41))) (l41 : K.lookup f41 = some ⟨oc41, od41, .func (PySem.W.fnOf "may_give" "may_give" (defArgs s_may_give) (defBody s_may_give) (defScope s_may_give) .none kV41 dc41 pm41 an41 cd41 ct41), sl41⟩) (c41 : PySem.W.codeIn K cd41 "may_give" = true) (k41 : PySem.W.keepIn K (.ref f41) = true)
    (a42 : PySem.W.nsIn K mainGlobals "take_ask" = some (some (.ref f42))) (l42 : K.lookup f42 = some ⟨oc42, od42, .func (PySem.W.fnOf "take_ask" "take_ask" (defArgs s_take_ask) (defBody s_take_ask) (defScope s_take_ask) .none kV42 dc42 pm42 an42 cd42 ct42), sl42⟩) (c42 : PySem.W.codeIn K cd42 "take_ask" = true) (k42 : PySem.W.keepIn K (.ref f42) = true)
    (a43 : PySem.W.nsIn K mainGlobals "take_voice" = some (some (.ref f43))) (l43 : K.lookup f43 = some ⟨oc43, od43, .func (PySem.W.fnOf "take_voice" "take_voice" (defArgs s_take_voice) (defBody s_take_voice) (defScope s_take_voice) .none kV43 dc43 pm43 an43 cd43 ct43), sl43⟩) (c43 : PySem.W.codeIn K cd43 "take_voice" = true) (k43 : PySem.W.keepIn K (.ref f43) = true)
    (a44 : PySem.W.nsIn K mainGlobals "_law_cell_at" = some (some (.ref f44))) (l44 : K.lookup f44 = some ⟨oc44, od44, .func (PySem.W.fnOf "_law_cell_at" "_law_cell_at" (defArgs sCell) (defBody sCell) (defScope sCell) .none kV44 dc44 pm44 an44 cd44 ct44), sl44⟩) (c44 : PySem.W.codeIn K cd44 "_law_cell_at" = true) (k44 : PySem.W.keepIn K (.ref f44) = true)
    (a45 : PySem.W.nsIn K mainGlobals "_law_mixed" = some (some (.ref f45))) (l45 : K.lookup f45 = some ⟨oc45, od45, .func (PySem.W.fnOf "_law_mixed" "_law_mixed" (defArgs sMixed) (defBody sMixed) (defScope sMixed) .none kV45 dc45 pm45 an45 cd45 ct45), sl45⟩) (c45 : PySem.W.codeIn K cd45 "_law_mixed" = true) (k45 : PySem.W.keepIn K (.ref f45) = true)
    (a46 : PySem.W.nsIn K mainGlobals "_law_drawn" = some (some (.ref f46))) (l46 : K.lookup f46 = some ⟨oc46, od46, .func (PySem.W.fnOf "_law_drawn" "_law_drawn" (defArgs s__law_drawn) (defBody s__law_drawn) (defScope s__law_drawn) .none kV46 dc46 pm46 an46 cd46 ct46), sl46⟩) (c46 : PySem.W.codeIn K cd46 "_law_drawn" = true) (k46 : PySem.W.keepIn K (.ref f46) = true)
    (a47 : PySem.W.nsIn K mainGlobals "_law_most" = some (some (.ref f47))) (l47 : K.lookup f47 = some ⟨oc47, od47, .func (PySem.W.fnOf "_law_most" "_law_most" (defArgs s__law_most) (defBody s__law_most) (defScope s__law_most) .none kV47 dc47 pm47 an47 cd47 ct47), sl47⟩) (c47 : PySem.W.codeIn K cd47 "_law_most" = true) (k47 : PySem.W.keepIn K (.ref f47) = true)
    (a48 : PySem.W.nsIn K mainGlobals "_law_led" = some (some (.ref f48))) (l48 : K.lookup f48 = some ⟨oc48, od48, .func (PySem.W.fnOf "_law_led" "_law_led" (defArgs s__law_led) (defBody s__law_led) (defScope s__law_led) .none kV48 dc48 pm48 an48 cd48 ct48), sl48⟩) (c48 : PySem.W.codeIn K cd48 "_law_led" = true) (k48 : PySem.W.keepIn K (.ref f48) = true)
    (a49 : PySem.W.nsIn K mainGlobals "_law_stood" = some (some (.ref f49))) (l49 : K.lookup f49 = some ⟨oc49, od49, .func (PySem.W.fnOf "_law_stood" "_law_stood" (defArgs s__law_stood) (defBody s__law_stood) (defScope s__law_stood) .none kV49 dc49 pm49 an49 cd49 ct49), sl49⟩) (c49 : PySem.W.codeIn K cd49 "_law_stood" = true) (k49 : PySem.W.keepIn K (.ref f49) = true)
    (a50 : PySem.W.nsIn K mainGlobals "_law_heard" = some (some (.ref f50))) (l50 : K.lookup f50 = some ⟨oc50, od50, .func (PySem.W.fnOf "_law_heard" "_law_heard" (defArgs s__law_heard) (defBody s__law_heard) (defScope s__law_heard) .none kV50 dc50 pm50 an50 cd50 ct50), sl50⟩) (c50 : PySem.W.codeIn K cd50 "_law_heard" = true) (k50 : PySem.W.keepIn K (.ref f50) = true)
    (a51 : PySem.W.nsIn K mainGlobals "_law_voiced" = some (some (.ref f51))) (l51 : K.lookup f51 = some ⟨oc51, od51, .func (PySem.W.fnOf "_law_voiced" "_law_voiced" (defArgs s__law_voiced) (defBody s__law_voiced) (defScope s__law_voiced) .none kV51 dc51 pm51 an51 cd51 ct51), sl51⟩) (c51 : PySem.W.codeIn K cd51 "_law_voiced" = true) (k51 : PySem.W.keepIn K (.ref f51) = true)
    (a52 : PySem.W.nsIn K mainGlobals "_law_asked" = some (some (.ref f52))) (l52 : K.lookup f52 = some ⟨oc52, od52, .func (PySem.W.fnOf "_law_asked" "_law_asked" (defArgs s__law_asked) (defBody s__law_asked) (defScope s__law_asked) .none kV52 dc52 pm52 an52 cd52 ct52), sl52⟩) (c52 : PySem.W.codeIn K cd52 "_law_asked" = true) (k52 : PySem.W.keepIn K (.ref f52) = true)
    (a53 : PySem.W.nsIn K mainGlobals "_law_woken" = some (some (.ref f53))) (l53 : K.lookup f53 = some ⟨oc53, od53, .func (PySem.W.fnOf "_law_woken" "_law_woken" (defArgs s__law_woken) (defBody s__law_woken) (defScope s__law_woken) .none kV53 dc53 pm53 an53 cd53 ct53), sl53⟩) (c53 : PySem.W.codeIn K cd53 "_law_woken" = true) (k53 : PySem.W.keepIn K (.ref f53) = true)
    (a54 : PySem.W.nsIn K mainGlobals "_law_alike" = some (some (.ref f54))) (l54 : K.lookup f54 = some ⟨oc54, od54, .func (PySem.W.fnOf "_law_alike" "_law_alike" (defArgs s__law_alike) (defBody s__law_alike) (defScope s__law_alike) .none kV54 dc54 pm54 an54 cd54 ct54), sl54⟩) (c54 : PySem.W.codeIn K cd54 "_law_alike" = true) (k54 : PySem.W.keepIn K (.ref f54) = true)
    (a55 : PySem.W.nsIn K mainGlobals "_law_kept" = some (some (.ref f55))) (l55 : K.lookup f55 = some ⟨oc55, od55, .func (PySem.W.fnOf "_law_kept" "_law_kept" (defArgs s__law_kept) (defBody s__law_kept) (defScope s__law_kept) .none kV55 dc55 pm55 an55 cd55 ct55), sl55⟩) (c55 : PySem.W.codeIn K cd55 "_law_kept" = true) (k55 : PySem.W.keepIn K (.ref f55) = true)
    (a56 : PySem.W.nsIn K mainGlobals "_law_stands" = some (some (.ref f56))) (l56 : K.lookup f56 = some ⟨oc56, od56, .func (PySem.W.fnOf "_law_stands" "_law_stands" (defArgs s__law_stands) (defBody s__law_stands) (defScope s__law_stands) .none kV56 dc56 pm56 an56 cd56 ct56), sl56⟩) (c56 : PySem.W.codeIn K cd56 "_law_stands" = true) (k56 : PySem.W.keepIn K (.ref f56) = true)
    (a57 : PySem.W.nsIn K mainGlobals "law" = some (some (.ref f57))) (l57 : K.lookup f57 = some ⟨oc57, od57, .func (PySem.W.fnOf "law" "law" (defArgs sLaw) (defBody sLaw) (defScope sLaw) .none kV57 dc57 pm57 an57 cd57 ct57), sl57⟩) (c57 : PySem.W.codeIn K cd57 "law" = true) (k57 : PySem.W.keepIn K (.ref f57) = true)
    {tkN0 : Tok} (nN0 : PySem.W.nsIn K mainGlobals "ENTRIES_IN_A_HAND" = some (some (.int 5 tkN0)))
    {C0 : Addr} (aC0 : PySem.W.nsIn K mainGlobals "Keeper" = some (some (.ref C0)))
    {g0 : Addr} {god0 gan0 : Option Addr} {gsl0 : Array (Option Value)} {goc0 gkV0 gdc0 gpm0 gcd0 gct0 : Value}
    (ga0 : PySem.W.findIn K (.ref C0) "__init__" = some (some (.ref g0))) (gi0 : PySem.W.isFn K (.ref g0) = true) (gl0 : K.lookup g0 = some ⟨goc0, god0, .func (PySem.W.fnOf "__init__" "Keeper.__init__" (defArgs s_Keeper___init__) (defBody s_Keeper___init__) (defScope s_Keeper___init__) .none gkV0 gdc0 gpm0 gan0 gcd0 gct0), gsl0⟩) (gc0 : PySem.W.codeIn K gcd0 "Keeper.__init__" = true) (gk0 : PySem.W.keepIn K (.ref g0) = true)
    {g1 : Addr} {god1 gan1 : Option Addr} {gsl1 : Array (Option Value)} {goc1 gkV1 gdc1 gpm1 gcd1 gct1 : Value}
    (ga1 : PySem.W.findIn K (.ref C0) "wake" = some (some (.ref g1))) (gi1 : PySem.W.isFn K (.ref g1) = true) (gl1 : K.lookup g1 = some ⟨goc1, god1, .func (PySem.W.fnOf "wake" "Keeper.wake" (defArgs s_Keeper_wake) (defBody s_Keeper_wake) (defScope s_Keeper_wake) .none gkV1 gdc1 gpm1 gan1 gcd1 gct1), gsl1⟩) (gc1 : PySem.W.codeIn K gcd1 "Keeper.wake" = true) (gk1 : PySem.W.keepIn K (.ref g1) = true)
    {g2 : Addr} {god2 gan2 : Option Addr} {gsl2 : Array (Option Value)} {goc2 gkV2 gdc2 gpm2 gcd2 gct2 : Value}
    (ga2 : PySem.W.findIn K (.ref C0) "hear" = some (some (.ref g2))) (gi2 : PySem.W.isFn K (.ref g2) = true) (gl2 : K.lookup g2 = some ⟨goc2, god2, .func (PySem.W.fnOf "hear" "Keeper.hear" (defArgs s_Keeper_hear) (defBody s_Keeper_hear) (defScope s_Keeper_hear) .none gkV2 gdc2 gpm2 gan2 gcd2 gct2), gsl2⟩) (gc2 : PySem.W.codeIn K gcd2 "Keeper.hear" = true) (gk2 : PySem.W.keepIn K (.ref g2) = true)
    {g3 : Addr} {god3 gan3 : Option Addr} {gsl3 : Array (Option Value)} {goc3 gkV3 gdc3 gpm3 gcd3 gct3 : Value}
    (ga3 : PySem.W.findIn K (.ref C0) "be_plain" = some (some (.ref g3))) (gi3 : PySem.W.isFn K (.ref g3) = true) (gl3 : K.lookup g3 = some ⟨goc3, god3, .func (PySem.W.fnOf "be_plain" "Keeper.be_plain" (defArgs s_Keeper_be_plain) (defBody s_Keeper_be_plain) (defScope s_Keeper_be_plain) .none gkV3 gdc3 gpm3 gan3 gcd3 gct3), gsl3⟩) (gc3 : PySem.W.codeIn K gcd3 "Keeper.be_plain" = true) (gk3 : PySem.W.keepIn K (.ref g3) = true)
    {g4 : Addr} {god4 gan4 : Option Addr} {gsl4 : Array (Option Value)} {goc4 gkV4 gdc4 gpm4 gcd4 gct4 : Value}
    (ga4 : PySem.W.findIn K (.ref C0) "know_no_places" = some (some (.ref g4))) (gi4 : PySem.W.isFn K (.ref g4) = true) (gl4 : K.lookup g4 = some ⟨goc4, god4, .func (PySem.W.fnOf "know_no_places" "Keeper.know_no_places" (defArgs s_Keeper_know_no_places) (defBody s_Keeper_know_no_places) (defScope s_Keeper_know_no_places) .none gkV4 gdc4 gpm4 gan4 gcd4 gct4), gsl4⟩) (gc4 : PySem.W.codeIn K gcd4 "Keeper.know_no_places" = true) (gk4 : PySem.W.keepIn K (.ref g4) = true)
    (pg0 : PySem.W.plainGet K C0 Str.empty = true) (hd0 : PySem.W.hasDictIn K C0 = true) (po0 : PySem.W.plainOver K C0 = true) (sa0 : PySem.W.findIn K (.ref C0) "__setattr__" = some (some (.builtin "object.__setattr__"))) (mk0 : PySem.W.makesIn K C0 = true) (kc0 : PySem.W.keepIn K (.ref C0) = true)
    (n0_number : PySem.W.findIn K (.ref C0) "number" = some none) (n0_term : PySem.W.findIn K (.ref C0) "term" = some none) (n0_voice : PySem.W.findIn K (.ref C0) "voice" = some none) (n0_head : PySem.W.findIn K (.ref C0) "head" = some none) (n0_way : PySem.W.findIn K (.ref C0) "way" = some none) (n0_pack : PySem.W.findIn K (.ref C0) "pack" = some none) (n0_row : PySem.W.findIn K (.ref C0) "row" = some none) (n0_store : PySem.W.findIn K (.ref C0) "store" = some none) (n0_nexts : PySem.W.findIn K (.ref C0) "nexts" = some none) (n0_held : PySem.W.findIn K (.ref C0) "held" = some none) (n0_agreed : PySem.W.findIn K (.ref C0) "agreed" = some none) (n0_voices : PySem.W.findIn K (.ref C0) "voices" = some none) (n0_waits : PySem.W.findIn K (.ref C0) "waits" = some none)
    (z0 : PySem.W.nsIn K mainGlobals "isinstance" = some none) (z1 : PySem.W.nsIn K mainGlobals "int" = some none) (z2 : PySem.W.nsIn K mainGlobals "bool" = some none) (z3 : PySem.W.nsIn K mainGlobals "str" = some none) (z4 : PySem.W.nsIn K mainGlobals "tuple" = some none) (z5 : PySem.W.nsIn K mainGlobals "list" = some none) (z6 : PySem.W.nsIn K mainGlobals "all" = some none) (z7 : PySem.W.nsIn K mainGlobals "zip" = some none) (z8 : PySem.W.nsIn K mainGlobals "len" = some none) (z9 : PySem.W.nsIn K mainGlobals "range" = some none) (z10 : PySem.W.nsIn K mainGlobals "max" = some none) (z11 : PySem.W.nsIn K mainGlobals "min" = some none) (z12 : PySem.W.nsIn K mainGlobals "sorted" = some none) (z13 : PySem.W.nsIn K mainGlobals "any" = some none) (z14 : PySem.W.nsIn K mainGlobals "sum" = some none) (z15 : PySem.W.nsIn K mainGlobals "enumerate" = some none) (z16 : PySem.W.nsIn K mainGlobals "set" = some none) :
    ∃ fd : FuncData, (∀ (s : Shared) (v : Value), BindsTo s fd ⟨[v], []⟩ [("_law_script", v)]) ∧ ∀ base : Heap, K.In base → base.Ns mainGlobals mg → FnOk l.prog w K mg base CX0 9 fa fd ["_law_script"] (spLaw K) := by
  have e := hfa.symm.trans (PySem.W.mg_of X G a57)
  cases e
  have T : Txt mg := ⟨PySem.W.mg_none_of X G z0, PySem.W.mg_none_of X G z1, PySem.W.mg_none_of X G z2, PySem.W.mg_none_of X G z3, PySem.W.mg_none_of X G z4, PySem.W.mg_none_of X G z5, PySem.W.mg_none_of X G z6, PySem.W.mg_none_of X G z7, PySem.W.mg_none_of X G z8, PySem.W.mg_none_of X G z9, PySem.W.mg_none_of X G z10, PySem.W.mg_none_of X G z11, PySem.W.mg_none_of X G z12, PySem.W.mg_none_of X G z13, PySem.W.mg_none_of X G z14⟩
  have hmx := PySem.W.mg_none_of X G z10
  have hso := PySem.W.mg_none_of X G z12
  have hen := PySem.W.mg_none_of X G z15
  have hset := PySem.W.mg_none_of X G z16
  have Y0 : KpC K C0 := ⟨⟨pg0, hd0, po0, sa0⟩, n0_number, n0_term, n0_voice, n0_head, n0_way, n0_pack, n0_row, n0_store, n0_nexts, n0_held, n0_agreed, n0_voices, n0_waits⟩
  have mC0 := PySem.W.mg_of X G aC0
  have G0 := fun_mk (st := s_Keeper___init__) gl0 gc0 gk0
  have gb0 := G0.binds (ps := ["self", "number", "seats"]) fun _ _ _ _ _ _ us hl => match us, hl with | [_, _, _], _ => rfl
  have G1 := fun_mk (st := s_Keeper_wake) gl1 gc1 gk1
  have gb1 := G1.binds (ps := ["self"]) fun _ _ _ _ _ _ us hl => match us, hl with | [_], _ => rfl
  have G2 := fun_mk (st := s_Keeper_hear) gl2 gc2 gk2
  have gb2 := G2.binds (ps := ["self", "term"]) fun _ _ _ _ _ _ us hl => match us, hl with | [_, _], _ => rfl
  have G3 := fun_mk (st := s_Keeper_be_plain) gl3 gc3 gk3
  have gb3 := G3.binds (ps := ["self"]) fun _ _ _ _ _ _ us hl => match us, hl with | [_], _ => rfl
  have G4 := fun_mk (st := s_Keeper_know_no_places) gl4 gc4 gk4
  have gb4 := G4.binds (ps := ["self"]) fun _ _ _ _ _ _ us hl => match us, hl with | [_], _ => rfl
  have F0 := fun_mk (st := s_unlike) l0 c0 k0
  have m0 := PySem.W.mg_of X G a0
  have b0 := F0.binds (ps := ["numbers", "others"]) fun _ _ _ _ _ _ us hl => match us, hl with | [_, _], _ => rfl
  have F1 := fun_mk (st := s_most) l1 c1 k1
  have m1 := PySem.W.mg_of X G a1
  have b1 := F1.binds (ps := ["seats", "those"]) fun _ _ _ _ _ _ us hl => match us, hl with | [_, _], _ => rfl
  have F2 := fun_mk (st := s_holds_seats) l2 c2 k2
  have m2 := PySem.W.mg_of X G a2
  have b2 := F2.binds (ps := ["entry"]) fun _ _ _ _ _ _ us hl => match us, hl with | [_], _ => rfl
  have F3 := fun_mk (st := s_seats_of) l3 c3 k3
  have m3 := PySem.W.mg_of X G a3
  have b3 := F3.binds (ps := ["row", "first"]) fun _ _ _ _ _ _ us hl => match us, hl with | [_, _], _ => rfl
  have F4 := fun_mk (st := s_seats_place) l4 c4 k4
  have m4 := PySem.W.mg_of X G a4
  have b4 := F4.binds (ps := ["row"]) fun _ _ _ _ _ _ us hl => match us, hl with | [_], _ => rfl
  have F5 := fun_mk (st := s_holders) l5 c5 k5
  have m5 := PySem.W.mg_of X G a5
  have b5 := F5.binds (ps := ["seats", "held", "place"]) fun _ _ _ _ _ _ us hl => match us, hl with | [_, _, _], _ => rfl
  have F6 := fun_mk (st := s_reached) l6 c6 k6
  have m6 := PySem.W.mg_of X G a6
  have b6 := F6.binds (ps := ["seats", "held"]) fun _ _ _ _ _ _ us hl => match us, hl with | [_, _], _ => rfl
  have F7 := fun_mk (st := s_begun) l7 c7 k7
  have m7 := PySem.W.mg_of X G a7
  have b7 := F7.binds (ps := []) fun _ _ _ _ _ _ us hl => match us, hl with | [], _ => rfl
  have F8 := fun_mk (st := s_end_of) l8 c8 k8
  have m8 := PySem.W.mg_of X G a8
  have b8 := F8.binds (ps := ["row"]) fun _ _ _ _ _ _ us hl => match us, hl with | [_], _ => rfl
  have F9 := fun_mk (st := s_entry_at) l9 c9 k9
  have m9 := PySem.W.mg_of X G a9
  have b9 := F9.binds (ps := ["row", "place"]) fun _ _ _ _ _ _ us hl => match us, hl with | [_, _], _ => rfl
  have F10 := fun_mk (st := s_term_at) l10 c10 k10
  have m10 := PySem.W.mg_of X G a10
  have b10 := F10.binds (ps := ["row", "place"]) fun _ _ _ _ _ _ us hl => match us, hl with | [_, _], _ => rfl
  have F11 := fun_mk (st := s_behind) l11 c11 k11
  have m11 := PySem.W.mg_of X G a11
  have b11 := F11.binds (ps := ["row", "place", "many"]) fun _ _ _ _ _ _ us hl => match us, hl with | [_, _, _], _ => rfl
  have F12 := fun_mk (st := s_as_new) l12 c12 k12
  have m12 := PySem.W.mg_of X G a12
  have b12 := F12.binds (ps := ["last", "place", "row"]) fun _ _ _ _ _ _ us hl => match us, hl with | [_, _, _], _ => rfl
  have F13 := fun_mk (st := s_agrees) l13 c13 k13
  have m13 := PySem.W.mg_of X G a13
  have b13 := F13.binds (ps := ["row", "place", "last"]) fun _ _ _ _ _ _ us hl => match us, hl with | [_, _, _], _ => rfl
  have F14 := fun_mk (st := s_put) l14 c14 k14
  have m14 := PySem.W.mg_of X G a14
  have b14 := F14.binds (ps := ["row", "entry"]) fun _ _ _ _ _ _ us hl => match us, hl with | [_, _], _ => rfl
  have F15 := fun_mk (st := s_fresh) l15 c15 k15
  have m15 := PySem.W.mg_of X G a15
  have b15 := F15.binds (ps := []) fun _ _ _ _ _ _ us hl => match us, hl with | [], _ => rfl
  have F24 := fun_mk (st := s_applied) l24 c24 k24
  have m24 := PySem.W.mg_of X G a24
  have b24 := F24.binds (ps := ["store", "what"]) fun _ _ _ _ _ _ us hl => match us, hl with | [_, _], _ => rfl
  have F25 := fun_mk (st := s_first_pack) l25 c25 k25
  have m25 := PySem.W.mg_of X G a25
  have b25 := F25.binds (ps := ["seats"]) fun _ _ _ _ _ _ us hl => match us, hl with | [_], _ => rfl
  have F26 := fun_mk (st := s_seats_now) l26 c26 k26
  have m26 := PySem.W.mg_of X G a26
  have b26 := F26.binds (ps := ["keeper"]) fun _ _ _ _ _ _ us hl => match us, hl with | [_], _ => rfl
  have F27 := fun_mk (st := s_with_place) l27 c27 k27
  have m27 := PySem.W.mg_of X G a27
  have b27 := F27.binds (ps := ["places", "number", "place"]) fun _ _ _ _ _ _ us hl => match us, hl with | [_, _, _], _ => rfl
  have F28 := fun_mk (st := s_enter) l28 c28 k28
  have m28 := PySem.W.mg_of X G a28
  have b28 := F28.binds (ps := ["keeper", "what"]) fun _ _ _ _ _ _ us hl => match us, hl with | [_, _], _ => rfl
  have F30 := fun_mk (st := s_tell_waiting) l30 c30 k30
  have m30 := PySem.W.mg_of X G a30
  have b30 := F30.binds (ps := ["keeper", "place"]) fun _ _ _ _ _ _ us hl => match us, hl with | [_, _], _ => rfl
  have F31 := fun_mk (st := s_agree_on_the_following) l31 c31 k31
  have m31 := PySem.W.mg_of X G a31
  have b31 := F31.binds (ps := ["keeper"]) fun _ _ _ _ _ _ us hl => match us, hl with | [_], _ => rfl
  have F32 := fun_mk (st := s_place_held_by_most) l32 c32 k32
  have m32 := PySem.W.mg_of X G a32
  have b32 := F32.binds (ps := ["keeper"]) fun _ _ _ _ _ _ us hl => match us, hl with | [_], _ => rfl
  have F33 := fun_mk (st := s_is_out) l33 c33 k33
  have m33 := PySem.W.mg_of X G a33
  have b33 := F33.binds (ps := ["keeper"]) fun _ _ _ _ _ _ us hl => match us, hl with | [_], _ => rfl
  have F34 := fun_mk (st := s_step_back) l34 c34 k34
  have m34 := PySem.W.mg_of X G a34
  have b34 := F34.binds (ps := ["keeper"]) fun _ _ _ _ _ _ us hl => match us, hl with | [_], _ => rfl
  have F35 := fun_mk (st := s_agree) l35 c35 k35
  have m35 := PySem.W.mg_of X G a35
  have b35 := F35.binds (ps := ["keeper"]) fun _ _ _ _ _ _ us hl => match us, hl with | [_], _ => rfl
  have F36 := fun_mk (st := s_beat) l36 c36 k36
  have m36 := PySem.W.mg_of X G a36
  have b36 := F36.binds (ps := ["keeper", "other"]) fun _ _ _ _ _ _ us hl => match us, hl with | [_, _], _ => rfl
  have F37 := fun_mk (st := s_other_seats) l37 c37 k37
  have m37 := PySem.W.mg_of X G a37
  have b37 := F37.binds (ps := ["keeper"]) fun _ _ _ _ _ _ us hl => match us, hl with | [_], _ => rfl
  have F38 := fun_mk (st := s_come_to_be_head) l38 c38 k38
  have m38 := PySem.W.mg_of X G a38
  have b38 := F38.binds (ps := ["keeper"]) fun _ _ _ _ _ _ us hl => match us, hl with | [_], _ => rfl
  have F39 := fun_mk (st := s_has_most_voices) l39 c39 k39
  have m39 := PySem.W.mg_of X G a39
  have b39 := F39.binds (ps := ["keeper"]) fun _ _ _ _ _ _ us hl => match us, hl with | [_], _ => rfl
  have F40 := fun_mk (st := s_stand) l40 c40 k40
  have m40 := PySem.W.mg_of X G a40
  have b40 := F40.binds (ps := ["keeper"]) fun _ _ _ _ _ _ us hl => match us, hl with | [_], _ => rfl
  have F41 := fun_mk (st := s_may_give) l41 c41 k41
  have m41 := PySem.W.mg_of X G a41
  have b41 := F41.binds (ps := ["keeper", "letter"]) fun _ _ _ _ _ _ us hl => match us, hl with | [_, _], _ => rfl
  have F42 := fun_mk (st := s_take_ask) l42 c42 k42
  have m42 := PySem.W.mg_of X G a42
  have b42 := F42.binds (ps := ["keeper", "letter"]) fun _ _ _ _ _ _ us hl => match us, hl with | [_, _], _ => rfl
  have F43 := fun_mk (st := s_take_voice) l43 c43 k43
  have m43 := PySem.W.mg_of X G a43
  have b43 := F43.binds (ps := ["keeper", "letter"]) fun _ _ _ _ _ _ us hl => match us, hl with | [_, _], _ => rfl
  have F44 := fun_mk (st := sCell) l44 c44 k44
  have m44 := PySem.W.mg_of X G a44
  have b44 := F44.binds (ps := ["_law_script", "_law_k"]) fun _ _ _ _ _ _ us hl => match us, hl with | [_, _], _ => rfl
  have F45 := fun_mk (st := sMixed) l45 c45 k45
  have m45 := PySem.W.mg_of X G a45
  have b45 := F45.binds (ps := ["_law_script", "_law_k"]) fun _ _ _ _ _ _ us hl => match us, hl with | [_, _], _ => rfl
  have F46 := fun_mk (st := s__law_drawn) l46 c46 k46
  have m46 := PySem.W.mg_of X G a46
  have b46 := F46.binds (ps := ["_law_number", "_law_sizes"]) fun _ _ _ _ _ _ us hl => match us, hl with | [_, _], _ => rfl
  have F47 := fun_mk (st := s__law_most) l47 c47 k47
  have m47 := PySem.W.mg_of X G a47
  have b47 := F47.binds (ps := ["_law_seats", "_law_voices"]) fun _ _ _ _ _ _ us hl => match us, hl with | [_, _], _ => rfl
  have F48 := fun_mk (st := s__law_led) l48 c48 k48
  have m48 := PySem.W.mg_of X G a48
  have b48 := F48.binds (ps := ["_law_own", "_law_seats"]) fun _ _ _ _ _ _ us hl => match us, hl with | [_, _], _ => rfl
  have F49 := fun_mk (st := s__law_stood) l49 c49 k49
  have m49 := PySem.W.mg_of X G a49
  have b49 := F49.binds (ps := ["_law_own", "_law_seats"]) fun _ _ _ _ _ _ us hl => match us, hl with | [_, _], _ => rfl
  have F50 := fun_mk (st := s__law_heard) l50 c50 k50
  have m50 := PySem.W.mg_of X G a50
  have b50 := F50.binds (ps := ["_law_own", "_law_term"]) fun _ _ _ _ _ _ us hl => match us, hl with | [_, _], _ => rfl
  have F51 := fun_mk (st := s__law_voiced) l51 c51 k51
  have m51 := PySem.W.mg_of X G a51
  have b51 := F51.binds (ps := ["_law_own", "_law_seats", "_law_letter"]) fun _ _ _ _ _ _ us hl => match us, hl with | [_, _, _], _ => rfl
  have F52 := fun_mk (st := s__law_asked) l52 c52 k52
  have m52 := PySem.W.mg_of X G a52
  have b52 := F52.binds (ps := ["_law_own", "_law_letter"]) fun _ _ _ _ _ _ us hl => match us, hl with | [_, _], _ => rfl
  have F53 := fun_mk (st := s__law_woken) l53 c53 k53
  have m53 := PySem.W.mg_of X G a53
  have b53 := F53.binds (ps := ["_law_own"]) fun _ _ _ _ _ _ us hl => match us, hl with | [_], _ => rfl
  have F54 := fun_mk (st := s__law_alike) l54 c54 k54
  have m54 := PySem.W.mg_of X G a54
  have b54 := F54.binds (ps := ["_law_found", "_law_due"]) fun _ _ _ _ _ _ us hl => match us, hl with | [_, _], _ => rfl
  have F55 := fun_mk (st := s__law_kept) l55 c55 k55
  have m55 := PySem.W.mg_of X G a55
  have b55 := F55.binds (ps := ["_law_kept_here", "_law_found", "_law_due"]) fun _ _ _ _ _ _ us hl => match us, hl with | [_, _, _], _ => rfl
  have F56 := fun_mk (st := s__law_stands) l56 c56 k56
  have m56 := PySem.W.mg_of X G a56
  have b56 := F56.binds (ps := ["_law_keeper", "_law_own"]) fun _ _ _ _ _ _ us hl => match us, hl with | [_, _], _ => rfl
  have F57 := fun_mk (st := sLaw) l57 c57 k57
  have m57 := PySem.W.mg_of X G a57
  have b57 := F57.binds (ps := ["_law_script"]) fun _ _ _ _ _ _ us hl => match us, hl with | [_], _ => rfl
  refine ⟨PySem.W.fnOf "law" "law" (defArgs sLaw) (defBody sLaw) (defScope sLaw) .none kV57 dc57 pm57 an57 cd57 ct57, fun s v => .of_eq rfl, fun base _ _ => ?_⟩
  have CC : Cal l.prog w K mg base "_law_cell_at" 1 ["_law_script", "_law_k"] (spCellF K) := cal F44 m44 b44 (ok_cellF F44 T)
  have CX : Cal l.prog w K mg base "_law_mixed" 2 ["_law_script", "_law_k"] (spMixG K) := cal F45 m45 b45 (ok_mixG F45 CC)
  have CD : Cal l.prog w K mg base "_law_drawn" 1 ["_law_number", "_law_sizes"] (spDraw) := cal F46 m46 b46 (ok_draw F46)
  have CEo : Cal l.prog w K mg base "end_of" 1 ["row"] (spEndOf K) := cal F8 m8 b8 (ok_end_of F8 T)
  have CEa : Cal l.prog w K mg base "entry_at" 2 ["row", "place"] (spEntIn K) := cal F9 m9 b9 (ok_entry_at F9 CEo)
  have CTa : Cal l.prog w K mg base "term_at" 3 ["row", "place"] (spTermIn K) := cal F10 m10 b10 (ok_term_at F10 CEa)
  have CEp : Cal l.prog w K mg base "end_of" 1 ["row"] (spEndP) := cal F8 m8 b8 (ok_end_ofP F8 T)
  have CHs : Cal l.prog w K mg base "holds_seats" 1 ["entry"] (spHoldP) := cal F2 m2 b2 (ok_holds F2)
  have CSf : Cal l.prog w K mg base "seats_of" 2 ["row", "first"] (spSeatsP) := cal F3 m3 b3 (ok_seats_of F3 CHs)
  have CU : Cal l.prog w K mg base "unlike" 1 ["numbers", "others"] (spUnlike K) := cal F0 m0 b0 (ok_unlike F0)
  have CM : Cal l.prog w K mg base "most" 2 ["seats", "those"] (spMost K) := cal F1 m1 b1 (ok_most F1 T CU)
  have CH : Cal l.prog w K mg base "holders" 1 ["seats", "held", "place"] (spHolders K) := cal F5 m5 b5 (ok_holders F5 T)
  have CR : Cal l.prog w K mg base "reached" 3 ["seats", "held"] (spReached K) := cal F6 m6 b6 (ok_reached F6 T CM CH)
  have CPu : Cal l.prog w K mg base "put" 1 ["row", "entry"] (spPut K) := cal F14 m14 b14 (ok_put F14)
  have CBh : Cal l.prog w K mg base "behind" 2 ["row", "place", "many"] (spBehN K) := cal F11 m11 b11 (ok_behind F11 T CEo)
  have CAn : Cal l.prog w K mg base "as_new" 4 ["last", "place", "row"] (spAsNew K) := cal F12 m12 b12 (ok_as_new0 F12 CEo CTa)
  have CAg : Cal l.prog w K mg base "agrees" 4 ["row", "place", "last"] (spAgrees K) := cal F13 m13 b13 (ok_agrees F13 CEo CTa)
  have CFr : Cal l.prog w K mg base "fresh" 1 [] (spFreshP K) := cal F15 m15 b15 (ok_fresh F15)
  have CFp : Cal l.prog w K mg base "first_pack" 2 ["seats"] (spFp) := cal F25 m25 b25 (ok_first_pack F25 CFr)
  have CBg : Cal l.prog w K mg base "begun" 1 [] (spBegP) := cal F7 m7 b7 (ok_begunP F7)
  have OB : FnOk l.prog w K mg base CX0 1 g3 _ ["self"] (spPlainK C0) := ok_be_plain Y0 G3
  have ON : FnOk l.prog w K mg base CX0 2 g4 _ ["self"] (spKnp C0) := ok_knp Y0 G4 CEp
  have OW : FnOk l.prog w K mg base CX0 3 g1 _ ["self"] (spWk2 C0) := ok_wk2 Y0 G1 ⟨ga3, gi3, gk3⟩ OB gb3 ⟨ga4, gi4, gk4⟩ ON gb4
  have OH : FnOk l.prog w K mg base CX0 2 g2 _ ["self", "term"] (spHear2 C0) := ok_hear2 Y0 G2 ⟨ga3, gi3, gk3⟩ OB gb3
  have OI : FnOk l.prog w K mg base CX0 4 g0 _ ["self", "number", "seats"] (spI42 C0) := ok_init2 Y0 G0 ⟨ga1, gi1, gk1⟩ OW gb1 CFp CBg
  have CSn : Cal l.prog w K mg base "seats_now" 3 ["keeper"] (spSn2 C0) := cal F26 m26 b26 (ok_sn2 Y0 F26 CSf)
  have CHm : Cal l.prog w K mg base "has_most_voices" 4 ["keeper"] (spHm2 C0) := cal F39 m39 b39 (ok_hm2 Y0 F39 CSn CM)
  have COt : Cal l.prog w K mg base "other_seats" 4 ["keeper"] (spOt2 C0) := cal F37 m37 b37 (ok_ot2 Y0 F37 CSn)
  have CEn : Cal l.prog w K mg base "enter" 2 ["keeper", "what"] (spEn2 C0) := cal F28 m28 b28 (ok_en2 Y0 F28 CPu)
  have CWp : Cal l.prog w K mg base "with_place" 1 ["places", "number", "place"] (spWp2) := cal F27 m27 b27 (ok_wp2 F27)
  have CPh : Cal l.prog w K mg base "place_held_by_most" 4 ["keeper"] (spPh2 C0) := cal F32 m32 b32 (ok_ph2 Y0 F32 CWp CEp CR CSn)
  have CTw : Cal l.prog w K mg base "tell_waiting" 1 ["keeper", "place"] (spTw2 C0) := cal F30 m30 b30 (ok_tw2 Y0 F30 T)
  have CAp : Cal l.prog w K mg base "applied" 1 ["store", "what"] (spApO) := cal F24 m24 b24 (ok_apO F24)
  have CAf : Cal l.prog w K mg base "agree_on_the_following" 3 ["keeper"] (spAf2 C0) := cal F31 m31 b31 (ok_af2 Y0 F31 CEa CAp CTw)
  have CSp : Cal l.prog w K mg base "seats_place" 2 ["row"] (spSpO) := cal F4 m4 b4 (ok_spO F4 hen CHs)
  have CIo : Cal l.prog w K mg base "is_out" 4 ["keeper"] (spIo2 C0) := cal F33 m33 b33 (ok_io2 Y0 F33 CSp CSn)
  have CSb : Cal l.prog w K mg base "step_back" 1 ["keeper"] (spSb2 C0) := cal F34 m34 b34 (ok_sb2 Y0 F34)
  have CGr : Cal l.prog w K mg base "agree" 5 ["keeper"] (spAg2 C0) := cal F35 m35 b35 (ok_ag2 Y0 F35 CPh CAg CAf CIo CSb)
  have CBt : Cal l.prog w K mg base "beat" 4 ["keeper", "other"] (spBt2 C0) := cal F36 m36 b36 (ok_bt2 Y0 F36 (PySem.W.mg_of X G nN0) CTa CBh)
  have CCh : Cal l.prog w K mg base "come_to_be_head" 6 ["keeper"] (spCh2 C0) := cal F38 m38 b38 (ok_ch2 Y0 F38 ⟨ga4, gi4, gk4⟩ ON gb4 CEn CGr COt CBt)
  have CSt : Cal l.prog w K mg base "stand" 7 ["keeper"] (spSt2 C0) := cal F40 m40 b40 (ok_st2 Y0 F40 ⟨ga2, gi2, gk2⟩ OH gb2 CHm CCh CEp CTa COt)
  have CMy : Cal l.prog w K mg base "may_give" 5 ["keeper", "letter"] (spMay2 C0) := cal F41 m41 b41 (ok_may2 Y0 F41 CAn)
  have CTk : Cal l.prog w K mg base "take_ask" 6 ["keeper", "letter"] (spTk2 C0) := cal F42 m42 b42 (ok_tk2 Y0 F42 ⟨ga2, gi2, gk2⟩ OH gb2 CMy)
  have CTv : Cal l.prog w K mg base "take_voice" 7 ["keeper", "letter"] (spTv2 C0) := cal F43 m43 b43 (ok_tv2 Y0 F43 T hset ⟨ga2, gi2, gk2⟩ OH gb2 CHm CCh)
  have CMo : Cal l.prog w K mg base "_law_most" 1 ["_law_seats", "_law_voices"] (spMostL) := cal F47 m47 b47 (ok_mostL F47 T)
  have CLd : Cal l.prog w K mg base "_law_led" 1 ["_law_own", "_law_seats"] (spLed) := cal F48 m48 b48 (ok_led F48 T)
  have CSd : Cal l.prog w K mg base "_law_stood" 2 ["_law_own", "_law_seats"] (spStd) := cal F49 m49 b49 (ok_std F49 T CMo CLd)
  have CHr : Cal l.prog w K mg base "_law_heard" 1 ["_law_own", "_law_term"] (spHrd) := cal F50 m50 b50 (ok_hrd F50)
  have CVc : Cal l.prog w K mg base "_law_voiced" 2 ["_law_own", "_law_seats", "_law_letter"] (spVoc) := cal F51 m51 b51 (ok_voc F51 T CHr CMo CLd)
  have CAk : Cal l.prog w K mg base "_law_asked" 2 ["_law_own", "_law_letter"] (spAsk) := cal F52 m52 b52 (ok_askL F52 T CHr)
  have CWn : Cal l.prog w K mg base "_law_woken" 1 ["_law_own"] (spWkn) := cal F53 m53 b53 (ok_wkn F53 T)
  have CAl : Cal l.prog w K mg base "_law_alike" 6 ["_law_found", "_law_due"] (spAlk 5) := cal F54 m54 b54 (ok_alk F54 T m54 b54 5)
  have CKp : Cal l.prog w K mg base "_law_kept" 7 ["_law_kept_here", "_law_found", "_law_due"] (spKpt) := cal F55 m55 b55 (ok_kpt F55 CAl)
  have CNs : Cal l.prog w K mg base "_law_stands" 1 ["_law_keeper", "_law_own"] (spStn C0) := cal F56 m56 b56 (ok_stn Y0 F56 T)
  exact ok_law Y0 F57 T mC0 ⟨mk0, ga0, gi0, kc0⟩ OI gb0 ⟨ga2, gi2, gk2⟩ OH gb2 ⟨ga1, gi1, gk1⟩ (ok_w42 OW) gb1 CX CD CKp CNs CWn CSt CSd CTk CAk CTv CVc
theorem walk {l : PySem.W.OpenLaw} {q : Program} {loose : List Str} {XP : (Str → Option Value) → Heap → Prop} {YP : World → Heap → Prop} {d : DefRec} {K : Params → PySem.W.Frag} (hn : l.most = some 63) (hdf : d.params.defaults = [])
    (hY : ∀ (w : World) (h : Heap), YP w h → (K w.params).In h)
    (F : ∀ (w : World) (mg : Str → Option Value) (fa : Addr) (h : Heap), (K w.params).In h → h.Ns mainGlobals mg → mg d.name = some (.ref fa) →
      ∃ fd : FuncData, (∀ (s : Shared) (u : Value), BindsTo s fd ⟨[u], []⟩ [("_law_script", u)]) ∧ ∀ base : Heap, (K w.params).In base → base.Ns mainGlobals mg → FnOk l.prog w (K w.params) mg base CX0 9 fa fd ["_law_script"] (spLaw (K w.params))) :
    PySem.W.WalkO q loose XP YP l.row.toRowW d [] (fun f vs => PySem.call f vs) :=
  L2.walk_of (n := 63) (k := 9) (x := "_law_script") (CX := fun _ => CX0) (sp := fun w => spLaw (K w.params)) hn (by decide) hdf ⟨rfl, by decide, by decide⟩ hY F (fun _ _ a ns hl _ hS => ⟨a, ns, rfl, hS, hl, fun _ => rfl⟩) fun _ _ _ _ _ z => z
end K1
def PySem.W.Fast.tw9233283211304155844 : Unit := ()
def PySem.W.Fast.tw13347372390015707789 : Unit := ()
def PySem.W.Fast.tw7132077644613181820 : Unit := ()
def PySem.W.Fast.tw4759485651794343980 : Unit := ()
def PySem.W.Fast.tw2576519757296516777 : Unit := ()
def PySem.W.Fast.tw5294684885707924589 : Unit := ()
def PySem.W.Fast.tw3729284188120714284 : Unit := ()
def PySem.W.Fast.tw11907497989248114766 : Unit := ()
def PySem.W.Fast.tw10561033490549313574 : Unit := ()
def PySem.W.Fast.tw2602078188562670904 : Unit := ()
def PySem.W.Fast.tw8751114629718252022 : Unit := ()
def PySem.W.Fast.tw12533386518505185489 : Unit := ()
def PySem.W.Fast.tw10576074217398868930 : Unit := ()
def PySem.W.Fast.tw7027428428967306677 : Unit := ()
def PySem.W.Fast.tw14404014293804057786 : Unit := ()
def PySem.W.Fast.tw10637810465682143011 : Unit := ()
def PySem.W.Fast.tw4341075438053632756 : Unit := ()
def PySem.W.Fast.tw11156942878909714268 : Unit := ()
def PySem.W.Fast.tw14929325198289399753 : Unit := ()
def PySem.W.Fast.tw9778847670035333415 : Unit := ()
def PySem.W.Fast.tw6766630271497660493 : Unit := ()
def PySem.W.Fast.tw13779773384588661277 : Unit := ()
def PySem.W.Fast.tw5064324077997510416 : Unit := ()
def PySem.W.Fast.tw15403971181134338007 : Unit := ()
open PySem PySem.W PyProof.Rows
set_option maxRecDepth 100000 in
set_option maxHeartbeats 0 in
theorem PySem.Challenge.cw_keeplog_k42_standing_holds : PySem.Challenge.rw_keeplog_k42_standing.Holds := by
  w_on; o_law; k_head; (case hw => w_witness2)
  k_fill
  refine K1.walk (l := PySem.Challenge.rw_keeplog_k42_standing) rfl rfl (fun w h Y => PySem.W.kIn_of Y) ?F
  case F =>
    intro w mg fa h KX G hmg
    refine' K1.all_mk KX G hmg ?a0 ?l0 ?c0 ?k0 ?a1 ?l1 ?c1 ?k1 ?a2 ?l2 ?c2 ?k2 ?a3 ?l3 ?c3 ?k3 ?a4 ?l4 ?c4 ?k4 ?a5 ?l5 ?c5 ?k5 ?a6 ?l6 ?c6 ?k6 ?a7 ?l7 ?c7 ?k7 ?a8 ?l8 ?c8 ?k8 ?a9 ?l9 ?c9 ?k9 ?a10 ?l10 ?c10 ?k10 ?a11 ?l11 ?c11 ?k11 ?a12 ?l12 ?c12 ?k12 ?a13 ?l13 ?c13 ?k13 ?a14 ?l14 ?c14 ?k14 ?a15 ?l15 ?c15 ?k15 ?a24 ?l24 ?c24 ?k24 ?a25 ?l25 ?c25 ?k25 ?a26 ?l26 ?c26 ?k26 ?a27 ?l27 ?c27 ?k27 ?a28 ?l28 ?c28 ?k28 ?a30 ?l30 ?c30 ?k30 ?a31 ?l31 ?c31 ?k31 ?a32 ?l32 ?c32 ?k32 ?a33 ?l33 ?c33 ?k33 ?a34 ?l34 ?c34 ?k34 ?a35 ?l35 ?c35 ?k35 ?a36 ?l36 ?c36 ?k36 ?a37 ?l37 ?c37 ?k37 ?a38 ?l38 ?c38 ?k38 ?a39 ?l39 ?c39 ?k39 ?a40 ?l40 ?c40 ?k40 ?a41 ?l41 ?c41 ?k41 ?a42 ?l42 ?c42 ?k42 ?a43 ?l43 ?c43 ?k43 ?a44 ?l44 ?c44 ?k44 ?a45 ?l45 ?c45 ?k45 ?a46 ?l46 ?c46 ?k46 ?a47 ?l47 ?c47 ?k47 ?a48 ?l48 ?c48 ?k48 ?a49 ?l49 ?c49 ?k49 ?a50 ?l50 ?c50 ?k50 ?a51 ?l51 ?c51 ?k51 ?a52 ?l52 ?c52 ?k52 ?a53 ?l53 ?c53 ?k53 ?a54 ?l54 ?c54 ?k54 ?a55 ?l55 ?c55 ?k55 ?a56 ?l56 ?c56 ?k56 ?a57 ?l57 ?c57 ?k57 ?nN0 ?aC0 ?ga0 ?gi0 ?gl0 ?gc0 ?gk0 ?ga1 ?gi1 ?gl1 ?gc1 ?gk1 ?ga2 ?gi2 ?gl2 ?gc2 ?gk2 ?ga3 ?gi3 ?gl3 ?gc3 ?gk3 ?ga4 ?gi4 ?gl4 ?gc4 ?gk4 ?pg0 ?hd0 ?po0 ?sa0 ?mk0 ?kc0 ?n0_number ?n0_term ?n0_voice ?n0_head ?n0_way ?n0_pack ?n0_row ?n0_store ?n0_nexts ?n0_held ?n0_agreed ?n0_voices ?n0_waits ?z0 ?z1 ?z2 ?z3 ?z4 ?z5 ?z6 ?z7 ?z8 ?z9 ?z10 ?z11 ?z12 ?z13 ?z14 ?z15 ?z16
    (case a0 => k_is)
    (case l0 => k_is)
    (case c0 => k_is)
    (case k0 => k_is)
    (case a1 => k_is)
    (case l1 => k_is)
    (case c1 => k_is)
    (case k1 => k_is)
    (case a2 => k_is)
    (case l2 => k_is)
    (case c2 => k_is)
    (case k2 => k_is)
    (case a3 => k_is)
    (case l3 => k_is)
    (case c3 => k_is)
    (case k3 => k_is)
    (case a4 => k_is)
    (case l4 => k_is)
    (case c4 => k_is)
    (case k4 => k_is)
    (case a5 => k_is)
    (case l5 => k_is)
    (case c5 => k_is)
    (case k5 => k_is)
    (case a6 => k_is)
    (case l6 => k_is)
    (case c6 => k_is)
    (case k6 => k_is)
    (case a7 => k_is)
    (case l7 => k_is)
    (case c7 => k_is)
    (case k7 => k_is)
    (case a8 => k_is)
    (case l8 => k_is)
    (case c8 => k_is)
    (case k8 => k_is)
    (case a9 => k_is)
    (case l9 => k_is)
    (case c9 => k_is)
    (case k9 => k_is)
    (case a10 => k_is)
    (case l10 => k_is)
    (case c10 => k_is)
    (case k10 => k_is)
    (case a11 => k_is)
    (case l11 => k_is)
    (case c11 => k_is)
    (case k11 => k_is)
    (case a12 => k_is)
    (case l12 => k_is)
    (case c12 => k_is)
    (case k12 => k_is)
    (case a13 => k_is)
    (case l13 => k_is)
    (case c13 => k_is)
    (case k13 => k_is)
    (case a14 => k_is)
    (case l14 => k_is)
    (case c14 => k_is)
    (case k14 => k_is)
    (case a15 => k_is)
    (case l15 => k_is)
    (case c15 => k_is)
    (case k15 => k_is)
    (case a24 => k_is)
    (case l24 => k_is)
    (case c24 => k_is)
    (case k24 => k_is)
    (case a25 => k_is)
    (case l25 => k_is)
    (case c25 => k_is)
    (case k25 => k_is)
    (case a26 => k_is)
    (case l26 => k_is)
    (case c26 => k_is)
    (case k26 => k_is)
    (case a27 => k_is)
    (case l27 => k_is)
    (case c27 => k_is)
    (case k27 => k_is)
    (case a28 => k_is)
    (case l28 => k_is)
    (case c28 => k_is)
    (case k28 => k_is)
    (case a30 => k_is)
    (case l30 => k_is)
    (case c30 => k_is)
    (case k30 => k_is)
    (case a31 => k_is)
    (case l31 => k_is)
    (case c31 => k_is)
    (case k31 => k_is)
    (case a32 => k_is)
    (case l32 => k_is)
    (case c32 => k_is)
    (case k32 => k_is)
    (case a33 => k_is)
    (case l33 => k_is)
    (case c33 => k_is)
    (case k33 => k_is)
    (case a34 => k_is)
    (case l34 => k_is)
    (case c34 => k_is)
    (case k34 => k_is)
    (case a35 => k_is)
    (case l35 => k_is)
    (case c35 => k_is)
    (case k35 => k_is)
    (case a36 => k_is)
    (case l36 => k_is)
    (case c36 => k_is)
    (case k36 => k_is)
    (case a37 => k_is)
    (case l37 => k_is)
    (case c37 => k_is)
    (case k37 => k_is)
    (case a38 => k_is)
    (case l38 => k_is)
    (case c38 => k_is)
    (case k38 => k_is)
    (case a39 => k_is)
    (case l39 => k_is)
    (case c39 => k_is)
    (case k39 => k_is)
    (case a40 => k_is)
    (case l40 => k_is)
    (case c40 => k_is)
    (case k40 => k_is)
    (case a41 => k_is)
    (case l41 => k_is)
    (case c41 => k_is)
    (case k41 => k_is)
    (case a42 => k_is)
    (case l42 => k_is)
    (case c42 => k_is)
    (case k42 => k_is)
    (case a43 => k_is)
    (case l43 => k_is)
    (case c43 => k_is)
    (case k43 => k_is)
    (case a44 => k_is)
    (case l44 => k_is)
    (case c44 => k_is)
    (case k44 => k_is)
    (case a45 => k_is)
    (case l45 => k_is)
    (case c45 => k_is)
    (case k45 => k_is)
    (case a46 => k_is)
    (case l46 => k_is)
    (case c46 => k_is)
    (case k46 => k_is)
    (case a47 => k_is)
    (case l47 => k_is)
    (case c47 => k_is)
    (case k47 => k_is)
    (case a48 => k_is)
    (case l48 => k_is)
    (case c48 => k_is)
    (case k48 => k_is)
    (case a49 => k_is)
    (case l49 => k_is)
    (case c49 => k_is)
    (case k49 => k_is)
    (case a50 => k_is)
    (case l50 => k_is)
    (case c50 => k_is)
    (case k50 => k_is)
    (case a51 => k_is)
    (case l51 => k_is)
    (case c51 => k_is)
    (case k51 => k_is)
    (case a52 => k_is)
    (case l52 => k_is)
    (case c52 => k_is)
    (case k52 => k_is)
    (case a53 => k_is)
    (case l53 => k_is)
    (case c53 => k_is)
    (case k53 => k_is)
    (case a54 => k_is)
    (case l54 => k_is)
    (case c54 => k_is)
    (case k54 => k_is)
    (case a55 => k_is)
    (case l55 => k_is)
    (case c55 => k_is)
    (case k55 => k_is)
    (case a56 => k_is)
    (case l56 => k_is)
    (case c56 => k_is)
    (case k56 => k_is)
    (case a57 => k_is)
    (case l57 => k_is)
    (case c57 => k_is)
    (case k57 => k_is)
    (case nN0 => k_is)
    (case aC0 => k_is)
    (case ga0 => k_is)
    (case gi0 => k_is)
    (case gl0 => k_is)
    (case gc0 => k_is)
    (case gk0 => k_is)
    (case ga1 => k_is)
    (case gi1 => k_is)
    (case gl1 => k_is)
    (case gc1 => k_is)
    (case gk1 => k_is)
    (case ga2 => k_is)
    (case gi2 => k_is)
    (case gl2 => k_is)
    (case gc2 => k_is)
    (case gk2 => k_is)
    (case ga3 => k_is)
    (case gi3 => k_is)
    (case gl3 => k_is)
    (case gc3 => k_is)
    (case gk3 => k_is)
    (case ga4 => k_is)
    (case gi4 => k_is)
    (case gl4 => k_is)
    (case gc4 => k_is)
    (case gk4 => k_is)
    (case pg0 => k_is)
    (case hd0 => k_is)
    (case po0 => k_is)
    (case sa0 => k_is)
    (case mk0 => k_is)
    (case kc0 => k_is)
    (case n0_number => k_is)
    (case n0_term => k_is)
    (case n0_voice => k_is)
    (case n0_head => k_is)
    (case n0_way => k_is)
    (case n0_pack => k_is)
    (case n0_row => k_is)
    (case n0_store => k_is)
    (case n0_nexts => k_is)
    (case n0_held => k_is)
    (case n0_agreed => k_is)
    (case n0_voices => k_is)
    (case n0_waits => k_is)
    (case z0 => k_is)
    (case z1 => k_is)
    (case z2 => k_is)
    (case z3 => k_is)
    (case z4 => k_is)
    (case z5 => k_is)
    (case z6 => k_is)
    (case z7 => k_is)
    (case z8 => k_is)
    (case z9 => k_is)
    (case z10 => k_is)
    (case z11 => k_is)
    (case z12 => k_is)
    (case z13 => k_is)
    (case z14 => k_is)
    (case z15 => k_is)
    (case z16 => k_is)
