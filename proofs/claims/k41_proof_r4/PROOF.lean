import PyProof.Rows.All
import Wide.All
import OpenK.AllK
import Wide.FinOn
import Lean
import PyProof.EqAt
import PyProof.EqKinds
import PyProof.TupleCall
import PySem.Challenge.RW_keeplog_k41_voices_given
set_option Elab.async false
set_option linter.all false
set_option maxRecDepth 100000
/-! THE HAND LAYER, for ints, bools, texts, own classes, LISTS and tuples (index, slices, in, append, pop ..), calls, loops. Paste it whole ahead of your own text; what your proof does not reach may be deleted. -/
namespace L2
open PySem PySem.Spec PyProof.Rows

/-- a key: an int or a str -/
abbrev Key := Sum Int Str
def keyIs : Key → Value → Bool
  | .inl k, v => Value.isInt k v
  | .inr x, v => Value.isStrOf x v
def keyH (w : World) : Key → Int
  | .inl k => hashInt k
  | .inr x => hashStr w x
theorem keyIs_shape : ∀ {k : Key} {v : Value}, keyIs k v = true → (∃ i t, k = Sum.inl i ∧ v = Value.int i t) ∨ (∃ x t, k = Sum.inr x ∧ v = Value.str x t)
  | .inl i, v, h => by
    obtain ⟨t, e⟩ := Value.isInt_shape (k := i) (v := v) h
    exact .inl ⟨i, t, rfl, e⟩
  | .inr x, v, h => by
    obtain ⟨t, e⟩ := Value.isStrOf_shape (x := x) (v := v) h
    exact .inr ⟨x, t, rfl, e⟩
theorem key_ll (a b : Int) : decide ((Sum.inl a : Key) = Sum.inl b) = (a == b) := by
  by_cases e : a = b
  · subst e; simp
  · have h : ¬ (Sum.inl a : Key) = Sum.inl b := fun q => e (Sum.inl.inj q)
    rw [decide_eq_false h]
    exact (beq_eq_false_iff_ne.mpr e).symm
theorem key_rr (a b : Str) : decide ((Sum.inr a : Key) = Sum.inr b) = decide (a = b) := by
  by_cases e : a = b
  · subst e; simp
  · have h : ¬ (Sum.inr a : Key) = Sum.inr b := fun q => e (Sum.inr.inj q)
    rw [decide_eq_false h, decide_eq_false e]
theorem key_lr (a : Int) (b : Str) : decide ((Sum.inl a : Key) = Sum.inr b) = false := decide_eq_false (fun q => nomatch q)
theorem key_rl (a : Str) (b : Int) : decide ((Sum.inr a : Key) = Sum.inl b) = false := decide_eq_false (fun q => nomatch q)

def mixKind (prog : Program) (w : World) : PySem.KeyKind prog w Key where
  is := keyIs
  hash := keyH w
  inj := fun v a b ha hb => by
    rcases keyIs_shape ha with ⟨i, t, rfl, rfl⟩ | ⟨x, t, rfl, rfl⟩
    · rcases keyIs_shape hb with ⟨j, u, rfl, e⟩ | ⟨y, u, rfl, e⟩
      · injection e with e1 _; rw [e1]
      · exact nomatch e
    · rcases keyIs_shape hb with ⟨j, u, rfl, e⟩ | ⟨y, u, rfl, e⟩
      · exact nomatch e
      · injection e with e1 _; rw [e1]
  byValue := fun k v h => by
    rcases keyIs_shape h with ⟨i, t, rfl, rfl⟩ | ⟨x, t, rfl, rfl⟩ <;> rfl
  pyHash := fun hv h => by
    rcases keyIs_shape hv with ⟨i, t, rfl, rfl⟩ | ⟨x, t, rfl, rfl⟩
    · exact wpAny_pyHash_int h
    · exact wpAny_pyHash_str h
  eqBool := fun hu hv h => by
    rcases keyIs_shape hu with ⟨i, t, rfl, rfl⟩ | ⟨x, t, rfl, rfl⟩
    · rcases keyIs_shape hv with ⟨j, u, rfl, rfl⟩ | ⟨y, u, rfl, rfl⟩
      · rw [key_ll] at h; exact wpAny_eqBool_int h
      · rw [key_lr] at h; exact SeqAt.EqAt.int_str i t y u _ _ _ _ h
    · rcases keyIs_shape hv with ⟨j, u, rfl, rfl⟩ | ⟨y, u, rfl, rfl⟩
      · rw [key_rl] at h; exact SeqAt.EqAt.str_int x t j u _ _ _ _ h
      · rw [key_rr] at h; exact wpAny_eqBool_str h
  «strs» := fun k x t v h => by
    rcases keyIs_shape h with ⟨i, u, rfl, e⟩ | ⟨y, u, rfl, e⟩
    · exact nomatch e
    · injection e with e1 _
      subst e1
      cases v <;> rfl

end L2

namespace L2
open PySem PySem.Spec PyProof.Rows

/-- a value, without the heap -/
inductive V where
  | non | bl (b : Bool) | int (i : Int) | str (x : Str) | byt (b : Array UInt8) | flt (b : UInt64) | ref (a : Addr) | ty (n : String)
  deriving DecidableEq

def RelV : V → Value → Prop
  | .non, u => u = Value.none
  | .bl b, u => u = Value.bool b
  | .int i, u => ∃ t, u = Value.int i t
  | .str x, u => ∃ t, u = Value.str x t
  | .byt b, u => ∃ t, u = Value.bytes b t
  | .flt b, u => ∃ t, u = Value.float b t
  | .ref a, u => u = Value.ref a
  | .ty n, u => u = Value.type n

abbrev Vals : List V → List Value → Prop := Paired RelV
theorem Vals.length {xs : List V} {us : List Value} (r : Vals xs us) : xs.length = us.length := Paired.length r
theorem Vals.get : ∀ {xs : List V} {us : List Value} {i : Nat} {x : V}, Vals xs us → xs[i]? = some x → ∃ u, us[i]? = some u ∧ RelV x u
  | _, _, _, _, .nil, e => by simp at e
  | _, _, 0, _, .cons r _, e => by simp at e; subst e; exact ⟨_, rfl, r⟩
  | _, _, i + 1, x, .cons _ t, e => by
    obtain ⟨u, h1, h2⟩ := Vals.get (i := i) (x := x) t (by simpa using e)
    exact ⟨u, by simpa using h1, h2⟩
theorem Vals.set {x : V} {u : Value} (r : RelV x u) : ∀ {xs : List V} {us : List Value} (i : Nat), Vals xs us → Vals (xs.set i x) (us.set i u)
  | _, _, _, .nil => .nil
  | _, _, 0, .cons _ t => .cons r t
  | _, _, i + 1, .cons q t => .cons q (Vals.set r i t)
theorem Vals.append : ∀ {xs ys : List V} {us ws : List Value}, Vals xs us → Vals ys ws → Vals (xs ++ ys) (us ++ ws)
  | _, _, _, _, .nil, s => s
  | _, _, _, _, .cons r t, s => .cons r (Vals.append t s)
theorem Vals.take : ∀ {xs : List V} {us : List Value} (n : Nat), Vals xs us → Vals (xs.take n) (us.take n)
  | _, _, 0, _ => .nil
  | _, _, _ + 1, .nil => .nil
  | _, _, n + 1, .cons r t => .cons r (Vals.take n t)
theorem Vals.drop : ∀ {xs : List V} {us : List Value} (n : Nat), Vals xs us → Vals (xs.drop n) (us.drop n)
  | _, _, 0, r => r
  | _, _, _ + 1, .nil => .nil
  | _, _, n + 1, .cons _ t => Vals.drop n t
theorem Vals.none_of : ∀ {xs : List V} {us : List Value} {i : Nat}, Vals xs us → xs[i]? = none → us[i]? = none := fun {xs us i} r e => by
  have h1 := r.length
  have h2 : xs.length ≤ i := List.getElem?_eq_none_iff.mp e
  exact List.getElem?_eq_none_iff.mpr (by omega)

def RelO : Option V → Option Value → Prop
  | some v, some u => RelV v u
  | none, none => True
  | _, _ => False
def KV {κ : Type} : List (κ × V) → List (κ × Value) → Prop := Paired fun (p : κ × V) (q : κ × Value) => p.1 = q.1 ∧ RelV p.2 q.2

/-- a key of a dict (00_mix): an int or a text -/
def kV : Key → V
  | .inl i => .int i
  | .inr x => .str x

/-- what stands at a tracked address -/
inductive HO where
  /-- a list -/
  | lst (xs : List V)
  /-- a tuple (never changes) -/
  | tup (xs : List V)
  /-- a dict whose keys are ints and texts; one whose keys are tuples of ints and texts (the empty one is both) -/
  | dK (kvs : List (Key × V)) | dT (kvs : List (List Key × V))
  /-- a set of ints: its members, its size -/
  | set (S : Int → Bool) (n : Nat)
  /-- an instance of the class at C, its dict at dx, its attributes -/
  | ins (C dx : Addr) (fs : List (Str × V))
  /-- the dict of the instance at x -/
  | own (x : Addr)
  /-- the dict of an exception -/
  | xd (fs : List (Str × V))
  /-- a bound method, f of x -/
  | met (f x : Addr)
  /-- a range object lo, lo + 1, .. below hi -/
  | rng (lo hi : Int)
  /-- a thing that is known to the object (the script; a dict while a loop walks it): read, never written while it is so -/
  | frz (o : Obj) (u : HO)
  /-- a code object's table -/
  | tbl (ps : Array Value)
  /-- any other thing, by what is true of its one object (a def of one's own: SetO a S n := HO.ext fun h => ..) -/
  | ext (φ : Heap → Prop)

abbrev Hp := Addr → Option HO
def upd (H : Hp) (a : Addr) (o : HO) : Hp := fun b => if b = a then some o else H b
theorem upd_same {H : Hp} {a : Addr} {o : HO} : upd H a o a = some o := by unfold upd; rw [if_pos rfl]
theorem upd_ne {H : Hp} {a b : Addr} {o : HO} (h : b ≠ a) : upd H a o b = H b := by unfold upd; rw [if_neg h]
theorem ne_of_none {H : Hp} {a b : Addr} {o : HO} (h : H a = some o) (h' : H b = none) : a ≠ b := by
  intro e; subst e; rw [h] at h'; cases h'

section
variable (P : Program) (w : World)
def ObjOk (H : Hp) (h : Heap) (a : Addr) : HO → Prop
  | .lst xs => xs.length ≤ sizeLine ∧ ∃ (its : List Value) (n : Nat), Vals xs its ∧ h.get? a = some { cls := .type "list", data := .seq its.toArray n }
  | .tup xs => xs.length ≤ sizeLine ∧ ∃ its : List Value, Vals xs its ∧ IsTup h a its.toArray
  | .dK kvs => kvs.length ≤ sizeLine ∧ (a == sysModules) = false ∧ ∃ vs, KV kvs vs ∧ h.DictOf (mixKind P w) a vs
  | .dT kvs => kvs.length ≤ sizeLine ∧ (a == sysModules) = false ∧ ∃ xs : List (List Key × Addr × Value),
      Paired (fun (p : List Key × V) (q : List Key × Addr × Value) => p.1 = q.1 ∧ H q.2.1 = some (.tup (p.1.map kV)) ∧ RelV p.2 q.2.2) kvs xs ∧
      ∃ o es ep, h.get? a = some o ∧ o.ExactDict ∧ o.data = .dict es ep ∧ es.toList = xs.map (entryOfKey (tupleKind (mixKind P w))) ∧ (xs.map (·.1)).Nodup
  | .set S n => h.SetOf (intKind P w) a S n
  | .ins C dx fs => H dx = some (.own a) ∧ fs.length ≤ 1000 ∧ dx ≠ a ∧ h.get? a = some (PySem.W.instObj C dx) ∧
      ∃ mA, h.Ns1 dx mA ∧ (∀ f, RelO (fs.lookup f) (mA f)) ∧ PySem.Within mA (fs.map (·.1))
  | .own _ => ∃ o, h.get? a = some o
  | .xd fs => ∃ mA, h.Ns1 a mA ∧ ∀ f, RelO (fs.lookup f) (mA f)
  | .rng lo hi => ∃ t u v, h.get? a = some { cls := .type "range", data := .fields #[.int lo t, .int hi u, .int 1 v] }
  | .frz o u => h.get? a = some o ∧ ObjOk H h a u
  | .tbl ps => h.get? a = some { cls := .none, data := .fields ps }
  | .met f x => h.get? a = some (PySem.W.methodObj (.ref f) (.ref x))
  | .ext φ => φ h ∧ (∃ o, h.get? a = some o) ∧ ∀ h1 h2 : Heap, φ h1 → (∀ o, h1.get? a = some o → h2.get? a = some o) → φ h2
/-- the abstract heap is held -/
def HOk (H : Hp) (h : Heap) : Prop := ∀ a o, H a = some o → ObjOk P w H h a o
end

section
variable {P : Program} {w : World} {H H' : Hp} {h h' : Heap} {a : Addr} {o : HO}
theorem ObjOk.lt (x : ObjOk P w H h a o) : a < h.objs.size := by
  cases o with
  | lst xs => obtain ⟨_, _, _, _, e⟩ := x; exact Heap.lt_size e
  | tup xs => obtain ⟨_, _, _, p⟩ := x; exact p.lt
  | dK kvs => obtain ⟨_, _, _, _, o, _, _, e, _⟩ := x; exact Heap.lt_size e
  | dT kvs => obtain ⟨_, _, _, _, o, _, _, e, _⟩ := x; exact Heap.lt_size e
  | set S n => obtain ⟨o, _, _, _, e, _⟩ := x; exact Heap.lt_size e
  | ins C dx fs => obtain ⟨_, _, _, e, _⟩ := x; exact Heap.lt_size e
  | own y => obtain ⟨_, e⟩ := x; exact Heap.lt_size e
  | xd fs => obtain ⟨_, ⟨_, _, _, e, _⟩, _⟩ := x; exact Heap.lt_size e
  | rng lo hi => obtain ⟨_, _, _, e⟩ := x; exact Heap.lt_size e
  | frz ob u => obtain ⟨e, _⟩ := x; exact Heap.lt_size e
  | tbl ps => exact Heap.lt_size (show h.get? a = some _ from x)
  | met f y => exact Heap.lt_size (show h.get? a = some _ from x)
  | ext φ => obtain ⟨_, ⟨_, e⟩, _⟩ := x; exact Heap.lt_size e
theorem Paired.mapP {α β : Type} {F G : α → β → Prop} : ∀ {l₁ : List α} {l₂ : List β}, Paired F l₁ l₂ → (∀ a b, F a b → G a b) → Paired G l₁ l₂
  | _, _, .nil, _ => .nil
  | _, _, .cons r t, f => .cons (f _ _ r) (Paired.mapP t f)
/-- what an object's description leans on: its own object, its own dict, the tuples -/
theorem ObjOk.stay (x : ObjOk P w H h a o) (k : ∀ b u, (b = a ∨ H b = some (.own a)) → h.get? b = some u → h'.get? b = some u)
    (ho : ∀ b, H b = some (.own a) → H' b = some (.own a)) (ht : ∀ b xs, H b = some (.tup xs) → H' b = some (.tup xs)) : ObjOk P w H' h' a o := by
  induction o with
  | lst xs => obtain ⟨z, its, n, r, e⟩ := x; exact ⟨z, its, n, r, k _ _ (.inl rfl) e⟩
  | tup xs => obtain ⟨z, its, r, ob, e, c⟩ := x; exact ⟨z, its, r, ob, k _ _ (.inl rfl) e, c⟩
  | dK kvs => obtain ⟨z, y, vs, r, ob, es, ep, e, c⟩ := x; exact ⟨z, y, vs, r, ob, es, ep, k _ _ (.inl rfl) e, c⟩
  | dT kvs =>
    obtain ⟨z, y, xs, r, ob, es, ep, e, c⟩ := x
    exact ⟨z, y, xs, Paired.mapP r fun p q z => ⟨z.1, ht _ _ z.2.1, z.2.2⟩, ob, es, ep, k _ _ (.inl rfl) e, c⟩
  | set S n => obtain ⟨ob, es, ep, t, e, c⟩ := x; exact ⟨ob, es, ep, t, k _ _ (.inl rfl) e, c⟩
  | ins C dx fs =>
    obtain ⟨d, z, ne, e, mA, ⟨od, es, ep, e2, c⟩, r⟩ := x
    exact ⟨ho _ d, z, ne, k _ _ (.inl rfl) e, mA, ⟨od, es, ep, k _ _ (.inr d) e2, c⟩, r⟩
  | own y => obtain ⟨ob, e⟩ := x; exact ⟨ob, k _ _ (.inl rfl) e⟩
  | xd fs => obtain ⟨mA, ⟨od, es, ep, e, c⟩, r⟩ := x; exact ⟨mA, ⟨od, es, ep, k _ _ (.inl rfl) e, c⟩, r⟩
  | rng lo hi => obtain ⟨t, u, v, e⟩ := x; exact ⟨t, u, v, k _ _ (.inl rfl) e⟩
  | frz ob u ih => obtain ⟨e, q⟩ := x; exact ⟨k _ _ (.inl rfl) e, ih q⟩
  | tbl ps =>
    have e : h.get? a = some { cls := .none, data := .fields ps } := x
    show h'.get? a = some { cls := .none, data := .fields ps }
    exact k a _ (.inl rfl) e
  | met f y =>
    have e : h.get? a = some (PySem.W.methodObj (.ref f) (.ref y)) := x
    show h'.get? a = some (PySem.W.methodObj (.ref f) (.ref y))
    exact k a _ (.inl rfl) e
  | ext φ => obtain ⟨p, ⟨o, e⟩, st⟩ := x; exact ⟨st _ _ p fun o q => k _ _ (.inl rfl) q, ⟨o, k _ _ (.inl rfl) e⟩, st⟩
theorem HOk.lt (x : HOk P w H h) (e : H a = some o) : a < h.objs.size := (x a o e).lt
theorem HOk.fresh (x : HOk P w H h) (e : h.objs.size ≤ a) : H a = none := by
  cases q : H a with
  | none => rfl
  | some u => exact absurd (Nat.lt_of_lt_of_le (x.lt q) e) (Nat.lt_irrefl _)
/-- every object of the heap is kept -/
theorem HOk.kept (x : HOk P w H h) (k : ∀ b u, h.get? b = some u → h'.get? b = some u) : HOk P w H h' := fun a o e =>
  (x a o e).stay (fun b u _ q => k b u q) (fun _ q => q) fun _ _ q => q
/-- a new object is laid and tracked -/
theorem HOk.laid (x : HOk P w H h) (k : ∀ b u, h.get? b = some u → h'.get? b = some u) (hp : h.objs.size ≤ a) (new : ObjOk P w (upd H a o) h' a o) : HOk P w (upd H a o) h' := fun b u e => by
  have hn := x.fresh hp
  by_cases hb : b = a
  · subst hb; rw [upd_same] at e; cases e; exact new
  · rw [upd_ne hb] at e
    exact (x b u e).stay (fun c v _ q => k c v q) (fun c q => by rw [upd_ne (ne_of_none q hn)]; exact q) fun c xs q => by rw [upd_ne (ne_of_none q hn)]; exact q
end

/-- what may be read as u: it is u, or a known u -/
def Rd (H : Hp) (a : Addr) (u : HO) : Prop := H a = some u ∨ ∃ o, H a = some (.frz o u)
theorem Rd.of {H : Hp} {a : Addr} {u : HO} (h : H a = some u) : Rd H a u := .inl h
theorem Rd.ok {P : Program} {w : World} {H : Hp} {h : Heap} {a : Addr} {u : HO} (r : Rd H a u) (x : HOk P w H h) : ObjOk P w H h a u := by
  rcases r with r | ⟨o, r⟩
  · exact x a u r
  · obtain ⟨_, q⟩ := x a _ r
    exact q
/-- what may be written -/
def Mut : Option HO → Prop
  | some (.lst _) => True
  | some (.dK _) => True
  | some (.dT _) => True
  | some (.set _ _) => True
  | some (.ins _ _ _) => True
  | some (.ext _) => True
  | _ => False
section
variable {P : Program} {w : World} {H : Hp} {h h' : Heap} {x e : Addr} {o' : HO}
/-- the object at e is changed: x itself, or the dict of the instance x -/
theorem HOk.write (ok : HOk P w H h) (mu : Mut (H x)) (he : e = x ∨ H e = some (.own x)) (k : ∀ b u, b ≠ e → h.get? b = some u → h'.get? b = some u) (heo : ∃ u, h'.get? e = some u)
    (new : ObjOk P w (upd H x o') h' x o') : HOk P w (upd H x o') h' := fun b u q => by
  have nown : ∀ c y, H c = some (.own y) → c ≠ x := fun c y r z => by subst z; rw [r] at mu; exact mu
  have ntup : ∀ c xs, H c = some (.tup xs) → c ≠ x := fun c xs r z => by subst z; rw [r] at mu; exact mu
  by_cases hb : b = x
  · subst hb; rw [upd_same] at q; cases q; exact new
  · rw [upd_ne hb] at q
    by_cases hbe : b = e
    · have q' : H b = some (.own x) := by
        rcases he with z | z
        · exact absurd (hbe.trans z) hb
        · rw [hbe]; exact z
      rw [q] at q'; cases q'
      obtain ⟨v, hv⟩ := heo
      exact ⟨v, by rw [hbe]; exact hv⟩
    · refine (ok b u q).stay (fun c v hc r => k c v ?_ r) (fun c r => by rw [upd_ne (nown c b r)]; exact r) fun c xs r => by rw [upd_ne (ntup c xs r)]; exact r
      rcases hc with rfl | hc
      · exact hbe
      · rintro rfl
        rcases he with z | z
        · exact nown c b hc z
        · rw [hc] at z; cases z; exact hb rfl
end

/-! ### kept unless tracked; of the frames at fs (the callers') the slots may change (an exception that passes writes there); of the records at ex (iterators) nothing is said -/
structure Un (fs ex : List Addr) (H H' : Hp) (h h' : Heap) : Prop where
  keep : ∀ b o, h.get? b = some o → H b = none → b ∉ fs → b ∉ ex → h'.get? b = some o
  slot : ∀ b o, h.get? b = some o → H b = none → b ∈ fs → b ∉ ex → ∃ sl, h'.get? b = some { o with slots := sl }
  free : ∀ b o, h.get? b = some o → H b = none → b ∉ ex → H' b = none
  there : ∀ b o, h.get? b = some o → b ∉ ex → ∃ o', h'.get? b = some o'
  tups : ∀ b xs, H b = some (.tup xs) → H' b = some (.tup xs)
  frzs : ∀ b o u, H b = some (.frz o u) → H' b = some (.frz o u)
  tbls : ∀ b ps, H b = some (.tbl ps) → ∃ more, H' b = some (.tbl (ps ++ more))
section
variable {fs fs' ex ex' : List Addr} {H H1 H2 : Hp} {h h1 h2 h' : Heap} {a x e : Addr} {o : HO}
theorem Un.any (u : Un fs ex H H1 h h1) {b : Addr} {ob : Obj} (q : h.get? b = some ob) (n : H b = none) (hx : b ∉ ex) : ∃ sl, h1.get? b = some { ob with slots := sl } := by
  by_cases hb : b ∈ fs
  · exact u.slot b ob q n hb hx
  · exact ⟨ob.slots, u.keep b ob q n hb hx⟩
theorem Un.trans (a : Un fs ex H H1 h h1) (b : Un fs ex H1 H2 h1 h2) : Un fs ex H H2 h h2 where
  keep := fun c ob q n hc hx => b.keep c ob (a.keep c ob q n hc hx) (a.free c ob q n hx) hc hx
  slot := fun c ob q n hc hx => by
    obtain ⟨sl, e1⟩ := a.slot c ob q n hc hx
    obtain ⟨sl', e2⟩ := b.slot c _ e1 (a.free c ob q n hx) hc hx
    exact ⟨sl', e2⟩
  free := fun c ob q n hx => by
    obtain ⟨o', e1⟩ := a.there c ob q hx
    exact b.free c o' e1 (a.free c ob q n hx) hx
  there := fun c ob q hx => by
    obtain ⟨o', e1⟩ := a.there c ob q hx
    exact b.there c o' e1 hx
  tups := fun c xs q => b.tups c xs (a.tups c xs q)
  frzs := fun c ob xs q => b.frzs c ob xs (a.frzs c ob xs q)
  tbls := fun c ps q => by
    obtain ⟨m1, e1⟩ := a.tbls c ps q
    obtain ⟨m2, e2⟩ := b.tbls c _ e1
    exact ⟨m1 ++ m2, by rw [e2, Array.append_assoc]⟩
theorem Un.kept (k : ∀ b u, h.get? b = some u → h'.get? b = some u) : Un fs ex H H h h' :=
  ⟨fun b ob q _ _ _ => k b ob q, fun b ob q _ _ _ => ⟨ob.slots, k b ob q⟩, fun _ _ _ n _ => n, fun b ob q _ => ⟨ob, k b ob q⟩, fun _ _ q => q, fun _ _ _ q => q, fun _ ps q => ⟨#[], by rw [q]; simp⟩⟩
theorem Un.refl : Un fs ex H H h h := Un.kept fun _ _ q => q
theorem Un.laid (k : ∀ b u, h.get? b = some u → h'.get? b = some u) (hp : h.objs.size ≤ a) (hn : H a = none) : Un fs ex H (upd H a o) h h' where
  keep := fun b u q _ _ _ => k b u q
  slot := fun b u q _ _ _ => ⟨u.slots, k b u q⟩
  free := fun b u q n _ => by rw [upd_ne (Nat.ne_of_lt (Nat.lt_of_lt_of_le (Heap.lt_size q) hp))]; exact n
  there := fun b u q _ => ⟨u, k b u q⟩
  tups := fun b xs q => by rw [upd_ne (ne_of_none q hn)]; exact q
  frzs := fun b u xs q => by rw [upd_ne (ne_of_none q hn)]; exact q
  tbls := fun b ps q => ⟨#[], by rw [upd_ne (ne_of_none q hn), q]; simp⟩
theorem Un.write (mu : Mut (H x)) (he : e = x ∨ H e = some (.own x)) (k : ∀ b u, b ≠ e → h.get? b = some u → h'.get? b = some u) (heo : ∃ u, h'.get? e = some u) : Un fs ex H (upd H x o) h h' := by
  have hx : ∀ b, H b = none → b ≠ x := fun b n z => by subst z; rw [n] at mu; exact mu
  have hb : ∀ b, H b = none → b ≠ e := fun b n z => by
    subst z
    rcases he with r | r
    · exact hx b n r
    · rw [n] at r; cases r
  have hm : ∀ b u, H b = some u → ¬ Mut (some u) → b ≠ x := fun b u q nm z => by subst z; rw [q] at mu; exact nm mu
  refine ⟨fun b u q n _ _ => k b u (hb b n) q, fun b u q n _ _ => ⟨u.slots, k b u (hb b n) q⟩, fun b u q n _ => by rw [upd_ne (hx b n)]; exact n, fun b u q _ => ?_,
    fun b xs q => by rw [upd_ne (hm b _ q fun z => z)]; exact q, fun b u xs q => by rw [upd_ne (hm b _ q fun z => z)]; exact q, fun b ps q => ⟨#[], by rw [upd_ne (hm b _ q fun z => z), q]; simp⟩⟩
  by_cases hbe : b = e
  · subst hbe; exact heo
  · exact ⟨u, k b u hbe q⟩
theorem Un.mono (u : Un fs ex H H1 h h1) (hs : ∀ b ∈ fs, b ∈ fs') (hx : ∀ b ∈ ex, b ∈ ex') : Un fs' ex' H H1 h h1 :=
  ⟨fun b ob q n hb he => u.keep b ob q n (fun z => hb (hs b z)) fun z => he (hx b z), fun _ _ q n _ he => u.any q n fun z => he (hx _ z), fun b ob q n he => u.free b ob q n fun z => he (hx b z), fun b ob q he => u.there b ob q fun z => he (hx b z), u.tups, u.frzs, u.tbls⟩
end

/-! ### the heap without what is tracked -/
def trk (h : Heap) (H : Hp) : List Addr := (List.range h.objs.size).filter fun a => (H a).isSome
def hidT (h : Heap) (H : Hp) : Heap := PySem.W.hideAll h (trk h H)
theorem hidT_size (h : Heap) (H : Hp) : (hidT h H).objs.size = h.objs.size := PySem.W.hideAll_size _ _
theorem hidT_get {h : Heap} {H : Hp} {b : Addr} {o : Obj} (e : h.get? b = some o) (n : H b = none) : (hidT h H).get? b = some o :=
  PySem.W.hideAll_get _ e fun hm => by
    have q : (H b).isSome = true := (List.mem_filter.mp hm).2
    rw [n] at q; simp at q
theorem of_hidT {h : Heap} {H : Hp} {b : Addr} {o : Obj} (e : (hidT h H).get? b = some o) : h.get? b = some o ∧ H b = none := by
  have e' : h.get? b = some o := PySem.W.of_hideAll (trk h H) e
  refine ⟨e', ?_⟩
  cases q : H b with
  | none => rfl
  | some x =>
    have hm : b ∈ trk h H := List.mem_filter.mpr ⟨List.mem_range.mpr (Heap.lt_size e'), by simp [q]⟩
    have z : (hidT h H).get? b = none := PySem.W.hideAll_none (trk h H) hm
    rw [z] at e; cases e

/-! ### OpenK's ledger, filled with every new object but one -/
def allNews (g h : Heap) (L : Addr) : List (Addr × Obj) := (List.range h.objs.size).filterMap fun a => if a = L ∨ (g.get? a).isSome = true then none else (h.get? a).map fun o => (a, o)
def rest (g h : Heap) (L d : Addr) : List (Addr × Obj) := (allNews g h L).filter fun p => decide (p.1 ≠ d)
end L2

namespace L2
open PySem PySem.Spec PyProof.Rows

/-- the module's facts, over the base: the heap at the law's entry without what is tracked there -/
structure Mod (K : PySem.W.Frag) (mg : Str → Option Value) (base : Heap) : Prop where
  kin : K.In base
  glob : base.Ns mainGlobals mg
  blt : ∃ mb, base.Ns builtinsNs mb ∧ ∀ x : Str, x ≠ "__name__" → mb x = bootBuiltins x
  nolimit : base.NoLimit

/-- the context: a def's body (or a comprehension's block) running. base: fixed through the whole law; s₀, H₀: the entry; outer: the frames whose slots others may change (a def's callers); stack: all frames that run;
   ex: iterators that were made ahead of the entry and are walked here (a comprehension's); fn: the names whose cells were made at the entry (a def: all; a comprehension's block: its own); calm: not within an except suite; pn: pins that every state bears; xe: what is wanted of an exception that leaves the code -/
structure Cx where
  prog : Program
  w : World
  K : PySem.W.Frag
  mg : Str → Option Value
  base : Heap
  A : Around
  N : List Str
  s₀ : Shared
  H₀ : Hp
  env : Env
  outer : List Env
  stack : List Env
  ex : List Addr
  fn : Str → Bool
  calm : Bool
  pn : List (Addr × Obj)
  xe : Value → Shared → Prop
/-- the callers' frames -/
def frs (l : List Env) : List Addr := l.filterMap (·.frame)
abbrev Cx.fs (X : Cx) : List Addr := frs X.outer

def Vis (sc : Scope) (x : Str) : Prop := sc.names.lookup x = some .local ∨ sc.names.lookup x = some .cell ∨ sc.names.lookup x = some .free
def Loc (sc : Scope) (x : Str) : Prop := sc.names.lookup x = some .local ∨ sc.names.lookup x = some .cell
def Look (env : Env) (h : Heap) (m : Str → Option Value) (x : Str) (u : Value) : Prop :=
  (env.kindOf x = some .local ∧ m x = some u) ∨ ((env.kindOf x = some .cell ∨ env.kindOf x = some .free) ∧ ∃ c, env.cells.lookup x = some c ∧ h.IsCell c (some u))

structure Cx.Ok (X : Cx) : Prop where
  mod : Mod X.K X.mg X.base
  kind : X.env.scope.kind = .function
  glob : X.env.globals = mainGlobals
  blt : X.env.builtins = builtinsNs
  above : X.s₀.heap.objs.size ≤ X.env.locals
  inj : ∀ x y c, X.env.cells.lookup x = some c → X.env.cells.lookup y = some c → x = y
  has : ∀ x, (X.env.kindOf x = some .cell ∨ X.env.kindOf x = some .free) → ∃ c, X.env.cells.lookup x = some c
  cab : ∀ x c, X.fn x = true → X.env.cells.lookup x = some c → X.s₀.heap.objs.size ≤ c
  hd : X.calm = true → X.A.handled = none
  frames : X.A.frames = some X.stack
  stk : X.stack = X.outer ∨ (X.stack = X.env :: X.outer ∧ X.env.frame = some X.env.locals)
  exf : ∀ b ∈ X.ex, b ≠ X.env.locals ∧ ∀ x c, X.env.cells.lookup x = some c → c ≠ b
  bs : ∀ b o, X.base.get? b = some o → X.s₀.heap.get? b = some o ∧ X.H₀ b = none
  bsz : X.base.objs.size ≤ X.s₀.heap.objs.size
  noex : ∀ b o, X.base.get? b = some o → b ∉ X.ex
  exfs : ∀ b ∈ X.ex, b ∉ X.fs
  funs : X.s₀.heap.FunFrames X.base X.outer
  frf : ∀ b ∈ X.fs, X.H₀ b = none

structure Inv (X : Cx) (pins : List (Addr × Obj)) (σ : List (Option V)) (H : Hp) (s : Shared) : Prop where
  ok : X.Ok
  os : s.os = X.s₀.os
  bare : AllBare s.gens
  base : Un X.fs X.ex X.H₀ H X.s₀.heap s.heap
  loc : ∃ m, s.heap.Ns X.env.locals m ∧ ∀ (i : Nat) (x : Str) (v : V), X.N[i]? = some x → σ[i]? = some (some v) → Vis X.env.scope x → ∃ u, RelV v u ∧ Look X.env s.heap m x u
  cell : ∀ x c, X.env.cells.lookup x = some c → ∃ v, s.heap.IsCell c v
  free : H X.env.locals = none
  freeC : ∀ x c, X.env.cells.lookup x = some c → H c = none
  pin : ∀ p ∈ X.pn ++ pins, s.heap.get? p.1 = some p.2 ∧ H p.1 = none ∧ p.1 ≠ X.env.locals ∧ p.1 ∉ X.fs ∧ ∀ v, p.2.data ≠ .cell v
  hok : HOk X.prog X.w H s.heap
  len : σ.length = X.N.length

section
variable {X : Cx} {pins : List (Addr × Obj)} {σ : List (Option V)} {H H' : Hp} {s : Shared} {h' : Heap}

theorem Cx.Ok.nofr (ok : X.Ok) {b : Addr} {o : Obj} (e : X.base.get? b = some o) : b ∉ X.fs := fun hb => by
  have := (ok.funs.mem hb).1
  rw [e] at this; cases this
theorem Inv.bs (I : Inv X pins σ H s) : ∀ b o, X.base.get? b = some o → s.heap.get? b = some o ∧ H b = none := fun b o e =>
  ⟨I.base.keep b o (I.ok.bs b o e).1 (I.ok.bs b o e).2 (I.ok.nofr e) (I.ok.noex b o e), I.base.free b o (I.ok.bs b o e).1 (I.ok.bs b o e).2 (I.ok.noex b o e)⟩
theorem Inv.bk (I : Inv X pins σ H s) : ∀ b o, X.base.get? b = some o → s.heap.get? b = some o := fun b o e => (I.bs b o e).1
theorem Inv.mod (I : Inv X pins σ H s) : Mod X.K X.mg X.base := I.ok.mod
theorem Inv.kIn (I : Inv X pins σ H s) : X.K.In s.heap := I.ok.mod.kin.keeps I.bk
theorem Inv.nolimit (I : Inv X pins σ H s) : s.heap.NoLimit := I.ok.mod.nolimit.keeps I.bk
/-- the frame over the base: for OpenK's rules (K.In X.base is I.mod.kin) -/
theorem Inv.fr (I : Inv X pins σ H s) : ∃ m, Fr X.base X.env.locals s.heap m :=
  let ⟨m, hn, _⟩ := I.loc
  ⟨m, hn, I.bk, Nat.le_trans I.ok.bsz I.ok.above⟩
theorem Inv.lt (I : Inv X pins σ H s) : X.env.locals < s.heap.objs.size := let ⟨_, hn, _⟩ := I.loc; hn.lt
theorem Inv.sz (I : Inv X pins σ H s) : X.s₀.heap.objs.size ≤ s.heap.objs.size := Nat.le_trans I.ok.above (Nat.le_of_lt I.lt)
theorem Inv.nofs (I : Inv X pins σ H s) {a : Addr} (h : s.heap.objs.size ≤ a) : a ∉ X.fs := fun hb => by
  obtain ⟨_, o, ho, _⟩ := I.ok.funs.mem hb
  exact absurd (Nat.lt_of_lt_of_le (Heap.lt_size ho) (Nat.le_trans I.sz h)) (Nat.lt_irrefl _)
theorem Inv.cne (I : Inv X pins σ H s) : ∀ x c, X.env.cells.lookup x = some c → c ≠ X.env.locals := fun x c e z => by
  obtain ⟨v, o, ho, hd⟩ := I.cell x c e
  obtain ⟨m, ⟨o', es, ep, ho', hd', _⟩, _⟩ := I.loc
  rw [z, ho'] at ho; cases ho; rw [hd'] at hd; cases hd
theorem Inv.funs (I : Inv X pins σ H s) : s.heap.FunFrames X.base X.outer := by
  have all : ∀ (l : List Env), (∀ b ∈ frs l, b ∈ X.fs) → X.s₀.heap.FunFrames X.base l → s.heap.FunFrames X.base l := by
    intro l
    induction l with
    | nil => intro _ _; trivial
    | cons env r ih =>
      intro hs hl
      obtain ⟨hk, ⟨L, o, hf, hn, ho, hd⟩, hr⟩ := hl
      have hL : L ∈ X.fs := hs L (by unfold frs; rw [List.filterMap_cons, hf]; exact List.mem_cons_self)
      obtain ⟨sl, e⟩ := I.base.slot L o ho (I.ok.frf L hL) hL fun z => I.ok.exfs L z hL
      exact ⟨hk, ⟨L, _, hf, hn, e, hd⟩, ih (fun b hb => hs b (by unfold frs; rw [List.filterMap_cons, hf]; exact List.mem_cons_of_mem _ hb)) hr⟩
  exact all X.outer (fun _ hb => hb) I.ok.funs

/-- the frames that run, for a call -/
theorem Inv.stack (I : Inv X pins σ H s) : s.heap.FunFrames X.base X.stack := by
  rcases I.ok.stk with e | ⟨e, hf⟩
  · rw [e]; exact I.funs
  · rw [e]
    obtain ⟨m, hn, _⟩ := I.loc
    refine .cons (by rw [I.ok.kind]; decide) hf hn ?_ I.funs
    exact Heap.get?_none_of_le (Nat.le_trans I.ok.bsz I.ok.above)
theorem Inv.stkSub (I : Inv X pins σ H s) : ∀ b ∈ frs X.stack, b ∈ X.env.locals :: X.fs := fun b hb => by
  rcases I.ok.stk with e | ⟨e, hf⟩
  · rw [e] at hb; exact List.mem_cons_of_mem _ hb
  · rw [e] at hb
    unfold frs at hb
    rw [List.filterMap_cons, hf] at hb
    exact hb
theorem Inv.stkFree (I : Inv X pins σ H s) : ∀ b ∈ frs X.stack, H b = none := fun b hb => by
  rcases List.mem_cons.mp (I.stkSub b hb) with e | hb
  · rw [e]; exact I.free
  · obtain ⟨_, o, ho, _⟩ := I.ok.funs.mem hb
    exact I.base.free b o ho (I.ok.frf b hb) fun z => I.ok.exfs b z hb

/-- THE STEP: the untracked objects but the frame and the records at ch are kept (the callers' frames up to slots), the frame's map is kept, the new abstract heap is held -/
theorem Inv.step {g' : Array GenState} {t' : Nat} {d' : Drawn} {ch : List Addr} (I : Inv X pins σ H s)
    (hch : ∀ b ∈ ch, (b ∈ X.ex ∨ X.s₀.heap.objs.size ≤ b) ∧ b ≠ X.env.locals ∧ (∀ x c, X.env.cells.lookup x = some c → c ≠ b) ∧ ∀ p ∈ X.pn ++ pins, p.1 ≠ b)
    (keep : ∀ b o, b ≠ X.env.locals → b ∉ X.fs → b ∉ ch → s.heap.get? b = some o → H b = none → h'.get? b = some o)
    (slot : ∀ b o, b ≠ X.env.locals → b ∈ X.fs → b ∉ ch → s.heap.get? b = some o → H b = none → ∃ sl, h'.get? b = some { o with slots := sl }) (free : ∀ b o, b ∉ ch → s.heap.get? b = some o → H b = none → H' b = none)
    (there : ∀ b o, b ∉ ch → s.heap.get? b = some o → ∃ o', h'.get? b = some o')
    (tups : ∀ b xs, H b = some (.tup xs) → H' b = some (.tup xs)) (frzs : ∀ b o u, H b = some (.frz o u) → H' b = some (.frz o u)) (tbls : ∀ b ps, H b = some (.tbl ps) → ∃ more, H' b = some (.tbl (ps ++ more)))
    (ns : ∀ m, s.heap.Ns X.env.locals m → h'.Ns X.env.locals m) (hok : HOk X.prog X.w H' h') (hg : AllBare g') :
    Inv X pins σ H' { s with heap := h', gens := g', drawn := d', toks := t' } := by
  have neL : ∀ b o, X.s₀.heap.get? b = some o → b ≠ X.env.locals := fun b o e => Nat.ne_of_lt (Nat.lt_of_lt_of_le (Heap.lt_size e) I.ok.above)
  have neC : ∀ b o, X.s₀.heap.get? b = some o → b ∉ X.ex → b ∉ ch := fun b o e hx hb => by
    rcases (hch b hb).1 with z | z
    · exact hx z
    · exact absurd (Nat.lt_of_lt_of_le (Heap.lt_size e) z) (Nat.lt_irrefl _)
  have cellK : ∀ x c, X.env.cells.lookup x = some c → ∀ v, s.heap.IsCell c v → h'.IsCell c v := fun x c e v ⟨o, ho, hd⟩ => by
    have nch : c ∉ ch := fun z => (hch c z).2.2.1 x c e rfl
    by_cases hc : c ∈ X.fs
    · obtain ⟨sl, q⟩ := slot c o (I.cne x c e) hc nch ho (I.freeC x c e)
      exact ⟨_, q, hd⟩
    · exact ⟨o, keep c o (I.cne x c e) hc nch ho (I.freeC x c e), hd⟩
  refine ⟨I.ok, I.os, hg, ⟨fun b o e n hb hx => ?_, fun b o e n hb hx => ?_, fun b o e n hx => ?_, fun b o e hx => ?_, fun b xs e => tups b xs (I.base.tups b xs e), fun b o xs e => frzs b o xs (I.base.frzs b o xs e), fun b ps e => ?_⟩, ?_, fun x c e => ?_, ?_, fun x c e => ?_, fun p hp => ?_, hok, I.len⟩
  · exact keep b o (neL b o e) hb (neC b o e hx) (I.base.keep b o e n hb hx) (I.base.free b o e n hx)
  · obtain ⟨sl, e1⟩ := I.base.slot b o e n hb hx
    obtain ⟨sl', e2⟩ := slot b _ (neL b o e) hb (neC b o e hx) e1 (I.base.free b o e n hx)
    exact ⟨sl', e2⟩
  · obtain ⟨o', e1⟩ := I.base.there b o e hx
    exact free b o' (neC b o e hx) e1 (I.base.free b o e n hx)
  · obtain ⟨o', e1⟩ := I.base.there b o e hx
    exact there b o' (neC b o e hx) e1
  · obtain ⟨m1, e1⟩ := I.base.tbls b ps e
    obtain ⟨m2, e2⟩ := tbls b _ e1
    exact ⟨m1 ++ m2, by rw [e2, Array.append_assoc]⟩
  · obtain ⟨m, hn, hl⟩ := I.loc
    refine ⟨m, ns m hn, fun i x v e1 e2 e3 => ?_⟩
    obtain ⟨u, r, l⟩ := hl i x v e1 e2 e3
    refine ⟨u, r, ?_⟩
    rcases l with l | ⟨k, c, e, z⟩
    · exact .inl l
    · exact .inr ⟨k, c, e, cellK x c e _ z⟩
  · obtain ⟨v, z⟩ := I.cell x c e
    exact ⟨v, cellK x c e v z⟩
  · obtain ⟨m, ⟨o, _, _, ho, _⟩, _⟩ := I.loc
    exact free _ o (fun z => (hch _ z).2.1 rfl) ho I.free
  · obtain ⟨v, o, ho, hd⟩ := I.cell x c e
    exact free c o (fun z => (hch c z).2.2.1 x c e rfl) ho (I.freeC x c e)
  · obtain ⟨e, n, ne, nf, d⟩ := I.pin p hp
    have nch : p.1 ∉ ch := fun z => (hch p.1 z).2.2.2 p hp rfl
    exact ⟨keep p.1 p.2 ne nf nch e n, free p.1 p.2 nch e n, ne, nf, d⟩
/-- .. where the frame's own object is kept too -/
theorem Inv.un {t' : Nat} (I : Inv X pins σ H s) (u : Un X.fs [] H H' s.heap h') (hok : HOk X.prog X.w H' h') : Inv X pins σ H' { s with heap := h', toks := t' } := by
  obtain ⟨m, ⟨o, es, ep, ho, r⟩, _⟩ := id I.loc
  obtain ⟨sl, hL⟩ := u.any ho I.free (by simp)
  exact I.step (g' := s.gens) (d' := s.drawn) (ch := []) (fun _ z => nomatch z) (fun b o _ hb _ e n => u.keep b o e n hb (by simp)) (fun b o _ hb _ e n => u.slot b o e n hb (by simp)) (fun b o _ e n => u.free b o e n (by simp)) (fun b o _ e => u.there b o e (by simp)) u.tups u.frzs u.tbls (fun m' hm => by
    obtain ⟨o', es', ep', ho', r'⟩ := hm
    rw [ho] at ho'; cases ho'
    exact ⟨_, es', ep', hL, r'⟩) hok I.bare
/-- behind a call (or a comprehension's block): the slots of this frame may have changed too, the records at ch may have turned -/
theorem Inv.call {g' : Array GenState} {t' : Nat} {d' : Drawn} {ch : List Addr} (I : Inv X pins σ H s) (u : Un (frs X.stack) ch H H' s.heap h') (hok : HOk X.prog X.w H' h') (hg : AllBare g')
    (hch : ∀ b ∈ ch, (b ∈ X.ex ∨ X.s₀.heap.objs.size ≤ b) ∧ b ≠ X.env.locals ∧ (∀ x c, X.env.cells.lookup x = some c → c ≠ b) ∧ ∀ p ∈ X.pn ++ pins, p.1 ≠ b) :
    Inv X pins σ H' { s with heap := h', gens := g', drawn := d', toks := t' } := by
  obtain ⟨m, ⟨o, es, ep, ho, r⟩, _⟩ := id I.loc
  obtain ⟨sl, hL⟩ := u.any ho I.free fun z => (hch _ z).2.1 rfl
  exact I.step (ch := ch) hch (fun b o hL hb hc e n => u.keep b o e n (fun z => (List.mem_cons.mp (I.stkSub b z)).elim hL hb) hc) (fun b o _ _ hc e n => u.any e n hc) (fun b o hc e n => u.free b o e n hc) (fun b o hc e => u.there b o e hc) u.tups u.frzs u.tbls (fun m' hm => by
    obtain ⟨o', es', ep', ho', r'⟩ := hm
    rw [ho] at ho'; cases ho'
    exact ⟨_, es', ep', hL, r'⟩) hok hg
/-- an untracked record of ours (an iterator) has turned -/
theorem Inv.turned {t' : Nat} {it : Addr} (I : Inv X pins σ H s) (k : ∀ b o, b ≠ it → s.heap.get? b = some o → h'.get? b = some o) (hn : H it = none) (hL : it ≠ X.env.locals)
    (h1 : it ∈ X.ex ∨ X.s₀.heap.objs.size ≤ it) (h2 : ∀ x c, X.env.cells.lookup x = some c → c ≠ it) (h3 : ∀ p ∈ X.pn ++ pins, p.1 ≠ it) : Inv X pins σ H { s with heap := h', toks := t' } := by
  have nit : ∀ b u, H b = some u → b ≠ it := fun b u e z => by rw [z, hn] at e; cases e
  refine I.step (g' := s.gens) (d' := s.drawn) (ch := [it]) (fun b hb => ?_) (fun b o _ _ hc e _ => k b o (fun z => hc (by simp [z])) e) (fun b o _ _ hc e _ => ⟨o.slots, k b o (fun z => hc (by simp [z])) e⟩) (fun _ _ _ _ n => n)
    (fun b o hc e => ⟨o, k b o (fun z => hc (by simp [z])) e⟩) (fun _ _ e => e) (fun _ _ _ e => e) (fun b ps e => ⟨#[], by rw [e]; simp⟩) (fun m hm => ?_) (fun b u e => ?_) I.bare
  · have e : b = it := by simpa using hb
    subst e
    exact ⟨h1, hL, h2, h3⟩
  · obtain ⟨o, es, ep, ho, r⟩ := hm
    exact ⟨o, es, ep, k _ o (Ne.symm hL) ho, r⟩
  · refine (I.hok b u e).stay (fun c v hc q => k c v ?_ q) (fun _ q => q) fun _ _ q => q
    rcases hc with z | z
    · rw [z]; exact nit b u e
    · exact nit c _ z
theorem Inv.tok (I : Inv X pins σ H s) (t : Nat) : Inv X pins σ H { s with toks := t } := I.un (h' := s.heap) (t' := t) Un.refl I.hok
/-- all objects kept -/
theorem Inv.kept {t' : Nat} (I : Inv X pins σ H s) (k : ∀ b u, s.heap.get? b = some u → h'.get? b = some u) : Inv X pins σ H { s with heap := h', toks := t' } := I.un (Un.kept k) (I.hok.kept k)
/-- a new object laid and tracked -/
theorem Inv.laid {a : Addr} {o : HO} {t' : Nat} (I : Inv X pins σ H s) (k : ∀ b u, s.heap.get? b = some u → h'.get? b = some u) (hp : s.heap.objs.size ≤ a) (new : ObjOk X.prog X.w (upd H a o) h' a o) :
    Inv X pins σ (upd H a o) { s with heap := h', toks := t' } := I.un (Un.laid k hp (I.hok.fresh hp)) (I.hok.laid k hp new)
/-- an object written -/
theorem Inv.write {x e : Addr} {o : HO} {t' : Nat} (I : Inv X pins σ H s) (mu : Mut (H x)) (he : e = x ∨ H e = some (.own x)) (k : ∀ b u, b ≠ e → s.heap.get? b = some u → h'.get? b = some u) (heo : ∃ u, h'.get? e = some u)
    (new : ObjOk X.prog X.w (upd H x o) h' x o) : Inv X pins σ (upd H x o) { s with heap := h', toks := t' } := I.un (Un.write mu he k heo) (I.hok.write mu he k heo new)
/-- forgetting slots, pins -/
theorem Inv.weak {σ' : List (Option V)} (I : Inv X pins σ H s) (hl : σ'.length = σ.length) (w : ∀ (i : Nat) v, σ'[i]? = some (some v) → σ[i]? = some (some v)) : Inv X pins σ' H s :=
  ⟨I.ok, I.os, I.bare, I.base, let ⟨m, hn, hl'⟩ := I.loc; ⟨m, hn, fun i x v e1 e2 e3 => hl' i x v e1 (w i v e2) e3⟩, I.cell, I.free, I.freeC, I.pin, I.hok, hl.trans I.len⟩
theorem Inv.pins_of {pins' : List (Addr × Obj)} (I : Inv X pins σ H s) (h : ∀ p ∈ pins', s.heap.get? p.1 = some p.2 ∧ H p.1 = none ∧ p.1 ≠ X.env.locals ∧ p.1 ∉ X.fs ∧ ∀ v, p.2.data ≠ .cell v) : Inv X pins' σ H s :=
  ⟨I.ok, I.os, I.bare, I.base, I.loc, I.cell, I.free, I.freeC, fun p hp => (List.mem_append.mp hp).elim (fun z => I.pin p (List.mem_append_left _ z)) (h p), I.hok, I.len⟩

theorem nodup_ix {N : List Str} (hN : N.Nodup) {i j : Nat} {x : Str} (a : N[i]? = some x) (b : N[j]? = some x) : i = j := by
  obtain ⟨h1, e1⟩ := List.getElem?_eq_some_iff.mp a
  obtain ⟨h2, e2⟩ := List.getElem?_eq_some_iff.mp b
  exact (List.getElem_inj hN).mp (e1.trans e2.symm)

/-- a name is stored; what changed -/
theorem store_ok2 {M : Model} {A : Around} {E : Value → Shared → Prop} {i : Nat} {x : Str} {v : V} {u : Value} {Q : Unit → Shared → Prop} (I : Inv X pins σ H s) (hN : X.N.Nodup) (hi : X.N[i]? = some x) (hx : Loc X.env.scope x) (r : RelV v u)
    (h : ∀ s', Inv X pins (σ.set i (some v)) H s' → (∃ a, Heap.SameBut a s.heap s'.heap ∧ (a = X.env.locals ∨ X.env.cells.lookup x = some a)) → Q () s') (hf : X.fn x = true ∨ X.env.scope.names.lookup x = some .local := by first | exact .inl rfl | exact .inr rfl | assumption) : wpAny M A (storeName X.env x u) Q E s := by
  obtain ⟨m, hn, hl⟩ := id I.loc
  have hcls : (X.env.scope.kind == .class || (X.env.scope.kind == .module && X.env.locals != X.env.globals)) = false := by rw [I.ok.kind]; rfl
  have hiσ : i < σ.length := by rw [I.len]; exact (List.getElem?_eq_some_iff.mp hi).1
  have cne := I.cne
  have tracked : ∀ {a : Addr} {h' : Heap}, (∃ o, s.heap.get? a = some o ∧ H a = none) → Heap.SameBut a s.heap h' → HOk X.prog X.w H h' := fun {a h'} ha hs b ob e => by
    obtain ⟨_, _, hfree⟩ := ha
    refine (I.hok b ob e).stay (fun c w' hc q => (hs.2 c ?_).trans q) (fun _ q => q) fun _ _ q => q
    rintro rfl
    rcases hc with rfl | hc
    · rw [hfree] at e; cases e
    · rw [hfree] at hc; cases hc
  rcases hx with hk | hk
  · refine wpAny_storeName_local hk hn (fun h' hn' hs => ?_) hcls
    obtain ⟨oL, _, _, hoL, _⟩ := id hn
    refine h _ ⟨I.ok, I.os, I.bare, ⟨fun b o e n hb hx => ?_, fun b o e n hb hx => ?_, I.base.free, fun b o e hx => ?_, I.base.tups, I.base.frzs, I.base.tbls⟩, ⟨_, hn', fun j y v' e1 e2 e3 => ?_⟩, fun y c e => ?_, I.free, I.freeC, fun p hp => ?_, tracked ⟨oL, hoL, I.free⟩ hs, by simpa using I.len⟩ ⟨_, hs, .inl rfl⟩
    · exact (hs.2 b (Nat.ne_of_lt (Nat.lt_of_lt_of_le (Heap.lt_size e) I.ok.above))).trans (I.base.keep b o e n hb hx)
    · obtain ⟨sl, e1⟩ := I.base.slot b o e n hb hx
      exact ⟨sl, (hs.2 b (Nat.ne_of_lt (Nat.lt_of_lt_of_le (Heap.lt_size e) I.ok.above))).trans e1⟩
    · obtain ⟨o', e1⟩ := I.base.there b o e hx
      exact ⟨o', (hs.2 b (Nat.ne_of_lt (Nat.lt_of_lt_of_le (Heap.lt_size e) I.ok.above))).trans e1⟩
    · by_cases hj : j = i
      · subst hj
        rw [hi] at e1; cases e1
        rw [List.getElem?_set_self hiσ] at e2
        cases e2
        exact ⟨u, r, .inl ⟨hk, by simp⟩⟩
      · rw [List.getElem?_set_ne (Ne.symm hj)] at e2
        obtain ⟨u', r', q⟩ := hl j y v' e1 e2 e3
        refine ⟨u', r', ?_⟩
        rcases q with ⟨k, e⟩ | ⟨k, c, e, z⟩
        · refine .inl ⟨k, ?_⟩
          have : y ≠ x := fun e => hj (nodup_ix hN e1 (e ▸ hi))
          simp [this, e]
        · exact .inr ⟨k, c, e, z.sameBut hs (cne y c e)⟩
    · obtain ⟨w', z⟩ := I.cell y c e
      exact ⟨w', z.sameBut hs (cne y c e)⟩
    · obtain ⟨e, n, ne, nf, d⟩ := I.pin p hp
      exact ⟨(hs.2 p.1 ne).trans e, n, ne, nf, d⟩
  · have hfn : X.fn x = true := by
      rcases hf with z | z
      · exact z
      · rw [z] at hk; cases hk
    obtain ⟨c, hc⟩ := I.ok.has x (.inl hk)
    obtain ⟨w', z⟩ := I.cell x c hc
    refine wpAny_storeName_cell I.ok.kind hk hc z (fun h' hc' hs => ?_)
    obtain ⟨oc, hoc, hocd⟩ := id z
    refine h { s with heap := h' } ⟨I.ok, I.os, I.bare, ⟨fun b o e n hb hx => ?_, fun b o e n hb hx => ?_, I.base.free, fun b o e hx => ?_, I.base.tups, I.base.frzs, I.base.tbls⟩, ⟨m, hn.sameBut hs (Ne.symm (cne x c hc)), fun j y v' e1 e2 e3 => ?_⟩, fun y c' e => ?_, I.free, I.freeC, fun p hp => ?_, tracked ⟨oc, hoc, I.freeC x c hc⟩ hs, by simpa using I.len⟩ ⟨c, hs, .inr hc⟩
    · exact (hs.2 b (Nat.ne_of_lt (Nat.lt_of_lt_of_le (Heap.lt_size e) (I.ok.cab x c hfn hc)))).trans (I.base.keep b o e n hb hx)
    · obtain ⟨sl, e1⟩ := I.base.slot b o e n hb hx
      exact ⟨sl, (hs.2 b (Nat.ne_of_lt (Nat.lt_of_lt_of_le (Heap.lt_size e) (I.ok.cab x c hfn hc)))).trans e1⟩
    · obtain ⟨o', e1⟩ := I.base.there b o e hx
      exact ⟨o', (hs.2 b (Nat.ne_of_lt (Nat.lt_of_lt_of_le (Heap.lt_size e) (I.ok.cab x c hfn hc)))).trans e1⟩
    · by_cases hj : j = i
      · subst hj
        rw [hi] at e1; cases e1
        rw [List.getElem?_set_self hiσ] at e2
        cases e2
        exact ⟨u, r, .inr ⟨.inl hk, c, hc, hc'⟩⟩
      · rw [List.getElem?_set_ne (Ne.symm hj)] at e2
        obtain ⟨u', r', q⟩ := hl j y v' e1 e2 e3
        refine ⟨u', r', ?_⟩
        rcases q with q | ⟨k, c', e, z'⟩
        · exact .inl q
        · refine .inr ⟨k, c', e, z'.sameBut hs ?_⟩
          rintro rfl
          exact hj (nodup_ix hN e1 (I.ok.inj _ _ _ e hc ▸ hi))
    · by_cases hcc : c' = c
      · subst hcc; exact ⟨_, hc'⟩
      · obtain ⟨w2, z2⟩ := I.cell y c' e
        exact ⟨w2, z2.sameBut hs hcc⟩
    · obtain ⟨e, n, ne, nf, d⟩ := I.pin p hp
      refine ⟨(hs.2 p.1 ?_).trans e, n, ne, nf, d⟩
      intro q
      rw [q, hoc] at e
      have q' : oc = p.2 := Option.some.inj e
      exact d w' (by rw [← q']; exact hocd)
theorem store_ok {M : Model} {A : Around} {E : Value → Shared → Prop} {i : Nat} {x : Str} {v : V} {u : Value} {Q : Unit → Shared → Prop} (I : Inv X pins σ H s) (hN : X.N.Nodup) (hi : X.N[i]? = some x) (hx : Loc X.env.scope x) (r : RelV v u)
    (h : ∀ s', Inv X pins (σ.set i (some v)) H s' → Q () s') (hf : X.fn x = true ∨ X.env.scope.names.lookup x = some .local := by first | exact .inl rfl | exact .inr rfl | assumption) : wpAny M A (storeName X.env x u) Q E s :=
  store_ok2 I hN hi hx r (fun s' I' _ => h s' I') hf
/-- behind a call or a block, the state as it is -/
theorem Inv.call' {s' : Shared} {ch : List Addr} (I : Inv X pins σ H s) (ho : s'.os = s.os) (u : Un (frs X.stack) ch H H' s.heap s'.heap) (hok : HOk X.prog X.w H' s'.heap) (hg : AllBare s'.gens)
    (hch : ∀ b ∈ ch, (b ∈ X.ex ∨ X.s₀.heap.objs.size ≤ b) ∧ b ≠ X.env.locals ∧ (∀ x c, X.env.cells.lookup x = some c → c ≠ b) ∧ ∀ p ∈ X.pn ++ pins, p.1 ≠ b) : Inv X pins σ H' s' := by
  obtain ⟨h', g', d', t', o'⟩ := s'
  have e : o' = s.os := ho
  subst e
  exact I.call (g' := g') (t' := t') (d' := d') u hok hg hch
end

/-! ### the judgements -/
/-- an exception: its class, its own dict's address (where it has one), the abstract heap behind it -/
abbrev XK := Value → Option Addr → Hp → Prop
abbrev St := List (Option V)
abbrev VK := V → Hp → Prop
/-- an expression's reading; a test's; an argument list's -/
abbrev TE := St → Hp → VK → Prop
abbrev TT := St → Hp → (Bool → Hp → Prop) → Prop
abbrev TA := St → Hp → (List V → Hp → Prop) → Prop
/-- what is wanted behind a statement -/
structure Ends where
  nx : St → Hp → Prop
  rt : VK
  bk : St → Hp → Prop := fun _ _ => False
  ct : St → Hp → Prop := fun _ _ => False
abbrev TS := Ends → St → Hp → Prop

def EP (X : Cx) (pins : List (Addr × Obj)) (σ : St) (Q : VK) (u : Value) (s' : Shared) : Prop := ∃ v H', Inv X pins σ H' s' ∧ RelV v u ∧ Q v H'
def TP (X : Cx) (pins : List (Addr × Obj)) (σ : St) (Q : Bool → Hp → Prop) (b : Bool) (s' : Shared) : Prop := ∃ H', Inv X pins σ H' s' ∧ Q b H'
def AP (X : Cx) (pins : List (Addr × Obj)) (σ : St) (Q : List V → Hp → Prop) (us : List Value) (s' : Shared) : Prop := ∃ vs H', Inv X pins σ H' s' ∧ Vals vs us ∧ Q vs H'
def SP (X : Cx) (pins : List (Addr × Obj)) (D : Ends) (f : Flow) (s' : Shared) : Prop :=
  match f with
  | .next => ∃ σ' H', Inv X pins σ' H' s' ∧ D.nx σ' H'
  | .brk => ∃ σ' H', Inv X pins σ' H' s' ∧ D.bk σ' H'
  | .cont => ∃ σ' H', Inv X pins σ' H' s' ∧ D.ct σ' H'
  | .ret u => ∃ v σ' H', Inv X pins σ' H' s' ∧ RelV v u ∧ D.rt v H'

def PE (X : Cx) (e : Expr) (t : TE) : Prop :=
  ∀ (pins : List (Addr × Obj)) (s : Shared) (σ : St) (H : Hp) (Q : VK), Inv X pins σ H s → t σ H Q → wpAny (model X.prog X.w) X.A (eval e X.env) (EP X pins σ Q) X.xe s
def PT (X : Cx) (e : Expr) (t : TT) : Prop :=
  ∀ (pins : List (Addr × Obj)) (s : Shared) (σ : St) (H : Hp) (Q : Bool → Hp → Prop), Inv X pins σ H s → t σ H Q → wpAny (model X.prog X.w) X.A (isTrue e X.env (eval e X.env)) (TP X pins σ Q) X.xe s
/-- a test whatever its 'whole' is (and, or) -/
def PW (X : Cx) (e : Expr) (t : TT) : Prop :=
  ∀ (whole : Sem Value) (pins : List (Addr × Obj)) (s : Shared) (σ : St) (H : Hp) (Q : Bool → Hp → Prop), Inv X pins σ H s → t σ H Q → wpAny (model X.prog X.w) X.A (isTrue e X.env whole) (TP X pins σ Q) X.xe s
theorem PW.pt {X : Cx} {e : Expr} {t : TT} (h : PW X e t) : PT X e t := h _
/-- an argument list (no star), from the left -/
def PA (X : Cx) (es : List Expr) (t : TA) : Prop :=
  ∀ (pos : Pos) (pins : List (Addr × Obj)) (s : Shared) (σ : St) (H : Hp) (Q : List V → Hp → Prop), Inv X pins σ H s → t σ H Q → wpAny (model X.prog X.w) X.A (spliced (backTo pos (starEach es X.env))) (AP X pins σ Q) X.xe s
def PS (X : Cx) (st : Stmt) (t : TS) : Prop :=
  ∀ (pins : List (Addr × Obj)) (s : Shared) (σ : St) (H : Hp) (D : Ends), Inv X pins σ H s → t D σ H → wpAny (model X.prog X.w) X.A (exec st X.env) (SP X pins D) X.xe s
def PSs (X : Cx) (st : List Stmt) (t : TS) : Prop :=
  ∀ (pins : List (Addr × Obj)) (s : Shared) (σ : St) (H : Hp) (D : Ends), Inv X pins σ H s → t D σ H → wpAny (model X.prog X.w) X.A (execs st X.env) (SP X pins D) X.xe s
/-- weaken the end -/
theorem thn {α : Type} {t : Sem α} {Q Q' : α → Shared → Prop} {M : Model} {A : Around} {E : Value → Shared → Prop} {s : Shared} (h : wpAny M A t Q E s) (hQ : ∀ a s, Q a s → Q' a s) : wpAny M A t Q' E s := wpAny_mono h hQ fun _ _ x => x
end L2

namespace L2
open PySem PySem.Spec PyProof.Rows
section
variable {X : Cx}

/-! ### names and constants -/
def tVar (i : Nat) : TE := fun σ H Q => ∃ v, σ[i]? = some (some v) ∧ Q v H
def tC (v : V) : TE := fun _ H Q => Q v H
theorem pe_var {i : Nat} {x : Str} {pos : Pos} (hN : X.N[i]? = some x) (hv : Vis X.env.scope x) (hd : (x == ("__debug__" : Str)) = false := by decide) (hcd : (x == ("__classdict__" : Str)) = false := by decide) : PE X (.Name x pos) (tVar i) := by
  intro pins s σ H Q I h
  obtain ⟨v, e, h⟩ := h
  obtain ⟨m, hn, hl⟩ := I.loc
  obtain ⟨u, r, l⟩ := hl i x v hN e hv
  have fin : EP X pins σ Q u s := ⟨v, H, I, r, h⟩
  rcases l with ⟨hk, hm⟩ | ⟨hk, c, hc, hcell⟩
  · exact wpAny_Name (wpAny_loadName_local I.ok.kind hk hn hm fin) hd
  · rcases hk with hk | hk
    · exact wpAny_Name (wpAny_loadName_cell I.ok.kind hk hc hcell fin) hd
    · exact wpAny_Name (wpAny_loadName_free I.ok.kind hk hc hcell fin hcd) hd
theorem pe_int {i j pos} : PE X (.Constant (.int i) j pos) (tC (.int i)) := fun _ _ _ H _ I h => wpAny_Constant_int ⟨.int i, H, I.tok _, ⟨_, rfl⟩, h⟩
theorem pe_bl {b j pos} : PE X (.Constant (.bool b) j pos) (tC (.bl b)) := fun _ _ _ H _ I h => Constant_bool ⟨.bl b, H, I, rfl, h⟩
theorem pe_non {j pos} : PE X (.Constant .none j pos) (tC .non) := fun _ _ _ H _ I h => Constant_none ⟨.non, H, I, rfl, h⟩
theorem pe_str {x j pos} : PE X (.Constant (.str x) j pos) (tC (.str x)) := fun _ _ _ H _ I h => Calls.Constant_str ⟨.str x, H, I.tok _, ⟨_, rfl⟩, h⟩

/-- a global name of the def -/
def Gl (X : Cx) (x : Str) : Prop := X.env.kindOf x = some .globalImplicit
theorem ld_glob {E : Value → Shared → Prop} {pins : List (Addr × Obj)} {s : Shared} {σ : St} {H : Hp} {x : Str} {u : Value} {pos : Pos} {Q : Value → Shared → Prop} (I : Inv X pins σ H s) (hg : Gl X x) (hm : X.mg x = some u) (h : Q u s)
    (hd : (x == ("__debug__" : Str)) = false := by decide) : wpAny (model X.prog X.w) X.A (eval (.Name x pos) X.env) Q E s :=
  Calls.Name_function_global I.ok.kind hg (Calls.loadGlobal_global (by rw [I.ok.glob]; exact I.mod.glob.keeps I.bk) hm h) hd
theorem ld_blt {E : Value → Shared → Prop} {pins : List (Addr × Obj)} {s : Shared} {σ : St} {H : Hp} {x : Str} {u : Value} {pos : Pos} {Q : Value → Shared → Prop} (I : Inv X pins σ H s) (hg : Gl X x) (hm : X.mg x = none) (hv : bootBuiltins x = some u) (h : Q u s)
    (hn : x ≠ "__name__" := by decide) (hd : (x == ("__debug__" : Str)) = false := by decide) : wpAny (model X.prog X.w) X.A (eval (.Name x pos) X.env) Q E s := by
  obtain ⟨mb, h1, h2⟩ := I.mod.blt
  exact Calls.Name_function_global I.ok.kind hg (Calls.loadGlobal_builtin (by rw [I.ok.glob]; exact I.mod.glob.keeps I.bk) hm (by rw [I.ok.blt]; exact h1.keeps I.bk) ((h2 x hn).trans hv) h) hd
theorem pe_bltn {x : Str} {v : V} {u : Value} {pos : Pos} (hg : Gl X x) (hm : X.mg x = none) (hv : bootBuiltins x = some u) (r : RelV v u) (hn : x ≠ "__name__" := by decide) (hd : (x == ("__debug__" : Str)) = false := by decide) : PE X (.Name x pos) (tC v) :=
  fun _ _ _ H _ I h => ld_blt I hg hm hv ⟨v, H, I, r, h⟩ hn hd

/-! ### arithmetic -/
variable {a b : Expr} {ta tb : TE} {pos : Pos}
/-! ### comparisons -/
/-- a comparison as a value, as a test -/
def tB (t : TE) : TT := fun σ H Q => t σ H fun x H1 => ∃ c, x = .bl c ∧ Q c H1
/-- an expression whose value is a bool, as a test -/
theorem pt_val {e : Expr} {t : TE} (h : PE X e t) (he : ∀ whole, isTrue e X.env whole = (do let v ← whole; standAt e.pos; holding [v] (truthy v)) := by intro _; rfl) : PT X e (tB t) := by
  intro pins s σ H Q I hw
  refine isTrue_plain (thn (h pins s σ H _ I hw) fun v s1 ⟨x, H1, I1, r1, q1⟩ => ?_) (he _)
  obtain ⟨d, rfl, q⟩ := q1
  cases r1
  exact wpAny_truthy_bool ⟨H1, I1, q⟩

/-! ### and, or, not -/
variable {tA tB' : TT} {rest : List Expr}
def tAnd (t u : TT) : TT := fun σ H Q => t σ H fun c H1 => if c = true then u σ H1 Q else Q false H1
def tOr (t u : TT) : TT := fun σ H Q => t σ H fun c H1 => if c = true then Q true H1 else u σ H1 Q
def tNot (t : TT) : TT := fun σ H Q => t σ H fun c H1 => Q (!c) H1
theorem pw_and1 (ha : PT X a tA) : PW X (.BoolOp .And [a] pos) tA := by
  intro wh pins s σ H Q I h
  refine isTrue_and (thn (ha pins s σ H Q I h) fun c s1 e => ?_)
  cases c with
  | true => exact isTrue_and_nil e
  | false => exact e
theorem pw_or1 (ha : PT X a tA) : PW X (.BoolOp .Or [a] pos) tA := by
  intro wh pins s σ H Q I h
  refine isTrue_or (thn (ha pins s σ H Q I h) fun c s1 e => ?_)
  cases c with
  | false => exact isTrue_or_nil e
  | true => exact e
theorem pw_and (ha : PT X a tA) (hb : PW X (.BoolOp .And (b :: rest) pos) tB') : PW X (.BoolOp .And (a :: b :: rest) pos) (tAnd tA tB') := by
  intro wh pins s σ H Q I h
  refine isTrue_and (thn (ha pins s σ H _ I h) fun c s1 ⟨H1, I1, q1⟩ => ?_)
  cases c with
  | true => exact hb wh pins s1 σ H1 Q I1 q1
  | false => exact ⟨H1, I1, q1⟩
theorem pw_or (ha : PT X a tA) (hb : PW X (.BoolOp .Or (b :: rest) pos) tB') : PW X (.BoolOp .Or (a :: b :: rest) pos) (tOr tA tB') := by
  intro wh pins s σ H Q I h
  refine isTrue_or (thn (ha pins s σ H _ I h) fun c s1 ⟨H1, I1, q1⟩ => ?_)
  cases c with
  | true => exact ⟨H1, I1, q1⟩
  | false => exact hb wh pins s1 σ H1 Q I1 q1
theorem pt_not (ha : PT X a tA) : PT X (.UnaryOp .Not a pos) (tNot tA) := by
  intro pins s σ H Q I h
  exact isTrue_not (ha pins s σ H (fun c H1 => Q (!c) H1) I h)
/-- .. as values (bools) -/
def tAndV (ta tb : TE) : TE := fun σ H Q => ta σ H fun x H1 => ∃ c, x = .bl c ∧ if c = true then tb σ H1 Q else Q (.bl false) H1
def tOrV (ta tb : TE) : TE := fun σ H Q => ta σ H fun x H1 => ∃ c, x = .bl c ∧ if c = true then Q (.bl true) H1 else tb σ H1 Q
theorem pe_one {op} {t : TE} (h : PE X a t) : PE X (.BoolOp op [a] pos) t := fun pins s σ H Q I hw => BoolOp_one (h pins s σ H Q I hw)
theorem pe_and (ha : PE X a ta) (hb : PE X (.BoolOp .And (b :: rest) pos) tb) : PE X (.BoolOp .And (a :: b :: rest) pos) (tAndV ta tb) := by
  intro pins s σ H Q I h
  refine BoolOp_and (thn (ha pins s σ H _ I h) fun v s1 ⟨x, H1, I1, r1, q1⟩ => ?_)
  obtain ⟨c, rfl, q1⟩ := q1
  cases r1
  refine wpAny_truthy_bool ?_
  cases c with
  | true => exact hb pins s1 σ H1 Q I1 q1
  | false => exact ⟨.bl false, H1, I1, rfl, q1⟩
theorem pe_or (ha : PE X a ta) (hb : PE X (.BoolOp .Or (b :: rest) pos) tb) : PE X (.BoolOp .Or (a :: b :: rest) pos) (tOrV ta tb) := by
  intro pins s σ H Q I h
  refine BoolOp_or (thn (ha pins s σ H _ I h) fun v s1 ⟨x, H1, I1, r1, q1⟩ => ?_)
  obtain ⟨c, rfl, q1⟩ := q1
  cases r1
  refine wpAny_truthy_bool ?_
  cases c with
  | false => exact hb pins s1 σ H1 Q I1 q1
  | true => exact ⟨.bl true, H1, I1, rfl, q1⟩
end
end L2

namespace L2
open PySem PySem.Spec PyProof.Rows

/-! ### a list, a tuple that is read: tracked, frozen, or an object of the module -/
def SqL (K : PySem.W.Frag) (H : Hp) (a : Addr) (xs : List V) : Prop :=
  Rd H a (.lst xs) ∨
    ∃ (o : Obj) (its : Array Value) (n : Nat), K.lookup a = some o ∧ o.cls = .type "list" ∧ o.dict = none ∧ o.data = .seq its n ∧ its.size ≤ sizeLine ∧ Vals xs its.toList
def SqT (K : PySem.W.Frag) (H : Hp) (a : Addr) (xs : List V) : Prop :=
  Rd H a (.tup xs) ∨
    ∃ (o : Obj) (its : Array Value) (n : Nat), K.lookup a = some o ∧ o.cls = .type "tuple" ∧ o.data = .seq its n ∧ its.size ≤ sizeLine ∧ Vals xs its.toList
def absV : Value → Option V
  | .none => some .non
  | .bool b => some (.bl b)
  | .int i _ => some (.int i)
  | .str x _ => some (.str x)
  | .bytes b _ => some (.byt b)
  | .float b _ => some (.flt b)
  | .ref a => some (.ref a)
  | .type n => some (.ty n)
  | _ => none
theorem RelV.abs {x : V} {u : Value} (r : RelV x u) : absV u = some x := by
  cases x with
  | non => cases r; rfl
  | bl _ => cases r; rfl
  | int _ => obtain ⟨t, rfl⟩ := r; rfl
  | str _ => obtain ⟨t, rfl⟩ := r; rfl
  | byt _ => obtain ⟨t, rfl⟩ := r; rfl
  | flt _ => obtain ⟨t, rfl⟩ := r; rfl
  | ref _ => cases r; rfl
  | ty _ => cases r; rfl
theorem RelV.inj {x y : V} {u : Value} (r : RelV x u) (q : RelV y u) : x = y := Option.some.inj (r.abs.symm.trans q.abs)
theorem Vals.inj : ∀ {xs ys : List V} {us : List Value}, Vals xs us → Vals ys us → xs = ys
  | _, _, _, .nil, .nil => rfl
  | _, _, _, .cons r t, .cons r' t' => by rw [r.inj r', Vals.inj t t']
section
variable {X : Cx} {pins : List (Addr × Obj)} {σ : St} {H : Hp} {s : Shared} {a : Addr} {xs ys : List V}
theorem SqL.of {K : PySem.W.Frag} (h : H a = some (.lst xs)) : SqL K H a xs := .inl (.inl h)
theorem SqT.of {K : PySem.W.Frag} (h : H a = some (.tup xs)) : SqT K H a xs := .inl (.inl h)
theorem Inv.list (I : Inv X pins σ H s) (h : SqL X.K H a xs) : ∃ its : List Value, Vals xs its ∧ PlainL s.heap a its.toArray ∧ xs.length ≤ sizeLine := by
  rcases h with h | ⟨o, its, n, hk, hc, hd, hs, hz, r⟩
  · obtain ⟨z, its, n, r, e⟩ := h.ok I.hok
    exact ⟨its, r, ⟨_, n, e, rfl, rfl, rfl⟩, z⟩
  · refine ⟨its.toList, r, ⟨o, n, I.kIn a o hk, hc, hd, by simpa using hs⟩, ?_⟩
    have e := r.length
    simp only [Array.length_toList] at e
    omega
theorem Inv.tuple (I : Inv X pins σ H s) (h : SqT X.K H a xs) : ∃ its : List Value, Vals xs its ∧ IsTup s.heap a its.toArray ∧ xs.length ≤ sizeLine := by
  rcases h with h | ⟨o, its, n, hk, hc, hs, hz, r⟩
  · obtain ⟨z, its, r, p⟩ := h.ok I.hok
    exact ⟨its, r, p, z⟩
  · refine ⟨its.toList, r, ⟨o, I.kIn a o hk, hc, n, by simpa using hs⟩, ?_⟩
    have e := r.length
    simp only [Array.length_toList] at e
    omega
theorem Inv.list_inj (I : Inv X pins σ H s) (h : SqL X.K H a xs) (h' : SqL X.K H a ys) : xs = ys := by
  obtain ⟨its, r, ⟨o, n, e, _, _, d⟩, _⟩ := I.list h
  obtain ⟨its', r', ⟨o', n', e', _, _, d'⟩, _⟩ := I.list h'
  rw [e] at e'; cases e'
  rw [d] at d'
  injection d' with d1 _
  have : its = its' := by simpa using congrArg Array.toList d1
  subst this
  exact r.inj r'
theorem Inv.tuple_inj (I : Inv X pins σ H s) (h : SqT X.K H a xs) (h' : SqT X.K H a ys) : xs = ys := by
  obtain ⟨its, r, ⟨o, e, _, n, d⟩, _⟩ := I.tuple h
  obtain ⟨its', r', ⟨o', e', _, n', d'⟩, _⟩ := I.tuple h'
  rw [e] at e'; cases e'
  rw [d] at d'
  injection d' with d1 _
  have : its = its' := by simpa using congrArg Array.toList d1
  subst this
  exact r.inj r'
end

/-! ### another wish about exceptions -/
abbrev Cx.wish (X : Cx) (E : Value → Shared → Prop) : Cx := { X with xe := E }
/-- no exception leaves -/
abbrev Cx.nox (X : Cx) : Cx := X.wish fun _ _ => False
theorem Cx.Ok.wish {X : Cx} (ok : X.Ok) (E : Value → Shared → Prop) : (X.wish E).Ok :=
  ⟨ok.mod, ok.kind, ok.glob, ok.blt, ok.above, ok.inj, ok.has, ok.cab, ok.hd, ok.frames, ok.stk, ok.exf, ok.bs, ok.bsz, ok.noex, ok.exfs, ok.funs, ok.frf⟩
theorem Cx.Ok.unwish {X : Cx} {E : Value → Shared → Prop} (ok : (X.wish E).Ok) : X.Ok :=
  ⟨ok.mod, ok.kind, ok.glob, ok.blt, ok.above, ok.inj, ok.has, ok.cab, ok.hd, ok.frames, ok.stk, ok.exf, ok.bs, ok.bsz, ok.noex, ok.exfs, ok.funs, ok.frf⟩
section
variable {X : Cx} {pins : List (Addr × Obj)} {σ : St} {H : Hp} {s : Shared} {E : Value → Shared → Prop}
theorem Inv.wish (I : Inv X pins σ H s) (E : Value → Shared → Prop) : Inv (X.wish E) pins σ H s := ⟨I.ok.wish E, I.os, I.bare, I.base, I.loc, I.cell, I.free, I.freeC, I.pin, I.hok, I.len⟩
theorem Inv.unwish (I : Inv (X.wish E) pins σ H s) : Inv X pins σ H s := ⟨I.ok.unwish, I.os, I.bare, I.base, I.loc, I.cell, I.free, I.freeC, I.pin, I.hok, I.len⟩
theorem SP.unwish {D : Ends} {f : Flow} {s' : Shared} (h : SP (X.wish E) pins D f s') : SP X pins D f s' := by
  cases f with
  | next => obtain ⟨σ', H', I, q⟩ := h; exact ⟨σ', H', I.unwish, q⟩
  | brk => obtain ⟨σ', H', I, q⟩ := h; exact ⟨σ', H', I.unwish, q⟩
  | cont => obtain ⟨σ', H', I, q⟩ := h; exact ⟨σ', H', I.unwish, q⟩
  | ret u => obtain ⟨v, σ', H', I, r, q⟩ := h; exact ⟨v, σ', H', I.unwish, r, q⟩
theorem PE.nox {e : Expr} {t : TE} (h : PE X.nox e t) : PE X e t := fun pins s σ H Q I hw =>
  wpAny_mono (h pins s σ H Q (I.wish _) hw) (fun _ _ ⟨v, H', I', r, q⟩ => ⟨v, H', I'.unwish, r, q⟩) fun _ _ z => False.elim z
theorem PT.nox {e : Expr} {t : TT} (h : PT X.nox e t) : PT X e t := fun pins s σ H Q I hw =>
  wpAny_mono (h pins s σ H Q (I.wish _) hw) (fun _ _ ⟨H', I', q⟩ => ⟨H', I'.unwish, q⟩) fun _ _ z => False.elim z
theorem PSs.nox {st : List Stmt} {t : TS} (h : PSs X.nox st t) : PSs X st t := fun pins s σ H D I hw =>
  wpAny_mono (h pins s σ H D (I.wish _) hw) (fun _ _ q => q.unwish) fun _ _ z => False.elim z
end

/-! ### blocks and small statements -/
section
variable {X : Cx} {st : Stmt} {rest : List Stmt} {t u : TS} {e : Expr} {te : TE} {pos : Pos}
def tNext : TS := fun D σ H => D.nx σ H
def tSeq (t u : TS) : TS := fun D σ H => t { D with nx := u D } σ H
theorem pss_nil : PSs X [] tNext := fun _ _ σ H _ I h => wpAny_execs_nil ⟨σ, H, I, h⟩
theorem pss_cons (h1 : PS X st t) (h2 : PSs X rest u) : PSs X (st :: rest) (tSeq t u) := by
  intro pins s σ H D I h
  refine wpAny_execs_cons (thn (h1 pins s σ H { D with nx := u D } I h) fun f s1 q => ?_)
  cases f with
  | next =>
    obtain ⟨σ', H', I', q⟩ := q
    exact h2 pins s1 σ' H' D I' q
  | ret v => exact q
  | brk => exact q
  | cont => exact q
theorem pss_one (h1 : PS X st t) : PSs X [st] t := by
  intro pins s σ H D I h
  refine wpAny_execs_cons (thn (h1 pins s σ H D I h) fun f s1 q => ?_)
  cases f with
  | next => exact wpAny_execs_nil q
  | ret v => exact q
  | brk => exact q
  | cont => exact q
/-- in a def's body nothing is shown -/
theorem Inv.quiet {pins : List (Addr × Obj)} {σ : St} {H : Hp} {s : Shared} (I : Inv X pins σ H s) : interactive X.env = false := by simp [interactive, I.ok.kind]
/-- an expression whose value is dropped -/
def tDrop (te : TE) : TS := fun D σ H => te σ H fun _ H1 => D.nx σ H1
theorem ps_expr (he : PE X e te) (hs : swapsWith e none pos.line X.env = pure false := by rfl) : PS X (.Expr e pos) (tDrop te) := by
  intro pins s σ H D I h
  exact wpAny_Expr_any (thn (he pins s σ H _ I h) fun v s1 ⟨x, H1, I1, r1, q1⟩ => ⟨σ, H1, I1, q1⟩) I.quiet hs
def tRet (te : TE) : TS := fun D σ H => te σ H D.rt
theorem ps_ret (he : PE X e te) : PS X (.Return (some e) pos) (tRet te) := by
  intro pins s σ H D I h
  exact wpAny_Return_some (thn (he pins s σ H _ I h) fun v s1 ⟨x, H1, I1, r1, q1⟩ => ⟨x, σ, H1, I1, r1, q1⟩)
def tIfS (c : TT) (t u : TS) : TS := fun D σ H => c σ H fun b H1 => if b = true then t D σ H1 else u D σ H1
theorem ps_if {c : Expr} {a b : List Stmt} {tc : TT} (hc : PT X c tc) (ha : PSs X a t) (hb : PSs X b u) : PS X (.If c a b pos) (tIfS tc t u) := by
  intro pins s σ H D I h
  refine wpAny_If (thn (hc pins s σ H _ I h) fun d s1 ⟨H1, I1, q1⟩ => ?_)
  cases d with
  | true => exact ha pins s1 σ H1 D I1 q1
  | false => exact hb pins s1 σ H1 D I1 q1
/-- code that the proof never comes to -/
def tNever : TS := fun _ _ _ => False
theorem ps_never : PS X st tNever := fun _ _ _ _ _ _ h => h.elim
theorem pss_never {sts : List Stmt} : PSs X sts tNever := fun _ _ _ _ _ _ h => h.elim
end

/-! ### targets -/
abbrev TG := V → St → Hp → (St → Hp → Prop) → Prop
abbrev TGs := List V → St → Hp → (St → Hp → Prop) → Prop
def PG (X : Cx) (target : Expr) (t : TG) : Prop :=
  ∀ (pins : List (Addr × Obj)) (s : Shared) (σ : St) (H : Hp) (v : V) (u : Value) (Q : St → Hp → Prop), Inv X pins σ H s → RelV v u → t v σ H Q →
    wpAny (model X.prog X.w) X.A (assign target X.env u) (fun _ s' => ∃ σ' H', Inv X pins σ' H' s' ∧ Q σ' H') X.xe s
/-- several targets, one after another -/
def PGs (X : Cx) (ts : List Expr) (t : TGs) : Prop :=
  ∀ (pins : List (Addr × Obj)) (s : Shared) (σ : St) (H : Hp) (vs : List V) (us : List Value) (Q : St → Hp → Prop), Inv X pins σ H s → Vals vs us → t vs σ H Q →
    wpAny (model X.prog X.w) X.A (assignInOrder ((assignEach ts X.env).map (·.2)) us) (fun _ s' => ∃ σ' H', Inv X pins σ' H' s' ∧ Q σ' H') X.xe s
/-- o[i] = v, by values -/
abbrev TSet := V → V → V → Hp → (Hp → Prop) → Prop
def PSet (X : Cx) (t : TSet) : Prop :=
  ∀ (pins : List (Addr × Obj)) (s : Shared) (σ : St) (H : Hp) (o i v : V) (ov iv u : Value) (Q : Hp → Prop), Inv X pins σ H s → RelV o ov → RelV i iv → RelV v u → t o i v H Q →
    wpAny (model X.prog X.w) X.A (setItem ov iv u) (fun _ s' => ∃ H', Inv X pins σ H' s' ∧ Q H') X.xe s
section
variable {X : Cx} {pos : Pos}
def gName (i : Nat) : TG := fun v σ H Q => Q (σ.set i (some v)) H
theorem pg_name {i : Nat} {x : Str} (hN : X.N.Nodup) (hi : X.N[i]? = some x) (hx : Loc X.env.scope x) (hf : X.fn x = true ∨ X.env.scope.names.lookup x = some .local := by first | exact .inl rfl | exact .inr rfl | assumption) : PG X (.Name x pos) (gName i) := by
  intro pins s σ H v u Q I r h
  exact wpAny_assign_Name (store_ok I hN hi hx r (fun s' I' => ⟨_, H, I', h⟩) hf)
def gNil : TGs := fun vs σ H Q => vs = [] ∧ Q σ H
def gCons (t : TG) (u : TGs) : TGs := fun vs σ H Q => ∃ v r, vs = v :: r ∧ t v σ H fun σ' H' => u r σ' H' Q
theorem pgs_nil : PGs X [] gNil := by
  intro pins s σ H vs us Q I r h
  obtain ⟨e, h⟩ := h
  subst e
  cases r
  exact assignInOrder_nil ⟨σ, H, I, h⟩
theorem pgs_cons {e : Expr} {es : List Expr} {t : TG} {u : TGs} (h1 : PG X e t) (h2 : PGs X es u)
    (hs : (assignEach (e :: es) X.env).map (·.2) = assign e X.env :: (assignEach es X.env).map (·.2) := by rfl) : PGs X (e :: es) (gCons t u) := by
  intro pins s σ H vs us Q I r h
  obtain ⟨v, vr, e1, h⟩ := h
  subst e1
  cases r with
  | cons r rr =>
    rw [hs]
    refine assignInOrder_cons (thn (h1 pins s σ H _ _ _ I r h) fun _ s1 ⟨σ1, H1, I1, q1⟩ => ?_)
    exact h2 pins s1 σ1 H1 _ _ Q I1 rr q1
/-- (a, b, ..) = a tuple of that length -/
def gTup (K : PySem.W.Frag) (n : Nat) (t : TGs) : TG := fun v σ H Q => ∃ a xs, v = .ref a ∧ SqT K H a xs ∧ xs.length = n ∧ t xs σ H Q
theorem pg_tup {es : List Expr} {k : Nat} {t : TGs} {n : Nat} (hc : X.calm = true) (h : PGs X es t)
    (hn : (assignEach es X.env).length = n := by rfl) (hst : (assignEach es X.env).findIdx? (·.1) = none := by rfl) : PG X (.Tuple es k pos) (gTup X.K n t) := by
  intro pins s σ H v u Q I r hw
  obtain ⟨a, xs, e1, hq, hl, hw⟩ := hw
  subst e1
  cases r
  obtain ⟨its, rv, ht, hz⟩ := I.tuple hq
  refine assign_Tuple_tuple (I.ok.hd hc) ht (by simp [hn, ← hl, rv.length]) hst fun h' hx => ?_
  have I1 : Inv X pins σ H { s with heap := h' } := I.kept (t' := s.toks) fun b o e => hx b o (Nat.ne_of_lt (Heap.lt_size e)) e
  exact h pins _ σ H xs _ Q I1 (by simpa using rv) hw
/-- o[i] = .. -/
def gSub (to ti : TE) (t : TSet) : TG := fun v σ H Q => to σ H fun o H1 => ti σ H1 fun i H2 => t o i v H2 fun H3 => Q σ H3
theorem pg_sub {o i : Expr} {to ti : TE} {t : TSet} (ho : PE X o to) (hi : PE X i ti) (hs : PSet X t)
    (ha : ∀ v, assign (.Subscript o i pos) X.env v = (do
      let ov ← holding [v] (eval o X.env)
      let iv ← holding [v, ov] (eval i X.env)
      standAt pos
      holding [v, ov, iv] (setItem ov iv v)
      release [v, ov, iv] []) := by intro _; rfl) : PG X (.Subscript o i pos) (gSub to ti t) := by
  intro pins s σ H v u Q I r h
  rw [ha]
  refine wpAny_bind (wpAny_holding (thn (ho pins s σ H _ I h) fun ov s1 ⟨x, H1, I1, r1, q1⟩ => ?_))
  refine wpAny_bind (wpAny_holding (thn (hi pins s1 σ H1 _ I1 q1) fun iv s2 ⟨y, H2, I2, r2, q2⟩ => ?_))
  refine wpAny_bind (wpAny_standAt (wpAny_bind (wpAny_holding (thn (hs pins s2 σ H2 x y v ov iv u _ I2 r1 r2 r q2) fun _ s3 ⟨H3, I3, q3⟩ => ?_))))
  exact wpAny_release ⟨σ, H3, I3, q3⟩
/-- target = value -/
def tAsg (te : TE) (g : TG) : TS := fun D σ H => te σ H fun x H1 => g x σ H1 D.nx
theorem ps_asg {tg e : Expr} {te : TE} {g : TG} (he : PE X e te) (hg : PG X tg g) (hs : swapsWithSole [tg] e pos.line X.env = pure false := by rfl) (hw : swappedStores [tg] e X.env = pure none := by rfl)
    (h1 : (assignEach [tg] X.env).map (·.2) = [assign tg X.env] := by rfl) : PS X (.Assign [tg] e pos) (tAsg te g) := by
  intro pins s σ H D I h
  refine wpAny_Assign_stores (thn (he pins s σ H _ I h) fun v s1 ⟨x, H1, I1, r1, q1⟩ => ?_) hs hw
  rw [h1]
  exact thn (hg pins s1 σ H1 x v _ I1 r1 q1) fun _ s2 q => q
/-- name = value -/
theorem ps_set {i : Nat} {x : Str} {e : Expr} {te : TE} {pos' : Pos} (hN : X.N.Nodup) (hi : X.N[i]? = some x) (hx : Loc X.env.scope x) (he : PE X e te) (hs : swapsWith e (some (.Name x pos')) pos.line X.env = pure false := by rfl) (hf : X.fn x = true ∨ X.env.scope.names.lookup x = some .local := by first | exact .inl rfl | exact .inr rfl | assumption) :
    PS X (.Assign [.Name x pos'] e pos) (tAsg te (gName i)) := by
  intro pins s σ H D I h
  refine wpAny_Assign_Name (thn (he pins s σ H _ I h) fun v s1 ⟨y, H1, I1, r1, q1⟩ => ?_) hs
  exact store_ok I1 hN hi hx r1 (fun s2 I2 => ⟨_, H1, I2, q1⟩) hf
end

/-! ### while -/
section
variable {X : Cx} {pos : Pos}
end

/-! ### what a loop or a comprehension walks -/
/-- at turn i: it yields x (the heap may grow), or it stops -/
structure It where
  go : Nat → Hp → Prop
  yld : Nat → Hp → V → Hp → Prop
  stop : Nat → Hp → Prop
/-- the iterator's own objects may turn: they are not the frame's, not pinned, younger than the entry (or a comprehension's own) -/
def FpOk (X : Cx) (pins : List (Addr × Obj)) (H : Hp) (b : Addr) : Prop :=
  H b = none ∧ b ≠ X.env.locals ∧ b ∉ X.fs ∧ (b ∈ X.ex ∨ X.s₀.heap.objs.size ≤ b) ∧ (∀ x c, X.env.cells.lookup x = some c → c ≠ b) ∧ ∀ p ∈ X.pn ++ pins, p.1 ≠ b
theorem Inv.fpOk {X : Cx} {pins : List (Addr × Obj)} {σ : St} {H H' : Hp} {s : Shared} {b : Addr} (I : Inv X pins σ H s) (hb : s.heap.objs.size ≤ b) (hn : H' b = none) : FpOk X pins H' b := by
  refine ⟨hn, Nat.ne_of_gt (Nat.lt_of_lt_of_le I.lt hb), I.nofs hb, .inr (Nat.le_trans I.sz hb), fun x c e z => ?_, fun p hp z => ?_⟩
  · obtain ⟨v, q⟩ := I.cell x c e
    exact absurd (Nat.lt_of_lt_of_le q.lt (by rw [z]; exact hb)) (Nat.lt_irrefl _)
  · exact absurd (Nat.lt_of_lt_of_le (Heap.lt_size (I.pin p hp).1) (by rw [z]; exact hb)) (Nat.lt_irrefl _)
structure Turn (P : Program) (w : World) (K : PySem.W.Frag) (tg : Expr) (J : It) (fp : List Addr) (it : Addr) (tn : Nat → Heap → Prop) : Prop where
  mem : it ∈ fp
  obj : ∀ i h, tn i h → ∀ b ∈ fp, ∃ o, h.get? b = some o ∧ ∀ v, o.data ≠ .cell v
  keep : ∀ i h h', tn i h → (∀ b ∈ fp, ∀ o, h.get? b = some o → h'.get? b = some o) → tn i h'
  item : ∀ (X : Cx), X.prog = P → X.w = w → X.K = K → X.calm = true → ∀ (i : Nat) (pins : List (Addr × Obj)) (s : Shared) (σ : St) (H : Hp) (E : Value → Shared → Prop), Inv X pins σ H s → (∀ b ∈ fp, FpOk X pins H b) → tn i s.heap → J.go i H →
    wpAny (model P w) X.A (pyNext (.ref it)) (fun r s1 => ∃ u, r = some u ∧
      wpAny (model P w) X.A (letOwnedTupleGo tg (.ref it) u) (fun _ s2 => ∃ x H', Inv X pins σ H' s2 ∧ RelV x u ∧ J.yld i H x H' ∧ tn (i + 1) s2.heap ∧ ∀ b ∈ fp, H' b = none) E s1) E s
  done : ∀ (X : Cx), X.prog = P → X.w = w → X.K = K → X.calm = true → ∀ (i : Nat) (pins : List (Addr × Obj)) (s : Shared) (σ : St) (H : Hp) (E : Value → Shared → Prop), Inv X pins σ H s → (∀ b ∈ fp, FpOk X pins H b) → tn i s.heap → J.stop i H →
    wpAny (model P w) X.A (pyNext (.ref it)) (fun r s1 => r = none ∧ Inv X pins σ H s1) E s
  self : ∀ (A : Around) (i : Nat) (s : Shared) (Q : Value → Shared → Prop) (E : Value → Shared → Prop), tn i s.heap → Q (.ref it) s → wpAny (model P w) A (pyIter (.ref it)) Q E s
abbrev TI := St → Hp → (It → Hp → Prop) → Prop
/-- an iterator has come -/
def PIE (X : Cx) (pins : List (Addr × Obj)) (σ : St) (tg : Expr) (R : It → Hp → Prop) (itv : Value) (s2 : Shared) : Prop :=
  ∃ (it : Addr) (fp : List Addr) (tn : Nat → Heap → Prop) (J : It) (H' : Hp), itv = .ref it ∧ Inv X pins σ H' s2 ∧ Turn X.prog X.w X.K tg J fp it tn ∧ tn 0 s2.heap ∧ (∀ b ∈ fp, FpOk X pins H' b) ∧ R J H'
def PI (X : Cx) (tg iter : Expr) (wi : TI) : Prop :=
  ∀ (pins : List (Addr × Obj)) (s : Shared) (σ : St) (H : Hp) (R : It → Hp → Prop), Inv X pins σ H s → wi σ H R →
    wpAny (model X.prog X.w) X.A (eval iter X.env) (fun v s1 => wpAny (model X.prog X.w) X.A (pyIter v) (PIE X pins σ tg R) X.xe s1) X.xe s

/-- the step ahead of the store is nothing for an iterator that keeps no tuple -/
theorem go_of {M : Model} {A : Around} {E : Value → Shared → Prop} {s : Shared} {tg : Expr} {it : Addr} {u : Value} {o : Obj} {n : String} {vs : Array Value} {Q : Unit → Shared → Prop} (ho : s.heap.get? it = some o) (hc : o.cls = .type n) (hd : o.data = .fields vs)
    (hn : ["enumerate", "zip", "dict_itemiterator", "dict_reverseitemiterator", "odict_iterator", "itertools.zip_longest", "itertools.pairwise"].contains n = false) (hQ : Q () s) : wpAny M A (letOwnedTupleGo tg (.ref it) u) Q E s := by
  unfold letOwnedTupleGo
  cases tg <;> first
    | exact wpAny_pure hQ
    | (cases u <;> first
        | exact wpAny_pure hQ
        | (refine wpAny_bind (wpAny_load ho ?_)
           rw [hc, hd]
           show wpAny M A (if (["enumerate", "zip", "dict_itemiterator", "dict_reverseitemiterator", "odict_iterator", "itertools.zip_longest", "itertools.pairwise"].contains n && vs[0]? == some (rawInt _)) = true then _ else _) Q E s
           rw [if_neg (by intro h; rw [hn, Bool.false_and] at h; cases h)]
           exact wpAny_pure hQ))

/-- the list at a, as it stands at each turn (a loop may append to it) -/
def Itl (K : PySem.W.Frag) (a : Addr) : It :=
  ⟨fun i H => ∃ xs x, SqL K H a xs ∧ xs[i]? = some x, fun i H x H' => H' = H ∧ ∀ xs, SqL K H a xs → xs[i]? = some x, fun i H => ∃ xs, SqL K H a xs ∧ xs.length ≤ i⟩
/-- lo, lo + 1, .. (n of them) -/
def Itr (lo : Int) (n : Nat) : It := ⟨fun i _ => i < n, fun i H x H' => H' = H ∧ x = .int (lo + i), fun i _ => n ≤ i⟩
theorem turn_list {P : Program} {w : World} {K : PySem.W.Frag} {tg : Expr} (a it : Addr) : Turn P w K tg (Itl K a) [it] it (fun i h => h.IsListIter it a i) where
  mem := by simp
  obj := fun i h st b hb => by
    have e : b = it := by simpa using hb
    subst e
    obtain ⟨o, e, c, d⟩ := st
    exact ⟨o, e, fun v z => by rw [d] at z; cases z⟩
  keep := fun i h h' st k => st.at fun o e => k it (by simp) o e
  item := by
    intro X hP hw hK hc i pins s σ H E I hf st hg
    subst hP hw hK
    obtain ⟨xs, x, hq, hx⟩ := hg
    obtain ⟨its, rv, p, hz⟩ := I.list hq
    obtain ⟨u, hu, ru⟩ := rv.get hx
    obtain ⟨f0, f1, f2, f3, f4, f5⟩ := hf it (by simp)
    refine wpAny_pyNext_list_item st p.isList (x := u) (by simpa using hu) fun h' st' sb => ?_
    have I1 : Inv X pins σ H { s with heap := h' } := I.turned (t' := s.toks) (fun b o hb e => (sb.2 b hb).trans e) f0 f1 f3 f4 f5
    obtain ⟨o, e, c, d⟩ := id st'
    exact ⟨u, rfl, go_of (s := { s with heap := h' }) e c d (by decide) ⟨x, H, I1, ru, ⟨rfl, fun ys hy => by rw [I.list_inj hy hq]; exact hx⟩, st', fun b hb => (hf b hb).1⟩⟩
  done := by
    intro X hP hw hK hc i pins s σ H E I hf st hg
    subst hP hw hK
    obtain ⟨xs, hq, hx⟩ := hg
    obtain ⟨its, rv, p, hz⟩ := I.list hq
    obtain ⟨f0, f1, f2, f3, f4, f5⟩ := hf it (by simp)
    have hl := rv.length
    exact wpAny_pyNext_list_end (I.ok.hd hc) st p.isList (by simp; omega) fun h' eb => ⟨rfl, I.turned (t' := s.toks) (fun b o hb e => eb b o hb e) f0 f1 f3 f4 f5⟩
  self := fun _ _ _ _ _ st h => wpAny_pyIter_listiter st h
theorem turn_range {P : Program} {w : World} {K : PySem.W.Frag} {tg : Expr} (it : Addr) (lo : Int) (n : Nat) : Turn P w K tg (Itr lo n) [it] it (fun i h => IsRangeIter h it (lo + (i : Nat) * 1) ((n : Int) - (i : Nat)) 1) where
  mem := by simp
  obj := fun i h st b hb => by
    have e : b = it := by simpa using hb
    subst e
    exact ⟨_, st, fun v z => by
      have z' : Data.fields _ = Data.cell v := z
      cases z'⟩
  keep := fun i h h' st k => k it (by simp) _ st
  item := by
    intro X hP hw hK hc i pins s σ H E I hf st hg
    subst hP hw hK
    obtain ⟨f0, f1, f2, f3, f4, f5⟩ := hf it (by simp)
    have W := Walks.range (prog := X.prog) (w := X.w) (I.ok.hd hc) it lo 1 n
    refine W.item i s _ _ hg st fun v h' tk hv st' kk => ?_
    obtain ⟨t, rfl⟩ := hv
    have I1 : Inv X pins σ H { s with heap := h', toks := tk } := I.turned (fun b o hb e => kk b o (by simpa using hb) e) f0 f1 f3 f4 f5
    refine ⟨_, rfl, go_of (s := { s with heap := h', toks := tk }) (n := "range_iterator") st' rfl rfl (by decide) ⟨.int (lo + i), H, I1, ⟨t, ?_⟩, ⟨rfl, rfl⟩, st', fun b hb => (hf b hb).1⟩⟩
    rw [Int.mul_one]
  done := by
    intro X hP hw hK hc i pins s σ H E I hf st hg
    subst hP hw hK
    obtain ⟨f0, f1, f2, f3, f4, f5⟩ := hf it (by simp)
    exact wpAny_pyNext_range_end (I.ok.hd hc) st (by have : n ≤ i := hg; omega) fun h' eb => ⟨rfl, I.turned (t' := s.toks) (fun b o hb e => eb b o hb e) f0 f1 f3 f4 f5⟩
  self := fun _ _ _ _ _ st h => wpAny_pyIter_rangeiter st h
end L2

namespace L2
open PySem PySem.Spec PyProof.Rows
section
variable {X : Cx} {tg : Expr}
def iList (K : PySem.W.Frag) (tl : TE) : TI := fun σ H R => tl σ H fun x H1 => ∃ a, x = .ref a ∧ (∃ xs, SqL K H1 a xs) ∧ R (Itl K a) H1
theorem pi_list {l : Expr} {tl : TE} (hl : PE X l tl) : PI X tg l (iList X.K tl) := by
  intro pins s σ H R I h
  refine thn (hl pins s σ H _ I h) fun v s1 ⟨x, H1, I1, r1, q1⟩ => ?_
  obtain ⟨a, e, ⟨xs, hq⟩, q⟩ := q1
  subst e
  cases r1
  obtain ⟨its, rv, p, hz⟩ := I1.list hq
  refine wpAny_pyIter_list p.isList ?_
  refine ⟨s1.heap.objs.size, [s1.heap.objs.size], _, _, H1, rfl, I1.kept (t' := s1.toks) fun b o e => Heap.get?_push_of_some _ e, turn_list a _, ⟨_, Heap.get?_push_size _ rfl, rfl, rfl⟩, fun b hb => ?_, q⟩
  have e : b = s1.heap.objs.size := by simpa using hb
  subst e
  exact I1.fpOk (Nat.le_refl _) (I1.hok.fresh (Nat.le_refl _))
/-- a range object just made, walked -/
theorem range_it {pins : List (Addr × Obj)} {σ : St} {H : Hp} {s : Shared} {R : It → Hp → Prop} {E : Value → Shared → Prop} {lo hi : Int} {t u v : Tok} {tk : Nat} (I : Inv X pins σ H s) (h1 : -(2 ^ 62) ≤ lo) (h2 : lo < 2 ^ 62) (h3 : -(2 ^ 62) ≤ hi) (h4 : hi < 2 ^ 62)
    (q : R (Itr lo (hi - lo).toNat) H) : wpAny (model X.prog X.w) X.A (pyIter (.ref s.heap.objs.size)) (PIE X pins σ tg R) E { s with heap := s.heap.push { cls := .type "range", data := .fields #[.int lo t, .int hi u, .int 1 v] }, toks := tk } := by
  refine wpAny_pyIter_range (IsRange.new ..) (small_one h1 h2 h3 h4) ?_
  have I1 : Inv X pins σ H { s with heap := s.heap.push { cls := .type "range", data := .fields #[.int lo t, .int hi u, .int 1 v] }, toks := tk } := I.kept fun b o e => Heap.get?_push_of_some _ e
  refine ⟨(s.heap.push { cls := .type "range", data := .fields #[.int lo t, .int hi u, .int 1 v] }).objs.size, [(s.heap.push { cls := .type "range", data := .fields #[.int lo t, .int hi u, .int 1 v] }).objs.size], _, _, H, rfl,
    I1.kept (t' := tk) fun b o e => Heap.get?_push_of_some _ e, turn_range _ lo (hi - lo).toNat, ?_, fun b hb => ?_, q⟩
  · have e1 : lo + ((0 : Nat) : Int) * 1 = lo := by simp
    have e2 : (((hi - lo).toNat : Nat) : Int) - ((0 : Nat) : Int) = Builtin.Range.rangeSize lo hi 1 := by rw [rangeSize_one]; split <;> omega
    show IsRangeIter _ _ (lo + ((0 : Nat) : Int) * 1) ((((hi - lo).toNat : Nat) : Int) - ((0 : Nat) : Int)) 1
    rw [e1, e2]
    exact Heap.get?_push_size _ rfl
  · have e : b = (s.heap.push { cls := .type "range", data := .fields #[.int lo t, .int hi u, .int 1 v] }).objs.size := by simpa using hb
    subst e
    exact I1.fpOk (Nat.le_refl _) (I1.hok.fresh (Nat.le_refl _))
def iRng2 (ta : TA) : TI := fun σ H R => ta σ H fun vs H1 => ∃ i j : Int, vs = [.int i, .int j] ∧ (-(2 ^ 62) ≤ i ∧ i < 2 ^ 62 ∧ -(2 ^ 62) ≤ j ∧ j < 2 ^ 62) ∧ R (Itr i (j - i).toNat) H1
theorem pi_range2 {a b : Expr} {ta : TA} {p pos : Pos} (hg : Gl X "range") (hm : X.mg "range" = none) (ha : PA X [a, b] ta) (hs : starEach [a, b] X.env = [(false, eval a X.env), (false, eval b X.env)] := by rfl) (hs2 : starEach [b] X.env = [(false, eval b X.env)] := by rfl) :
    PI X tg (.Call (.Name "range" p) [a, b] [] pos) (iRng2 ta) := by
  intro pins s σ H R I h
  refine Call_ (ld_blt I hg hm boot_range (PyProof.Rows.callWith_type1 (thn (ha pos pins s σ H _ I h) fun us s1 ⟨vs, H1, I1, r1, q1⟩ => ?_) (by rw [hs, hs2]) (by rw [hs2]; rfl)))
  obtain ⟨i, j, e, ⟨q1, q2, q3, q4⟩, q⟩ := q1
  subst e
  cases r1 with
  | cons r rr =>
    cases rr with
    | cons r' rr =>
      cases rr
      obtain ⟨t, rfl⟩ := r
      obtain ⟨t', rfl⟩ := r'
      exact call_range_2 (range_it I1 q1 q2 q3 q4 q)

/-! ### for -/
/-- W: the invariant by the turn and a measure; N: what the body is to reach -/
def tFor (wi : TI) (g : TG) (tb : TS) : TS := fun D σ H => wi σ H fun J H1 => ∃ W : Nat → Nat → St → Hp → Prop, (∃ m, W 0 m σ H1) ∧ ∀ i m σ H, W i m σ H →
  (J.stop i H ∧ D.nx σ H) ∨ (J.go i H ∧ ∃ N : St → Hp → Prop, (∀ σ' H', N σ' H' → ∃ m', m' < m ∧ W (i + 1) m' σ' H') ∧ ∀ x H', J.yld i H x H' → g x σ H' fun σ2 H2 => tb { D with nx := N, ct := N, bk := D.nx } σ2 H2)
/-- the records at fp as they stand -/
def pinsAt (fp : List Addr) (h : Heap) : List (Addr × Obj) := fp.filterMap fun b => (h.get? b).map fun o => (b, o)
theorem mem_pinsAt {fp : List Addr} {h : Heap} {b : Addr} {o : Obj} (hb : b ∈ fp) (e : h.get? b = some o) : (b, o) ∈ pinsAt fp h := List.mem_filterMap.mpr ⟨b, hb, by rw [e]; rfl⟩
theorem of_pinsAt {fp : List Addr} {h : Heap} {p : Addr × Obj} (hp : p ∈ pinsAt fp h) : p.1 ∈ fp ∧ h.get? p.1 = some p.2 := by
  obtain ⟨b, hb, e⟩ := List.mem_filterMap.mp hp
  cases q : h.get? b with
  | none => rw [q] at e; cases e
  | some o =>
    rw [q] at e
    have e' : (b, o) = p := Option.some.inj e
    subst e'
    exact ⟨hb, q⟩
theorem Inv.pinned {pins : List (Addr × Obj)} {σ : St} {H : Hp} {s : Shared} {fp : List Addr} (I : Inv X pins σ H s) (hf : ∀ b ∈ fp, FpOk X pins H b) (ho : ∀ b ∈ fp, ∃ o, s.heap.get? b = some o ∧ ∀ v, o.data ≠ .cell v) : Inv X (pins ++ pinsAt fp s.heap) σ H s :=
  I.pins_of fun p hp => (List.mem_append.mp hp).elim (fun z => I.pin p (List.mem_append_right _ z)) fun z => by
    obtain ⟨hb, e⟩ := of_pinsAt z
    obtain ⟨f0, f1, f2, _⟩ := hf p.1 hb
    obtain ⟨o, e', d⟩ := ho p.1 hb
    rw [e] at e'; cases e'
    exact ⟨e, f0, f1, f2, d⟩
theorem Inv.unpinned {pins pl : List (Addr × Obj)} {σ : St} {H : Hp} {s : Shared} (I : Inv X (pins ++ pl) σ H s) : Inv X pins σ H s := I.pins_of fun p hp => I.pin p (List.mem_append_right _ (List.mem_append_left _ hp))
theorem ps_for {iter : Expr} {body : List Stmt} {wi : TI} {g : TG} {tb : TS} {pos : Pos} (hp : PassesOwn (model X.prog X.w) X.A X.env X.xe) (hc : X.calm = true) (hi : PI X tg iter wi) (hg : PG X tg g) (hb : PSs X body tb)
    (hs : ∀ x, foldedSetIterable iter X.env x = pure x := by intro _; rfl) : PS X (.For tg iter body [] pos) (tFor wi g tb) := by
  intro pins s σ H D I h
  refine wpAny_For (thn (hi pins s σ H _ I h) fun v s1 h1 => thn h1 fun itv s2 h2 => ?_) hs
  obtain ⟨it, fp, tn, J, H2, e, I2, T, st2, f2, W, ⟨m0, w0⟩, turn⟩ := h2
  subst e
  -- what stays true of the iterator's objects through the loop
  have stat : ∀ {H' : Hp}, (∀ b ∈ fp, H' b = none) → ∀ b ∈ fp, FpOk X pins H' b := fun hn b hb => ⟨hn b hb, (f2 b hb).2⟩
  refine codeAny_forLoop_any (fun n s' => ∃ i σ' H', Inv X pins σ' H' s' ∧ tn i s'.heap ∧ (∀ b ∈ fp, H' b = none) ∧ W i n σ' H') ?_ m0 ⟨0, σ, H2, I2, st2, fun b hb => (f2 b hb).1, w0⟩
  rintro n s3 ⟨i, σ3, H3, I3, st3, fr3, w3⟩
  rcases turn i n σ3 H3 w3 with ⟨stop, qn⟩ | ⟨go, N, hN, step⟩
  · refine wpAny_passesOwn hp (thn (T.done X rfl rfl rfl hc i pins s3 σ3 H3 X.xe I3 (stat fr3) st3 stop) fun r s4 ⟨hr, I4⟩ => ?_)
    subst hr
    exact wpAny_execs_nil ⟨σ3, H3, I4, qn⟩
  · refine wpAny_passesOwn hp (thn (T.item X rfl rfl rfl hc i pins s3 σ3 H3 X.xe I3 (stat fr3) st3 go) fun r s4 ⟨u, hr, h4⟩ => ?_)
    subst hr
    refine wpAny_passesOwn hp (thn h4 fun _ s5 ⟨x, H5, I5, r5, y5, st5, fr5⟩ => ?_)
    have I5' := I5.pinned (stat fr5) (T.obj _ _ st5)
    refine wpAny_passesOwn hp (thn (hg _ s5 σ3 H5 x u _ I5' r5 (step x H5 y5)) fun _ s6 ⟨σ6, H6, I6, q6⟩ => ?_)
    refine wpAny_passesOwn hp (thn (hb _ s6 σ6 H6 _ I6 q6) fun f s7 q7 => ?_)
    have again : ∀ {σ7 : St} {H7 : Hp}, Inv X (pins ++ pinsAt fp s5.heap) σ7 H7 s7 → N σ7 H7 → ∃ m, m < n ∧ ∃ i σ' H', Inv X pins σ' H' s7 ∧ tn i s7.heap ∧ (∀ b ∈ fp, H' b = none) ∧ W i m σ' H' := fun {σ7 H7} I7 n7 => by
      obtain ⟨m', hm, w7⟩ := hN σ7 H7 n7
      refine ⟨m', hm, i + 1, σ7, H7, I7.unpinned, T.keep _ _ _ st5 fun b hb o e => (I7.pin (b, o) (List.mem_append_right _ (List.mem_append_right _ (mem_pinsAt hb e)))).1, fun b hb => ?_, w7⟩
      obtain ⟨o, e, d⟩ := T.obj _ _ st5 b hb
      exact (I7.pin (b, o) (List.mem_append_right _ (List.mem_append_right _ (mem_pinsAt hb e)))).2.1
    cases f with
    | next => obtain ⟨σ7, H7, I7, n7⟩ := q7; exact again I7 n7
    | cont => obtain ⟨σ7, H7, I7, n7⟩ := q7; exact again I7 n7
    | brk => obtain ⟨σ7, H7, I7, q7⟩ := q7; exact ⟨σ7, H7, I7.unpinned, q7⟩
    | ret v => obtain ⟨x7, σ7, H7, I7, r7, q7⟩ := q7; exact ⟨x7, σ7, H7, I7.unpinned, r7, q7⟩
end

/-! ### the forms one uses -/
/-- over a list that the body leaves as it is -/
theorem for_list {K : PySem.W.Frag} {a : Addr} {xs : List V} {g : TG} {tb : TS} {D : Ends} {σ : St} {H : Hp} (Pv : Nat → St → Hp → Prop) (h0 : Pv 0 σ H) (hl : ∀ i σ H, i ≤ xs.length → Pv i σ H → SqL K H a xs)
    (hs : ∀ i x σ H, xs[i]? = some x → Pv i σ H → g x σ H fun σ2 H2 => tb { D with nx := Pv (i + 1), ct := Pv (i + 1), bk := D.nx } σ2 H2) (hd : ∀ σ H, Pv xs.length σ H → D.nx σ H) :
    ∃ W : Nat → Nat → St → Hp → Prop, (∃ m, W 0 m σ H) ∧ ∀ i m σ H, W i m σ H →
      ((Itl K a).stop i H ∧ D.nx σ H) ∨ ((Itl K a).go i H ∧ ∃ N : St → Hp → Prop, (∀ σ' H', N σ' H' → ∃ m', m' < m ∧ W (i + 1) m' σ' H') ∧ ∀ x H', (Itl K a).yld i H x H' → g x σ H' fun σ2 H2 => tb { D with nx := N, ct := N, bk := D.nx } σ2 H2) := by
  refine ⟨fun i m σ H => m = xs.length - i ∧ i ≤ xs.length ∧ Pv i σ H, ⟨xs.length, by simp, Nat.zero_le _, h0⟩, ?_⟩
  rintro i m σ H ⟨rfl, hi, p⟩
  have q := hl i σ H hi p
  by_cases hlt : i < xs.length
  · refine .inr ⟨⟨xs, xs[i], q, by simp [hlt]⟩, Pv (i + 1), fun σ' H' p' => ⟨xs.length - (i + 1), by omega, rfl, hlt, p'⟩, fun x H' y => ?_⟩
    obtain ⟨e, y⟩ := y
    subst e
    exact hs i x σ _ (y xs q) p
  · have e : i = xs.length := by omega
    subst e
    exact .inl ⟨⟨xs, q, Nat.le_refl _⟩, hd σ H p⟩
theorem for_range {lo : Int} {n : Nat} {g : TG} {tb : TS} {D : Ends} {σ : St} {H : Hp} (Pv : Nat → St → Hp → Prop) (h0 : Pv 0 σ H)
    (hs : ∀ i σ H, i < n → Pv i σ H → g (.int (lo + i)) σ H fun σ2 H2 => tb { D with nx := Pv (i + 1), ct := Pv (i + 1), bk := D.nx } σ2 H2) (hd : ∀ σ H, Pv n σ H → D.nx σ H) :
    ∃ W : Nat → Nat → St → Hp → Prop, (∃ m, W 0 m σ H) ∧ ∀ i m σ H, W i m σ H →
      ((Itr lo n).stop i H ∧ D.nx σ H) ∨ ((Itr lo n).go i H ∧ ∃ N : St → Hp → Prop, (∀ σ' H', N σ' H' → ∃ m', m' < m ∧ W (i + 1) m' σ' H') ∧ ∀ x H', (Itr lo n).yld i H x H' → g x σ H' fun σ2 H2 => tb { D with nx := N, ct := N, bk := D.nx } σ2 H2) := by
  refine ⟨fun i m σ H => m = n - i ∧ i ≤ n ∧ Pv i σ H, ⟨n, by simp, Nat.zero_le _, h0⟩, ?_⟩
  rintro i m σ H ⟨rfl, hi, p⟩
  by_cases hlt : i < n
  · refine .inr ⟨hlt, Pv (i + 1), fun σ' H' p' => ⟨n - (i + 1), by omega, rfl, hlt, p'⟩, fun x H' y => ?_⟩
    obtain ⟨e, y⟩ := y
    subst e y
    exact hs i σ _ hlt p
  · have e : i = n := by omega
    subst e
    exact .inl ⟨Nat.le_refl _, hd σ H p⟩
end L2

namespace L2
open PySem PySem.Spec PyProof.Rows

abbrev R2 := V → V → Hp → VK → Prop
/-- a two-place operation on values: f is binaryOp op, inplaceOp op or compareOp op -/
def OpR (X : Cx) (f : Value → Value → Sem Value) (r : R2) : Prop :=
  ∀ (pins : List (Addr × Obj)) (s : Shared) (σ : St) (H : Hp) (x y : V) (v u : Value) (Q : VK), Inv X pins σ H s → RelV x v → RelV y u → r x y H Q →
    wpAny (model X.prog X.w) X.A (f v u) (EP X pins σ Q) X.xe s
/-- a call of a value that is known (a builtin, a type) with values -/
def CallR (X : Cx) (f : Value) (r : List V → Hp → VK → Prop) : Prop :=
  ∀ (pins : List (Addr × Obj)) (s : Shared) (σ : St) (H : Hp) (xs : List V) (us : List Value) (Q : VK), Inv X pins σ H s → Vals xs us → r xs H Q →
    wpAny (model X.prog X.w) X.A (call f us) (EP X pins σ Q) X.xe s
def tOp (r : R2) (ta tb : TE) : TE := fun σ H Q => ta σ H fun x H1 => tb σ H1 fun y H2 => r x y H2 Q
/-- ints in, under C, and a value out -/
def rI (C : Int → Int → Prop) (g : Int → Int → V) : R2 := fun x y H Q => ∃ i j, x = .int i ∧ y = .int j ∧ C i j ∧ Q (g i j) H
def rI0 (g : Int → Int → V) : R2 := fun x y H Q => ∃ i j, x = .int i ∧ y = .int j ∧ Q (g i j) H
section
variable {X : Cx} {a b c : Expr} {ta tb tc : TE} {pos : Pos}

theorem binT (ha : PE X a ta) (hb : PE X b tb) {pins : List (Addr × Obj)} {s : Shared} {σ : St} {H : Hp} {R : V → V → Hp → Prop} (I : Inv X pins σ H s)
    (h : ta σ H fun x H1 => tb σ H1 fun y H2 => R x y H2) {Q : Value → Shared → Prop} {f : Value → Value → Sem Value}
    (hf : ∀ v u s2 x y H2, Inv X pins σ H2 s2 → RelV x v → RelV y u → R x y H2 → wpAny (model X.prog X.w) X.A (f v u) Q X.xe s2) :
    wpAny (model X.prog X.w) X.A (eval a X.env) (fun v s₁ => wpAny (model X.prog X.w) X.A (eval b X.env) (fun u s₂ => wpAny (model X.prog X.w) X.A (f v u) Q X.xe s₂) X.xe s₁) X.xe s := by
  refine thn (ha pins s σ H _ I h) fun v s1 ⟨x, H1, I1, r1, q1⟩ => ?_
  refine thn (hb pins s1 σ H1 _ I1 q1) fun u s2 ⟨y, H2, I2, r2, q2⟩ => ?_
  exact hf v u s2 x y H2 I2 r1 r2 q2

theorem pe_op {op : Operator} {r : R2} (ho : OpR X (binaryOp op) r) (ha : PE X a ta) (hb : PE X b tb) : PE X (.BinOp a op b pos) (tOp r ta tb) := by
  intro pins s σ H Q I h
  exact wpAny_BinOp (binT ha hb I h fun v u s2 x y H2 I2 rx ry q => ho pins s2 σ H2 x y v u Q I2 rx ry q)
/-! ### ints -/
theorem opI {f : Value → Value → Sem Value} {C : Int → Int → Prop} {g : Int → Int → Int}
    (rule : ∀ (i j : Int) (t u : Tok) (s : Shared) (Q : Value → Shared → Prop) (E : Value → Shared → Prop), C i j → Q (.int (g i j) s.toks) { s with toks := s.toks + 1 } → wpAny (model X.prog X.w) X.A (f (.int i t) (.int j u)) Q E s) :
    OpR X f (rI C fun i j => .int (g i j)) := by
  intro pins s σ H x y v u Q I rx ry h
  obtain ⟨i, j, rfl, rfl, hc, q⟩ := h
  obtain ⟨t, rfl⟩ := rx
  obtain ⟨t', rfl⟩ := ry
  exact rule i j t t' s _ _ hc ⟨.int (g i j), H, I.tok _, ⟨_, rfl⟩, q⟩
theorem opI0 {f : Value → Value → Sem Value} {g : Int → Int → Int}
    (rule : ∀ (i j : Int) (t u : Tok) (s : Shared) (Q : Value → Shared → Prop) (E : Value → Shared → Prop), Q (.int (g i j) s.toks) { s with toks := s.toks + 1 } → wpAny (model X.prog X.w) X.A (f (.int i t) (.int j u)) Q E s) :
    OpR X f (rI0 fun i j => .int (g i j)) := by
  intro pins s σ H x y v u Q I rx ry h
  obtain ⟨i, j, rfl, rfl, q⟩ := h
  obtain ⟨t, rfl⟩ := rx
  obtain ⟨t', rfl⟩ := ry
  exact rule i j t t' s _ _ ⟨.int (g i j), H, I.tok _, ⟨_, rfl⟩, q⟩
theorem opB0 {f : Value → Value → Sem Value} {g : Int → Int → Bool}
    (rule : ∀ (i j : Int) (t u : Tok) (s : Shared) (Q : Value → Shared → Prop) (E : Value → Shared → Prop), Q (.bool (g i j)) s → wpAny (model X.prog X.w) X.A (f (.int i t) (.int j u)) Q E s) :
    OpR X f (rI0 fun i j => .bl (g i j)) := by
  intro pins s σ H x y v u Q I rx ry h
  obtain ⟨i, j, rfl, rfl, q⟩ := h
  obtain ⟨t, rfl⟩ := rx
  obtain ⟨t', rfl⟩ := ry
  exact rule i j t t' s _ _ ⟨.bl (g i j), H, I, rfl, q⟩

def CDiv (i j : Int) : Prop := 0 < j ∧ j < 1073741824
def CMul (i j : Int) : Prop := (-(2 ^ 64) < i ∧ i < 2 ^ 64) ∨ (-(2 ^ 64) < j ∧ j < 2 ^ 64)
theorem CMul.ok {i j : Int} (h : CMul i j) : IntMulOk i j := by
  rcases h with ⟨h1, h2⟩ | ⟨h1, h2⟩
  · exact .of_left (intBits_le_64 h1 h2)
  · exact .of_right (intBits_le_64 h1 h2)
theorem op_add : OpR X (binaryOp .Add) (rI0 fun i j => .int (i + j)) := opI0 fun _ _ _ _ _ _ _ q => add_int q
theorem op_sub : OpR X (binaryOp .Sub) (rI0 fun i j => .int (i - j)) := opI0 fun _ _ _ _ _ _ _ q => sub_int q
theorem op_mul : OpR X (binaryOp .Mult) (rI CMul fun i j => .int (i * j)) := opI fun _ _ _ _ _ _ _ hc q => mul_int q hc.ok
/-- // by a positive divisor -/
theorem op_fdiv : OpR X (binaryOp .FloorDiv) (rI CDiv fun i j => .int (i / j)) := opI fun i j _ _ _ _ _ hc q => by
  have h1 : (0 : Int) < j := hc.1
  have h2 : j < 1073741824 := hc.2
  exact floordiv_int (by omega) (by rw [Int.fdiv_eq_ediv_of_nonneg i (by omega)]; exact q) (.inl (PyProof.noPylong_small (by omega)))
/-- % by a positive divisor of any size -/
theorem op_mod : OpR X (binaryOp .Mod) (rI (fun _ j => 0 < j) fun i j => .int (i % j)) := opI fun i j _ _ _ _ _ hc q => by
  have h1 : (0 : Int) < j := hc
  exact mod_int' (by omega) (by rw [Int.fmod_eq_emod_of_nonneg i (by omega)]; exact q)
/-! ### bools among ints: n += (a < b) -/
end

/-! ### comparisons -/
/-- the scalars that == tells apart as data does -/
def scal : V → V → Bool
  | .non, .non => true | .non, .int _ => true | .int _, .non => true | .non, .bl _ => true | .bl _, .non => true | .non, .str _ => true | .str _, .non => true
  | .int _, .int _ => true | .bl _, .bl _ => true | .str _, .str _ => true | .byt _, .byt _ => true
  | .int _, .str _ => true | .str _, .int _ => true | .bl _, .str _ => true | .str _, .bl _ => true
  | _, _ => false
def rEq : R2 := fun x y H Q => scal x y = true ∧ Q (.bl (decide (x = y))) H
def rNe : R2 := fun x y H Q => scal x y = true ∧ Q (.bl (!decide (x = y))) H

theorem dec_int {i j : Int} : decide (V.int i = V.int j) = (i == j) := by
  rw [Bool.eq_iff_iff]
  simp
theorem dec_bl {i j : Bool} : decide (V.bl i = V.bl j) = (i == j) := by
  rw [Bool.eq_iff_iff]
  simp
theorem dec_str {i j : Str} : decide (V.str i = V.str j) = (i == j) := by
  rw [Bool.eq_iff_iff]
  simp
theorem dec_byt {i j : Array UInt8} : decide (V.byt i = V.byt j) = (i.toList == j.toList) := by
  rw [Bool.eq_iff_iff]
  cases i
  cases j
  simp

section
variable {X : Cx} {a b c : Expr} {ta tb tc : TE} {pos : Pos}
theorem fin_bl {pins : List (Addr × Obj)} {σ : St} {H : Hp} {s : Shared} {Q : VK} {k k' : Bool} (I : Inv X pins σ H s) (q : Q (.bl k) H) (e : k = k') : EP X pins σ Q (.bool k') s := by
  subst e
  exact ⟨.bl k, H, I, rfl, q⟩
theorem op_eq : OpR X (compareOp .Eq) rEq := by
  intro pins s σ H x y v u Q I rx ry h
  obtain ⟨hs, q⟩ := h
  cases x with
  | non =>
    cases rx
    cases y with
    | non => cases ry; exact PySem.EqNone.eq_none_none (fin_bl I q (by simp))
    | bl j => cases ry; exact PySem.EqNone.eq_none_bool (fin_bl I q (by simp))
    | int j => obtain ⟨t', rfl⟩ := ry; exact PySem.EqNone.eq_none_int (fin_bl I q (by simp))
    | str j => obtain ⟨t', rfl⟩ := ry; exact PySem.EqNone.eq_none_str (fin_bl I q (by simp))
    | _ => exact absurd (show false = true from hs) Bool.false_ne_true
  | bl i =>
    cases rx
    cases y with
    | non => cases ry; exact PySem.EqNone.eq_bool_none (fin_bl I q (by simp))
    | bl j => cases ry; exact eq_bool (fin_bl I q dec_bl)
    | str j => obtain ⟨t', rfl⟩ := ry; exact PySem.EqMixed.eq_bool_str (fin_bl I q (by simp))
    | _ => exact absurd (show false = true from hs) Bool.false_ne_true
  | int i =>
    obtain ⟨t, rfl⟩ := rx
    cases y with
    | non => cases ry; exact PySem.EqNone.eq_int_none (fin_bl I q (by simp))
    | int j => obtain ⟨t', rfl⟩ := ry; exact eq_int (fin_bl I q dec_int)
    | str j => obtain ⟨t', rfl⟩ := ry; exact PySem.EqMixed.eq_int_str (fin_bl I q (by simp))
    | _ => exact absurd (show false = true from hs) Bool.false_ne_true
  | str i =>
    obtain ⟨t, rfl⟩ := rx
    cases y with
    | non => cases ry; exact PySem.EqNone.eq_str_none (fin_bl I q (by simp))
    | bl j => cases ry; exact PySem.EqMixed.eq_str_bool (fin_bl I q (by simp))
    | int j => obtain ⟨t', rfl⟩ := ry; exact PySem.EqMixed.eq_str_int (fin_bl I q (by simp))
    | str j => obtain ⟨t', rfl⟩ := ry; exact eq_str (fin_bl I q dec_str)
    | _ => exact absurd (show false = true from hs) Bool.false_ne_true
  | byt i =>
    obtain ⟨t, rfl⟩ := rx
    cases y with
    | byt j => obtain ⟨t', rfl⟩ := ry; exact PySem.W.eq_bytes (fin_bl I q dec_byt)
    | _ => exact absurd (show false = true from hs) Bool.false_ne_true
  | _ => cases y <;> exact absurd (show false = true from hs) Bool.false_ne_true
theorem op_ne : OpR X (compareOp .NotEq) rNe := by
  intro pins s σ H x y v u Q I rx ry h
  obtain ⟨hs, q⟩ := h
  cases x with
  | non =>
    cases rx
    cases y with
    | non => cases ry; exact PySem.EqNone.ne_none_none (fin_bl I q (by simp))
    | bl j => cases ry; exact PySem.EqNone.ne_none_bool (fin_bl I q (by simp))
    | int j => obtain ⟨t', rfl⟩ := ry; exact PySem.EqNone.ne_none_int (fin_bl I q (by simp))
    | str j => obtain ⟨t', rfl⟩ := ry; exact PySem.EqNone.ne_none_str (fin_bl I q (by simp))
    | _ => exact absurd (show false = true from hs) Bool.false_ne_true
  | bl i =>
    cases rx
    cases y with
    | non => cases ry; exact PySem.EqNone.ne_bool_none (fin_bl I q (by simp))
    | bl j => cases ry; exact ne_bool (fin_bl I q (congrArg not dec_bl))
    | str j => obtain ⟨t', rfl⟩ := ry; exact PySem.EqMixed.ne_bool_str (fin_bl I q (by simp))
    | _ => exact absurd (show false = true from hs) Bool.false_ne_true
  | int i =>
    obtain ⟨t, rfl⟩ := rx
    cases y with
    | non => cases ry; exact PySem.EqNone.ne_int_none (fin_bl I q (by simp))
    | int j => obtain ⟨t', rfl⟩ := ry; exact ne_int (fin_bl I q (congrArg not dec_int))
    | str j => obtain ⟨t', rfl⟩ := ry; exact PySem.EqMixed.ne_int_str (fin_bl I q (by simp))
    | _ => exact absurd (show false = true from hs) Bool.false_ne_true
  | str i =>
    obtain ⟨t, rfl⟩ := rx
    cases y with
    | non => cases ry; exact PySem.EqNone.ne_str_none (fin_bl I q (by simp))
    | bl j => cases ry; exact PySem.EqMixed.ne_str_bool (fin_bl I q (by simp))
    | int j => obtain ⟨t', rfl⟩ := ry; exact PySem.EqMixed.ne_str_int (fin_bl I q (by simp))
    | str j => obtain ⟨t', rfl⟩ := ry; exact ne_str (fin_bl I q (congrArg not dec_str))
    | _ => exact absurd (show false = true from hs) Bool.false_ne_true
  | byt i =>
    obtain ⟨t, rfl⟩ := rx
    cases y with
    | byt j => obtain ⟨t', rfl⟩ := ry; exact PySem.W.ne_bytes (fin_bl I q (congrArg not dec_byt))
    | _ => exact absurd (show false = true from hs) Bool.false_ne_true
  | _ => cases y <;> exact absurd (show false = true from hs) Bool.false_ne_true

theorem op_lt : OpR X (compareOp .Lt) (rI0 fun i j => .bl (decide (i < j))) := opB0 fun _ _ _ _ _ _ _ q => lt_int q
theorem op_le : OpR X (compareOp .LtE) (rI0 fun i j => .bl (decide (i ≤ j))) := opB0 fun _ _ _ _ _ _ _ q => le_int q
theorem op_gt : OpR X (compareOp .Gt) (rI0 fun i j => .bl (decide (j < i))) := opB0 fun _ _ _ _ _ _ _ q => gt_int q
theorem op_ge : OpR X (compareOp .GtE) (rI0 fun i j => .bl (decide (j ≤ i))) := opB0 fun _ _ _ _ _ _ _ q => ge_int q
theorem op_notN : OpR X (compareOp .IsNot) (fun x y H Q => y = .non ∧ Q (.bl (!decide (x = .non))) H) := by
  intro pins s σ H x y v u Q I rx ry h
  obtain ⟨rfl, q⟩ := h
  cases ry
  refine isnot_none_gen (fin_bl I q ?_)
  cases x <;> first
    | (cases rx; rfl)
    | (obtain ⟨t, rfl⟩ := rx; rfl)

/-- two rules for one operation: by cases -/
theorem OpR.or {f : Value → Value → Sem Value} {r r' : R2} (h : OpR X f r) (h' : OpR X f r') : OpR X f (fun x y H Q => r x y H Q ∨ r' x y H Q) := by
  intro pins s σ H x y v u Q I rx ry q
  rcases q with q | q
  · exact h pins s σ H x y v u Q I rx ry q
  · exact h' pins s σ H x y v u Q I rx ry q

theorem nomark (b : Expr) {op : CmpOp} (h : op ≠ .In := by decide) (h2 : op ≠ .NotIn := by decide) : behindInMarks op b = false := by
  have e1 : (op == CmpOp.In) = false := by cases op <;> first | rfl | exact absurd rfl h
  have e2 : (op == CmpOp.NotIn) = false := by cases op <;> first | rfl | exact absurd rfl h2
  cases b <;> simp [behindInMarks, e1, e2]
/-- a comparison as a value; hm: nomark b, or (for in, not in) by with_unfolding_all rfl -/
theorem pe_cmpR {op : CmpOp} {r : R2} (ho : OpR X (compareOp op) r) (ha : PE X a ta) (hb : PE X b tb) (hm : behindInMarks op b = false) : PE X (.Compare a [op] [b] pos) (tOp r ta tb) := by
  intro pins s σ H Q I h
  exact wpAny_Compare1 (binT ha hb I h fun v u s2 x y H2 I2 rx ry q => ho pins s2 σ H2 x y v u Q I2 rx ry q) hm
/-- a reading of a value as a test -/
def tTest (t : TE) : TT := fun σ H Q => t σ H fun x H' => ∃ k, x = .bl k ∧ Q k H'
theorem pt_cmpR {op : CmpOp} {r : R2} (ho : OpR X (compareOp op) r) (ha : PE X a ta) (hb : PE X b tb) (hm : behindInMarks op b = false) : PT X (.Compare a [op] [b] pos) (tTest (tOp r ta tb)) := by
  intro pins s σ H Q I h
  refine wpAny_isTrue_Compare1 (thn (ha pins s σ H _ I h) fun v s1 ⟨x, H1, I1, r1, q1⟩ => thn (hb pins s1 σ H1 _ I1 q1) fun u s2 ⟨y, H2, I2, r2, q2⟩ =>
    thn (ho pins s2 σ H2 x y v u _ I2 r1 r2 q2) fun c s3 ⟨z, H3, I3, r3, k, e, q3⟩ => ?_) hm
  subst e
  cases r3
  exact wpAny_truthy_bool ⟨H3, I3, q3⟩
/-! ### truth -/
theorem line63 : (sizeLine : Nat) < 2 ^ 63 := by rw [sizeLine_eq]; decide
/-! ### strs and bytes -/
/-! ### scalar builtins, by CallR -/
theorem vals1 {x : V} {us : List Value} (r : Vals [x] us) : ∃ u, us = [u] ∧ RelV x u := by
  cases r with
  | cons r1 r2 => cases r2; exact ⟨_, rfl, r1⟩
theorem vals2 {x y : V} {us : List Value} (r : Vals [x, y] us) : ∃ u w', us = [u, w'] ∧ RelV x u ∧ RelV y w' := by
  cases r with
  | cons r1 r2 =>
    cases r2 with
    | cons r3 r4 => cases r4; exact ⟨_, _, rfl, r1, r3⟩
theorem call_max2 (hc : X.calm = true) : CallR X (.builtin "max") (fun xs H Q => ∃ i j, xs = [.int i, .int j] ∧ Q (.int (if j > i then j else i)) H) := by
  intro pins s σ H xs us Q I r h
  obtain ⟨i, j, rfl, q⟩ := h
  obtain ⟨u, w', rfl, ⟨t, rfl⟩, ⟨t', rfl⟩⟩ := vals2 r
  refine max_two_ints (I.ok.hd hc) fun h' tk k => ⟨_, H, I.kept k, ?_, q⟩
  by_cases hj : j > i
  · rw [if_pos hj, if_pos hj]; exact ⟨_, rfl⟩
  · rw [if_neg hj, if_neg hj]; exact ⟨_, rfl⟩
theorem call_min2 (hc : X.calm = true) : CallR X (.builtin "min") (fun xs H Q => ∃ i j, xs = [.int i, .int j] ∧ Q (.int (if j < i then j else i)) H) := by
  intro pins s σ H xs us Q I r h
  obtain ⟨i, j, rfl, q⟩ := h
  obtain ⟨u, w', rfl, ⟨t, rfl⟩, ⟨t', rfl⟩⟩ := vals2 r
  refine min_two_ints (I.ok.hd hc) fun h' tk k => ⟨_, H, I.kept k, ?_, q⟩
  by_cases hj : j < i
  · rw [if_pos hj, if_pos hj]; exact ⟨_, rfl⟩
  · rw [if_neg hj, if_neg hj]; exact ⟨_, rfl⟩
theorem call_int1 : CallR X (.type "int") (fun xs H Q => (∃ i, xs = [.int i] ∧ Q (.int i) H) ∨ ∃ k, xs = [.bl k] ∧ Q (.int (if k then 1 else 0)) H) := by
  intro pins s σ H xs us Q I r h
  rcases h with ⟨i, rfl, q⟩ | ⟨k, rfl, q⟩
  · obtain ⟨u, rfl, t, rfl⟩ := vals1 r
    exact call_int_int ⟨.int i, H, I, ⟨_, rfl⟩, q⟩
  · obtain ⟨u, rfl, r1⟩ := vals1 r
    cases r1
    exact call_int_bool ⟨.int (if k then 1 else 0), H, I.tok _, ⟨_, rfl⟩, q⟩
end
end L2

namespace L2
open PySem PySem.Spec PyProof.Rows

/-! ### an instance, its attributes a map -/
structure ObjM (h : Heap) (x dx C : Addr) (mA : Str → Option Value) : Prop where
  obj : h.get? x = some (PySem.W.instObj C dx)
  ns : h.Ns1 dx mA
  ne : dx ≠ x

theorem lookIn_ns {h : Heap} {dx : Addr} {mA : Str → Option Value} (n : h.Ns1 dx mA) : ∃ od, h.get? dx = some od ∧ ∀ name, PySem.W.lookIn name od = some (mA name) := by
  obtain ⟨o, es, ep, ho, hd, hk, _, hm⟩ := n
  refine ⟨o, ho, fun name => ?_⟩
  have e := hm name
  unfold nsFind findBy at e
  rw [← Array.find?_toList] at e
  unfold PySem.W.lookIn
  rw [hd]
  dsimp only
  split
  · rename_i y q
    rw [q] at e
    exact congrArg some e
  · rename_i q
    rw [q] at e
    have a : es.toList.any (·.refKey) = false := by
      rw [List.any_eq_false]
      intro y hy
      obtain ⟨z, t, hkey⟩ := hk y (Array.mem_toList_iff.mp hy)
      simp [DictEntry.refKey, hkey]
    have a' : ¬ es.toList.any (·.refKey) = true := by rw [a]; exact Bool.false_ne_true
    rw [if_neg a']
    exact congrArg some e

theorem ObjM.look {h : Heap} {x dx C : Addr} {mA : Str → Option Value} (I : ObjM h x dx C mA) : ∃ od, PySem.W.InstAt h x (PySem.W.instObj C dx) C (some od) ∧ ∀ name, PySem.W.lookIn name od = some (mA name) :=
  let ⟨od, ho, hl⟩ := lookIn_ns I.ns
  ⟨od, ⟨I.obj, rfl, rfl, ho⟩, hl⟩

section
variable {prog : Program} {w : World} {A : Around} {E : Value → Shared → Prop} {s : Shared} {K : PySem.W.Frag} {x dx C f : Addr} {mA : Str → Option Value} {name : Str} {v : Value}

theorem get_map {expr : Bool} {Q : Value → Shared → Prop} (X : K.In s.heap) (I : ObjM s.heap x dx C mA) (hg : PySem.W.plainGet K C name = true) (hh : PySem.W.hasDictIn K C = true)
    (ha : PySem.W.findIn K (.ref C) name = some none) (hv : mA name = some v) (hv' : PySem.W.handedIn v = true) (h : Q v { s with toks := s.toks + 1 }) :
    wpAny (model prog w) A (getAttr (.ref x) name expr) Q E s := by
  obtain ⟨od, J, hl⟩ := I.look
  exact PySem.W.get_value X J (PySem.W.plainGet_of hg).1 (PySem.W.findObj_own hh ha rfl (by rw [hl, hv])) hv' h

theorem get_meth {pl : Sem Bool} {Q : Value × List Value → Shared → Prop} (X : K.In s.heap) (I : ObjM s.heap x dx C mA) (hg : PySem.W.plainGet K C name = true)
    (hf : PySem.W.findIn K (.ref C) name = some (some (.ref f))) (ht : PySem.W.isFn K (.ref f) = true) (hv : mA name = none) (h : Q (.ref f, [.ref x]) s) :
    wpAny (model prog w) A (getMethod (.ref x) name pl) Q E s := by
  obtain ⟨od, J, hl⟩ := I.look
  exact PySem.W.method_fn X J (PySem.W.plainGet_of hg).1 (PySem.W.plainGet_of hg).2 hf (beq_iff_eq.mp ht) (by show (PySem.W.lookIn name od).map (·.isSome) = some false; rw [hl, hv]; rfl) h

theorem set_map {ns : List Str} {Q : Unit → Shared → Prop} (X : K.In s.heap) (I : ObjM s.heap x dx C mA)
    (hs : PySem.W.findIn K (.ref C) "__setattr__" = some (some (.builtin "object.__setattr__"))) (hp : PySem.W.plainOver K C = true) (ht : PySem.W.takerIn K C name = some none) (hh : PySem.W.hasDictIn K C = true)
    (hw : PySem.Within mA ns) (hsz : ns.length ≤ sizeLine)
    (h : ∀ h', ObjM h' x dx C (fun y => if y = name then some v else mA y) → Heap.SameBut dx s.heap h' → Q () { s with heap := h', toks := s.toks + 2 }) :
    wpAny (model prog w) A (setAttr (.ref x) name v) Q E s := by
  obtain ⟨od, J, hl⟩ := I.look
  refine PySem.W.set_plain X J hs (PySem.W.osa_open (s := { s with toks := s.toks + 1 }) (r := none) X J hp ht fun b => ?_)
  obtain ⟨cd, hc, hd'⟩ := PySem.W.any_some hh
  have hx : s.heap.get? x = some ⟨.ref C, some dx, .plain, #[]⟩ := I.obj
  refine wpAny_bind (wpAny_pure (wpAny_bind (wpAny_bind (wpAny_loadPart hx (wpAny_bind (PySem.W.Looks.here (s := { s with toks := s.toks + 1 }) (PySem.W.looks_clsIn X hc) ?_))))))
  rw [hd']
  refine wpAny_pure (a := some dx) (wpAny_bind (wpAny_pure (wpAny_bind ?_)))
  refine wpAny_nsSet1 (s := { s with toks := s.toks + 1 }) I.ns fun h' hn2 hs2 => ?_
  obtain ⟨oD, esD, epD, hoD, hdD, hcD⟩ := hn2.count (PySem.Within.cons name v hw)
  refine wpAny_bind (wpAny_lookBehind hoD (by rw [hdD]; exact pastItsLine_dict (Nat.le_trans hcD (by rw [List.length_cons]; omega))) ?_)
  exact wpAny_pure (h _ ⟨(hs2.2 _ (Ne.symm I.ne)).trans I.obj, hn2, I.ne⟩ hs2)

/-- C(..): the dict at the heap's end, the instance behind it; then its __init__ -/
theorem make_map {R : Result → Shared → Prop} {vs : List Value} {kw : List (Str × Value)} (X : K.In s.heap) (hm : PySem.W.makesIn K C = true)
    (hi : PySem.W.findIn K (.ref C) "__init__" = some (some (.ref f))) (hf : PySem.W.typeIn K (.ref f) = some (.type "function"))
    (h : codeAny (model prog w) (A.under (.builtin "type.__call__" ⟨.ref C :: vs, kw⟩)) (.call (.ref f) ⟨.ref (s.heap.objs.size + 1) :: vs, kw⟩) (PySem.W.InitBack (s.heap.objs.size + 1) R)
      { s with heap := (s.heap.push PySem.W.emptyDict).push (PySem.W.instObj C s.heap.objs.size) }) :
    codeAny (model prog w) A (.call (.ref C) ⟨vs, kw⟩) R s := by
  obtain ⟨hh, g, d, t, os⟩ := s
  exact PySem.W.make_core (PySem.W.makes_of X hm) (PySem.W.looks_findIn X hi) (fun self => PySem.W.bind_fn X self hf) (.inl rfl) h
end

/-! ### the attributes as a list of pairs -/
def putF (f : Str) (v : V) : List (Str × V) → List (Str × V)
  | [] => [(f, v)]
  | (g, x) :: r => if g = f then (g, v) :: r else (g, x) :: putF f v r
theorem lookup_putF (f g : Str) (v : V) : ∀ fs : List (Str × V), (putF f v fs).lookup g = if g = f then some v else fs.lookup g
  | [] => by
    show List.lookup g [(f, v)] = _
    by_cases h : g = f
    · have hb : (g == f) = true := beq_iff_eq.mpr h
      simp only [List.lookup, hb, if_pos h]
    · have hb : (g == f) = false := beq_eq_false_iff_ne.mpr h
      simp only [List.lookup, hb, if_neg h]
  | (k, x) :: r => by
    have ih := lookup_putF f g v r
    rw [show putF f v ((k, x) :: r) = (if k = f then (k, v) :: r else (k, x) :: putF f v r) from rfl]
    by_cases hk : k = f
    · rw [if_pos hk]
      by_cases h : g = k
      · have hb : (g == k) = true := beq_iff_eq.mpr h
        simp only [List.lookup, hb, if_pos (h.trans hk)]
      · have hb : (g == k) = false := beq_eq_false_iff_ne.mpr h
        simp only [List.lookup, hb, if_neg (fun e : g = f => h (e.trans hk.symm))]
    · rw [if_neg hk]
      by_cases h : g = k
      · have hb : (g == k) = true := beq_iff_eq.mpr h
        simp only [List.lookup, hb, if_neg (fun e : g = f => hk (h.symm.trans e))]
      · have hb : (g == k) = false := beq_eq_false_iff_ne.mpr h
        simp only [List.lookup, hb]
        exact ih
theorem keys_putF (f : Str) (v : V) : ∀ fs : List (Str × V), f ∈ (putF f v fs).map (·.1) ∧ ∀ g, g ∈ fs.map (·.1) → g ∈ (putF f v fs).map (·.1)
  | [] => ⟨by simp [putF], fun g h => by simp at h⟩
  | (k, x) :: r => by
    obtain ⟨i1, i2⟩ := keys_putF f v r
    rw [show putF f v ((k, x) :: r) = (if k = f then (k, v) :: r else (k, x) :: putF f v r) from rfl]
    by_cases hk : k = f
    · rw [if_pos hk]
      subst hk
      exact ⟨by simp, fun g h => by simpa using h⟩
    · rw [if_neg hk]
      refine ⟨?_, fun g h => ?_⟩
      · rw [List.map_cons]
        exact List.mem_cons_of_mem _ i1
      · rw [List.map_cons] at h ⊢
        rcases List.mem_cons.mp h with e | e
        · exact List.mem_cons.mpr (.inl e)
        · exact List.mem_cons_of_mem _ (i2 g e)
theorem length_putF (f : Str) (v : V) : ∀ fs : List (Str × V), (putF f v fs).length ≤ fs.length + 1
  | [] => by simp [putF]
  | (k, x) :: r => by
    have ih := length_putF f v r
    rw [show putF f v ((k, x) :: r) = (if k = f then (k, v) :: r else (k, x) :: putF f v r) from rfl]
    by_cases hk : k = f
    · rw [if_pos hk, List.length_cons, List.length_cons]; omega
    · rw [if_neg hk, List.length_cons, List.length_cons]; omega

theorem RelO.some_of {v : V} {o : Option Value} (r : RelO (some v) o) : ∃ u, o = some u ∧ RelV v u := by
  cases o with
  | none => exact (show False from r).elim
  | some u => exact ⟨u, rfl, r⟩
theorem RelO.none_of {o : Option Value} (r : RelO none o) : o = none := by
  cases o with
  | none => rfl
  | some u => exact (show False from r).elim
theorem handed_of {v : V} {u : Value} (r : RelV v u) : PySem.W.handedIn u = true := by
  cases v with
  | non => cases (show u = Value.none from r); rfl
  | bl b => cases (show u = Value.bool b from r); rfl
  | int i => obtain ⟨t, e⟩ := (show ∃ t, u = Value.int i t from r); cases e; rfl
  | str x => obtain ⟨t, e⟩ := (show ∃ t, u = Value.str x t from r); cases e; rfl
  | byt b => obtain ⟨t, e⟩ := (show ∃ t, u = Value.bytes b t from r); cases e; rfl
  | flt b => obtain ⟨t, e⟩ := (show ∃ t, u = Value.float b t from r); cases e; rfl
  | ref a => cases (show u = Value.ref a from r); rfl
  | ty n => cases (show u = Value.type n from r); rfl

section
variable {P : Program} {w : World} {H H' : Hp} {h h' : Heap} {a C dx : Addr} {fs fs' : List (Str × V)}
theorem ins_get (hok : HOk P w H h) (e : H a = some (.ins C dx fs)) : ∃ mA, ObjM h a dx C mA ∧ (∀ f, RelO (fs.lookup f) (mA f)) ∧ PySem.Within mA (fs.map (·.1)) ∧ fs.length ≤ 1000 ∧ H dx = some (.own a) := by
  obtain ⟨d, z, ne, ob, mA, n, r, q⟩ := (show ObjOk P w H h a (.ins C dx fs) from hok a _ e)
  exact ⟨mA, ⟨ob, n, ne⟩, r, q, z, d⟩
end

/-! ### what of the text a class must have -/
structure Cls (K : PySem.W.Frag) (C : Addr) : Prop where
  pg : PySem.W.plainGet K C Str.empty = true
  hd : PySem.W.hasDictIn K C = true
  po : PySem.W.plainOver K C = true
  sa : PySem.W.findIn K (.ref C) "__setattr__" = some (some (.builtin "object.__setattr__"))
theorem Cls.get {K : PySem.W.Frag} {C : Addr} (c : Cls K C) (f : Str) : PySem.W.plainGet K C f = true := c.pg
/-- no class of it has the name -/
def NoAttr (K : PySem.W.Frag) (C : Addr) (f : Str) : Prop := PySem.W.findIn K (.ref C) f = some none
theorem NoAttr.taker {K : PySem.W.Frag} {C : Addr} {f : Str} (n : NoAttr K C f) : PySem.W.takerIn K C f = some none := by
  unfold PySem.W.takerIn
  rw [show PySem.W.findIn K (.ref C) f = some none from n]
  rfl
/-- a constant of the class -/
structure Con (K : PySem.W.Frag) (C : Addr) (f : Str) (v : V) (u : Value) : Prop where
  at_ : PySem.W.findIn K (.ref C) f = some (some u)
  rel : RelV v u
  get : PySem.W.specialIn K u "__get__" = some none
  cp : PySem.W.copiedNames.contains f = false
/-- a method: a plain def of the class or of one above it -/
structure Meth (K : PySem.W.Frag) (C : Addr) (m : Str) (f : Addr) : Prop where
  at_ : PySem.W.findIn K (.ref C) m = some (some (.ref f))
  fn : PySem.W.isFn K (.ref f) = true
  kp : PySem.W.keepIn K (.ref f) = true

section
variable {X : Cx} {pins : List (Addr × Obj)} {σ : St} {H : Hp} {s : Shared} {a C dx : Addr} {fs : List (Str × V)} {f : Str} {v : V} {A : Around} {E : Value → Shared → Prop}

theorem getattr_ok {b : Bool} {Q : Value → Shared → Prop} (I : Inv X pins σ H s) (e : H a = some (.ins C dx fs)) (c : Cls X.K C) (n : NoAttr X.K C f) (l : fs.lookup f = some v)
    (h : ∀ u s', Inv X pins σ H s' → RelV v u → Q u s') : wpAny (model X.prog X.w) A (getAttr (.ref a) f b) Q E s := by
  obtain ⟨mA, O, r, _, _, _⟩ := ins_get I.hok e
  obtain ⟨u, hu, ru⟩ := RelO.some_of (v := v) (o := mA f) (by rw [← l]; exact r f)
  exact get_map I.kIn O (c.get f) c.hd n hu (handed_of ru) (h u _ (I.tok _) ru)

theorem getmeth_ok {m : Str} {g : Addr} {pl : Sem Bool} {Q : Value × List Value → Shared → Prop} (I : Inv X pins σ H s) (e : H a = some (.ins C dx fs)) (c : Cls X.K C) (k : Meth X.K C m g) (l : fs.lookup m = none)
    (h : Q (.ref g, [.ref a]) s) : wpAny (model X.prog X.w) A (getMethod (.ref a) m pl) Q E s := by
  obtain ⟨mA, O, r, _, _, _⟩ := ins_get I.hok e
  have hn : mA m = none := RelO.none_of (by rw [← l]; exact r m)
  exact get_meth I.kIn O (c.get m) k.at_ k.fn hn h

theorem setattr_ok {y : V} {u : Value} {Q : Unit → Shared → Prop} (I : Inv X pins σ H s) (e : H a = some (.ins C dx fs)) (c : Cls X.K C) (n : NoAttr X.K C f) (hl : fs.length < 1000) (ry : RelV y u)
    (h : ∀ s', Inv X pins σ (upd H a (.ins C dx (putF f y fs))) s' → Q () s') : wpAny (model X.prog X.w) A (setAttr (.ref a) f u) Q E s := by
  obtain ⟨mA, O, r, wi, _, ho⟩ := ins_get I.hok e
  have hz : (fs.map (·.1)).length ≤ sizeLine := by rw [List.length_map, sizeLine_eq]; omega
  refine set_map I.kIn O c.sa c.po n.taker c.hd wi hz fun h' O' sb => h _ ?_
  have hd : ∃ o, h'.get? dx = some o := let ⟨o, _, _, e', _⟩ := O'.ns; ⟨o, e'⟩
  refine I.write (x := a) (e := dx) (by rw [e]; exact True.intro) (.inr ho) (fun b q hb z => (sb.2 b hb).trans z) hd ?_
  refine ⟨by rw [upd_ne O.ne]; exact ho, ?_, O.ne, O'.obj, _, O'.ns, fun g => ?_, fun g hg => ?_⟩
  · have := length_putF f y fs; omega
  · show RelO ((putF f y fs).lookup g) (if g = f then some u else mA g)
    rw [lookup_putF]
    by_cases q : g = f
    · rw [if_pos q, if_pos q]; exact ry
    · rw [if_neg q, if_neg q]; exact r g
  · by_cases q : g = f
    · rw [q]; exact (keys_putF f y fs).1
    · refine (keys_putF f y fs).2 g (wi g fun z => hg ?_)
      show (if g = f then some u else mA g) = none
      rw [if_neg q]; exact z

/-- a new instance, tracked, without attributes -/
theorem Inv.made (I : Inv X pins σ H s) : Inv X pins σ (upd (upd H s.heap.objs.size (.own (s.heap.objs.size + 1))) (s.heap.objs.size + 1) (.ins C s.heap.objs.size []))
    { s with heap := (s.heap.push PySem.W.emptyDict).push (PySem.W.instObj C s.heap.objs.size) } := by
  have e1 : (s.heap.push PySem.W.emptyDict).get? s.heap.objs.size = some PySem.W.emptyDict := Heap.get?_push_size s.heap rfl
  have e2 : ((s.heap.push PySem.W.emptyDict).push (PySem.W.instObj C s.heap.objs.size)).get? (s.heap.objs.size + 1) = some (PySem.W.instObj C s.heap.objs.size) := by
    have := Heap.get?_push_size (s.heap.push PySem.W.emptyDict) (o := PySem.W.instObj C s.heap.objs.size) rfl
    rwa [Heap.size_push] at this
  have e3 : (s.heap.push PySem.W.emptyDict).Ns s.heap.objs.size (fun _ => none) := ⟨PySem.W.emptyDict, #[], _, e1, rfl, (fun e he => absurd he (by simp)), fun _ => rfl⟩
  have I1 := I.laid (a := s.heap.objs.size) (o := .own (s.heap.objs.size + 1)) (h' := s.heap.push PySem.W.emptyDict) (t' := s.toks) (fun b u q => Heap.get?_push_of_some _ q) (Nat.le_refl _) ⟨_, e1⟩
  refine I1.laid (a := s.heap.objs.size + 1) (o := .ins C s.heap.objs.size []) (t' := s.toks) (fun b u q => Heap.get?_push_of_some _ q) (Nat.le_of_eq (Heap.size_push _ _)) ?_
  have ne : s.heap.objs.size ≠ s.heap.objs.size + 1 := Nat.ne_of_lt (Nat.lt_succ_self _)
  refine ⟨by rw [upd_ne ne, upd_same], Nat.zero_le _, ne, e2, fun _ => none, (Heap.Ns1.of_empty e3).at fun o q => Heap.get?_push_of_some _ q, fun _ => True.intro, fun y hy => absurd rfl hy⟩

/-- e.f where nothing but the object is asked: through attributeBase (super) and the last hold -/
theorem attr_of {prog : Program} {w : World} {env : Env} {e : Expr} {f : Str} {pos : Pos} {s : Shared} {Q : Value → Shared → Prop} (hb : attributeBase e f env (eval e env) = eval e env)
    (h : wpAny (model prog w) A (eval e env) (fun o s₁ => wpAny (model prog w) A (getAttr o f true) Q E s₁) E s) : wpAny (model prog w) A (eval (.Attribute e f pos) env) Q E s :=
  Attribute_any_ h (by rw [arm_eval_Attribute, hb])
end

/-! ### readings and rules -/
/-- e.f, an attribute of the instance -/
def tFld (K : PySem.W.Frag) (ta : TE) (f : Str) : TE := fun σ H Q => ta σ H fun x H1 => ∃ a C dx fs v, x = .ref a ∧ H1 a = some (.ins C dx fs) ∧ Cls K C ∧ NoAttr K C f ∧ fs.lookup f = some v ∧ Q v H1
/-- e.f = value -/
def sFld (K : PySem.W.Frag) (ta tv : TE) (f : Str) : TS := fun D σ H => tv σ H fun y H1 => ta σ H1 fun x H2 => ∃ a C dx fs, x = .ref a ∧ H2 a = some (.ins C dx fs) ∧ Cls K C ∧ NoAttr K C f ∧ fs.length < 1000 ∧
  D.nx σ (upd H2 a (.ins C dx (putF f y fs)))
section
variable {X : Cx} {o e value : Expr} {f : Str} {pos pos' tpos : Pos} {ta tv : TE}
theorem pe_fld (he : PE X e ta) (hb : attributeBase e f X.env (eval e X.env) = eval e X.env) : PE X (.Attribute e f pos) (tFld X.K ta f) := by
  intro pins s σ H Q I h
  refine attr_of hb (thn (he pins s σ H _ I h) fun u s1 ⟨x, H1, I1, rx, a, C, dx, fs, v, ex, ea, c, n, l, q⟩ => ?_)
  subst ex
  obtain rfl : u = Value.ref a := rx
  exact getattr_ok I1 ea c n l fun u' s2 I2 ru => ⟨v, H1, I2, ru, q⟩
theorem ps_fld (ha : PE X o ta) (hv : PE X value tv) (hs : swapsWith value (some (.Attribute o f pos')) pos.line X.env = pure false) : PS X (.Assign [.Attribute o f pos'] value pos) (sFld X.K ta tv f) := by
  intro pins s σ H D I h
  refine plainObj_wpAny_Assign_Attribute (thn (hv pins s σ H _ I h) fun u s1 ⟨y, H1, I1, ry, q⟩ => thn (ha pins s1 σ H1 _ I1 q) fun ov s2 ⟨x, H2, I2, rx, a, C, dx, fs, ex, ea, c, n, l, q2⟩ => ?_) hs
  subst ex
  obtain rfl : ov = Value.ref a := rx
  exact setattr_ok I2 ea c n l ry fun s3 I3 => ⟨σ, _, I3, q2⟩
end

/-! ### isinstance -/
section
variable {X : Cx} {pins : List (Addr × Obj)} {σ : St} {H : Hp} {s : Shared} {A : Around} {E : Value → Shared → Prop} {Q : Value → Shared → Prop} {c : Value} {b : Bool}
/-- the type of a value, as the fragment's deciders take it; for an instance its class -/
inductive TyOf (K : PySem.W.Frag) (H : Hp) : V → Value → Prop where
  | non : TyOf K H .non (.type "NoneType")
  | bl (x : Bool) : TyOf K H (.bl x) (.type "bool")
  | int (i : Int) : TyOf K H (.int i) (.type "int")
  | str (x : Str) : TyOf K H (.str x) (.type "str")
  | flt (x : UInt64) : TyOf K H (.flt x) (.type "float")
  | lst {a : Addr} {xs : List V} (e : H a = some (.lst xs)) : TyOf K H (.ref a) (.type "list")
  | frz {a : Addr} {o : Obj} {xs : List V} (e : H a = some (.frz o (.lst xs))) : TyOf K H (.ref a) (.type "list")
  | tup {a : Addr} {xs : List V} (e : H a = some (.tup xs)) : TyOf K H (.ref a) (.type "tuple")
  | dK {a : Addr} {kvs : List (Key × V)} (e : H a = some (.dK kvs)) : TyOf K H (.ref a) (.type "dict")
  | dT {a : Addr} {kvs : List (List Key × V)} (e : H a = some (.dT kvs)) : TyOf K H (.ref a) (.type "dict")
  | ins {a C dx : Addr} {fs : List (Str × V)} (e : H a = some (.ins C dx fs)) (cl : Cls K C) (ha : PySem.W.findIn K (.ref C) "__class__" = some (some (.builtin "object.__class__")))
      (hn : PySem.W.specialIn K (.builtin "object.__class__") "__get__" = some (some (.builtin "getset_descriptor.__get__"))) (htk : PySem.W.takesIn K (.builtin "object.__class__") = some true)
      (hm : PySem.W.mroIn K C (.type "object") = some true) : TyOf K H (.ref a) (.ref C)
/-- isinstance(x, c) for one class c, a built-in or an own one: kitOne's answer -/
theorem isinst_ok {x : V} {u t : Value} (I : Inv X pins σ H s) (rx : RelV x u) (ty : TyOf X.K H x t) (e : PySem.W.kitOne X.K t c = some b) (h : ∀ tk, Q (.bool b) { s with toks := tk }) :
    wpAny (model X.prog X.w) A (call (.builtin "isinstance") [u, c]) Q E s := by
  cases ty with
  | non => cases (show u = Value.none from rx); exact PySem.W.kia_one PySem.W.kitx_none I.kIn True.intro e (fun z => nomatch z) h
  | bl y => cases (show u = Value.bool y from rx); exact PySem.W.kia_one PySem.W.kitx_bool I.kIn True.intro e (fun z => nomatch z) h
  | int i => obtain ⟨t, q⟩ := (show ∃ t, u = Value.int i t from rx); cases q; exact PySem.W.kia_one PySem.W.kitx_int I.kIn True.intro e (fun z => nomatch z) h
  | str y => obtain ⟨t, q⟩ := (show ∃ t, u = Value.str y t from rx); cases q; exact PySem.W.kia_one PySem.W.kitx_str I.kIn True.intro e (fun z => nomatch z) h
  | flt y => obtain ⟨t, q⟩ := (show ∃ t, u = Value.float y t from rx); cases q; exact PySem.W.kia_one PySem.W.kitx_float I.kIn True.intro e (fun z => nomatch z) h
  | @lst a xs ea =>
    cases (show u = Value.ref a from rx)
    obtain ⟨_, _, n, _, h1⟩ := (show ObjOk X.prog X.w H s.heap a (.lst xs) from I.hok a _ ea)
    exact PySem.W.kia_one PySem.W.kitx_list I.kIn ⟨_, h1, rfl⟩ e (fun z => nomatch z) h
  | @frz a ob xs ea =>
    cases (show u = Value.ref a from rx)
    obtain ⟨_, _, _, n, _, h1⟩ := (show ObjOk X.prog X.w H s.heap a (.frz ob (.lst xs)) from I.hok a _ ea)
    exact PySem.W.kia_one PySem.W.kitx_list I.kIn ⟨_, h1, rfl⟩ e (fun z => nomatch z) h
  | @tup a xs ea =>
    cases (show u = Value.ref a from rx)
    obtain ⟨_, _, _, p⟩ := (show ObjOk X.prog X.w H s.heap a (.tup xs) from I.hok a _ ea)
    obtain ⟨o, h1, h2, _⟩ := p
    exact PySem.W.kia_one PySem.W.kitx_tuple I.kIn ⟨o, h1, h2⟩ e (fun z => nomatch z) h
  | @dK a kvs ea =>
    cases (show u = Value.ref a from rx)
    obtain ⟨_, _, vs, _, p⟩ := (show ObjOk X.prog X.w H s.heap a (.dK kvs) from I.hok a _ ea)
    obtain ⟨o, es, ep, h1, h2, _⟩ := p
    exact PySem.W.kia_one PySem.W.kitx_dict I.kIn ⟨o, h1, h2.1⟩ e (fun z => nomatch z) h
  | @dT a kvs ea =>
    cases (show u = Value.ref a from rx)
    obtain ⟨_, _, xs, _, o, es, ep, h1, h2, _⟩ := (show ObjOk X.prog X.w H s.heap a (.dT kvs) from I.hok a _ ea)
    exact PySem.W.kia_one PySem.W.kitx_dict I.kIn ⟨o, h1, h2.1⟩ e (fun z => nomatch z) h
  | @ins a C dx fs ea cl ha hn htk hm =>
    cases (show u = Value.ref a from rx)
    obtain ⟨mA, O, _⟩ := ins_get I.hok ea
    obtain ⟨od, J, _⟩ := O.look
    exact PySem.W.kia_one (PySem.W.kitx_own (cl.get _) cl.hd ha hn htk hm) I.kIn J e (fun z => nomatch z) h
end
end L2

namespace L2
open PySem PySem.Spec PyProof.Rows

/-! ### room -/
structure Room (k : Nat) (A : Around) : Prop where
  hd : A.handled = none
  dp : A.depth + 3 * k + 5 < recursionLimit
  un : A.units + 16 * k + 200 < cLine
theorem Room.mono {j k : Nat} {A : Around} (r : Room k A) (h : j ≤ k) : Room j A := ⟨r.hd, by have := r.dp; omega, by have := r.un; omega⟩
theorem Room.deeper {k : Nat} {A : Around} (r : Room (k + 1) A) (env : Env) : Room k (A.deeper env) :=
  ⟨r.hd, by have := r.dp; show A.depth + 1 + 3 * k + 5 < _; omega, by have := r.un; show A.units + 3 + 16 * k + 200 < _; omega⟩
theorem Room.in1 {k : Nat} {A : Around} (r : Room (k + 1) A) : Room k A.in1 :=
  ⟨r.hd, by have := r.dp; show A.depth + 3 * k + 5 < _; omega, by have := r.un; show A.units + 1 + 16 * k + 200 < _; omega⟩
theorem make_depth {A : Around} {C : Addr} {us : List Value} {kw : List (Str × Value)} : (A.under (.builtin "type.__call__" ⟨.ref C :: us, kw⟩)).depth = A.depth + 1 := by
  first | rfl | simp [Around.under, Code.weight, Code.isCreation, Code.isGuard, Code.isCaller, Code.frames, Code.isFrame, guardIds]
theorem make_units {A : Around} {C : Addr} {us : List Value} {kw : List (Str × Value)} : (A.under (.builtin "type.__call__" ⟨.ref C :: us, kw⟩)).units = A.units + 1 := by
  first | rfl | simp [Around.under, Code.cUnits, Code.frames, Code.isFrame]
theorem Room.make {k : Nat} {A : Around} (r : Room (k + 1) A) (C : Addr) (us : List Value) (kw : List (Str × Value)) : Room k (A.under (.builtin "type.__call__" ⟨.ref C :: us, kw⟩)) :=
  ⟨r.hd, by have := r.dp; rw [make_depth]; omega, by have := r.un; rw [make_units]; omega⟩
theorem Room.depth {k : Nat} {A : Around} (r : Room k A) : A.depth < recursionLimit := by have := r.dp; omega
theorem Room.units {k : Nat} {A : Around} (r : Room k A) : A.units + 64 < cLine := by have := r.un; omega
theorem Room.units0 {k : Nat} {A : Around} (r : Room k A) : A.units < cLine := by have := r.un; omega

/-! ### argument lists and displays -/
def tNil : TA := fun _ H Q => Q [] H
def tCons (ta : TE) (tr : TA) : TA := fun σ H Q => ta σ H fun x H1 => tr σ H1 fun xs H2 => Q (x :: xs) H2
section
variable {X : Cx} {e : Expr} {es : List Expr} {te : TE} {t : TA} {pos : Pos}
theorem pa_nil : PA X [] tNil := fun _ _ _ _ H Q I h => Calls.spliced_nil ⟨[], H, I, .nil, h⟩
theorem pa_cons (ha : PE X e te) (hr : PA X es t) (hs : starEach (e :: es) X.env = (false, eval e X.env) :: starEach es X.env := by rfl) : PA X (e :: es) (tCons te t) := by
  intro pos pins s σ H Q I h
  rw [hs]
  show wpAny _ _ (spliced ((false, eval e X.env) :: backTo pos (starEach es X.env))) _ _ s
  refine Calls.spliced_cons (thn (ha pins s σ H _ I h) fun u s1 ⟨x, H1, I1, r1, q1⟩ => ?_)
  exact thn (hr pos pins s1 σ H1 _ I1 q1) fun us s2 ⟨xs, H2, I2, r2, q2⟩ => ⟨x :: xs, H2, I2, .cons r1 r2, q2⟩

/-- a tuple, a list of written items -/
def tTup (t : TA) : TE := fun σ H Q => t σ H fun xs H1 => xs.length ≤ sizeLine ∧ ∀ p, H1 p = none → Q (.ref p) (upd H1 p (.tup xs))
def tLst (t : TA) : TE := fun σ H Q => t σ H fun xs H1 => xs.length ≤ sizeLine ∧ ∀ p, H1 p = none → Q (.ref p) (upd H1 p (.lst xs))
theorem pe_tup {x1} (h : PA X es t) : PE X (.Tuple es x1 pos) (tTup t) := by
  intro pins s σ H Q I hq
  refine wpAny_Tuple_spliced (thn (h pos pins s σ H _ I hq) fun us s1 ⟨xs, H1, I1, r, z, q⟩ => ⟨by rw [← r.length]; exact z, ?_⟩)
  have hf : H1 s1.heap.objs.size = none := I1.hok.fresh (Nat.le_refl _)
  refine ⟨.ref s1.heap.objs.size, upd H1 s1.heap.objs.size (.tup xs), I1.laid (t' := s1.toks) (fun b u e => Heap.get?_push_of_some _ e) (Nat.le_refl _) ?_, rfl, q _ hf⟩
  exact ⟨z, us, r, ⟨_, Heap.get?_push_size _ rfl, rfl, _, rfl⟩⟩
theorem pe_lst (h : PA X es t) : PE X (.List es pos) (tLst t) := by
  intro pins s σ H Q I hq
  refine wpAny_List_spliced (thn (h pos pins s σ H _ I hq) fun us s1 ⟨xs, H1, I1, r, z, q⟩ => ⟨by rw [← r.length]; exact z, ?_⟩)
  have hf : H1 s1.heap.objs.size = none := I1.hok.fresh (Nat.le_refl _)
  refine ⟨.ref s1.heap.objs.size, upd H1 s1.heap.objs.size (.lst xs), I1.laid (t' := s1.toks) (fun b u e => Heap.get?_push_of_some _ e) (Nat.le_refl _) ?_, rfl, q _ hf⟩
  exact ⟨z, us, 0, r, Heap.get?_push_size _ rfl⟩
end

/-! ### what a def promises -/
/-- a def's promise: the bound arguments in the parameters' order, the heap, the wanted end, the wanted exception -/
abbrev Sp := List V → Hp → VK → XK → Prop
/-- how an exception lies behind a call (file 08 gives it): the callers' frames, abstract heap and state ahead of the call, the wish, the exception, the state -/
abbrev CXT := List Env → Hp → Shared → XK → Value → Shared → Prop

/-- the state at a call -/
structure Env0 (P : Program) (w : World) (K : PySem.W.Frag) (mg : Str → Option Value) (base : Heap) (A : Around) (outer : List Env) (s : Shared) (H : Hp) : Prop where
  frames : A.frames = some outer
  mod : Mod K mg base
  bs : ∀ b o, base.get? b = some o → s.heap.get? b = some o ∧ H b = none
  bsz : base.objs.size ≤ s.heap.objs.size
  funs : s.heap.FunFrames base outer
  frf : ∀ b ∈ frs outer, H b = none
  hok : HOk P w H s.heap
  bare : AllBare s.gens
/-- a call's end -/
def CE (outer : List Env) (P : Program) (w : World) (H : Hp) (s : Shared) (Q : VK) (u : Value) (s' : Shared) : Prop :=
  ∃ v H', s'.os = s.os ∧ AllBare s'.gens ∧ Un (frs outer) [] H H' s.heap s'.heap ∧ HOk P w H' s'.heap ∧ RelV v u ∧ Q v H'
def CR (CX : CXT) (outer : List Env) (P : Program) (w : World) (H : Hp) (s : Shared) (Q : VK) (E : XK) (r : Result) (s' : Shared) : Prop :=
  match r with
  | .ok (.ret u) => CE outer P w H s Q u s'
  | .ok _ => False
  | .error e => CX outer H s E e s'
structure FnOk (P : Program) (w : World) (K : PySem.W.Frag) (mg : Str → Option Value) (base : Heap) (CX : CXT) (k : Nat) (f : Addr) (fd : FuncData) (ps : List Str) (sp : Sp) : Prop where
  len : ∀ vs H Q E, sp vs H Q E → vs.length = ps.length
  run : ∀ (A : Around) (outer : List Env) (s : Shared) (H : Hp) (args : Args) (us : List Value) (vs : List V) (Q : VK) (E : XK), Room k A → Env0 P w K mg base A outer s H → BindsTo s fd args (ps.zip us) → Vals vs us → sp vs H Q E →
    codeAny (model P w) A (.call (.ref f) args) (CR CX outer P w H s Q E) s
theorem FnOk.mono {P : Program} {w : World} {K : PySem.W.Frag} {mg : Str → Option Value} {base : Heap} {CX : CXT} {j k : Nat} {f : Addr} {fd : FuncData} {ps : List Str} {sp : Sp} (F : FnOk P w K mg base CX j f fd ps sp) (h : j ≤ k) :
    FnOk P w K mg base CX k f fd ps sp := ⟨F.len, fun A outer s H args us vs Q E hr => F.run A outer s H args us vs Q E (hr.mono h)⟩
/-- a weaker promise -/
theorem FnOk.imp {P : Program} {w : World} {K : PySem.W.Frag} {mg : Str → Option Value} {base : Heap} {CX : CXT} {k : Nat} {f : Addr} {fd : FuncData} {ps : List Str} {sp sp' : Sp} (F : FnOk P w K mg base CX k f fd ps sp)
    (h : ∀ vs H Q E, sp' vs H Q E → sp vs H Q E) : FnOk P w K mg base CX k f fd ps sp' :=
  ⟨fun vs H Q E q => F.len vs H Q E (h _ _ _ _ q), fun A outer s H args us vs Q E hr he hb hv hs => F.run A outer s H args us vs Q E hr he hb hv (h _ _ _ _ hs)⟩

theorem Env0.make {P : Program} {w : World} {K : PySem.W.Frag} {mg : Str → Option Value} {base : Heap} {A : Around} {outer : List Env} {s : Shared} {H : Hp} (e : Env0 P w K mg base A outer s H) (C : Addr) (us : List Value) (kw : List (Str × Value)) :
    Env0 P w K mg base (A.under (.builtin "type.__call__" ⟨.ref C :: us, kw⟩)) outer s H := ⟨by first | exact e.frames | (simpa [Around.under, Code.envs, Code.isFrame, pushEnvs] using e.frames), e.mod, e.bs, e.bsz, e.funs, e.frf, e.hok, e.bare⟩
theorem Env0.in1 {P : Program} {w : World} {K : PySem.W.Frag} {mg : Str → Option Value} {base : Heap} {A : Around} {outer : List Env} {s : Shared} {H : Hp} (e : Env0 P w K mg base A outer s H) :
    Env0 P w K mg base A.in1 outer s H := ⟨e.frames, e.mod, e.bs, e.bsz, e.funs, e.frf, e.hok, e.bare⟩

section
variable {X : Cx} {pins : List (Addr × Obj)} {σ : St} {H : Hp} {s s' : Shared}
/-- from a body: what a callee wants -/
theorem Inv.env0 (I : Inv X pins σ H s) : Env0 X.prog X.w X.K X.mg X.base X.A X.stack s H :=
  ⟨I.ok.frames, I.ok.mod, I.bs, Nat.le_trans I.ok.bsz I.sz, I.stack, I.stkFree, I.hok, I.bare⟩
/-- behind a call -/
theorem Inv.after {Q : VK} {u : Value} (I : Inv X pins σ H s) (h : CE X.stack X.prog X.w H s Q u s') : EP X pins σ Q u s' := by
  obtain ⟨v, H', os, bare, un, hok, r, q⟩ := h
  obtain ⟨hh, g, d, t, os'⟩ := s'
  obtain rfl : os' = s.os := os
  exact ⟨v, H', I.call (h' := hh) (g' := g) (d' := d) (t' := t) (ch := []) un hok bare (fun b z => absurd z (by simp)), r, q⟩
end

/-! ### calls -/
/-- f(..): the written arguments, then the defaults dvs; E: what is wanted of an exception -/
def tCall (sp : Sp) (dvs : List V) (E : XK) (t : TA) : TE := fun σ H Q => t σ H fun vs H1 => sp (vs ++ dvs) H1 Q E
/-- o.m(..) of an instance of the class at C -/
def tMeth (C : Addr) (m : Str) (sp : Sp) (dvs : List V) (E : XK) (ta : TE) (t : TA) : TE := fun σ H Q => ta σ H fun x H1 => ∃ a dx fs, x = .ref a ∧ H1 a = some (.ins C dx fs) ∧ fs.lookup m = none ∧
  t σ H1 fun vs H2 => sp (x :: (vs ++ dvs)) H2 Q E
/-- C(..): a new instance and its dict, then __init__ -/
def tMake (C : Addr) (sp : Sp) (dvs : List V) (E : XK) (t : TA) : TE := fun σ H Q => t σ H fun vs H1 => ∀ x dx, H1 x = none → H1 dx = none → dx ≠ x →
  sp (.ref x :: (vs ++ dvs)) (upd (upd H1 dx (.own x)) x (.ins C dx [])) (fun v H2 => v = .non ∧ Q (.ref x) H2) E

/-- how the parameters are bound: us the positional arguments, kw the keywords' values by name, ds the defaults that fill up -/
def Binds (K : PySem.W.Frag) (fd : FuncData) (ps : List Str) (ds : List Value) : Prop :=
  ∀ (s : Shared) (us : List Value), K.In s.heap → (us ++ ds).length = ps.length → BindsTo s fd ⟨us, []⟩ (ps.zip (us ++ ds))
/-- every parameter is given -/
theorem Binds.all {K : PySem.W.Frag} {fd : FuncData} {ps : List Str} (h : ∀ us : List Value, us.length = ps.length → bindArgs fd ⟨us, []⟩ = pure (ps.zip us)) : Binds K fd ps [] := fun s us _ hl => by
  rw [List.append_nil] at hl ⊢
  exact .of_eq (h us hl)

/-- an exception of a callee reaches what this body wants of exceptions -/
def Passes (CX : CXT) (X : Cx) (E : XK) : Prop := ∀ (pins : List (Addr × Obj)) (σ : St) (H : Hp) (s : Shared) (e : Value) (s' : Shared), Inv X pins σ H s → CX X.stack H s E e s' → X.xe e s'

section
variable {X : Cx} {CX : CXT} {k : Nat} {f C : Addr} {fd : FuncData} {ps : List Str} {sp : Sp} {dvs : List V} {ds : List Value} {E : XK} {x m : Str} {p pos apos : Pos} {e o : Expr} {es : List Expr} {ta : TE} {t : TA}

/-- the callee runs -/
theorem run_fn {pins : List (Addr × Obj)} {σ : St} {H : Hp} {s : Shared} {Q : VK} {us : List Value} {vs : List V} (F : FnOk X.prog X.w X.K X.mg X.base CX k f fd ps sp) (hr : Room k X.A) (hb : Binds X.K fd ps ds) (hd : Vals dvs ds) (hx : Passes CX X E)
    (I : Inv X pins σ H s) (r : Vals vs us) (h : sp (vs ++ dvs) H Q E) : wpAny (model X.prog X.w) X.A (call (.ref f) us) (EP X pins σ Q) X.xe s := by
  have r2 : Vals (vs ++ dvs) (us ++ ds) := r.append hd
  have hl : (us ++ ds).length = ps.length := by rw [← r2.length]; exact F.len _ _ _ _ h
  refine wpAny_call (codeAny_mono (F.run X.A X.stack s H ⟨us, []⟩ (us ++ ds) (vs ++ dvs) Q E hr I.env0 (hb s us I.kIn hl) r2 h) fun r s' hq => ?_)
  cases r with
  | error e => exact hx pins σ H s e s' I hq
  | ok fl =>
    cases fl with
    | ret u => exact I.after hq
    | next => exact False.elim hq
    | brk => exact False.elim hq
    | cont => exact False.elim hq

theorem pe_call (F : FnOk X.prog X.w X.K X.mg X.base CX k f fd ps sp) (hr : Room k X.A) (hg : Gl X x) (hm : X.mg x = some (.ref f)) (hk : PySem.W.keepIn X.K (.ref f) = true) (hb : Binds X.K fd ps ds) (hd : Vals dvs ds) (hx : Passes CX X E)
    (ha : PA X (e :: es) t) (hdb : (x == ("__debug__" : Str)) = false := by decide) (he : starEach (e :: es) X.env = (false, eval e X.env) :: starEach es X.env := by rfl) (hpl : (backTo pos (starEach es X.env)).any (·.1) = false := by rfl) :
    PE X (.Call (.Name x p) (e :: es) [] pos) (tCall sp dvs E t) := by
  intro pins s σ H Q I h
  refine wpAny_Call_Name_kw (ld_glob I hg hm ?_ hdb)
  refine PySem.W.callWith_K (h₀ := X.base) I.ok.mod.kin hk (thn (ha pos pins s σ H _ I h) fun us s1 ⟨vs, H1, I1, r, q⟩ => ⟨I1.kIn, ?_⟩) he hpl
  exact run_fn F hr hb hd hx I1 r q
theorem pe_call0 (F : FnOk X.prog X.w X.K X.mg X.base CX k f fd ps sp) (hr : Room k X.A) (hg : Gl X x) (hm : X.mg x = some (.ref f)) (hk : PySem.W.keepIn X.K (.ref f) = true) (hb : Binds X.K fd ps ds) (hd : Vals dvs ds) (hx : Passes CX X E)
    (hdb : (x == ("__debug__" : Str)) = false := by decide) : PE X (.Call (.Name x p) [] [] pos) (tCall sp dvs E tNil) := by
  intro pins s σ H Q I h
  refine wpAny_Call_Name_kw (ld_glob I hg hm ?_ hdb)
  exact PySem.W.callWith_K0 I.kIn hk (run_fn (us := []) F hr hb hd hx I .nil h)

/-- o.m(e, ..) -/
theorem pe_meth {pl : Sem Bool} (he : PE X o ta) (c : Cls X.K C) (hm : Meth X.K C m f) (F : FnOk X.prog X.w X.K X.mg X.base CX k f fd ps sp) (hr : Room k X.A) (hb : Binds X.K fd ps ds) (hd : Vals dvs ds) (hx : Passes CX X E) (ha : PA X (e :: es) t)
    (hst : starEach (e :: es) X.env = (false, eval e X.env) :: starEach es X.env := by rfl) (hpl : (backTo pos (starEach es X.env)).any (·.1) = false := by rfl)
    (ht : eval (.Call (.Attribute o m apos) (e :: es) [] pos) X.env = (do
      let ov ← eval o X.env
      standAt apos.atName
      let (f, first) ← holding [ov] (getMethod ov m pl)
      callWith pos f first (backTo pos (starEach (e :: es) X.env)) (backToKw pos (keywordEach [] X.env))) := by rfl) :
    PE X (.Call (.Attribute o m apos) (e :: es) [] pos) (tMeth C m sp dvs E ta t) := by
  intro pins s σ H Q I h
  refine PySem.W.methodCall_KW (pl := pl) (thn (he pins s σ H _ I h) fun u s1 ⟨x, H1, I1, rx, a, dx, fs, ex, ea, l, q⟩ => ?_) ht
  subst ex
  obtain rfl : u = Value.ref a := rx
  refine getmeth_ok I1 ea c hm l ?_
  refine PySem.W.callWith_K (first := [.ref a]) (h₀ := X.base) I.ok.mod.kin hm.kp (thn (ha pos pins s1 σ H1 _ I1 q) fun us s2 ⟨vs, H2, I2, r, q2⟩ => ⟨I2.kIn, ?_⟩) hst hpl
  exact run_fn (us := .ref a :: us) (vs := .ref a :: vs) F hr hb hd hx I2 (.cons rfl r) q2
/-- o.m() -/
theorem pe_meth0 {pl : Sem Bool} (he : PE X o ta) (c : Cls X.K C) (hm : Meth X.K C m f) (F : FnOk X.prog X.w X.K X.mg X.base CX k f fd ps sp) (hr : Room k X.A) (hb : Binds X.K fd ps ds) (hd : Vals dvs ds) (hx : Passes CX X E)
    (ht : eval (.Call (.Attribute o m apos) [] [] pos) X.env = (do
      let ov ← eval o X.env
      standAt apos.atName
      let (f, first) ← holding [ov] (getMethod ov m pl)
      callWith pos f first (backTo pos (starEach [] X.env)) (backToKw pos (keywordEach [] X.env))) := by rfl) :
    PE X (.Call (.Attribute o m apos) [] [] pos) (tMeth C m sp dvs E ta tNil) := by
  intro pins s σ H Q I h
  refine PySem.W.methodCall_KW (pl := pl) (thn (he pins s σ H _ I h) fun u s1 ⟨x, H1, I1, rx, a, dx, fs, ex, ea, l, q⟩ => ?_) ht
  subst ex
  obtain rfl : u = Value.ref a := rx
  refine getmeth_ok I1 ea c hm l ?_
  exact PySem.W.callWith_K0 (first := [.ref a]) I1.kIn hm.kp (run_fn (us := [.ref a]) (vs := [.ref a]) F hr hb hd hx I1 (.cons rfl .nil) q)

/-- what a class must have to be made -/
structure Mk (K : PySem.W.Frag) (C f : Addr) : Prop where
  makes : PySem.W.makesIn K C = true
  init : PySem.W.findIn K (.ref C) "__init__" = some (some (.ref f))
  fn : PySem.W.isFn K (.ref f) = true
  kp : PySem.W.keepIn K (.ref C) = true

theorem run_make {pins : List (Addr × Obj)} {σ : St} {H : Hp} {s : Shared} {Q : VK} {us : List Value} {vs : List V} (M : Mk X.K C f) (F : FnOk X.prog X.w X.K X.mg X.base CX k f fd ps sp) (hr : Room (k + 1) X.A) (hb : Binds X.K fd ps ds) (hd : Vals dvs ds)
    (hx : Passes CX X E) (I : Inv X pins σ H s) (r : Vals vs us)
    (h : ∀ x dx, H x = none → H dx = none → dx ≠ x → sp (.ref x :: (vs ++ dvs)) (upd (upd H dx (.own x)) x (.ins C dx [])) (fun v H2 => v = .non ∧ Q (.ref x) H2) E) :
    wpAny (model X.prog X.w) X.A (call (.ref C) us) (EP X pins σ Q) X.xe s := by
  have hq := h (s.heap.objs.size + 1) s.heap.objs.size (I.hok.fresh (Nat.le_succ _)) (I.hok.fresh (Nat.le_refl _)) (Nat.ne_of_lt (Nat.lt_succ_self _))
  have I2 := Inv.made (C := C) I
  have r2 : Vals (V.ref (s.heap.objs.size + 1) :: (vs ++ dvs)) (Value.ref (s.heap.objs.size + 1) :: (us ++ ds)) := .cons rfl (r.append hd)
  have hl : (Value.ref (s.heap.objs.size + 1) :: us ++ ds).length = ps.length := by
    have e := r2.length
    rw [F.len _ _ _ _ hq] at e
    exact e.symm
  refine wpAny_call (make_map (f := f) I.kIn M.makes M.init (beq_iff_eq.mp M.fn) (codeAny_mono (F.run _ X.stack _ _ ⟨Value.ref (s.heap.objs.size + 1) :: us, []⟩ (Value.ref (s.heap.objs.size + 1) :: (us ++ ds)) _ _ E (hr.make C us [])
    (I2.env0.make C us []) (hb _ (Value.ref (s.heap.objs.size + 1) :: us) I2.kIn hl) r2 hq) fun r s' hq' => ?_))
  cases r with
  | error e => exact hx pins σ _ _ e s' I2 hq'
  | ok fl =>
    cases fl with
    | ret u =>
      obtain ⟨v, H', I3, rv, ev, q3⟩ := I2.after hq'
      subst ev
      exact ⟨rv, ⟨V.ref (s.heap.objs.size + 1), H', I3, rfl, q3⟩⟩
    | next => exact False.elim hq'
    | brk => exact False.elim hq'
    | cont => exact False.elim hq'
theorem pe_make (M : Mk X.K C f) (F : FnOk X.prog X.w X.K X.mg X.base CX k f fd ps sp) (hr : Room (k + 1) X.A) (hg : Gl X x) (hm : X.mg x = some (.ref C)) (hb : Binds X.K fd ps ds) (hd : Vals dvs ds) (hx : Passes CX X E)
    (ha : PA X (e :: es) t) (hdb : (x == ("__debug__" : Str)) = false := by decide) (he : starEach (e :: es) X.env = (false, eval e X.env) :: starEach es X.env := by rfl) (hpl : (backTo pos (starEach es X.env)).any (·.1) = false := by rfl) :
    PE X (.Call (.Name x p) (e :: es) [] pos) (tMake C sp dvs E t) := by
  intro pins s σ H Q I h
  refine wpAny_Call_Name_kw (ld_glob I hg hm ?_ hdb)
  refine PySem.W.callWith_K (h₀ := X.base) I.ok.mod.kin M.kp (thn (ha pos pins s σ H _ I h) fun us s1 ⟨vs, H1, I1, r, q⟩ => ⟨I1.kIn, ?_⟩) he hpl
  exact run_make M F hr hb hd hx I1 r q
end

/-! ### keywords -/
section
variable {X : Cx} {CX : CXT} {k : Nat} {f C : Addr} {fd : FuncData} {ps ks : List Str} {sp : Sp} {E : XK} {x m : Str} {p pos apos kpos : Pos} {e o : Expr} {es : List Expr} {kws : List Keyword} {te ta : TE} {t tk : TA} {nm : Option Str}
/-- how a call with keywords binds: g puts the positional values us and the keywords' values ws (names ks) in the parameters' order, defaults among them -/
structure KBinds (K : PySem.W.Frag) (fd : FuncData) (ps ks : List Str) (g : List Value → List Value → List Value) (gV : List V → List V → List V) : Prop where
  to : ∀ (s : Shared) (us ws : List Value), K.In s.heap → (g us ws).length = ps.length → BindsTo s fd ⟨us, ks.zip ws⟩ (ps.zip (g us ws))
  rel : ∀ {vs : List V} {us : List Value} {zs : List V} {ws : List Value}, Vals vs us → Vals zs ws → Vals (gV vs zs) (g us ws)
variable {g : List Value → List Value → List Value} {gV : List V → List V → List V}
end

/-! ### a def's body keeps its promise -/
/-- names: the parameters first -/
structure FnScope (N P : List Str) (sc : Scope) : Prop where
  kind : sc.kind = .function
  co : sc.isCoroutine = false
  gen : sc.isGenerator = false
  nd : N.Nodup
  pre : N.take P.length = P
  par : ∀ x ∈ P, sc.names.lookup x = some .local ∨ sc.names.lookup x = some .cell
  nofree : ∀ y ∈ sc.names, y.2 ≠ .free

theorem bindL_out {kindOf : Str → Option NameKind} {x : Str} : ∀ {binds : List (Str × Value)} {m : Str → Option Value}, (∀ v, (x, v) ∉ binds) → bindL kindOf binds m x = m x
  | [], _, _ => rfl
  | (n, v) :: r, m, h => by
    unfold bindL
    rw [bindL_out fun w hw => h w (List.mem_cons_of_mem _ hw)]
    split
    · have : x ≠ n := by rintro rfl; exact h v List.mem_cons_self
      simp [this]
    · rfl
theorem bindC_out {kindOf : Str → Option NameKind} {x : Str} : ∀ {binds : List (Str × Value)} {m : Str → Option Value}, (∀ v, (x, v) ∉ binds) → bindC kindOf binds m x = m x
  | [], _, _ => rfl
  | (n, v) :: r, m, h => by
    unfold bindC
    rw [bindC_out fun w hw => h w (List.mem_cons_of_mem _ hw)]
    split
    · rfl
    · have : x ≠ n := by rintro rfl; exact h v List.mem_cons_self
      simp [this]
theorem bindL_get {kindOf : Str → Option NameKind} {x : Str} {v : Value} : ∀ {P : List Str} {vs : List Value} {i : Nat} {m : Str → Option Value}, P.Nodup → P[i]? = some x → vs[i]? = some v → kindOf x = some .local →
    bindL kindOf (P.zip vs) m x = some v
  | [], _, _, _, _, h, _, _ => by simp at h
  | _ :: _, [], _, _, _, _, h, _ => by simp at h
  | p :: P, w :: vs, 0, m, nd, h1, h2, hk => by
    simp at h1 h2; subst h1; subst h2
    show bindL kindOf ((p, w) :: P.zip vs) m p = _
    unfold bindL
    rw [bindL_out fun v hv => (List.nodup_cons.mp nd).1 (List.of_mem_zip hv).1, if_pos hk]
    simp
  | p :: P, w :: vs, i + 1, m, nd, h1, h2, hk => by
    show bindL kindOf ((p, w) :: P.zip vs) m x = _
    unfold bindL
    exact bindL_get (i := i) (List.nodup_cons.mp nd).2 (by simpa using h1) (by simpa using h2) hk
theorem bindC_get {kindOf : Str → Option NameKind} {x : Str} {v : Value} : ∀ {P : List Str} {vs : List Value} {i : Nat} {m : Str → Option Value}, P.Nodup → P[i]? = some x → vs[i]? = some v → kindOf x ≠ some .local →
    bindC kindOf (P.zip vs) m x = some v
  | [], _, _, _, _, h, _, _ => by simp at h
  | _ :: _, [], _, _, _, _, h, _ => by simp at h
  | p :: P, w :: vs, 0, m, nd, h1, h2, hk => by
    simp at h1 h2; subst h1; subst h2
    show bindC kindOf ((p, w) :: P.zip vs) m p = _
    unfold bindC
    rw [bindC_out fun v hv => (List.nodup_cons.mp nd).1 (List.of_mem_zip hv).1, if_neg hk]
    simp
  | p :: P, w :: vs, i + 1, m, nd, h1, h2, hk => by
    show bindC kindOf ((p, w) :: P.zip vs) m x = _
    unfold bindC
    exact bindC_get (i := i) (List.nodup_cons.mp nd).2 (by simpa using h1) (by simpa using h2) hk

/-- the names' values at the entry -/
def start (N : List Str) (vs : List V) : St := vs.map some ++ List.replicate (N.length - vs.length) none

/-- the context of a def's body, at its entry; an exception leaves the frame, then lies as CX says -/
def cxOf (CX : CXT) (P : Program) (w : World) (K : PySem.W.Frag) (mg : Str → Option Value) (base : Heap) (N : List Str) (qual : Str) (scope : Scope) (f : Addr) (cd : Value) (A : Around) (outer : List Env) (s : Shared) (H : Hp) (E : XK) : Cx where
  prog := P
  w := w
  K := K
  mg := mg
  base := base
  A := A.deeper (envOfC qual scope s.heap.objs.size f cd)
  N := N
  s₀ := s
  H₀ := H
  env := envOfC qual scope s.heap.objs.size f cd
  outer := outer
  stack := envOfC qual scope s.heap.objs.size f cd :: outer
  ex := []
  calm := true
  fn := fun _ => true
  pn := []
  xe := fun e s' => wpAny (model P w) (A.deeper (envOfC qual scope s.heap.objs.size f cd)) (leaving (envOfC qual scope s.heap.objs.size f cd) e) (fun _ s'' => CX outer H s E e s'') (fun e' s'' => CX outer H s E e' s'') s'

theorem cell_has {sc : Scope} {n : Nat} {x : Str} (h : sc.names.lookup x = some .cell) : ∃ c, (cellsFrom n sc.names []).lookup x = some c := by
  have q := PySem.W.cellsFrom_some sc.names n [] (.inl h)
  exact Option.isSome_iff_exists.mp q

theorem inv_start {CX : CXT} {P : Program} {w : World} {K : PySem.W.Frag} {mg : Str → Option Value} {base : Heap} {N ps : List Str} {qual : Str} {scope : Scope} {f : Addr} {cd : Value} {A : Around} {outer : List Env} {s s1 : Shared} {H : Hp} {E : XK} {us : List Value} {vs : List V}
    (S : FnScope N ps scope) (hd : A.handled = none) (e0 : Env0 P w K mg base A outer s H) (hl : vs.length = ps.length) (r : Vals vs us)
    (x : InCallC s s.heap.objs.size (bindL (envOfC qual scope s.heap.objs.size f cd).kindOf (ps.zip us) fun _ => none) (cellsFrom (s.heap.objs.size + 1) scope.names []) (bindC (envOfC qual scope s.heap.objs.size f cd).kindOf (ps.zip us) fun _ => none) s1) :
    Inv (cxOf CX P w K mg base N qual scope f cd A outer s H E) [] (start N vs) H s1 := by
  have hpl : ps.length ≤ N.length := by have := congrArg List.length S.pre; rw [List.length_take] at this; omega
  obtain ⟨h1, tk, rfl, hk⟩ := x.done
  have noA : ∀ b : Addr, b ∉ (cxOf CX P w K mg base N qual scope f cd A outer s H E).ex := fun b z => absurd (show b ∈ ([] : List Addr) from z) (by simp)
  refine ⟨⟨e0.mod, S.kind, rfl, rfl, Nat.le_refl _, fun y z c h1 h2 => ?_, fun y hy => ?_, fun y c _ h => ?_, fun _ => hd, Around.frames_deeper e0.frames, .inr ⟨rfl, rfl⟩, fun b z => absurd z (noA b), e0.bs, e0.bsz, fun b _ _ => noA b, fun b z => absurd z (noA b), e0.funs, e0.frf⟩,
    rfl, e0.bare, Un.kept hk, ⟨_, x.toInCall.ns, fun i y v h1 h2 h3 => ?_⟩, fun y c h => ⟨_, x.cell y c h⟩, e0.hok.fresh (Nat.le_refl _), fun y c h => ?_, fun p hp => absurd (show p ∈ ([] : List (Addr × Obj)) from hp) (by simp), e0.hok.kept hk, ?_⟩
  · exact name_of_addr x.apart (PySem.mem_of_lookup h1) (PySem.mem_of_lookup h2)
  · have hy : scope.names.lookup y = some .cell ∨ scope.names.lookup y = some .free := hy
    rcases hy with hy | hy
    · exact cell_has hy
    · exact absurd rfl (S.nofree _ (PySem.mem_of_lookup hy))
  · exact Nat.le_of_lt (x.above y c (PySem.mem_of_lookup h))
  · have hi : i < vs.length := by
      unfold start at h2
      by_cases hi : i < vs.length
      · exact hi
      · rw [List.getElem?_append_right (by simpa using hi)] at h2
        rw [List.getElem?_replicate] at h2
        split at h2 <;> cases h2
    have ha : vs[i]? = some v := by
      unfold start at h2
      rw [List.getElem?_append_left (by simpa using hi), List.getElem?_map] at h2
      cases e : vs[i]? with
      | none => rw [e] at h2; cases h2
      | some a => rw [e] at h2; cases h2; rfl
    obtain ⟨u, hu, rv⟩ := r.get ha
    have hp : ps[i]? = some y := by
      rw [← S.pre, List.getElem?_take_of_lt (by omega)]; exact h1
    have ndP : ps.Nodup := by rw [← S.pre]; exact S.nd.sublist (List.take_sublist _ _)
    refine ⟨u, rv, ?_⟩
    rcases S.par y (List.mem_of_getElem? hp) with k | k
    · exact .inl ⟨k, bindL_get ndP hp hu k⟩
    · obtain ⟨c, e⟩ := cell_has (n := s.heap.objs.size + 1) k
      refine .inr ⟨.inl k, c, e, ?_⟩
      have q := x.cell y c e
      rw [bindC_get ndP hp hu (by show scope.names.lookup y ≠ _; rw [k]; decide)] at q
      exact q
  · exact e0.hok.fresh (Nat.le_of_lt (x.above y c (PySem.mem_of_lookup h)))
  · unfold start
    show _ = N.length
    rw [List.length_append, List.length_map, List.length_replicate]
    omega

/-- THE RULE: a def (or a method) of the text, by its body. The body's reading t is chosen for each entry; it is run at the parameters' values -/
theorem fn_of {CX : CXT} {P : Program} {w : World} {K : PySem.W.Frag} {mg : Str → Option Value} {base : Heap} {k : Nat} {f : Addr} {name qual : Str} {params : Arguments} {body : List Stmt} {scope : Scope} {dV kV doc pm cdv ct oc : Value} {an od : Option Addr}
    {osl : Array (Option Value)} {N ps : List Str} {sp : Sp} (lk : K.lookup f = some ⟨oc, od, .func (PySem.W.fnOf name qual params body scope dV kV doc pm an cdv ct), osl⟩) (hcd : PySem.W.codeIn K cdv qual = true) (S : FnScope N ps scope)
    (len : ∀ vs H Q E, sp vs H Q E → vs.length = ps.length)
    (hbody : ∀ (A : Around) (outer : List Env) (s : Shared) (H : Hp) (vs : List V) (Q : VK) (E : XK), Room k (A.deeper (envOfC qual scope s.heap.objs.size f cdv)) → sp vs H Q E →
      ∃ t, PSs (cxOf CX P w K mg base N qual scope f cdv A outer s H E) body t ∧ t { nx := fun _ H' => Q .non H', rt := Q } (start N vs) H) :
    FnOk P w K mg base CX (k + 1) f (PySem.W.fnOf name qual params body scope dV kV doc pm an cdv ct) ps sp := by
  refine ⟨len, fun A outer s H args us vs Q E hr e0 hb r hsp => ?_⟩
  have hl := len _ _ _ _ hsp
  have KX : K.In s.heap := e0.mod.kin.keeps fun b o e => (e0.bs b o e).1
  have lim : s.heap.NoLimit := e0.mod.nolimit.keeps fun b o e => (e0.bs b o e).1
  have hkind : ∀ y ∈ ps.zip us, scope.names.lookup y.1 = some .local ∨ (scope.names.lookup y.1 = some .cell ∧ ((cellsFrom (s.heap.objs.size + 1) scope.names []).lookup y.1).isSome = true) := fun ⟨n, v⟩ hy => by
    rcases S.par n (List.of_mem_zip hy).1 with q | q
    · exact .inl q
    · exact .inr ⟨q, PySem.W.cellsFrom_some _ _ _ (.inl q)⟩
  refine codeAny_call_function hr.depth (KX _ _ lk) rfl S.co S.gen rfl (PySem.W.codeRec_of KX hcd) (hb _ _ _ _ ?_)
  refine wpAny_newFunctionEnv_cells S.kind hkind fun env he s1 x => ?_
  subst he
  refine ⟨lim.keeps x.toInCall.keep, codeAny_func ?_⟩
  obtain ⟨t, ht, hq⟩ := hbody A outer s H vs Q E (hr.deeper _) hsp
  have I : Inv (cxOf CX P w K mg base N qual scope f cdv A outer s H E) [] (start N vs) H s1 := inv_start S hr.hd e0 hl r x
  refine wpAny_mono (ht [] s1 (start N vs) H _ I hq) (fun fl s' hs => ?_) fun e s' hs => hs
  have fin : ∀ {σ' : St} {H' : Hp} {v : V} {u : Value}, Inv (cxOf CX P w K mg base N qual scope f cdv A outer s H E) [] σ' H' s' → RelV v u → Q v H' → CE outer P w H s Q u s' :=
    fun {σ' H' v u} J rv q => ⟨v, H', J.os, J.bare, J.base, J.hok, rv, q⟩
  cases fl with
  | ret u =>
    obtain ⟨v, σ', H', J, rv, q⟩ := hs
    exact fin J rv q
  | next =>
    obtain ⟨σ', H', J, q⟩ := hs
    exact fin (v := V.non) (u := Value.none) J rfl q
  | brk =>
    obtain ⟨_, _, _, q⟩ := hs
    exact False.elim q
  | cont =>
    obtain ⟨_, _, _, q⟩ := hs
    exact False.elim q
end L2

namespace L2
open PySem PySem.Spec PyProof.Rows
section
variable {X : Cx} {x : Str} {p pos : Pos} {e : Expr} {es : List Expr} {t : TA} {id T : String} {r : List V → Hp → VK → Prop}

def tCB (r : List V → Hp → VK → Prop) (t : TA) : TE := fun σ H Q => t σ H fun vs H1 => r vs H1 Q
/-- f(e, ..), f a built-in function -/
theorem pe_callB (hc : CallR X (.builtin id) r) (hg : Gl X x) (hm : X.mg x = none) (hv : bootBuiltins x = some (.builtin id)) (ha : PA X (e :: es) t) (hn : x ≠ "__name__" := by decide) (hdb : (x == ("__debug__" : Str)) = false := by decide)
    (he : starEach (e :: es) X.env = (false, eval e X.env) :: starEach es X.env := by rfl) (hpl : (backTo pos (starEach es X.env)).any (·.1) = false := by rfl) : PE X (.Call (.Name x p) (e :: es) [] pos) (tCB r t) := by
  intro pins s σ H Q I h
  refine wpAny_Call_Name_kw (ld_blt I hg hm hv ?_ hn hdb)
  exact PyProof.Rows.callWith_builtin1 (thn (ha pos pins s σ H _ I h) fun us s1 ⟨vs, H1, I1, r1, q1⟩ => hc pins s1 σ H1 vs us Q I1 r1 q1) he hpl
/-- T(e, ..), T a built-in type -/
theorem pe_callTy (hc : CallR X (.type T) r) (hg : Gl X x) (hm : X.mg x = none) (hv : bootBuiltins x = some (.type T)) (ha : PA X (e :: es) t) (hn : x ≠ "__name__" := by decide) (hdb : (x == ("__debug__" : Str)) = false := by decide)
    (he : starEach (e :: es) X.env = (false, eval e X.env) :: starEach es X.env := by rfl) (hpl : (backTo pos (starEach es X.env)).any (·.1) = false := by rfl) : PE X (.Call (.Name x p) (e :: es) [] pos) (tCB r t) := by
  intro pins s σ H Q I h
  refine wpAny_Call_Name_kw (ld_blt I hg hm hv ?_ hn hdb)
  exact PyProof.Rows.callWith_type1 (thn (ha pos pins s σ H _ I h) fun us s1 ⟨vs, H1, I1, r1, q1⟩ => hc pins s1 σ H1 vs us Q I1 r1 q1) he hpl
end
end L2

namespace HT
open PySem PyProof.Rows

section
open PySem.SeqAt
open PySem.AutoSeq1 (wpAny_loadPart')
open PySem.MeetsSeq PySem.MeetsSeq2 PySem.MeetsSeq3

end

section
variable {prog : Program} {w : World} {A : Around} {E : Value → Shared → Prop} {s : Shared}

/-- t + u, t not empty -/
theorem cat_tup {t b : Addr} {vs ws : List Value} {Q : Value → Shared → Prop} (ht : IsTup s.heap t vs.toArray) (hb : IsTup s.heap b ws.toArray) (hv : vs ≠ [])
    (h1 : ws = [] → Q (.ref t) s) (h2 : ws ≠ [] → Q (.ref s.heap.objs.size) { s with heap := s.heap.push { cls := .type "tuple", data := .seq (vs ++ ws).toArray } })
    (hsz : vs.length + ws.length ≤ sizeLine) : wpAny (model prog w) A (binaryOp .Add (.ref t) (.ref b)) Q E s := by
  obtain ⟨⟨cls, dd, data, sl⟩, ho, hc, n, hd⟩ := id ht
  obtain ⟨⟨cls2, dd2, data2, sl2⟩, ho2, hc2, n2, hd2⟩ := id hb
  simp only at hc hd hc2 hd2
  subst hc hd hc2 hd2
  have e : vs.toArray ++ ws.toArray = (vs ++ ws).toArray := by simp
  by_cases hw : ws = []
  · exact concat_meets ⟨_, ho, rfl⟩ ⟨_, ho2, rfl⟩ noFill_tuple_add seq_tuple_add PySem.F.slot_tuple_add PySem.F.entry_tuple_add (PySem.F.args_tuple_add_2 _ _)
      (tuple_addW1 t b vs.toArray ws.toArray n n2 dd dd2 sl sl2 (by simpa using hv) (by simp [hw])) ⟨ho, ho2, h1 hw⟩
  · refine concat_meets ⟨_, ho, rfl⟩ ⟨_, ho2, rfl⟩ noFill_tuple_add seq_tuple_add PySem.F.slot_tuple_add PySem.F.entry_tuple_add (PySem.F.args_tuple_add_2 _ _)
      (tuple_addW2 t b vs.toArray ws.toArray n n2 dd dd2 sl sl2 (by simpa using hv) (by simpa using hw) (by rw [List.size_toArray, List.size_toArray]; exact hsz)) ⟨ho, ho2, ?_⟩
    rw [e]
    exact h2 hw

/-! ### t[a:b], not the whole -/
/-- a slice's bound as a place among n (d where it is left out) -/
def sIx (n d : Nat) : Option Int → Nat
  | none => d
  | some v => if v < 0 then (v + (n : Int)).toNat else min v.toNat n
theorem sIx_none (n d : Nat) : sIx n d none = d := rfl
theorem sIx_nat (n d k : Nat) : sIx n d (some (k : Int)) = min k n := by
  show (if (k : Int) < 0 then ((k : Int) + (n : Int)).toNat else min (k : Int).toNat n) = min k n
  rw [if_neg (by omega), Int.toNat_natCast]
theorem sIx_le (n d : Nat) (hd : d ≤ n) (o : Option Int) : sIx n d o ≤ n := by
  cases o with
  | none => exact hd
  | some v =>
    show (if v < 0 then (v + (n : Int)).toNat else min v.toNat n) ≤ n
    by_cases hv : v < 0
    · rw [if_pos hv]; omega
    · rw [if_neg hv]; exact Nat.min_le_right _ _
theorem clip_eq (v : Int) (n d : Nat) : (if v < 0 then max (v + (n : Int)) 0 else min v (n : Int)) = ((sIx n d (some v) : Nat) : Int) := by
  show (if v < 0 then max (v + (n : Int)) 0 else min v (n : Int)) = (((if v < 0 then (v + (n : Int)).toNat else min v.toNat n) : Nat) : Int)
  by_cases hv : v < 0
  · simp only [if_pos hv]; omega
  · simp only [if_neg hv]; omega
theorem adjust_gen (lo hi : Option Int) (n : Nat) : Builtin.Slice.sliceAdjust lo hi 1 (n : Int) = (((sIx n 0 lo : Nat) : Int), ((sIx n n hi : Nat) : Int)) := by
  have h1 : ¬ ((1 : Int) < 0) := by omega
  unfold Builtin.Slice.sliceAdjust
  simp only [h1, if_false]
  refine Prod.ext ?_ ?_
  · cases lo with
    | none => rfl
    | some v => exact clip_eq v n 0
  · cases hi with
    | none => rfl
    | some v => exact clip_eq v n n
theorem places_gen (i j : Nat) : Builtin.Slice.slicePlaces (i : Int) (j : Int) 1 = j - i := by
  unfold Builtin.Slice.slicePlaces
  have h1 : (1 : Int) > 0 := by omega
  simp only [h1, if_true, Int.ediv_one]
  split <;> omega
theorem slicePart_ {v : Value} {o : Option Int} {Q : Option Int → Shared → Prop} (p : IsPart v o) (h : Q o s) : wpAny (model prog w) A (Builtin.Slice.slicePartIndex v) Q E s := by
  cases p with
  | none => exact slicePart_none h
  | int i t => exact slicePart_int h
theorem sliceApplied_gen {sl : Addr} {vl vu : Value} {lo hi : Option Int} {n : Nat} {Q : Int × Int × Nat → Shared → Prop} (hs : s.heap.IsSliceOf sl vl vu .none) (pl : IsPart vl lo) (pu : IsPart vu hi)
    (h : Q (((sIx n 0 lo : Nat) : Int), 1, sIx n n hi - sIx n 0 lo) s) : wpAny (model prog w) A (Builtin.Slice.sliceApplied (.ref sl) (pure (n : Int))) Q E s := by
  obtain ⟨os, hos, hcs, hds⟩ := id hs
  unfold Builtin.Slice.sliceApplied Builtin.Slice.sliceFields
  refine wpAny_bind (wpAny_bind (wpAny_field hos hds (x := vl) rfl (wpAny_bind (wpAny_field hos hds (x := vu) rfl (wpAny_bind (wpAny_field hos hds (x := .none) rfl (wpAny_pure ?_)))))))
  refine wpAny_bind (slicePart_none ?_)
  show wpAny _ _ (if ((1 : Int) == 0) = true then _ else _) _ _ s
  rw [if_neg (by decide)]
  refine wpAny_bind (slicePart_ pl (wpAny_bind (slicePart_ pu (wpAny_bind (wpAny_pure ?_)))))
  show wpAny _ _ (match Builtin.Slice.sliceAdjust lo hi 1 (n : Int) with | (lo, hi) => pure (lo, (1 : Int), Builtin.Slice.slicePlaces lo hi 1)) _ _ s
  rw [adjust_gen lo hi n]
  show wpAny _ _ (pure (((sIx n 0 lo : Nat) : Int), (1 : Int), Builtin.Slice.slicePlaces ((sIx n 0 lo : Nat) : Int) ((sIx n n hi : Nat) : Int) 1)) _ _ s
  rw [places_gen]
  exact wpAny_pure h
theorem pick_gen (xs : Array Value) (i k : Nat) : ((List.range k).filterMap fun (m : Nat) => xs[((i : Int) + (m : Int) * 1).toNat]?).toArray = ((xs.toList.drop i).take k).toArray := by
  have e : (fun (m : Nat) => xs[((i : Int) + (m : Int) * 1).toNat]?) = fun m => xs[i + m]? := by
    funext m
    have : ((i : Int) + (m : Int) * 1).toNat = i + m := by omega
    rw [this]
  rw [e]
  have := pick_run xs i k
  rw [List.filterMap_map] at this
  have e2 : ((fun x => xs[x]?) ∘ fun x => i + x) = fun m => xs[i + m]? := rfl
  rw [e2] at this
  rw [this]

theorem getItem_tuple_cut {t sl : Addr} {items : Array Value} {vl vu : Value} {lo hi : Option Int} {Q : Value → Shared → Prop} (ht : IsTup s.heap t items) (hs : s.heap.IsSliceOf sl vl vu .none) (pl : IsPart vl lo) (pu : IsPart vu hi)
    (hw : ¬ (sIx items.size 0 lo = 0 ∧ sIx items.size items.size hi = items.size))
    (h : Q (.ref s.heap.objs.size) { s with heap := s.heap.push { cls := .type "tuple", data := .seq ((items.toList.drop (sIx items.size 0 lo)).take (sIx items.size items.size hi - sIx items.size 0 lo)).toArray } })
    (hsz : items.size ≤ sizeLine) : wpAny (model prog w) A (getItem (.ref t) (.ref sl)) Q E s := by
  have htake : sizeOk (.seq ((items.toList.drop (sIx items.size 0 lo)).take (sIx items.size items.size hi - sIx items.size 0 lo)).toArray) := by
    show ((items.toList.drop (sIx items.size 0 lo)).take (sIx items.size items.size hi - sIx items.size 0 lo)).toArray.size ≤ sizeLine
    rw [List.size_toArray, List.length_take, List.length_drop, Array.length_toList]
    omega
  have hj : sIx items.size items.size hi ≤ items.size := sIx_le _ _ (Nat.le_refl _) hi
  obtain ⟨os, hos, hcs, hds⟩ := id hs
  have hTs : s.TypeIs (.ref sl) "slice" := ⟨os, hos, hcs⟩
  unfold getItem
  try with_reducible refine wpAny_holding ?_
  first | refine wpAny_bind (wpAny_pure ?_) | skip
  refine wpAny_bind (wpAny_sequenceKey ht.typeIs (by decide) ?_)
  refine wpAny_bind (wpAny_callSpecial?_slot (name := Str.ofString "__getitem__") ht.typeIs PyProof.Rows.slot_tuple_getitem
    (wpAny_call_entry PyProof.Rows.slot_tuple_getitem ht.typeIs entry_tuple_getitem ?_ (args_tuple_getitem _ _)))
  show wpAny _ _ (Builtin.Tuple.tupleItemsOf (.ref t) >>= _) _ _ s
  refine wpAny_bind (tupleItemsOf_ ht ?_)
  refine wpAny_bind (wpAny_typeOf hTs ?_)
  rw [if_pos (by decide)]
  refine wpAny_bind (sliceApplied_gen hs pl pu ?_)
  have hno : ¬ ((((sIx items.size 0 lo : Nat) : Int) == 0 && (1 : Int) == 1 && (sIx items.size items.size hi - sIx items.size 0 lo) == items.size) = true) := by
    intro q
    rw [Bool.and_eq_true, Bool.and_eq_true] at q
    have q1 : ((sIx items.size 0 lo : Nat) : Int) = 0 := eq_of_beq q.1.1
    have q2 : sIx items.size items.size hi - sIx items.size 0 lo = items.size := eq_of_beq q.2
    exact hw ⟨by omega, by omega⟩
  show wpAny _ _ (if (((sIx items.size 0 lo : Nat) : Int) == 0 && (1 : Int) == 1 && (sIx items.size items.size hi - sIx items.size 0 lo) == items.size) = true then _ else _) _ _ s
  rw [if_neg hno, pick_gen]
  first
    | exact wpAny_bind (m := Builtin.Tuple.tupleExact _) (wpAny_newObj_type (wpAny_pure ⟨_, rfl, wpAny_pure h⟩) htake)
    | exact wpAny_bind (m := Builtin.Tuple.tupleExact _) (wpAny_newObj_type (wpAny_bind (wpAny_pure (wpAny_pure ⟨_, rfl, wpAny_pure h⟩))) htake)
    | exact wpAny_bind (wpAny_bind (m := Builtin.Tuple.tupleExact _) (wpAny_newObj_type (wpAny_pure (wpAny_pure ⟨_, rfl, wpAny_pure h⟩)) htake))
    | exact wpAny_bind (wpAny_bind (m := Builtin.Tuple.tupleExact _) (wpAny_newObj_type (wpAny_pure ⟨_, rfl, wpAny_pure h⟩) htake))
end
end HT

namespace L2
open PySem PySem.Spec PyProof.Rows

/-! ### the parts of a slice -/
abbrev TO := St → Hp → (Option Int → Hp → Prop) → Prop
/-- a slice's part (left out, or an int) -/
def PO (X : Cx) (e : Option Expr) (t : TO) : Prop :=
  ∀ (pins : List (Addr × Obj)) (s : Shared) (σ : St) (H : Hp) (Q : Option Int → Hp → Prop), Inv X pins σ H s → t σ H Q →
    wpAny (model X.prog X.w) X.A (evalPart e X.env) (fun u s' => ∃ o H', Inv X pins σ H' s' ∧ IsPart u o ∧ Q o H') X.xe s
def tNoPart : TO := fun _ H Q => Q none H
def tPart (t : TE) : TO := fun σ H Q => t σ H fun x H1 => ∃ i, x = .int i ∧ Q (some i) H1

section
variable {X : Cx} {e : Expr} {te : TE} {lo hi : Option Expr} {tl th : TO} {pos p2 : Pos}

theorem po_none : PO X none tNoPart := by
  intro pins s σ H Q I h
  rw [evalPart_none]
  exact wpAny_pure ⟨none, H, I, .none, h⟩
theorem po_some (h : PE X e te) : PO X (some e) (tPart te) := by
  intro pins s σ H Q I hw
  rw [evalPart_some]
  refine thn (h pins s σ H _ I hw) fun u s1 ⟨x, H1, I1, r1, q1⟩ => ?_
  obtain ⟨i, rfl, q⟩ := q1
  obtain ⟨t, rfl⟩ := r1
  exact ⟨some i, H1, I1, .int i t, q⟩

/-- what a slice of a value is, by values: the slice object stands at sl -/
def SlR (X : Cx) (r : V → Option Int → Option Int → Hp → VK → Prop) : Prop :=
  ∀ (pins : List (Addr × Obj)) (s : Shared) (σ : St) (H : Hp) (x : V) (v vl vu : Value) (lo hi : Option Int) (sl : Addr) (Q : VK), Inv X pins σ H s → RelV x v → s.heap.IsSliceOf sl vl vu .none → IsPart vl lo → IsPart vu hi → r x lo hi H Q →
    ∃ T id, typeLookup (.type T) "__getitem__" = pure (some (.builtin id)) ∧ s.TypeIs v T ∧ wpAny (model X.prog X.w) X.A (getItem v (.ref sl)) (EP X pins σ Q) X.xe s
theorem SlR.or {r r' : V → Option Int → Option Int → Hp → VK → Prop} (h : SlR X r) (h' : SlR X r') : SlR X (fun x lo hi H Q => r x lo hi H Q ∨ r' x lo hi H Q) := by
  intro pins s σ H x v vl vu lo hi sl Q I rx hs pl pu q
  rcases q with q | q
  · exact h pins s σ H x v vl vu lo hi sl Q I rx hs pl pu q
  · exact h' pins s σ H x v vl vu lo hi sl Q I rx hs pl pu q
def tSl (r : V → Option Int → Option Int → Hp → VK → Prop) (te : TE) (tl th : TO) : TE := fun σ H Q => te σ H fun x H1 => tl σ H1 fun l H2 => th σ H2 fun u H3 => r x l u H3 Q
/-- a[lo:hi], any a -/
theorem pe_slice {r : V → Option Int → Option Int → Hp → VK → Prop} (hr : SlR X r) (he : PE X e te) (hl : PO X lo tl) (hu : PO X hi th) : PE X (.Subscript e (.Slice lo hi none p2) pos) (tSl r te tl th) := by
  intro pins s σ H Q I h
  refine Subscript_ (thn (he pins s σ H _ I h) fun v s1 ⟨x, H1, I1, r1, q1⟩ => ?_)
  refine wpAny_Slice (thn (hl pins s1 σ H1 _ I1 q1) fun vl s2 ⟨l, H2, I2, pl, q2⟩ => thn (hu pins s2 σ H2 _ I2 q2) fun vu s3 ⟨u, H3, I3, pu, q3⟩ => ?_)
  rw [evalPart_none]
  refine wpAny_pure ?_
  have I4 : Inv X pins σ H3 { s3 with heap := s3.heap.push { cls := .type "slice", data := .fields #[vl, vu, .none] } } := I3.kept (t' := s3.toks) fun b ob q => Heap.get?_push_of_some _ q
  obtain ⟨T, id, hT, ht, hg⟩ := hr pins { s3 with heap := s3.heap.push { cls := .type "slice", data := .fields #[vl, vu, .none] } } σ H3 x v vl vu l u s3.heap.objs.size Q I4 r1 (Heap.IsSliceOf.new ..) pl pu q3
  show wpAny (model X.prog X.w) X.A (subscriptTail e (.Slice lo hi none p2) v (.ref s3.heap.objs.size)) (EP X pins σ Q) X.xe { s3 with heap := s3.heap.push { cls := .type "slice", data := .fields #[vl, vu, .none] } }
  exact tail_any (ops := [.ref s3.heap.objs.size, v]) ht hT hg (by with_unfolding_all rfl)

/-- the items of xs[lo:hi] -/
def cutV (xs : List V) (lo hi : Option Int) : List V := (xs.drop (HT.sIx xs.length 0 lo)).take (HT.sIx xs.length xs.length hi - HT.sIx xs.length 0 lo)
theorem cutV_length (xs : List V) (lo hi : Option Int) : (cutV xs lo hi).length ≤ xs.length := by
  unfold cutV
  rw [List.length_take, List.length_drop]
  omega
/-- t[lo:hi], not the whole of it (the whole would be t itself) -/
def rSlT (K : PySem.W.Frag) : V → Option Int → Option Int → Hp → VK → Prop := fun x lo hi H Q => ∃ a xs, x = .ref a ∧ SqT K H a xs ∧
  ¬ (HT.sIx xs.length 0 lo = 0 ∧ HT.sIx xs.length xs.length hi = xs.length) ∧ ∀ p, H p = none → Q (.ref p) (upd H p (.tup (cutV xs lo hi)))
theorem sl_tup : SlR X (rSlT X.K) := by
  intro pins s σ H x v vl vu lo hi sl Q I rx hs pl pu h
  obtain ⟨a, xs, rfl, hx, hw, q⟩ := h
  cases rx
  obtain ⟨its, r, ht, hz⟩ := I.tuple hx
  have hlen : its.toArray.size = xs.length := by rw [List.size_toArray]; exact r.length.symm
  refine ⟨"tuple", _, PyProof.Rows.slot_tuple_getitem.lookup, ht.typeIs, ?_⟩
  refine HT.getItem_tuple_cut ht hs pl pu (by rw [hlen]; exact hw) ?_ (by rw [hlen]; exact hz)
  rw [hlen]
  refine ⟨.ref s.heap.objs.size, _, I.laid (t' := s.toks) (o := .tup (cutV xs lo hi)) (fun b ob q => Heap.get?_push_of_some _ q) (Nat.le_refl _) ?_, rfl, q _ (I.hok.fresh (Nat.le_refl _))⟩
  exact ⟨Nat.le_trans (cutV_length xs lo hi) hz, _, (r.drop (HT.sIx xs.length 0 lo)).take (HT.sIx xs.length xs.length hi - HT.sIx xs.length 0 lo), IsTup.new _ _⟩

/-! ### t < u, t + u -/
/-- t + u, t not empty: u empty gives t itself -/
def rCatT (K : PySem.W.Frag) : R2 := fun x y H Q => ∃ a b xs ys, x = .ref a ∧ y = .ref b ∧ SqT K H a xs ∧ SqT K H b ys ∧ xs ≠ [] ∧ xs.length + ys.length ≤ sizeLine ∧
  (ys = [] → Q (.ref a) H) ∧ (ys ≠ [] → ∀ p, H p = none → Q (.ref p) (upd H p (.tup (xs ++ ys))))
theorem Vals.nil_iff {xs : List V} {us : List Value} (r : Vals xs us) : us = [] ↔ xs = [] := by
  cases r with
  | nil => simp
  | cons _ _ => simp
theorem op_catT : OpR X (binaryOp .Add) (rCatT X.K) := by
  intro pins s σ H x y v u Q I rx ry h
  obtain ⟨a, b, xs, ys, rfl, rfl, ha, hb, hx, hz, q1, q2⟩ := h
  cases rx
  cases ry
  obtain ⟨its, r1, p1, _⟩ := I.tuple ha
  obtain ⟨its2, r2, p2, _⟩ := I.tuple hb
  refine HT.cat_tup p1 p2 (fun z => hx (r1.nil_iff.mp z)) (fun z => ⟨.ref a, H, I, rfl, q1 (r2.nil_iff.mp z)⟩) (fun z => ?_) (by rw [← r1.length, ← r2.length]; exact hz)
  refine ⟨.ref s.heap.objs.size, _, I.laid (t' := s.toks) (o := .tup (xs ++ ys)) (fun b ob q => Heap.get?_push_of_some _ q) (Nat.le_refl _) ?_, rfl, q2 (fun w => z (r2.nil_iff.mpr w)) _ (I.hok.fresh (Nat.le_refl _))⟩
  exact ⟨by rw [List.length_append]; exact hz, _, r1.append r2, IsTup.new _ _⟩
end
end L2

namespace L2
open PySem PySem.Spec PyProof.Rows

/-! ### places -/
/-- the place that an index of any sign means -/
def ixN (n : Nat) (i : Int) : Option Nat := if 0 ≤ i then (if i < n then some i.toNat else none) else if -(n : Int) ≤ i then some (i + n).toNat else none
def atI {α : Type} (xs : List α) (i : Int) : Option α := (ixN xs.length i).bind fun j => xs[j]?
theorem ixN_seq {n : Nat} {i : Int} {j : Nat} (h : ixN n i = some j) : seqIndex? i n = some j ∧ j < n ∧ -(n : Int) ≤ i ∧ i < n := by
  unfold ixN at h
  by_cases h0 : 0 ≤ i
  · rw [if_pos h0] at h
    by_cases h1 : i < n
    · rw [if_pos h1] at h
      have e : i.toNat = j := Option.some.inj h
      exact ⟨by rw [seqIndex_of h0 h1, e], by omega, by omega, h1⟩
    · rw [if_neg h1] at h; cases h
  · rw [if_neg h0] at h
    by_cases h1 : -(n : Int) ≤ i
    · rw [if_pos h1] at h
      have e : (i + n).toNat = j := Option.some.inj h
      exact ⟨by rw [seqIndex_neg (by omega) h1, e], by omega, h1, by omega⟩
    · rw [if_neg h1] at h; cases h
theorem atI_get {α : Type} {xs : List α} {i : Int} {v : α} (h : atI xs i = some v) : ∃ j, seqIndex? i xs.length = some j ∧ xs[j]? = some v ∧ j < xs.length ∧ -(xs.length : Int) ≤ i ∧ i < xs.length := by
  unfold atI at h
  cases e : ixN xs.length i with
  | none => rw [e] at h; cases h
  | some j =>
    rw [e] at h
    obtain ⟨h1, h2, h3, h4⟩ := ixN_seq e
    exact ⟨j, h1, h, h2, h3, h4⟩
theorem atI_nat {α : Type} {xs : List α} {j : Nat} {v : α} (h : xs[j]? = some v) : atI xs (j : Int) = some v := by
  have hj : j < xs.length := (List.getElem?_eq_some_iff.mp h).1
  have e : ixN xs.length (j : Int) = some j := by
    unfold ixN
    rw [if_pos (by omega), if_pos (by omega)]; simp
  unfold atI; rw [e]; exact h
/-! ### what may be subscripted -/
/-- what stands as an index of a plain subscript -/
def PlainIx (b : Expr) : Prop := ∀ o i, subscripted b false o i = operate [o, i] (getItem o i)
/-- a subscript by values -/
def IxR (X : Cx) (r : R2) : Prop :=
  ∀ (value slice : Expr) (pins : List (Addr × Obj)) (s : Shared) (σ : St) (H : Hp) (x y : V) (v u : Value) (Q : VK), Inv X pins σ H s → RelV x v → RelV y u → r x y H Q →
    subscripted slice false v u = operate [v, u] (getItem v u) → wpAny (model X.prog X.w) X.A (subscriptTail value slice v u) (EP X pins σ Q) X.xe s
/-- a call of a builtin's method by values: the receiver, the arguments -/
def MtR (X : Cx) (id : String) (r : V → List V → Hp → VK → Prop) : Prop :=
  ∀ (pins : List (Addr × Obj)) (s : Shared) (σ : St) (H : Hp) (x : V) (xs : List V) (v : Value) (us : List Value) (Q : VK), Inv X pins σ H s → RelV x v → Vals xs us → r x xs H Q →
    wpAny (model X.prog X.w) X.A (call (.builtin id) (v :: us)) (EP X pins σ Q) X.xe s
section
variable {X : Cx} {a b : Expr} {ta tb : TE} {pos : Pos}
theorem IxR.or {r r' : R2} (h : IxR X r) (h' : IxR X r') : IxR X (fun x y H Q => r x y H Q ∨ r' x y H Q) := by
  intro value slice pins s σ H x y v u Q I rx ry q hs
  rcases q with q | q
  · exact h value slice pins s σ H x y v u Q I rx ry q hs
  · exact h' value slice pins s σ H x y v u Q I rx ry q hs
theorem MtR.or {id : String} {r r' : V → List V → Hp → VK → Prop} (h : MtR X id r) (h' : MtR X id r') : MtR X id (fun x xs H Q => r x xs H Q ∨ r' x xs H Q) := by
  intro pins s σ H x xs v us Q I rx rs q
  rcases q with q | q
  · exact h pins s σ H x xs v us Q I rx rs q
  · exact h' pins s σ H x xs v us Q I rx rs q
/-- a[b] -/
theorem pe_ix {r : R2} (hr : IxR X r) (ha : PE X a ta) (hb : PE X b tb) (hs : PlainIx b) : PE X (.Subscript a b pos) (tOp r ta tb) := by
  intro pins s σ H Q I h
  exact Subscript_ (binT ha hb I h fun v u s2 x y H2 I2 rx ry q => hr a b pins s2 σ H2 x y v u Q I2 rx ry q (hs _ _))

def rIxL (K : PySem.W.Frag) : R2 := fun x y H Q => ∃ p xs i v, x = .ref p ∧ y = .int i ∧ SqL K H p xs ∧ atI xs i = some v ∧ Q v H
def rIxT (K : PySem.W.Frag) : R2 := fun x y H Q => ∃ p xs i v, x = .ref p ∧ y = .int i ∧ SqT K H p xs ∧ atI xs i = some v ∧ Q v H
theorem ix_list : IxR X (rIxL X.K) := by
  intro value slice pins s σ H x y v u Q I rx ry h hs
  obtain ⟨p, xs, i, z, rfl, rfl, hq, he, q⟩ := h
  cases rx
  obtain ⟨t, rfl⟩ := ry
  obtain ⟨its, r, pl, hz⟩ := I.list hq
  obtain ⟨j, h1, h2, h3, h4, h5⟩ := atI_get he
  obtain ⟨w, ew, rw'⟩ := r.get h2
  have hl := r.length
  have hn := line63
  have fin : EP X pins σ Q w s := ⟨z, H, I, rw', q⟩
  by_cases h0 : 0 ≤ i
  · have hj : i.toNat = j := by
      rw [seqIndex_of h0 h5] at h1
      exact Option.some.inj h1
    exact item_listR pl.isList h0 (by omega) (by rw [hj]; simpa using ew) fin hs
  · have hj : (i + (its.toArray.size : Int)).toNat = j := by
      rw [seqIndex_neg (by omega) h4] at h1
      rw [List.size_toArray, ← hl]
      exact Option.some.inj h1
    exact subscriptTail_builtinR (x := w) pl.isList.typeIs slot_list_getitem.lookup
      (wpAny_getItem_list_neg (Q := fun r s' => r = w ∧ EP X pins σ Q r s') pl.isList (by omega) (by rw [List.size_toArray] <;> omega) (by omega) (by rw [hj]; simpa using ew) ⟨rfl, fin⟩) hs
theorem ix_tup : IxR X (rIxT X.K) := by
  intro value slice pins s σ H x y v u Q I rx ry h hs
  obtain ⟨p, xs, i, z, rfl, rfl, hq, he, q⟩ := h
  cases rx
  obtain ⟨t, rfl⟩ := ry
  obtain ⟨its, r, pl, hz⟩ := I.tuple hq
  obtain ⟨j, h1, h2, h3, h4, h5⟩ := atI_get he
  obtain ⟨w, ew, rw'⟩ := r.get h2
  have hl := r.length
  have hn := line63
  have fin : EP X pins σ Q w s := ⟨z, H, I, rw', q⟩
  exact subscriptTail_builtinR (x := w) pl.typeIs slot_tuple_getitem.lookup
    (getItem_tuple (j := j) (Q := fun r s' => r = w ∧ EP X pins σ Q r s') pl (by omega) (by omega) (by rw [List.size_toArray, ← hl]; exact h1) (by simpa using ew) ⟨rfl, fin⟩) hs
/-! ### xs[i] = v, any sign -/
/-- the list's object behind a store -/
theorem mapSeq_set (its : List Value) (n j : Nat) (u : Value) : Obj.mapSeq (·.setIfInBounds j u) { cls := .type "list", data := .seq its.toArray n } = { cls := .type "list", data := .seq (its.set j u).toArray n } := by
  simp [Obj.mapSeq]
theorem Inv.lst {pins : List (Addr × Obj)} {σ : St} {H : Hp} {s : Shared} {p : Addr} {xs : List V} (I : Inv X pins σ H s) (h : H p = some (.lst xs)) :
    ∃ (its : List Value) (n : Nat), Vals xs its ∧ s.heap.get? p = some { cls := .type "list", data := .seq its.toArray n } ∧ xs.length ≤ sizeLine := by
  obtain ⟨z, its, n, r, e⟩ := I.hok p _ h
  exact ⟨its, n, r, e, z⟩
/-- the list at p is written by an update of its object -/
theorem Inv.lstUpd {pins : List (Addr × Obj)} {σ : St} {H : Hp} {s : Shared} {p : Addr} {xs ys : List V} {its its' : List Value} {n n' : Nat} {f : Obj → Obj} (I : Inv X pins σ H s) (h : H p = some (.lst xs))
    (ho : s.heap.get? p = some { cls := .type "list", data := .seq its.toArray n }) (hf : f { cls := .type "list", data := .seq its.toArray n } = { cls := .type "list", data := .seq its'.toArray n' }) (r : Vals ys its') (hz : ys.length ≤ sizeLine) (t : Nat) :
    Inv X pins σ (upd H p (.lst ys)) { s with heap := s.heap.update p f, toks := t } := by
  have e : (s.heap.update p f).get? p = some { cls := .type "list", data := .seq its'.toArray n' } := by
    rw [Heap.get?_update_self f ho (by rw [hf] <;> rfl), hf]
  refine I.write (x := p) (e := p) (by rw [h]; trivial) (.inl rfl) (fun b u hb q => (Heap.get?_update_other _ _ (Ne.symm hb)).trans q) ⟨_, e⟩ ?_
  exact ⟨hz, its', n', r, e⟩
def rSetL : V → V → V → Hp → (Hp → Prop) → Prop := fun o i v H Q => ∃ p xs k j, o = .ref p ∧ i = .int k ∧ H p = some (.lst xs) ∧ ixN xs.length k = some j ∧ Q (upd H p (.lst (xs.set j v)))
theorem set_list : PSet X rSetL := by
  intro pins s σ H o i v ov iv u Q I ro ri rv h
  obtain ⟨p, xs, k, j, rfl, rfl, hp, hj, q⟩ := h
  cases ro
  obtain ⟨t, rfl⟩ := ri
  obtain ⟨its, n, r, ho, hz⟩ := I.lst hp
  obtain ⟨h1, h2, h3, h4⟩ := ixN_seq hj
  have hl := r.length
  have hn := line63
  have I' : Inv X pins σ (upd H p (.lst (xs.set j v))) { s with heap := s.heap.update p (Obj.mapSeq (·.setIfInBounds j u)) } :=
    I.lstUpd hp ho (mapSeq_set its n j u) (r.set rv j) (by rw [List.length_set]; exact hz) s.toks
  by_cases h0 : 0 ≤ k
  · have hk : k.toNat = j := by
      rw [seqIndex_of h0 h4] at h1
      exact Option.some.inj h1
    exact PySem.W.ki_setAt ho h0 (by omega) (by rw [List.size_toArray, ← hl]; exact h4) (by rw [hk]; exact ⟨_, I', q⟩)
  · have hk : (k + (its.toArray.size : Int)).toNat = j := by
      rw [seqIndex_neg (by omega) h3] at h1
      rw [List.size_toArray, ← hl]
      exact Option.some.inj h1
    exact PySem.W.ki_setBack ho (by omega) (by rw [List.size_toArray, ← hl]; exact h3) (by omega) (by rw [hk]; exact ⟨_, I', q⟩)

/-! ### slices -/
theorem slice_bounds (lo hi : Option Int) (n : Nat) : (sliceBounds lo hi none n).1 = ((HT.sIx n 0 lo : Nat) : Int) ∧ (sliceBounds lo hi none n).2.1 = ((HT.sIx n n hi : Nat) : Int) ∧ (sliceBounds lo hi none n).2.2 = 1 := by
  refine ⟨?_, ?_, rfl⟩
  · cases lo with
    | none => simp [sliceBounds, HT.sIx]
    | some i =>
      simp only [sliceBounds, HT.sIx, Option.getD_none, show (1 : Int) > 0 by decide, if_true]
      by_cases h : i < 0
      · simp only [h, if_true] <;> omega
      · simp only [h, if_false] <;> omega
  · cases hi with
    | none => simp [sliceBounds, HT.sIx]
    | some i =>
      simp only [sliceBounds, HT.sIx, Option.getD_none, show (1 : Int) > 0 by decide, if_true]
      by_cases h : i < 0
      · simp only [h, if_true] <;> omega
      · simp only [h, if_false] <;> omega
theorem slicePick_cut (its : List Value) (lo hi : Option Int) : slicePick its.toArray lo hi none = ((its.drop (HT.sIx its.length 0 lo)).take (HT.sIx its.length its.length hi - HT.sIx its.length 0 lo)).toArray := by
  obtain ⟨h1, h2, h3⟩ := slice_bounds lo hi its.toArray.size
  unfold slicePick
  rw [h1, h2, h3]
  simp only [sliceRange_one, pick_run, List.size_toArray] <;> rfl
/-- xs[lo:hi] of a list: a new list -/
def rSlL (K : PySem.W.Frag) : V → Option Int → Option Int → Hp → VK → Prop := fun x lo hi H Q => ∃ a xs, x = .ref a ∧ SqL K H a xs ∧ ∀ p, H p = none → Q (.ref p) (upd H p (.lst (cutV xs lo hi)))
theorem sl_list : SlR X (rSlL X.K) := by
  intro pins s σ H x v vl vu lo hi sl Q I rx hs pl pu h
  obtain ⟨a, xs, rfl, hx, q⟩ := h
  cases rx
  obtain ⟨its, r, ht, hz⟩ := I.list hx
  have hlen := r.length
  refine ⟨"list", _, slot_list_getitem.lookup, ht.isList.typeIs, ?_⟩
  refine wpAny_getItem_list_slice ht.isList hs pl pu .none (by simp) ?_ (by rw [List.size_toArray] <;> omega)
  rw [slicePick_cut, ← hlen]
  refine ⟨.ref s.heap.objs.size, _, I.laid (t' := s.toks) (o := .lst (cutV xs lo hi)) (fun b ob q => Heap.get?_push_of_some _ q) (Nat.le_refl _) ?_, rfl, q _ (I.hok.fresh (Nat.le_refl _))⟩
  exact ⟨Nat.le_trans (cutV_length xs lo hi) hz, _, 0, (r.drop (HT.sIx xs.length 0 lo)).take (HT.sIx xs.length xs.length hi - HT.sIx xs.length 0 lo), Heap.get?_push_size _ rfl⟩

/-! ### in, not in: flat items -/
def flatV : V → Bool
  | .non => true
  | .bl _ => true
  | .int _ => true
  | .str _ => true
  | _ => false
/-- == of flat values -/
def eqV : V → V → Bool
  | .non, .non => true
  | .bl a, .bl b => a == b
  | .bl a, .int b => (if a then 1 else 0) == b
  | .int a, .bl b => a == (if b then 1 else 0)
  | .int a, .int b => a == b
  | .str a, .str b => a == b
  | _, _ => false
theorem eqAt_V {A : Around} {s : Shared} {y x : V} {u v : Value} (ry : RelV y u) (rx : RelV x v) (fy : flatV y = true) (fx : flatV x = true) : SeqAt.EqAt A s u v (eqV y x) := by
  cases y with
  | non =>
    cases ry
    cases x with
    | non => cases rx; exact SeqAt.EqAt.same _
    | bl b => cases rx; exact SeqAt.EqAt.none_bool b
    | int b => obtain ⟨t, rfl⟩ := rx; exact SeqAt.EqAt.none_int b t
    | str b => obtain ⟨t, rfl⟩ := rx; exact SeqAt.EqAt.none_str b t
    | _ => exact absurd (show false = true from fx) Bool.false_ne_true
  | bl a =>
    cases ry
    cases x with
    | non => cases rx; exact SeqAt.EqAt.bool_none a
    | bl b => cases rx; exact SeqAt.EqAt.bool_bool a b
    | int b => obtain ⟨t, rfl⟩ := rx; exact SeqAt.EqAt.bool_int a b t
    | str b => obtain ⟨t, rfl⟩ := rx; exact SeqAt.EqAt.bool_str a b t
    | _ => exact absurd (show false = true from fx) Bool.false_ne_true
  | int a =>
    obtain ⟨t', rfl⟩ := ry
    cases x with
    | non => cases rx; exact SeqAt.EqAt.int_none a t'
    | bl b => cases rx; exact SeqAt.EqAt.int_bool a t' b
    | int b => obtain ⟨t, rfl⟩ := rx; exact SeqAt.EqAt.int_int a t' b t
    | str b => obtain ⟨t, rfl⟩ := rx; exact SeqAt.EqAt.int_str a t' b t
    | _ => exact absurd (show false = true from fx) Bool.false_ne_true
  | str a =>
    obtain ⟨t', rfl⟩ := ry
    cases x with
    | non => cases rx; exact SeqAt.EqAt.str_none a t'
    | bl b => cases rx; exact SeqAt.EqAt.str_bool a t' b
    | int b => obtain ⟨t, rfl⟩ := rx; exact SeqAt.EqAt.str_int a t' b t
    | str b => obtain ⟨t, rfl⟩ := rx; exact SeqAt.EqAt.str_str a t' b t
    | _ => exact absurd (show false = true from fx) Bool.false_ne_true
  | _ => exact absurd (show false = true from fy) Bool.false_ne_true
/-- the items' answers, read off the values (a value's own answer does not lean on its token) -/
def eqU (x : V) (u : Value) : Bool := match u with
  | .none => eqV .non x
  | .bool b => eqV (.bl b) x
  | .int i _ => eqV (.int i) x
  | .str z _ => eqV (.str z) x
  | _ => false
theorem eqU_of {x y : V} {u : Value} (r : RelV y u) (f : flatV y = true) : eqU x u = eqV y x := by
  cases y with
  | non => cases r; rfl
  | bl b => cases r; rfl
  | int i => obtain ⟨t, rfl⟩ := r; rfl
  | str z => obtain ⟨t, rfl⟩ := r; rfl
  | _ => exact absurd (show false = true from f) Bool.false_ne_true
theorem any_eqU {x : V} : ∀ {xs : List V} {us : List Value}, Vals xs us → xs.all flatV = true → us.any (eqU x) = xs.any fun y => eqV y x
  | _, _, .nil, _ => rfl
  | y :: xs, u :: us, .cons r t, f => by
    rw [List.all_cons, Bool.and_eq_true] at f
    rw [List.any_cons, List.any_cons, eqU_of r f.1, any_eqU t f.2]
theorem mem_eqAt {A : Around} {s : Shared} {x : V} {v : Value} (rx : RelV x v) (fx : flatV x = true) : ∀ {xs : List V} {us : List Value}, Vals xs us → xs.all flatV = true → ∀ u ∈ us, SeqAt.EqAt A s u v (eqU x u)
  | _, _, .nil, _ => fun u hu => by cases hu
  | y :: xs, u :: us, .cons r t, f => fun u' hu => by
    rw [List.all_cons, Bool.and_eq_true] at f
    rcases List.mem_cons.mp hu with rfl | hu
    · rw [eqU_of r f.1]; exact eqAt_V r rx f.1 fx
    · exact mem_eqAt rx fx t f.2 u' hu
def inV (x : V) (xs : List V) : Bool := xs.any fun y => eqV y x
/-- x in a list or tuple of flat items -/
def rIn (K : PySem.W.Frag) (neg : Bool) : R2 := fun x y H Q => ∃ p xs, y = .ref p ∧ (SqL K H p xs ∨ SqT K H p xs) ∧ flatV x = true ∧ xs.all flatV = true ∧ Q (.bl (if neg then !inV x xs else inV x xs)) H
theorem op_notIn_seq : OpR X (compareOp .NotIn) (rIn X.K true) := by
  intro pins s σ H x y v u Q I rx ry h
  obtain ⟨p, xs, rfl, hq, fx, fs, q⟩ := h
  cases ry
  rcases hq with hq | hq
  · obtain ⟨its, r, pl, hz⟩ := I.list hq
    refine SeqAt.notIn_listAt (eqU x) pl.isList (fun w hw => mem_eqAt rx fx r fs w (by simpa using hw)) ⟨.bl _, H, I, rfl, ?_⟩
    rw [show its.toArray.any (eqU x) = its.any (eqU x) by simp, any_eqU r fs]
    exact q
  · obtain ⟨its, r, pl, hz⟩ := I.tuple hq
    refine SeqAt.notIn_tupleAt (eqU x) pl (fun w hw => mem_eqAt rx fx r fs w (by simpa using hw)) ⟨.bl _, H, I, rfl, ?_⟩
    rw [show its.toArray.any (eqU x) = its.any (eqU x) by simp, any_eqU r fs]
    exact q
/-! ### len, list(x), tuple(x) of any list or tuple that is read -/
theorem call_len_seq : CallR X (.builtin "len") (fun xs H Q => ∃ p ys, xs = [.ref p] ∧ (SqL X.K H p ys ∨ SqT X.K H p ys) ∧ Q (.int ys.length) H) := by
  intro pins s σ H xs us Q I r h
  obtain ⟨p, ys, rfl, hq, q⟩ := h
  obtain ⟨u, rfl, rx⟩ := vals1 r
  cases rx
  have hn := line63
  rcases hq with hq | hq
  · obtain ⟨its, r', pl, hz⟩ := I.list hq
    have hlen := r'.length
    exact Calls.call_len_list pl.isList (by simp only [List.size_toArray] <;> omega) ⟨.int ys.length, H, I.tok _, ⟨s.toks + 1, by rw [List.size_toArray, hlen]⟩, q⟩
  · obtain ⟨its, r', pl, hz⟩ := I.tuple hq
    have hlen := r'.length
    exact len_tuple pl (by simp only [List.size_toArray] <;> omega) ⟨.int ys.length, H, I.tok _, ⟨s.toks + 1, by rw [List.size_toArray, hlen]⟩, q⟩
theorem CallR.or {f : Value} {r r' : List V → Hp → VK → Prop} (h : CallR X f r) (h' : CallR X f r') : CallR X f (fun xs H Q => r xs H Q ∨ r' xs H Q) := by
  intro pins s σ H xs us Q I rs q
  rcases q with q | q
  · exact h pins s σ H xs us Q I rs q
  · exact h' pins s σ H xs us Q I rs q
theorem call_tuple_of : CallR X (.type "tuple") (fun xs H Q => ∃ p ys, xs = [.ref p] ∧ ((SqL X.K H p ys ∧ ∀ l, H l = none → Q (.ref l) (upd H l (.tup ys))) ∨ (SqT X.K H p ys ∧ Q (.ref p) H))) := by
  intro pins s σ H xs us Q I r h
  obtain ⟨p, ys, rfl, h⟩ := h
  obtain ⟨u, rfl, rx⟩ := vals1 r
  cases rx
  rcases h with ⟨hq, q⟩ | ⟨hq, q⟩
  · obtain ⟨its, r', pl, hz⟩ := I.list hq
    have hlen := r'.length
    refine call_tuple_list pl.isList (fun h' kp => ?_) (by simp only [List.size_toArray] <;> omega)
    have I1 : Inv X pins σ H { s with heap := h' } := I.kept (t' := s.toks) kp
    have I2 : Inv X pins σ (upd H h'.objs.size (.tup ys)) { s with heap := h'.push { cls := .type "tuple", data := .seq its.toArray } } :=
      I1.laid (t' := s.toks) (fun b o e => Heap.get?_push_of_some _ e) (Nat.le_refl _) (show ObjOk X.prog X.w _ _ _ (.tup ys) from ⟨hz, its, r', IsTup.new _ _⟩)
    exact ⟨.ref h'.objs.size, _, I2, rfl, q _ (I1.hok.fresh (Nat.le_refl _))⟩
  · obtain ⟨its, r', pl, hz⟩ := I.tuple hq
    exact call_tuple_same pl ⟨.ref p, H, I, rfl, q⟩

/-! ### the call of a builtin's method: o.m(..) -/
/-- the value is of that builtin type -/
def tyV (K : PySem.W.Frag) (T : String) (x : V) (H : Hp) : Prop := match x with
  | .str _ => T = "str"
  | .int _ => T = "int"
  | .ref p => (T = "list" ∧ ∃ xs, SqL K H p xs) ∨ (T = "tuple" ∧ ∃ o, K.lookup p = some o ∧ o.cls = .type "tuple" ∧ o.dict = none) ∨
      (T = "dict" ∧ ((∃ kvs, H p = some (.dK kvs)) ∨ ∃ kvs, H p = some (.dT kvs))) ∨ (T = "set" ∧ ∃ S n, H p = some (.set S n))
  | _ => False
theorem tyV_is {pins : List (Addr × Obj)} {σ : St} {H : Hp} {s : Shared} {T : String} {x : V} {v : Value} (I : Inv X pins σ H s) (r : RelV x v) (ty : tyV X.K T x H) :
    s.TypeIs v T ∧ ∀ a, v = .ref a → ∃ ob, s.heap.get? a = some ob ∧ ob.dict = none := by
  cases x with
  | str z =>
    obtain ⟨t, rfl⟩ := r
    cases (show T = "str" from ty)
    exact ⟨typeIs_str s z t, fun _ e => nomatch e⟩
  | int i =>
    obtain ⟨t, rfl⟩ := r
    cases (show T = "int" from ty)
    exact ⟨typeIs_int s i t, fun _ e => nomatch e⟩
  | ref p =>
    cases r
    rcases ty with ⟨rfl, xs, hq⟩ | ⟨rfl, o, hk, hc, hd⟩ | ⟨rfl, hk⟩ | ⟨rfl, S, n, hk⟩
    · obtain ⟨its, _, pl, _⟩ := I.list hq
      refine ⟨pl.isList.typeIs, fun a e => ?_⟩
      cases e
      obtain ⟨o, n, e, c, hd, _⟩ := pl
      exact ⟨o, e, hd⟩
    · refine ⟨⟨o, I.kIn p o hk, hc⟩, fun a e => ?_⟩
      cases e
      exact ⟨o, I.kIn _ o hk, hd⟩
    · have z : ∃ o, s.heap.get? p = some o ∧ o.ExactDict := by
        rcases hk with ⟨kvs, hk⟩ | ⟨kvs, hk⟩
        · obtain ⟨_, _, _, _, o, _, _, e, ex, _⟩ := I.hok p _ hk
          exact ⟨o, e, ex⟩
        · obtain ⟨_, _, _, _, o, _, _, e, ex, _⟩ := I.hok p _ hk
          exact ⟨o, e, ex⟩
      obtain ⟨o, e, ex⟩ := z
      refine ⟨⟨o, e, ex.1⟩, fun a e2 => ?_⟩
      cases e2
      exact ⟨o, e, ex.2.1⟩
    · obtain ⟨o, _, _, _, e, ex, _⟩ := I.hok p _ hk
      refine ⟨⟨o, e, ex.1⟩, fun a e2 => ?_⟩
      cases e2
      exact ⟨o, e, ex.2.1⟩
  | _ => exact False.elim ty
def tBM (K : PySem.W.Frag) (T : String) (r : V → List V → Hp → VK → Prop) (to : TE) (t : TA) : TE := fun σ H Q => to σ H fun x H1 => tyV K T x H1 ∧ t σ H1 fun xs H2 => r x xs H2 Q
variable {o e : Expr} {es : List Expr} {to : TE} {t : TA} {name : Str} {apos cpos : Pos} {T id : String} {r : V → List V → Hp → VK → Prop}
theorem pe_bm (pa : PlainAttrs T) (slot : Slot T name id) (hty : typeOf (.builtin id) = pure (.type "method_descriptor")) (hm : MtR X id r) (ho : PE X o to) (ha : PA X (e :: es) t)
    (hbase : attributeBase o name X.env (eval o X.env) = eval o X.env := by rfl)
    (hfew : ((backTo cpos (starEach (e :: es) X.env)).all (fun x => !x.1) && (backToKw cpos (keywordEach [] X.env)).all (fun x => x.1.isSome)
      && decide ((e :: es).length + ([] : List Keyword).length + (if ([] : List Keyword).isEmpty then 0 else 1) < 30)) = true := by rfl)
    (hline : (apos.endLine == cpos.line) = true := by rfl) (hs : starEach (e :: es) X.env = (false, eval e X.env) :: starEach es X.env := by rfl) (hplain : (backTo cpos (starEach es X.env)).any (·.1) = false := by rfl) :
    PE X (.Call (.Attribute o name apos) (e :: es) [] cpos) (tBM X.K T r to t) := by
  intro pins s σ H Q I h
  refine wpAny_Call_method_late hbase hfew hline rfl (thn (ho pins s σ H _ I h) fun v s1 ⟨x, H1, I1, r1, ty, q1⟩ => ?_)
  obtain ⟨h1, h2⟩ := tyV_is I1 r1 ty
  refine ⟨T, id, pa, slot, hty, h1, h2, ?_⟩
  have hA := ha cpos pins s1 σ H1 _ I1 q1
  rw [hs] at hA ⊢
  refine Calls.callWith_builtin (by show (false || (backTo cpos (starEach es X.env)).any (·.1)) = false; rw [hplain] <;> rfl) (Calls.evalArgs_plain ?_)
  exact thn hA fun us s2 ⟨vs, H2, I2, r2, q2⟩ => hm pins s2 σ H2 x vs v us Q I2 r1 r2 q2
/- xs.append(e), list.index on a module's tuple .. are MtR facts of 06m -/
end
end L2

namespace L2
open PySem PySem.Spec PyProof.Rows

def MtM (X : Cx) (id : String) (r : V → List V → Hp → VK → Prop) : Prop :=
  ∀ (pins : List (Addr × Obj)) (s : Shared) (σ : St) (H : Hp) (x : V) (xs : List V) (v : Value) (us : List Value) (Q : VK), Inv X pins σ H s → RelV x v → Vals xs us → r x xs H Q →
    wpAny (model X.prog X.w) X.A (call (.builtin id) (v :: us)) (EP X pins σ Q) X.xe s

/-! ### lists of values -/
theorem Vals.one : ∀ {x : V} {us : List Value}, Vals [x] us → ∃ u, us = [u] ∧ RelV x u
  | _, _, .cons r .nil => ⟨_, rfl, r⟩
theorem Vals.two : ∀ {x y : V} {us : List Value}, Vals [x, y] us → ∃ u v, us = [u, v] ∧ RelV x u ∧ RelV y v
  | _, _, _, .cons r (.cons q .nil) => ⟨_, _, rfl, r, q⟩
theorem Vals.zero : ∀ {us : List Value}, Vals [] us → us = []
  | _, .nil => rfl
theorem Vals.reverse {xs : List V} {us : List Value} (h : Vals xs us) : Vals xs.reverse us.reverse := by
  induction h with
  | nil => exact .nil
  | cons r t ih => rw [List.reverse_cons, List.reverse_cons]; exact Vals.append ih (.cons r .nil)
theorem Vals.rep {xs : List V} {us : List Value} (h : Vals xs us) : ∀ k : Nat, Vals (List.replicate k xs).flatten (List.replicate k us).flatten
  | 0 => .nil
  | k + 1 => by
    rw [List.replicate_succ, List.replicate_succ, List.flatten_cons, List.flatten_cons]
    exact Vals.append h (Vals.rep h k)
theorem foldl_rep (its : List Value) : ∀ (k : Nat) (acc : List Value),
    List.foldl (fun x1 x2 => x1 ++ x2) acc.toArray (List.replicate k its.toArray) = (acc ++ (List.replicate k its).flatten).toArray
  | 0, acc => by simp
  | k + 1, acc => by
    have e : acc.toArray ++ its.toArray = (acc ++ its).toArray := by simp
    have e2 : (acc ++ its) ++ (List.replicate k its).flatten = acc ++ (List.replicate (k + 1) its).flatten := by
      rw [List.replicate_succ, List.flatten_cons, List.append_assoc]
    rw [← e2, ← foldl_rep its k (acc ++ its), ← e, List.replicate_succ, List.foldl_cons]

section
variable {X : Cx} {pins : List (Addr × Obj)} {σ : St} {H : Hp} {s : Shared} {l b : Addr} {xs ys zs : List V}

/-! ### the two steps: a tracked list is rewritten, a new list is laid -/
theorem Inv.lset {its its' : List Value} {n : Nat} {f : Array Value → Array Value} {t' : Nat} (I : Inv X pins σ H s) (hH : H l = some (.lst xs))
    (e : s.heap.get? l = some { cls := .type "list", data := .seq its.toArray n }) (hf : f its.toArray = its'.toArray) (hv : Vals ys its') (hz : ys.length ≤ sizeLine) :
    Inv X pins σ (upd H l (.lst ys)) { s with heap := s.heap.update l (Obj.mapSeq f), toks := t' } := by
  have q := PySem.IsL.update e f
  rw [hf] at q
  refine I.write (x := l) (e := l) (by rw [hH]; exact trivial) (.inl rfl) (fun b' u hb hu => (Heap.get?_update_other s.heap (Obj.mapSeq f) (Ne.symm hb)).trans hu) ⟨_, q⟩ ?_
  exact ⟨hz, its', _, hv, q⟩
theorem Inv.fresh (I : Inv X pins σ H s) : H s.heap.objs.size = none := I.hok.fresh (Nat.le_refl _)
theorem Inv.lstM (I : Inv X pins σ H s) (hH : H l = some (.lst xs)) : xs.length ≤ sizeLine ∧ ∃ (its : List Value) (n : Nat), Vals xs its ∧ xs.length = its.length ∧ s.heap.get? l = some { cls := .type "list", data := .seq its.toArray n } := by
  obtain ⟨z, its, n, r, e⟩ := I.hok l _ hH
  exact ⟨z, its, n, r, r.length, e⟩

end

section
variable {X : Cx}

/-! ### methods -/
def rAppend : V → List V → Hp → VK → Prop := fun x vs H Q => ∃ l xs y, x = .ref l ∧ vs = [y] ∧ H l = some (.lst xs) ∧ xs.length < sizeLine ∧ Q .non (upd H l (.lst (xs ++ [y])))
theorem mt_append : MtM X "list.append" rAppend := by
  intro pins s σ H x vs v us Q I rx rv h
  obtain ⟨l, xs, y, rfl, rfl, hH, hz, q⟩ := h
  cases rx
  obtain ⟨u, rfl, ru⟩ := rv.one
  obtain ⟨z, its, n, r, hl, e⟩ := I.lstM hH
  refine call_meets F.slot_list_append ⟨_, e, rfl⟩ F.entry_list_append (F.args_list_append_2 _ _) (PySem.list_append l its.toArray n u (by rw [List.size_toArray]; omega)) ⟨e, ?_⟩
  refine ⟨.non, _, I.lset (its' := its ++ [u]) hH e (by simp) (r.append (.cons ru .nil)) ?_, rfl, q⟩
  rw [List.length_append, List.length_singleton]
  omega

/-! ### list + list, list += list, list * int -/
theorem len_rep {α : Type} (xs : List α) (k : Nat) : (List.replicate k xs).flatten.length = k * xs.length := by
  induction k with
  | zero => simp
  | succ k ih => rw [List.replicate_succ, List.flatten_cons, List.length_append, ih, Nat.succ_mul, Nat.add_comm]
/-! ### del xs[i] -/
end

/-! ### xs[a:b] = ys -/
section
variable {prog : Program} {w : World} {A : Around} {E : Value → Shared → Prop} {s : Shared}
set_option maxRecDepth 100000 in
end

section
variable {X : Cx}
end
end L2

namespace Att
open PySem PySem.W PySem.Calls PyProof.Rows

/-! ### the script -/
theorem ints_of_wellAll {P : Params} {h : Heap} : ∀ (ns : List Int) (vs : List Value), WellAll P h vs (ns.map WData.int) → IntsAre vs ns := by
  intro ns
  induction ns with
  | nil =>
    intro vs w
    rw [List.map_nil] at w
    cases w
    exact .nil
  | cons n ns ih =>
    intro vs w
    rw [List.map_cons] at w
    cases w with
    | cons a b =>
      cases a
      exact .cons _ _ (ih _ b)

theorem script_of {l : OpenLaw} {n : Nat} (hn : l.most = some n) {P : Params} {h : Heap} {args : List WData} {vals : List Value}
    (hpre : l.row.toRowW.claim.pre args = true) (hwl : WellAll P h vals args) :
    ∃ a vs ns, vals = [Value.ref a] ∧ args = [WData.list (ns.map WData.int)] ∧ h.get? a = some { cls := .type "list", data := .seq vs.toArray } ∧ IntsAre vs ns ∧ ns.length ≤ n := by
  have hsh : WShape.hasAll [] args [.list .int] = true := (pre_splitW hpre).1
  have hc : l.pre.holds [] { args := args } = true := (pre_splitW hpre).2
  obtain ⟨d, r, rfl, h1, h2⟩ := hasAllW_cons hsh
  obtain rfl := hasAllW_nil h2
  obtain ⟨xs, rfl, h3⟩ := hasW_list h1
  obtain ⟨ns, rfl⟩ := items_int h3
  have hlen : ns.length ≤ n := by
    unfold OpenLaw.pre at hc
    have h4 : (WTm.not (.lt (.lit (.int (n : Int))) (.len (.arg 0)))).holds [] { args := [.list (ns.map .int)] } = true := by
      have h4 := (holds_andW hc).1
      rw [hn] at h4
      exact h4
    have h5 := condW_of h4 (w_not (w_lt w_lit (w_len_list (w_arg rfl))))
    rw [List.length_map] at h5
    refine Nat.le_of_not_lt fun q => ?_
    have q' : (n : Int) < ((ns.length : Nat) : Int) := by omega
    first
      | (rw [decide_eq_true q'] at h5; exact absurd h5 (by decide))
      | (simp at h5; omega)
  cases hwl with
  | cons w1 w2 =>
    cases w2
    cases w1 with
    | list ho hall => exact ⟨_, _, ns, rfl, rfl, ho, ints_of_wellAll ns _ hall, hlen⟩

theorem post_true (l : OpenLaw) (args : List WData) : l.row.toRowW.claim.post args (.bool true) args = true :=
  postW_of (r := l.row.toRowW) (X := (true == true))
    (show WShape.has [] (.bool true) .bool = true by first | rfl | decide | simp [WShape.has, WShape.arms, WShape.armsAll])
    (show (WTm.eq .res (.lit (.bool true))).value [] { args := args, res := some (.bool true), after := args } = some (.bool (true == true)) from w_eq_bool (w_res rfl) w_lit) rfl

/-! ### the attachment: holds_open's last premise (the goal 'hc' behind k_head) from a wpAny of the law's body -/
/-- the same from a codeAny of the CALL (for a layer whose function contracts speak of calls) -/
theorem attach_call {l : OpenLaw} {n : Nat} {q : Program} {loose : List Str} {XP : (Str → Option Value) → Heap → Prop} {YP : World → Heap → Prop} {d : DefRec}
    (hn : l.most = some n) (hdf : d.params.defaults = [])
    (call : ∀ (w : World) (s₀ s₁ : Shared) (mg mb : Str → Option Value) (fa : Addr) (o : Obj) (pm cd doc : Value) (a : Addr) (vs : List Value) (ns : List Int),
      Ground q loose [] XP w s₀ mg mb s₁.heap → YP w s₁.heap →
      s₁.heap.get? fa = some o → o.data = .func (docDef d.name d.params d.body d.scope pm cd doc) → s₁.heap.CodeRec cd d.name → mg d.name = some (.ref fa) →
      s₁.heap.get? a = some { cls := .type "list", data := .seq vs.toArray } → IntsAre vs ns → ns.length ≤ n → s₁.gens = #[] →
      codeAny (model l.prog w) callerA (.call (.ref fa) ⟨[.ref a], []⟩) (fun r s' => r = .ok (.ret (.bool true)) ∧ OldK s₁.heap s'.heap ∧ s'.os = s₁.os ∧ AllBare s'.gens) s₁) :
    WalkO q loose XP YP l.row.toRowW d [] (fun f vs => PySem.call f vs) := by
  intro w s₀ s₁ mg mb G Y fa o pm cd doc dV kV ho hd hcd hD hmg hg args vals as hpre hlay hrd hwl hlo
  obtain rfl : dV = .none := Dflts.none hD hdf
  obtain rfl : kV = .none := Dflts.noKw hD
  obtain ⟨a, vs, ns, rfl, rfl, hobj, hints, hlen⟩ := script_of hn hpre hwl
  refine enter_call (codeAny_mono (call w s₀ s₁ mg mb fa o pm cd doc a vs ns G Y ho (fd_plain hd) hcd hmg hobj hints hlen hg) fun r s' hq => ?_)
  obtain ⟨rfl, h2, h3, h4⟩ := hq
  exact ⟨.inl ⟨.bool true, .bool true, [], rfl, fun _ => rfl, .bool true, post_true l _, fun _ => ⟨List.Pairwise.nil, fun _ hm => (nomatch hm)⟩⟩, h2, h3, h4⟩

/-! ### rules over ANY heap (no ledger) from facts about the written part K: the library's own take a ledger (News) for what they write -/
section
variable {prog : Program} {w : World} {A : Around} {E : Value → Shared → Prop} {s : Shared} {K : Frag}

/-! the whole heap as the ledger: makes every rule that writes through a ledger a rule over any heap -/
def ledger (h : Heap) (L d : Addr) : List (Addr × Obj) := (List.range h.objs.size).filterMap fun a => if a = L ∨ a = d then none else (h.get? a).map fun o => (a, o)
end
end Att

namespace L2
open PySem PySem.Spec PyProof.Rows

theorem vals_ints : ∀ {vs : List Value} {ns : List Int}, IntsAre vs ns → Vals (ns.map V.int) vs
  | _, _, .nil => .nil
  | _, _, .cons n t h => .cons ⟨t, rfl⟩ (vals_ints h)

/-- nothing is tracked but the script, known to the object (or it is an object of the module) -/
def Only (H : Hp) : Prop := ∀ b, H b = none ∨ ∃ o xs, H b = some (.frz o (.lst xs))

/-- THE HEAD: the law's promise, at the heap behind the top. F, the promise of the law's def, may use that base is part of the heap (so K.In base, base.Ns mainGlobals mg stand in Mod) -/
theorem law_call {P : Program} {w : World} {K : PySem.W.Frag} {mg mb : Str → Option Value} {CX : CXT} {k : Nat} {fa a : Addr} {fd : FuncData} {x : Str} {sp : Sp} {s₁ : Shared} {vs : List Value} {ns : List Int}
    (KX : K.In s₁.heap) (hns : s₁.heap.Ns mainGlobals mg) (hb : s₁.heap.Ns builtinsNs mb) (hbb : ∀ x : Str, x ≠ "__name__" → mb x = bootBuiltins x) (hlim : s₁.heap.NoLimit) (hg : s₁.gens = #[])
    (ha : s₁.heap.get? a = some { cls := .type "list", data := .seq vs.toArray }) (hi : IntsAre vs ns) (hl : ns.length ≤ sizeLine) (hr : Room k callerA)
    (F : ∀ base : Heap, K.In base → base.Ns mainGlobals mg → FnOk P w K mg base CX k fa fd [x] sp) (hbind : ∀ (s : Shared) (u : Value), BindsTo s fd ⟨[u], []⟩ [(x, u)])
    (hsp : ∀ H : Hp, Only H → SqL K H a (ns.map V.int) → sp [.ref a] H (fun v _ => v = .bl true) fun _ _ _ => False)
    (hCX : ∀ H e s', CX [] H s₁ (fun _ _ _ => False) e s' → False) :
    codeAny (model P w) callerA (.call (.ref fa) ⟨[.ref a], []⟩) (fun r s' => r = .ok (.ret (.bool true)) ∧ OldK s₁.heap s'.heap ∧ s'.os = s₁.os ∧ AllBare s'.gens) s₁ := by
  have rv := vals_ints hi
  have lenV := hi.length
  -- from an abstract heap in which nothing but the script may be tracked
  have core : ∀ H : Hp, Only H → SqL K H a (ns.map V.int) → HOk P w H s₁.heap → (∀ b, H b ≠ none → b = a) → (H a ≠ none → K.lookup a = none) →
      codeAny (model P w) callerA (.call (.ref fa) ⟨[.ref a], []⟩) (fun r s' => r = .ok (.ret (.bool true)) ∧ OldK s₁.heap s'.heap ∧ s'.os = s₁.os ∧ AllBare s'.gens) s₁ := by
    intro H hO hS hok hA hK
    have base_of : ∀ {b : Addr} {o : Obj}, s₁.heap.get? b = some o → H b = none → (hidT s₁.heap H).get? b = some o := fun e n => hidT_get e n
    have noA : ∀ {b : Addr} {o : Obj} {es : Array DictEntry} {ep : Nat}, s₁.heap.get? b = some o → o.data = .dict es ep → H b = none := fun {b o es ep} e d => by
      cases q : H b with
      | none => rfl
      | some u =>
        have e' : b = a := hA b (by rw [q]; simp)
        subst e'
        rw [ha] at e; cases e
        have d' : Data.seq vs.toArray _ = Data.dict es ep := d
        cases d'
    have nsK : ∀ {b : Addr} {m : Str → Option Value}, s₁.heap.Ns b m → (hidT s₁.heap H).Ns b m := fun {b m} ⟨o, es, ep, e, d, r⟩ => ⟨o, es, ep, base_of e (noA e d), d, r⟩
    have hKb : K.In (hidT s₁.heap H) := fun b o e => base_of (KX b o e) (by
      cases q : H b with
      | none => rfl
      | some u =>
        have e' : b = a := hA b (by rw [q]; simp)
        subst e'
        rw [hK (by rw [q]; simp)] at e; cases e)
    have hM : Mod K mg (hidT s₁.heap H) := ⟨hKb, nsK hns, ⟨mb, nsK hb, hbb⟩, let ⟨mc, h1, h2⟩ := hlim; ⟨mc, nsK h1, h2⟩⟩
    have e0 : Env0 P w K mg (hidT s₁.heap H) callerA [] s₁ H := ⟨rfl, hM, fun b o e => of_hidT e, Nat.le_of_eq (hidT_size _ _), trivial, fun b hb => absurd (show b ∈ ([] : List Addr) from hb) (by simp), hok, .of_eq hg⟩
    refine codeAny_mono ((F _ hKb (nsK hns)).run callerA [] s₁ H ⟨[.ref a], []⟩ [.ref a] [.ref a] _ _ hr e0 (hbind s₁ (.ref a)) (.cons rfl .nil) (hsp H hO hS)) fun r s' h => ?_
    cases r with
    | error e => exact (hCX H e s' h).elim
    | ok fl =>
      cases fl with
      | next => exact False.elim h
      | brk => exact False.elim h
      | cont => exact False.elim h
      | ret u =>
        obtain ⟨v, H', os, bare, un, hok', r', q⟩ := h
        have q' : v = .bl true := q
        subst q'
        obtain rfl : u = Value.bool true := r'
        refine ⟨rfl, OldK.of_keep fun b o e => ?_, os, bare⟩
        cases q : H b with
        | none => exact un.keep b o e q (by intro z; exact absurd (show b ∈ ([] : List Addr) from z) (by simp)) (by simp)
        | some u =>
          rcases hO b with z | ⟨ob, xs, z⟩
          · rw [q] at z; cases z
          · have z2 := un.frzs b ob _ z
            obtain ⟨e1, _⟩ := hok b _ z
            obtain ⟨e2, _⟩ := hok' b _ z2
            rw [e] at e1; cases e1
            exact e2
  cases hk : K.lookup a with
  | some o =>
    -- the script is one of the module's own objects
    have e := KX a o hk
    rw [ha] at e
    cases e
    refine core (fun _ => none) (fun _ => .inl rfl) (.inr ⟨_, vs.toArray, _, hk, rfl, rfl, rfl, by rw [List.size_toArray, lenV]; exact hl, by simpa using rv⟩) (fun b u z => by have z' : (none : Option HO) = some u := z; cases z') (fun b z => absurd rfl z) fun z => absurd rfl z
  | none =>
    refine core (fun b => if b = a then some (.frz { cls := .type "list", data := .seq vs.toArray } (.lst (ns.map V.int))) else none) (fun b => ?_) (.inl (.inr ⟨{ cls := .type "list", data := .seq vs.toArray }, if_pos rfl⟩)) (fun b u z => ?_) (fun b z => ?_) fun _ => hk
    · by_cases hb : b = a
      · exact .inr ⟨_, _, if_pos hb⟩
      · exact .inl (if_neg hb)
    · by_cases hb : b = a
      · have z' := (if_pos hb).symm.trans z
        cases z'
        subst hb
        exact ⟨ha, by rw [List.length_map]; exact hl, vs, _, rv, ha⟩
      · have z' := (if_neg hb).symm.trans z
        cases z'
    · by_cases hb : b = a
      · exact hb
      · exact absurd (if_neg hb) z
end L2

namespace L2
open PySem PySem.Spec PyProof.Rows

abbrev KOf {K : PySem.W.Frag} {h : Heap} (_ : K.In h) : PySem.W.Frag := K

/-- the goal that k_head leaves (case hc), from the law's promise. F gives the function object fd (K's own) once, then the promise over every base -/
theorem walk_of {l : PySem.W.OpenLaw} {n k : Nat} {q : Program} {loose : List Str} {XP : (Str → Option Value) → Heap → Prop} {YP : World → Heap → Prop} {d : DefRec} {K : Params → PySem.W.Frag} {CX : World → CXT} {sp : World → Sp} {x : Str}
    (hn : l.most = some n) (hn2 : n ≤ sizeLine) (hdf : d.params.defaults = []) (hr : Room k callerA)
    (hY : ∀ (w : World) (h : Heap), YP w h → (K w.params).In h)
    (F : ∀ (w : World) (mg : Str → Option Value) (fa : Addr) (h : Heap), (K w.params).In h → h.Ns mainGlobals mg → mg d.name = some (.ref fa) →
      ∃ fd : FuncData, (∀ (s : Shared) (u : Value), BindsTo s fd ⟨[u], []⟩ [(x, u)]) ∧
        ∀ base : Heap, (K w.params).In base → base.Ns mainGlobals mg → FnOk l.prog w (K w.params) mg base (CX w) k fa fd [x] (sp w))
    (hsp : ∀ (w : World) (H : Hp) (a : Addr) (ns : List Int), ns.length ≤ n → Only H → SqL (K w.params) H a (ns.map V.int) → sp w [.ref a] H (fun v _ => v = .bl true) fun _ _ _ => False)
    (hCX : ∀ (w : World) (H : Hp) (s : Shared) (e : Value) (s' : Shared), CX w [] H s (fun _ _ _ => False) e s' → False) :
    PySem.W.WalkO q loose XP YP l.row.toRowW d [] (fun f vs => PySem.call f vs) := by
  refine Att.attach_call hn hdf fun w s₀ s₁ mg mb fa o pm cd doc a vs ns G Y ho hd hcd hmg hobj hints hlen hg => ?_
  have KX := hY w _ Y
  obtain ⟨fd, hb, hF⟩ := F w mg fa _ KX G.T.g hmg
  exact law_call KX G.T.g G.T.b G.T.builtins G.T.nolimit hg hobj hints (Nat.le_trans hlen hn2) hr hF hb (fun H hO hS => hsp w H a ns hlen hO hS) fun H e s' => hCX w H s₁ e s'
end L2

/- THE LAST THEOREM (shape; LID, My.* are yours):
   My.Adr: a structure of the addresses that your layer names (classes, functions); My.Txt K t: a structure (Prop) of the equations over K;
   My.txt_mk : {K} {implicit addresses ..} (e1 : nsIn K mainGlobals "law" = some (some (.ref f))) (e2 : K.lookup f = some ⟨oc, od, .func (fnOf "law" "law" params body scope dV kV doc pm an cdv ct), sl⟩) (e3 : codeIn K cdv "law" = true) .. : ∃ t, My.Txt K t

set_option maxRecDepth 100000 in
set_option maxHeartbeats 0 in
theorem PySem.Challenge.cw_LID_holds : PySem.Challenge.rw_LID.Holds := by
  w_on; o_law; k_head; (case hw => w_witness2)
  k_fill
  refine L2.walk_of (l := PySem.Challenge.rw_LID) (n := 63) (k := 40) (x := "script") (CX := fun w => ..) (sp := fun _ => My.sp_law) rfl (by decide) rfl ⟨rfl, by decide, by decide⟩ (fun w h Y => PySem.W.kIn_of Y) ?F ?S ?C
  case F =>
    intro w mg fa h KX G hmg
    have T : ∃ t, My.Txt (L2.KOf KX) t := by
      dsimp only [L2.KOf]                          -- K must stand as «<heap const> w.params» for k_is
      refine' My.txt_mk ?e1 ?e2 ?e3 ..
      (case e1 => PySem.W.k_is)                    -- in the order: a name -> its address -> its object -> its parts
      (case e2 => PySem.W.k_is)
      ..
    obtain ⟨t, T⟩ := T
    have e0 := hmg.symm.trans (PySem.W.mg_of KX G T.law)
    cases e0                                       -- fa is the law's own address
    exact ⟨_, fun s u => .of_eq rfl, fun base kb nb => My.law_fn T kb nb⟩     -- if «.of_eq rfl» comes too early: refine' ⟨_, ?b, fun base kb nb => My.law_fn T kb nb⟩; exact fun s u => .of_eq rfl
  case S => exact fun w H a ns hl hO hS => ..
  case C => exact ..
(the tactic k_is has no namespace: write k_is) -/

/-! SHORT WORDS over the layer: a def of the text, its body, what a loop and a test want. -/
namespace L2
open PySem PySem.Spec PyProof.Rows

/-! ### the text by places -/
/-- the j-th statement of a class's body -/
def inClass (s : Stmt) (j : Nat) : Stmt := match s with
  | .ClassDef _ _ _ body _ _ _ _ _ _ _ => body.getD j (.Pass ⟨0, 0, 0, 0⟩)
  | _ => .Pass ⟨0, 0, 0, 0⟩
def defArgs (s : Stmt) : Arguments := match s with
  | .FunctionDef _ a _ _ _ _ _ _ _ _ => a
  | _ => { posonlyargs := [], args := [], vararg := none, kwonlyargs := [], kw_defaults := [], kwarg := none, defaults := [] }
def defBody (s : Stmt) : List Stmt := match s with
  | .FunctionDef _ _ b _ _ _ _ _ _ _ => b
  | _ => []
def defScope (s : Stmt) : Scope := match s with
  | .FunctionDef _ _ _ _ _ _ sc _ _ _ => sc
  | _ => { kind := .function, names := [], isGenerator := false, isCoroutine := false }

/-! ### no exception leaves a def -/
abbrev CX0 : CXT := fun _ _ _ _ _ _ => False
abbrev E0 : XK := fun _ _ _ => False
theorem pass0 {X : Cx} : Passes CX0 X E0 := fun _ _ _ _ _ _ _ h => h.elim

/-! ### a def (or method) of the text as it stands behind the top -/
structure Fun (K : PySem.W.Frag) (x qual : Str) (st : Stmt) (f : Addr) (fd : FuncData) : Prop where
  ex : ∃ (oc : Value) (od : Option Addr) (kV doc pm : Value) (an : Option Addr) (cdv ct : Value) (osl : Array (Option Value)),
    fd = PySem.W.fnOf x qual (defArgs st) (defBody st) (defScope st) .none kV doc pm an cdv ct ∧ K.lookup f = some ⟨oc, od, .func fd, osl⟩ ∧ PySem.W.codeIn K cdv qual = true
  kp : PySem.W.keepIn K (.ref f) = true
section
variable {P : Program} {w : World} {K : PySem.W.Frag} {mg : Str → Option Value} {base : Heap}
/-- THE RULE for a def: its body as a term of rules, and the reading of that term -/
theorem Fun.ok {x qual : Str} {st : Stmt} {f : Addr} {fd : FuncData} {N ps : List Str} {k : Nat} {sp : Sp} (F : Fun K x qual st f fd) (S : FnScope N ps (defScope st)) (len : ∀ vs H Q E, sp vs H Q E → vs.length = ps.length)
    (hbody : ∀ (cdv : Value) (A : Around) (outer : List Env) (s : Shared) (H : Hp) (vs : List V) (Q : VK) (E : XK), Room k (A.deeper (envOfC qual (defScope st) s.heap.objs.size f cdv)) → sp vs H Q E →
      ∃ t, PSs (cxOf CX0 P w K mg base N qual (defScope st) f cdv A outer s H E).nox (defBody st) t ∧ t { nx := fun _ H' => Q .non H', rt := Q } (start N vs) H) : FnOk P w K mg base CX0 (k + 1) f fd ps sp := by
  obtain ⟨oc, od, kV, doc, pm, an, cdv, ct, osl, rfl, lk, hcd⟩ := F.ex
  refine fn_of lk hcd S len fun A outer s H vs Q E hr hsp => ?_
  obtain ⟨t, h, q⟩ := hbody cdv A outer s H vs Q E hr hsp
  exact ⟨t, h.nox, q⟩
/-- how its arguments bind (no defaults): h is «fun _ _ _ _ _ _ us hl => match us, hl with | [_, _], _ => rfl», one _ a parameter -/
theorem Fun.binds {x qual : Str} {st : Stmt} {f : Addr} {fd : FuncData} {ps : List Str} (F : Fun K x qual st f fd)
    (h : ∀ (kV doc pm : Value) (an : Option Addr) (cdv ct : Value) (us : List Value), us.length = ps.length → bindArgs (PySem.W.fnOf x qual (defArgs st) (defBody st) (defScope st) .none kV doc pm an cdv ct) ⟨us, []⟩ = pure (ps.zip us)) : Binds K fd ps [] := by
  obtain ⟨oc, od, kV, doc, pm, an, cdv, ct, osl, rfl, lk, hcd⟩ := F.ex
  exact .all (h kV doc pm an cdv ct)
theorem fun_mk {x qual : Str} {st : Stmt} {f : Addr} {oc : Value} {od an : Option Addr} {osl : Array (Option Value)} {kV doc pm cdv ct : Value} (l : K.lookup f = some ⟨oc, od, .func (PySem.W.fnOf x qual (defArgs st) (defBody st) (defScope st) .none kV doc pm an cdv ct), osl⟩)
    (c : PySem.W.codeIn K cdv qual = true) (k : PySem.W.keepIn K (.ref f) = true) : Fun K x qual st f (PySem.W.fnOf x qual (defArgs st) (defBody st) (defScope st) .none kV doc pm an cdv ct) := ⟨⟨oc, od, kV, doc, pm, an, cdv, ct, osl, rfl, l, c⟩, k⟩
end
/-! ### expressions in short: the name that stands in the i-th slot -/
section
variable {X : Cx}
theorem pv (i : Nat) {x : Str} {pos : Pos} (hN : X.N[i]? = some x := by rfl) (hv : Vis X.env.scope x := by first | exact Or.inl rfl | exact Or.inr (Or.inl rfl) | exact Or.inr (Or.inr rfl)) (hd : (x == ("__debug__" : Str)) = false := by decide)
    (hcd : (x == ("__classdict__" : Str)) = false := by decide) : PE X (.Name x pos) (tVar i) := pe_var hN hv hd hcd
end

/-! ### tests -/
theorem iteF {A B : Prop} (h : B) : if false = true then A else B := by
  rw [if_neg Bool.false_ne_true]
  exact h
theorem iteT {A B : Prop} (h : A) : if true = true then A else B := by
  rw [if_pos rfl]
  exact h
theorem ite2 {c A B : Prop} [Decidable c] (h1 : c → A) (h2 : ¬ c → B) : if c then A else B := by
  by_cases h : c
  · rw [if_pos h]
    exact h1 h
  · rw [if_neg h]
    exact h2 h
/-! ### heaps -/
/-- all that was tracked is as it was -/
def Same (H H' : Hp) : Prop := ∀ b o, H b = some o → H' b = some o
theorem Same.refl (H : Hp) : Same H H := fun _ _ h => h
theorem Same.trans {H H1 H2 : Hp} (a : Same H H1) (b : Same H1 H2) : Same H H2 := fun c o h => b c o (a c o h)
theorem Same.free {H H' : Hp} (e : Same H H') {l : Addr} (h : H' l = Option.none) : H l = Option.none := by
  cases q : H l with
  | none => rfl
  | some o =>
    rw [e l o q] at h
    cases h
theorem Same.seq {K : PySem.W.Frag} {H H' : Hp} {a : Addr} {xs : List V} (e : Same H H') (h : SqL K H a xs) : SqL K H' a xs := by
  rcases h with (h | ⟨o, h⟩) | h
  · exact .inl (.inl (e _ _ h))
  · exact .inl (.inr ⟨o, e _ _ h⟩)
  · exact .inr h

end L2
set_option Elab.async false
set_option linter.all false
set_option maxRecDepth 100000
set_option maxHeartbeats 4000000
namespace L2
open PySem PySem.Spec PyProof.Rows

/-! ### the cells that a comprehension's block takes over -/
def clo (cells : List (Str × Addr)) : List (Str × NameKind) → List (Str × Addr) → List (Str × Addr)
  | [], cs => cs
  | p :: r, cs => clo cells r (if (p.2 == NameKind.free) = true then (match cells.lookup p.1 with | some a => (p.1, a) :: cs | none => cs) else cs)

theorem clo_run {env : Env} {f : Str × NameKind → List (Str × Addr) → Sem (ForInStep (List (Str × Addr)))}
    (hf : ∀ p cs, f p cs = if (p.2 == NameKind.free) = true then (cellOf env p.1 >>= fun a => pure (ForInStep.yield ((p.1, a) :: cs))) else pure (ForInStep.yield cs)) :
    ∀ (names : List (Str × NameKind)) (cs : List (Str × Addr)), (∀ p ∈ names, p.2 = .free → ∃ a, env.cells.lookup p.1 = some a) →
      (forIn names cs f : Sem (List (Str × Addr))) = pure (clo env.cells names cs) := by
  intro names
  induction names with
  | nil => intro cs _; rfl
  | cons p r ih =>
    intro cs h
    have hr := fun cs => ih cs fun q hq => h q (List.mem_cons_of_mem _ hq)
    rw [List.forIn_cons, hf]
    by_cases hk : p.2 = .free
    · obtain ⟨a, ha⟩ := h p List.mem_cons_self hk
      have hb : (p.2 == NameKind.free) = true := by rw [hk]; rfl
      rw [if_pos hb]
      have hc : cellOf env p.1 = pure a := by unfold cellOf; rw [ha]
      rw [hc]
      show (forIn r ((p.1, a) :: cs) f : Sem _) = _
      rw [hr, clo, if_pos hb, ha]
    · have hb : ¬ (p.2 == NameKind.free) = true := by simpa using hk
      rw [if_neg hb]
      show (forIn r cs f : Sem _) = _
      rw [hr, clo, if_neg hb]
theorem clo_for {env : Env} {scope : Scope} (h : ∀ p ∈ scope.names, p.2 = .free → ∃ a, env.cells.lookup p.1 = some a) : closureFor scope env = pure (clo env.cells scope.names []) := by
  simp only [closureFor]
  rw [clo_run (env := env) (fun p cs => by obtain ⟨n, k⟩ := p; cases hk : (k == NameKind.free) <;> simp [hk] <;> rfl) scope.names [] h]
  rfl
theorem clo_old {cells : List (Str × Addr)} {x : Str} {c : Addr} : ∀ (names : List (Str × NameKind)) (cs : List (Str × Addr)), (clo cells names cs).lookup x = some c → cells.lookup x = some c ∨ cs.lookup x = some c := by
  intro names
  induction names with
  | nil => intro cs h; exact .inr h
  | cons p r ih =>
    intro cs h
    rw [clo] at h
    rcases ih _ h with e | e
    · exact .inl e
    · split at e
      · cases ha : cells.lookup p.1 with
        | none => rw [ha] at e; exact .inr e
        | some a =>
          rw [ha] at e
          rw [List.lookup_cons] at e
          cases hx : x == p.1 with
          | true =>
            rw [hx] at e
            have : x = p.1 := by simpa using hx
            subst this
            left
            rw [ha]; exact e
          | false => rw [hx] at e; exact .inr e
      · exact .inr e
theorem clo_new {cells : List (Str × Addr)} {x : Str} {a : Addr} (ha : cells.lookup x = some a) : ∀ (names : List (Str × NameKind)) (cs : List (Str × Addr)),
    ((x, NameKind.free) ∈ names ∨ cs.lookup x = some a) → (clo cells names cs).lookup x = some a := by
  intro names
  induction names with
  | nil => intro cs h; rcases h with h | h
           · cases h
           · exact h
  | cons p r ih =>
    intro cs h
    rw [clo]
    by_cases hr : (x, NameKind.free) ∈ r
    · exact ih _ (.inl hr)
    · refine ih _ (.inr ?_)
      by_cases hb : (p.2 == NameKind.free) = true
      · rw [if_pos hb]
        by_cases hx : x = p.1
        · subst hx
          rw [ha]
          simp [List.lookup_cons]
        · have h2 : cs.lookup x = some a := by
            rcases h with h | h
            · rcases List.mem_cons.mp h with e | e
              · exact absurd (congrArg Prod.fst e) hx
              · exact absurd e hr
            · exact h
          cases hc : cells.lookup p.1 with
          | none => exact h2
          | some b =>
            have hx' : (x == p.1) = false := by simpa using hx
            simp [List.lookup_cons, hx', h2]
      · rw [if_neg hb]
        rcases h with h | h
        · rcases List.mem_cons.mp h with e | e
          · exact absurd (by rw [← e]; rfl) hb
          · exact absurd e hr
        · exact h

theorem mem_lookup {α β : Type} [BEq α] [LawfulBEq α] {x : α} {y : β} : ∀ {l : List (α × β)}, l.lookup x = some y → (x, y) ∈ l
  | [], h => by cases h
  | p :: r, h => by
    rw [List.lookup_cons] at h
    cases hx : x == p.1 with
    | true =>
      rw [hx] at h
      have e : x = p.1 := by simpa using hx
      cases h
      rw [e]
      exact List.mem_cons_self
    | false => rw [hx] at h; exact List.mem_cons_of_mem _ (mem_lookup h)

/-- how a name of the block is seen behind the relabelling -/
theorem relabG {f : Str × NameKind → Str × NameKind} (hf : ∀ p, f p = p ∨ (p.2 = .free ∧ f p = (p.1, .cell))) {x : Str} : ∀ {names : List (Str × NameKind)}, (names.map f).lookup x = names.lookup x ∨ (names.lookup x = some .free ∧ (names.map f).lookup x = some .cell)
  | [] => .inl rfl
  | p :: r => by
    have ih := @relabG f hf x r
    rw [List.map_cons]
    rcases hf p with e | ⟨e1, e2⟩
    · rw [e, List.lookup_cons, List.lookup_cons]
      cases hx : x == p.1 with
      | true => exact .inl rfl
      | false => exact ih
    · rw [e2, List.lookup_cons, List.lookup_cons]
      cases hx : x == p.1 with
      | true => exact .inr ⟨congrArg some e1, rfl⟩
      | false => exact ih
theorem relab {env : Env} {x : Str} {names : List (Str × NameKind)} :
    ((names.map fun (n, k) => if (k == NameKind.free && env.scope.kind == .function && env.kindOf n == some .cell) then (n, NameKind.cell) else (n, k)).lookup x = names.lookup x) ∨
    (names.lookup x = some .free ∧ (names.map fun (n, k) => if (k == NameKind.free && env.scope.kind == .function && env.kindOf n == some .cell) then (n, NameKind.cell) else (n, k)).lookup x = some .cell) := by
  refine relabG (fun p => ?_)
  obtain ⟨n, k⟩ := p
  by_cases hc : (k == NameKind.free && env.scope.kind == .function && env.kindOf n == some .cell) = true
  · right
    have hk : k = .free := by
      simp only [Bool.and_eq_true, beq_iff_eq] at hc
      exact hc.1.1
    exact ⟨hk, by show (if _ then _ else _) = _; rw [if_pos hc]⟩
  · left
    show (if _ then _ else _) = _
    rw [if_neg hc]

/-! ### the block's context -/
def cxB (X : Cx) (NB : List Str) (scope : Scope) (cl : List (Str × Addr)) (C : Addr) (fp : List Addr) (s : Shared) (H : Hp) : Cx where
  prog := X.prog
  w := X.w
  K := X.K
  mg := X.mg
  base := X.base
  A := X.A
  N := NB
  s₀ := s
  H₀ := H
  env := compEnvC scope cl C X.env
  outer := X.stack
  stack := X.stack
  ex := fp
  fn := fun _ => false
  calm := X.calm
  pn := []
  xe := fun _ _ => False

/-- the tests of a clause -/
def PIfs (X : Cx) (ifs : List Expr) (t : TT) : Prop :=
  ∀ (pins : List (Addr × Obj)) (s : Shared) (σ : St) (H : Hp) (Q : Bool → Hp → Prop), Inv X pins σ H s → t σ H Q →
    wpAny (model X.prog X.w) X.A (forIn ifs true fun c r => if r = true then do let ok ← isTrue c X.env (eval c X.env); pure (ForInStep.yield ok) else pure (ForInStep.yield r)) (TP X pins σ Q) X.xe s
def tYes : TT := fun _ H Q => Q true H
theorem pifs_nil {X : Cx} : PIfs X [] tYes := fun _ _ _ H _ I h => wpAny_tests_nil ⟨H, I, h⟩
section
variable {prog : Program} {w : World} {A : Around} {R : Result → Shared → Prop} {s : Shared}
/-- the loop of a list's comprehension by an invariant; nothing is raised in it -/
theorem comp_loop {elt target iter : Expr} {ifs : List Expr} {scope : Scope} {pos : Pos} {it acc : Value} {env : Env} (I : Nat → Shared → Prop)
    (turn : ∀ n s, I n s → wpAny (model prog w) A (pyNext it) (fun r s1 => (r = none ∧ R (.ok .next) s1) ∨ ∃ v, r = some v ∧
      wpAny (model prog w) A (letOwnedTupleGo target it v) (fun _ s2 => wpAny (model prog w) A (assign target env v) (fun _ s3 =>
        wpAny (model prog w) A (forIn ifs true fun c r => if r = true then do let ok ← isTrue c env (eval c env); pure (ForInStep.yield ok) else pure (ForInStep.yield r)) (fun ok s4 =>
          if ok = true then wpAny (model prog w) A (eval elt env) (fun x s5 => wpAny (model prog w) A (call (.builtin "list.append") [acc, x]) (fun _ s6 => ∃ m, m < n ∧ I m s6) (fun _ _ => False) s5) (fun _ _ => False) s4
          else ∃ m, m < n ∧ I m s4) (fun _ _ => False) s3) (fun _ _ => False) s2) (fun _ _ => False) s1) (fun _ _ => False) s)
    (n : Nat) (h : I n s) : codeAny (model prog w) A (.compLoop (.ListComp elt [⟨target, iter, ifs, 0⟩] scope pos) 0 it acc env) R s := by
  refine codeAny_loop rfl I (fun k s0 hk => ?_) n h
  show wpAny _ A (Sem.onRaise (compTurn (.ListComp elt [⟨target, iter, ifs, 0⟩] scope pos) 0 it acc env) (fun x => do noteFrame x env; theTreesLotGoes x)) _ _ s0
  refine wpAny_noted ?_
  rw [compTurn_list]
  refine wpAny_bind (wpAny_standAt (wpAny_bind (wpAny_mono (turn k s0 hk) (fun r s1 h1 => ?_) fun _ _ z => z.elim)))
  rcases h1 with ⟨rfl, h1⟩ | ⟨v, rfl, h1⟩
  · exact wpAny_pure h1
  · refine wpAny_bind (wpAny_mono h1 (fun _ s2 h2 => wpAny_bind (wpAny_mono h2 (fun _ s3 h3 => wpAny_bind (wpAny_mono h3 (fun ok s4 h4 => ?_) fun _ _ z => z.elim)) fun _ _ z => z.elim)) fun _ _ z => z.elim)
    cases ok with
    | false => exact wpAny_pure ⟨rfl, h4⟩
    | true => exact wpAny_bind (wpAny_bind (wpAny_mono h4 (fun x s5 h5 => wpAny_bind (wpAny_mono h5 (fun _ s6 h6 => wpAny_pure (wpAny_pure ⟨rfl, h6⟩)) fun _ _ z => z.elim)) fun _ _ z => z.elim))
end

/-- the tracked things stay when an untracked one is changed -/
theorem HOk.but {P : Program} {w : World} {H : Hp} {h h' : Heap} {C : Addr} (x : HOk P w H h) (hC : H C = none) (k : ∀ b o, b ≠ C → h.get? b = some o → h'.get? b = some o) : HOk P w H h' := fun b u e => by
  have nit : ∀ c v, H c = some v → c ≠ C := fun c v q z => by rw [z, hC] at q; cases q
  refine (x b u e).stay (fun c v hc q => k c v ?_ q) (fun _ q => q) fun _ _ q => q
  rcases hc with z | z
  · rw [z]; exact nit b u e
  · exact nit c _ z

/-- what a comprehension's loop wants: W the invariant, by the turn and a measure; D the list that is made -/
def CompGo (frs : St) (g : TG) (tt : TT) (te : TE) (Q : VK) (J : It) (H1 : Hp) : Prop := ∀ D, H1 D = none →
  ∃ W : Nat → Nat → List V → St → Hp → Prop, (∃ m, W 0 m [] frs (upd H1 D (.lst []))) ∧
    ∀ i m ys σ' H', W i m ys σ' H' → H' D = some (.lst ys) →
      (J.stop i H' ∧ Q (.ref D) H') ∨
      (J.go i H' ∧ ys.length < sizeLine ∧ ∀ x H2, J.yld i H' x H2 → g x σ' H2 fun σ3 H3 => tt σ3 H3 fun b H4 =>
        if b = true then te σ3 H4 fun v H5 => H5 D = some (.lst ys) ∧ ∃ m', m' < m ∧ W (i + 1) m' (ys ++ [v]) σ3 (upd H5 D (.lst (ys ++ [v])))
        else H4 D = some (.lst ys) ∧ ∃ m', m' < m ∧ W (i + 1) m' ys σ3 H4)
def tComp (n : Nat) (fr : List Nat) (wi : TI) (g : TG) (tt : TT) (te : TE) : TE := fun σ H Q => wi σ H (CompGo (List.replicate n none ++ fr.map fun k => (σ[k]?).join) g tt te Q)

section
variable {X : Cx} {elt tg iter : Expr} {ifs : List Expr} {scope : Scope} {pos : Pos} {NB : List Str} {n : Nat} {fr : List Nat} {wi : TI} {g : TG} {tt : TT} {te : TE}

structure CompOk (X : Cx) (scope : Scope) (NB : List Str) (n : Nat) (fr : List Nat) : Prop where
  kind : scope.kind = .function
  nocell : ∀ y ∈ scope.names, y.2 ≠ .cell
  names : ∀ y ∈ scope.names, y.2 = .local → scope.names.lookup y.1 = some .local
  free : ∀ y ∈ scope.names, y.2 = .free → X.env.kindOf y.1 = some .cell ∨ X.env.kindOf y.1 = some .free
  len : NB.length = n + fr.length
  own : ∀ (j k : Nat), fr[j]? = some k → ∃ x, NB[n + j]? = some x ∧ X.N[k]? = some x ∧ scope.names.lookup x = some .free

theorem blk_ok {pins : List (Addr × Obj)} {σ : St} {H : Hp} {s : Shared} {fp : List Addr} {C : Addr} (O : CompOk X scope NB n fr) (I : Inv X pins σ H s) (hf : ∀ b ∈ fp, FpOk X pins H b) (hfl : ∀ b ∈ fp, b < s.heap.objs.size) (hC : s.heap.objs.size ≤ C) :
    (cxB X NB scope (clo X.env.cells scope.names []) C fp s H).Ok where
  mod := I.ok.mod
  kind := O.kind
  glob := I.ok.glob
  blt := I.ok.blt
  above := hC
  inj := fun x y c h1 h2 => by
    have e1 := (clo_old scope.names [] h1).resolve_right (by intro z; cases z)
    have e2 := (clo_old scope.names [] h2).resolve_right (by intro z; cases z)
    exact I.ok.inj x y c e1 e2
  has := fun x hx => by
    have hx' : (relabel scope X.env).names.lookup x = some .cell ∨ (relabel scope X.env).names.lookup x = some .free := hx
    have hfree : scope.names.lookup x = some .free := by
      have r := @relab X.env x scope.names
      rcases r with r | r
      · have hx2 : scope.names.lookup x = some .cell ∨ scope.names.lookup x = some .free := by rw [← r]; exact hx'
        rcases hx2 with e | e
        · exact absurd rfl (O.nocell _ (mem_lookup e))
        · exact e
      · exact r.1
    have hm := mem_lookup hfree
    obtain ⟨c, hc⟩ := I.ok.has x (O.free _ hm rfl)
    exact ⟨c, clo_new hc scope.names [] (.inl hm)⟩
  cab := fun x c h => nomatch h
  hd := fun h => I.ok.hd h
  frames := I.ok.frames
  stk := .inl rfl
  exf := fun b hb => ⟨Nat.ne_of_lt (Nat.lt_of_lt_of_le (hfl b hb) hC), fun x c h => by
    have e1 := (clo_old scope.names [] h).resolve_right (by intro z; cases z)
    exact (hf b hb).2.2.2.2.1 x c e1⟩
  bs := I.bs
  bsz := Nat.le_trans I.ok.bsz I.sz
  noex := fun b o e hb => by
    rcases (hf b hb).2.2.2.1 with z | z
    · exact I.ok.noex b o e z
    · exact absurd (Nat.lt_of_lt_of_le (Heap.lt_size e) (Nat.le_trans I.ok.bsz z)) (Nat.lt_irrefl _)
  exfs := fun b hb z => by
    rcases List.mem_cons.mp (I.stkSub b z) with e | e
    · exact (hf b hb).2.1 e
    · exact (hf b hb).2.2.1 e
  funs := I.stack
  frf := I.stkFree

/-- a state whose block's own names are let go -/
theorem Inv.but {pins : List (Addr × Obj)} {σ : St} {H : Hp} {s : Shared} {C : Addr} {h' : Heap} (I : Inv X pins σ H s) (hC : X.s₀.heap.objs.size ≤ C) (hH : H C = none) (hL : C ≠ X.env.locals) (hcl : ∀ x c, X.env.cells.lookup x = some c → c ≠ C) (hpn : ∀ p ∈ X.pn ++ pins, p.1 ≠ C) (sb : Heap.SameBut C s.heap h') :
    Inv X pins σ H { s with heap := h' } := by
  refine I.call' (s' := { s with heap := h' }) (ch := [C]) rfl ?_ (HOk.but I.hok hH fun b o hb e => sb.extBut b o hb e) I.bare (fun b hb => ?_)
  · have ne : ∀ {b : Addr}, b ∉ [C] → b ≠ C := fun {b} h z => h (by rw [z]; exact List.mem_cons_self)
    exact ⟨fun b o e _ _ hx => sb.extBut b o (ne hx) e, fun b o e _ _ hx => ⟨o.slots, sb.extBut b o (ne hx) e⟩, fun _ _ _ n _ => n, fun b o e hx => ⟨o, sb.extBut b o (ne hx) e⟩, fun _ _ q => q, fun _ _ _ q => q, fun _ ps q => ⟨#[], by rw [q]; simp⟩⟩
  · have e : b = C := by simpa using hb
    subst e
    exact ⟨.inr hC, hL, hcl, hpn⟩
/-- the block itself, with what is done with its list -/
theorem comp_core {use : Option (Value → Sem Unit)} {QQ : Value → Shared → Prop} {pins : List (Addr × Obj)} {s : Shared} {σ : St} {H : Hp} {Q : VK} {pos2 : Pos} (O : CompOk X scope NB n fr) (hc : X.calm = true) (hi : PI X tg iter wi)
    (hg : ∀ cl C fp s H, PG (cxB X NB scope cl C fp s H) tg g) (ht : ∀ cl C fp s H, PIfs (cxB X NB scope cl C fp s H) ifs tt) (he : ∀ cl C fp s H, PE (cxB X NB scope cl C fp s H) elt te)
    (hs : ∀ x, foldedSetIterable iter X.env x = pure x) (I : Inv X pins σ H s) (h : tComp n fr wi g tt te σ H Q)
    (fin0 : ∀ (D C : Addr) (H' : Hp) (s' : Shared) (m : Str → Option Value), s'.heap.Ns C m → Inv X pins σ H' s' → X.s₀.heap.objs.size ≤ C → H' C = none → C ≠ X.env.locals → (∀ x c, X.env.cells.lookup x = some c → c ≠ C) → (∀ p ∈ X.pn ++ pins, p.1 ≠ C) → Q (.ref D) H' →
      compPost (model X.prog X.w) X.A X.xe use QQ (.ref D) C (.ok .next) s') :
    wpAny (model X.prog X.w) X.A (comprehension (.ListComp elt [⟨tg, iter, ifs, 0⟩] scope pos) scope X.env pos2 (newList []) false (eval iter X.env) use) QQ X.xe s := by
  have hcl : closureFor scope X.env = pure (clo X.env.cells scope.names []) := clo_for fun p hp hk => I.ok.has p.1 (O.free p hp hk)
  refine wpAny_comprehension_free (use := use) rfl hs hcl O.kind O.names (thn (hi pins s σ H _ I h) fun v s1 h1 => thn h1 fun itv s2 h2 => ?_)
  obtain ⟨it, fp, tn, J, H2, e, I2, T, st2, f2, R⟩ := h2
  subst e
  have fpl : ∀ b ∈ fp, b < s2.heap.objs.size := fun b hb => by
    obtain ⟨o, ho, _⟩ := T.obj 0 _ st2 b hb
    exact Heap.lt_size ho
  refine wpAny_newObj_type (wpAny_newFunctionEnv O.nocell (fun y hy => absurd hy (by simp)) (fun h1 ns1 sb1 => ?_) O.kind)
  dsimp only at ns1 sb1 ⊢
  generalize hD2 : s2.heap.push { cls := .type "list", dict := none, data := .seq ([] : List Value).toArray } = hp2 at ns1 sb1 ⊢
  have zC : hp2.objs.size = s2.heap.objs.size + 1 := by rw [← hD2, Heap.size_push]
  have kept : ∀ b o, s2.heap.get? b = some o → h1.get? b = some o := fun b o q => by
    have lt := Heap.lt_size q
    refine sb1.extBut b o (by rw [zC]; exact Nat.ne_of_lt (Nat.lt_succ_of_lt lt)) (Heap.get?_push_of_some _ ?_)
    rw [← hD2]
    exact Heap.get?_push_of_some _ q
  have gD : h1.get? s2.heap.objs.size = some { cls := .type "list", data := .seq ([] : List Value).toArray 0 } := by
    refine sb1.extBut _ _ (by rw [zC]; exact Nat.ne_of_lt (Nat.lt_succ_self _)) (Heap.get?_push_of_some _ ?_)
    rw [← hD2]
    exact Heap.get?_push_size _ rfl
  generalize hD : s2.heap.objs.size = D at *
  have fD : H2 D = none := I2.hok.fresh (Nat.le_of_eq hD)
  have fC : H2 hp2.objs.size = none := I2.hok.fresh (by rw [hD, zC]; exact Nat.le_succ _)
  have nCD : hp2.objs.size ≠ D := by rw [zC]; exact Nat.succ_ne_self _
  have hCle : s2.heap.objs.size ≤ hp2.objs.size := by rw [hD, zC]; exact Nat.le_succ _
  have ok := blk_ok (C := hp2.objs.size) O I2 f2 (fun b hb => by rw [hD]; exact fpl b hb) hCle
  obtain ⟨W, ⟨m0, w0⟩, turn⟩ := R D fD
  generalize hY : cxB X NB scope (clo X.env.cells scope.names []) hp2.objs.size fp s2 H2 = Y at ok
  have eY : Y.env = compEnvC scope (clo X.env.cells scope.names []) hp2.objs.size X.env := by rw [← hY]; rfl
  have I0 : Inv Y [] (List.replicate n none ++ fr.map fun k => (σ[k]?).join) (upd H2 D (.lst [])) { s2 with heap := h1, toks := s2.toks + ([] : List (Str × Value)).length } := by
    subst hY
    refine ⟨ok, rfl, I2.bare, Un.laid kept (Nat.le_of_eq hD) fD, ⟨_, ns1, fun i x v e1 e2 e3 => ?_⟩, fun x c h => ?_, ?_, fun x c h => ?_, fun p hp => absurd (show p ∈ ([] : List (Addr × Obj)) from hp) (by simp), ?_, ?_⟩
    · have hin : n ≤ i := by
        refine Nat.le_of_not_lt fun z => ?_
        rw [List.getElem?_append_left (by simpa using z), List.getElem?_replicate] at e2
        split at e2 <;> cases e2
      obtain ⟨j, rfl⟩ := Nat.exists_eq_add_of_le hin
      rw [List.getElem?_append_right (by simp)] at e2
      simp only [List.length_replicate, Nat.add_sub_cancel_left, List.getElem?_map] at e2
      cases hk : fr[j]? with
      | none => rw [hk] at e2; cases e2
      | some k =>
        rw [hk] at e2
        obtain ⟨x', n1, n2, n3⟩ := O.own j k hk
        have e1' : NB[n + j]? = some x := e1
        rw [n1] at e1'
        cases e1'
        have e4 : (σ[k]?).join = some v := Option.some.inj e2
        have e5 : σ[k]? = some (some v) := by
          cases q : σ[k]? with
          | none => rw [q] at e4; cases e4
          | some z => rw [q] at e4; exact congrArg some e4
        have hm := mem_lookup n3
        have kd := O.free _ hm rfl
        obtain ⟨m, hn, hl⟩ := I2.loc
        obtain ⟨u, ru, lk⟩ := hl k x v n2 e5 (by rcases kd with z | z; exact .inr (.inl z); exact .inr (.inr z))
        refine ⟨u, ru, .inr ⟨?_, ?_⟩⟩
        · show (relabel scope X.env).names.lookup x = some .cell ∨ (relabel scope X.env).names.lookup x = some .free
          rcases @relab X.env x scope.names with r | r
          · exact .inr (Eq.trans r n3)
          · exact .inl r.2
        · rcases lk with ⟨z, _⟩ | ⟨_, c, hc1, hc2⟩
          · rcases kd with q | q <;> (rw [z] at q; cases q)
          · refine ⟨c, clo_new hc1 scope.names [] (.inl hm), ?_⟩
            obtain ⟨o, ho, hd⟩ := hc2
            exact ⟨o, kept c o ho, hd⟩
    · have e1 := (clo_old scope.names [] (show (clo X.env.cells scope.names []).lookup x = some c from h)).resolve_right (by intro z; cases z)
      obtain ⟨v, o, ho, hd⟩ := I2.cell x c e1
      exact ⟨v, o, kept c o ho, hd⟩
    · show upd H2 D (.lst []) hp2.objs.size = none
      rw [upd_ne nCD]; exact fC
    · have e1 := (clo_old scope.names [] (show (clo X.env.cells scope.names []).lookup x = some c from h)).resolve_right (by intro z; cases z)
      obtain ⟨v, o, ho, hd⟩ := I2.cell x c e1
      rw [upd_ne (by rw [← hD]; exact Nat.ne_of_lt (Heap.lt_size ho))]
      exact I2.freeC x c e1
    · exact I2.hok.laid kept (Nat.le_of_eq hD) ⟨by simp, [], 0, .nil, gD⟩
    · show _ = NB.length
      rw [O.len]; simp
  have fY : ∀ {H' : Hp}, (∀ b ∈ fp, H' b = none) → ∀ b ∈ fp, FpOk Y [] H' b := fun {H'} hn b hb => by
    subst hY
    refine ⟨hn b hb, (ok.exf b hb).1, ok.exfs b hb, .inl hb, fun x c z => (ok.exf b hb).2 x c z, fun p hp => absurd (show p ∈ ([] : List (Addr × Obj)) from hp) (by simp)⟩
  have pY : Y.prog = X.prog ∧ Y.w = X.w ∧ Y.K = X.K ∧ Y.A = X.A ∧ Y.calm = true ∧ Y.xe = fun _ _ => False := by subst hY; exact ⟨rfl, rfl, rfl, rfl, hc, rfl⟩
  obtain ⟨p1, p2, p3, p4, p5, p6⟩ := pY
  have fin : ∀ {σ' : St} {H' : Hp} {s' : Shared}, Inv Y [] σ' H' s' → Q (.ref D) H' → compPost (model X.prog X.w) X.A X.xe use QQ (.ref D) hp2.objs.size (.ok .next) s' := fun {σ' H' s'} J' q => by
    subst hY
    obtain ⟨m, hn, _⟩ := J'.loc
    have fr' : H' hp2.objs.size = none := J'.free
    have neC : ∀ b o, s2.heap.get? b = some o → b ≠ hp2.objs.size := fun b o e => Nat.ne_of_lt (Nat.lt_of_lt_of_le (Heap.lt_size e) hCle)
    have J : Inv X pins σ H' s' := I2.call' (s' := s') J'.os J'.base J'.hok J'.bare fun b hb => by
      obtain ⟨_, a2, _, a4, a5, a6⟩ := f2 b hb
      exact ⟨a4, a2, a5, a6⟩
    refine fin0 D _ H' s' m hn J (Nat.le_trans I2.sz hCle) fr' (Ne.symm (Nat.ne_of_lt (Nat.lt_of_lt_of_le I2.lt hCle))) (fun x c e => ?_) (fun p hp => ?_) q
    · obtain ⟨v, o, ho, _⟩ := I2.cell x c e
      exact neC c o ho
    · exact neC _ _ (I2.pin p hp).1
  have st0 : tn 0 h1 := T.keep 0 _ _ st2 fun b hb o q => kept b o q
  have fp0 : ∀ b ∈ fp, upd H2 D (.lst []) b = none := fun b hb => by
    rw [upd_ne (Nat.ne_of_lt (fpl b hb))]; exact (f2 b hb).1
  have loop : ∀ s3 : Shared, s3 = { s2 with heap := h1, toks := s2.toks + ([] : List (Str × Value)).length } →
      codeAny (model X.prog X.w) X.A (.compLoop (.ListComp elt [⟨tg, iter, ifs, 0⟩] scope pos) 0 (.ref it) (.ref D) (compEnvC scope (clo X.env.cells scope.names []) hp2.objs.size X.env))
        (compPost (model X.prog X.w) X.A X.xe use QQ (.ref D) hp2.objs.size) s3 := by
    rintro s3 rfl
    refine comp_loop (fun k s' => ∃ i ys σ' H', Inv Y [] σ' H' s' ∧ tn i s'.heap ∧ (∀ b ∈ fp, H' b = none) ∧ H' D = some (.lst ys) ∧ W i k ys σ' H') ?_ m0 ⟨0, [], _, _, I0, st0, fp0, upd_same, w0⟩
    rintro k s4 ⟨i, ys, σ4, H4, I4, t4, fr4, d4, w4⟩
    have hgY : PG Y tg g := by subst hY; exact hg _ _ _ _ _
    have htY : PIfs Y ifs tt := by subst hY; exact ht _ _ _ _ _
    have heY : PE Y elt te := by subst hY; exact he _ _ _ _ _
    rcases turn i k ys σ4 H4 w4 d4 with ⟨stop, q⟩ | ⟨go, hlen, step⟩
    · have z := T.done Y p1 p2 p3 p5 i [] s4 σ4 H4 (fun _ _ => False) I4 (fY fr4) t4 stop
      rw [p4] at z
      exact thn z fun r s5 ⟨hr, I5⟩ => .inl ⟨hr, fin I5 q⟩
    · have z := T.item Y p1 p2 p3 p5 i [] s4 σ4 H4 (fun _ _ => False) I4 (fY fr4) t4 go
      rw [p4] at z
      refine thn z fun r s5 ⟨u, hr, h5⟩ => .inr ⟨u, hr, thn h5 fun _ s6 ⟨x, H6, I6, r6, y6, t6, fr6⟩ => ?_⟩
      have I6' := I6.pinned (fY fr6) (T.obj _ _ t6)
      have back : ∀ {σ7 : St} {H7 : Hp} {s7 : Shared}, Inv Y ([] ++ pinsAt fp s6.heap) σ7 H7 s7 → Inv Y [] σ7 H7 s7 ∧ tn (i + 1) s7.heap ∧ ∀ b ∈ fp, H7 b = none := fun {σ7 H7 s7} I7 => by
        refine ⟨I7.unpinned, T.keep _ _ _ t6 fun b hb o e => (I7.pin (b, o) (List.mem_append_right _ (List.mem_append_right _ (mem_pinsAt hb e)))).1, fun b hb => ?_⟩
        obtain ⟨o, e, _⟩ := T.obj _ _ t6 b hb
        exact (I7.pin (b, o) (List.mem_append_right _ (List.mem_append_right _ (mem_pinsAt hb e)))).2.1
      have a7 := hgY _ s6 σ4 H6 x u _ I6' r6 (step x H6 y6)
      rw [p1, p2, p4, p6, eY] at a7
      refine thn a7 fun _ s7 ⟨σ7, H7, I7, q7⟩ => ?_
      have a8 := htY _ s7 σ7 H7 _ I7 q7
      rw [p1, p2, p4, p6, eY] at a8
      refine thn a8 fun b s8 ⟨H8, I8, q8⟩ => ?_
      cases b with
      | false =>
        obtain ⟨d8, m', hm, w8⟩ := q8
        rw [if_neg Bool.false_ne_true]
        obtain ⟨b1, b2, b3⟩ := back I8
        exact ⟨m', hm, i + 1, ys, σ7, H8, b1, b2, b3, d8, w8⟩
      | true =>
        rw [if_pos rfl]
        have a9 := heY _ s8 σ7 H8 _ I8 q8
        rw [p1, p2, p4, p6, eY] at a9
        refine thn a9 fun uv s9 ⟨v, H9, I9, r9, d9, m', hm, w9⟩ => ?_
        have a10 := mt_append (X := Y) _ s9 σ7 H9 (.ref D) [v] (.ref D) [uv] (fun x H' => H' = upd H9 D (.lst (ys ++ [v]))) I9 rfl (.cons r9 .nil) ⟨D, ys, v, rfl, rfl, d9, hlen, rfl⟩
        rw [p1, p2, p4, p6] at a10
        refine thn a10 fun _ s10 ⟨_, H10, I10, _, e10⟩ => ?_
        subst e10
        obtain ⟨b1, b2, b3⟩ := back I10
        exact ⟨m', hm, i + 1, _, σ7, _, b1, b2, b3, upd_same, w9⟩
  refine codeAny_compStart_list (loop _ rfl) ?_
  exact T.self _ 0 _ _ _ st0 (loop _ rfl)
theorem pe_comp (O : CompOk X scope NB n fr) (hc : X.calm = true) (hi : PI X tg iter wi)
    (hg : ∀ cl C fp s H, PG (cxB X NB scope cl C fp s H) tg g) (ht : ∀ cl C fp s H, PIfs (cxB X NB scope cl C fp s H) ifs tt) (he : ∀ cl C fp s H, PE (cxB X NB scope cl C fp s H) elt te)
    (hs : ∀ x, foldedSetIterable iter X.env x = pure x := by intro _; rfl) : PE X (.ListComp elt [⟨tg, iter, ifs, 0⟩] scope pos) (tComp n fr wi g tt te) := by
  intro pins s σ H Q I h
  rw [eval_ListComp]
  exact comp_core (QQ := EP X pins σ Q) O hc hi hg ht he hs I h fun D C H' s' m hn J h1 h2 h3 h4 h5 q => ⟨m, hn, fun h' sb => ⟨.ref D, H', J.but h1 h2 h3 h4 h5 sb, rfl, q⟩⟩
end
end L2
set_option Elab.async false
set_option linter.all false
set_option maxRecDepth 100000
set_option maxHeartbeats 4000000
namespace L2
open PySem PySem.Spec PyProof.Rows

/-! ### an iterator over a list (false) or a tuple (true), at place k -/
def Src (t : Bool) (h : Heap) (it l : Addr) (xs : Array Value) (k : Nat) : Prop := match t with
  | true => h.IsTupleIter it l k ∧ h.IsTuple l xs
  | false => h.IsListIter it l k ∧ h.IsList l xs
theorem Src.keep {t : Bool} {h h' : Heap} {it l : Addr} {xs : Array Value} {k : Nat} (x : Src t h it l xs k) (a : ∀ o, h.get? it = some o → h'.get? it = some o) (b : ∀ o, h.get? l = some o → h'.get? l = some o) : Src t h' it l xs k := by
  cases t with
  | true => obtain ⟨⟨o, h1, r1⟩, ⟨o2, h2, r2⟩⟩ := x; exact ⟨⟨o, a o h1, r1⟩, ⟨o2, b o2 h2, r2⟩⟩
  | false => obtain ⟨⟨o, h1, r1⟩, ⟨o2, h2, r2⟩⟩ := x; exact ⟨⟨o, a o h1, r1⟩, ⟨o2, b o2 h2, r2⟩⟩

section
variable {prog : Program} {w : World} {A : Around} {E : Value → Shared → Prop} {st : Shared}
theorem draw_tup {it l : Addr} {i : Nat} {its : Array Value} {x : Value} {Q : Value → Shared → Prop} (hit : st.heap.IsTupleIter it l i) (hl : st.heap.IsTuple l its) (hx : its[i]? = some x)
    (hQ : ∀ h', h'.IsTupleIter it l (i + 1) → Heap.SameBut it st.heap h' → Q x { st with heap := h' }) : wpAny (model prog w) A (Builtin.SmallTypes.nextOf (.ref it)) Q E st := by
  obtain ⟨o, ho, hc, hd⟩ := id hit
  obtain ⟨o2, ho2, _, n2, hd2⟩ := hl
  unfold Builtin.SmallTypes.nextOf
  refine wpAny_bind (wpAny_callSpecial?_slot (name := Str.ofString "__next__") hit.typeIs F.slot_tuple_iterator_next (wpAny_call_entry F.slot_tuple_iterator_next hit.typeIs F.entry_tuple_iterator_next ?_ (F.args_tuple_iterator_next_1 _)))
  show wpAny _ A.in1 (field (.ref it) 0 >>= _) _ _ st
  refine wpAny_bind (wpAny_field ho hd (x := .ref l) rfl ?_)
  show wpAny _ A.in1 (if (Value.ref l == Value.none) = true then _ else _) _ _ st
  rw [if_neg (fun z : (Value.ref l == Value.none) = true => Bool.false_ne_true z)]
  show wpAny _ A.in1 (field (.ref it) 1 >>= _) _ _ st
  refine wpAny_bind (wpAny_field (x := .int i 0) ho hd rfl ?_)
  show wpAny _ A.in1 (seqItems? (.ref l) >>= _) _ _ st
  refine wpAny_bind (wpAny_seqItems ho2 hd2 ?_)
  simp only [Int.toNat_natCast, hx]
  refine wpAny_bind (wpAny_setField ho hd (by simp) (wpAny_pure ⟨x, rfl, wpAny_pure (hQ _ ⟨_, Heap.get?_update_self _ ho (Obj.isFreed_of_fields (Obj.data_mapFields hd _)), (Obj.cls_mapFields ..).trans hc, ?_⟩ (Heap.SameBut.update ..))⟩))
  rw [Obj.data_mapFields hd]; simp [rawInt]
theorem draw_tup_end {it l : Addr} {i : Nat} {its : Array Value} {Q : Value → Shared → Prop} (hh : A.handled = none) (hit : st.heap.IsTupleIter it l i) (hl : st.heap.IsTuple l its) (hx : its[i]? = none)
    (hE : ∀ h' e, Heap.ExtBut it st.heap h' → (∃ o, h'.get? e = some o ∧ o.cls = .type "StopIteration") → E (.ref e) { st with heap := h' }) : wpAny (model prog w) A (Builtin.SmallTypes.nextOf (.ref it)) Q E st := by
  obtain ⟨o, ho, hc, hd⟩ := id hit
  obtain ⟨o2, ho2, _, n2, hd2⟩ := hl
  unfold Builtin.SmallTypes.nextOf
  refine wpAny_bind (wpAny_callSpecial?_slot (name := Str.ofString "__next__") hit.typeIs F.slot_tuple_iterator_next (wpAny_call_entry F.slot_tuple_iterator_next hit.typeIs F.entry_tuple_iterator_next ?_ (F.args_tuple_iterator_next_1 _)))
  show wpAny _ A.in1 (field (.ref it) 0 >>= _) _ _ st
  refine wpAny_bind (wpAny_field ho hd (x := .ref l) rfl ?_)
  show wpAny _ A.in1 (if (Value.ref l == Value.none) = true then _ else _) _ _ st
  rw [if_neg (fun z : (Value.ref l == Value.none) = true => Bool.false_ne_true z)]
  show wpAny _ A.in1 (field (.ref it) 1 >>= _) _ _ st
  refine wpAny_bind (wpAny_field (x := .int i 0) ho hd rfl ?_)
  show wpAny _ A.in1 (seqItems? (.ref l) >>= _) _ _ st
  refine wpAny_bind (wpAny_seqItems ho2 hd2 ?_)
  simp only [Int.toNat_natCast, hx]
  refine wpAny_bind (wpAny_rule (wpAny_bind (wpAny_setField ho hd (by simp) (wpAny_bind ?_))))
  show wpAny _ A.in1 (newExc (.type "StopIteration") []) _ _ _
  simp only [newTuple, newExc]
  refine wpAny_bind (wpAny_newObj_type (wpAny_bind (m := firstArgMember _ _) (wpAny_of_eq (a := Value.none) (by first | rfl | (simp only [firstArgMember]; rfl)) (wpAny_newObj_type ?_ (by size_fits)))) (by size_fits))
  simp only [raiseNew]
  refine wpAny_bind (wpAny_handled ?_)
  first | rw [hh] | rw [show A.in1.handled = none from hh]
  exact wpAny_bind (wpAny_pure (wpAny_throw (hE _ _ (((Heap.SameBut.update ..).extBut.push _).push _) ⟨_, Heap.get?_push_size _ rfl, rfl⟩)))

theorem Src.draw {t : Bool} {it l : Addr} {i : Nat} {its : Array Value} {x : Value} {Q : Value → Shared → Prop} (S : Src t st.heap it l its i) (hne : l ≠ it) (hx : its[i]? = some x)
    (hQ : ∀ h', Src t h' it l its (i + 1) → Heap.SameBut it st.heap h' → Q x { st with heap := h' }) : wpAny (model prog w) A (Builtin.SmallTypes.nextOf (.ref it)) Q E st := by
  cases t with
  | true => exact draw_tup S.1 S.2 hx fun h' a b => hQ h' ⟨a, S.2.extBut b.extBut hne⟩ b
  | false => exact wpAny_nextOf_list_item S.1 S.2 hx fun h' a b => hQ h' ⟨a, S.2.extBut b.extBut hne⟩ b
theorem Src.none {t : Bool} {it l : Addr} {i : Nat} {its : Array Value} {Q : Value → Shared → Prop} (hh : A.handled = none) (S : Src t st.heap it l its i) (hx : its[i]? = none)
    (hE : ∀ h' e, Heap.ExtBut it st.heap h' → (∃ o, h'.get? e = some o ∧ o.cls = .type "StopIteration") → E (.ref e) { st with heap := h' }) : wpAny (model prog w) A (Builtin.SmallTypes.nextOf (.ref it)) Q E st := by
  cases t with
  | true => exact draw_tup_end hh S.1 S.2 hx hE
  | false => exact wpAny_nextOf_list_end hh S.1 S.2 hx hE

/-- the five own records of a zip stand apart, and from what it walks -/
structure Apart (z TI TO i1 i2 l1 l2 : Addr) : Prop where
  a : TI ≠ z ∧ TO ≠ z ∧ i1 ≠ z ∧ i2 ≠ z
  b : TI ≠ TO ∧ TI ≠ i1 ∧ TI ≠ i2 ∧ TO ≠ i1 ∧ TO ≠ i2 ∧ i1 ≠ i2
  c : l1 ≠ z ∧ l1 ≠ TO ∧ l1 ≠ i1 ∧ l1 ≠ i2
  d : l2 ≠ z ∧ l2 ≠ TO ∧ l2 ≠ i1 ∧ l2 ≠ i2

theorem zip_item {z TI TO i1 i2 l1 l2 : Addr} {t1 t2 : Bool} {k : Nat} {xs ys : Array Value} {x y a b : Value} {Q : Value → Shared → Prop} (D : Apart z TI TO i1 i2 l1 l2)
    (hz : IsZip st.heap z TI TO .none) (hTI : IsPair st.heap TI (.ref i1) (.ref i2)) (hTO : IsPair st.heap TO a b)
    (h1 : Src t1 st.heap i1 l1 xs k) (h2 : Src t2 st.heap i2 l2 ys k) (hx : xs[k]? = some x) (hy : ys[k]? = some y)
    (hQ : ∀ h', IsZip h' z TI TO (rawInt st.heap.objs.size) → IsPair h' TO x y → Src t1 h' i1 l1 xs (k + 1) → Src t2 h' i2 l2 ys (k + 1) → IsPair h' st.heap.objs.size x y →
      (∀ c o, c ≠ z → c ≠ TO → c ≠ i1 → c ≠ i2 → st.heap.get? c = some o → h'.get? c = some o) → Q (.ref st.heap.objs.size) { st with heap := h' }) :
    wpAny (model prog w) A (Builtin.«zip.__next__» ⟨[.ref z], []⟩) (fun fin s' => ∃ v, fin = .done (.ret v) ∧ Q v s') E st := by
  obtain ⟨⟨d1, d2, d3, d4⟩, ⟨d5, d6, d7, d8, d9, d10⟩, ⟨d11, d12, d13, d14⟩, ⟨d15, d16, d17, d18⟩⟩ := D
  show wpAny _ A (field (.ref z) 2 >>= _) _ _ st
  refine wpAny_bind (wpAny_field (x := .bool false) hz rfl rfl ?_)
  show wpAny _ A (field (.ref z) 3 >>= _) _ _ st
  refine wpAny_bind (wpAny_field (x := .ref TI) hz rfl rfl (wpAny_bind (wpAny_seqItems hTI rfl ?_)))
  show wpAny _ A (Builtin.SmallTypes.ownedTupleIsFree (.ref z) >>= _) _ _ st
  refine wpAny_bind ?_
  unfold Builtin.SmallTypes.ownedTupleIsFree
  refine wpAny_bind (wpAny_field (x := .none) hz rfl rfl (wpAny_pure ?_))
  simp only [if_true]
  refine wpAny_bind (wpAny_rule (wpAny_bind (wpAny_field (x := .ref TO) hz rfl rfl (wpAny_bind (wpAny_setField_rec hz (by simp) fun g1 z1 b1 => ?_)))))
  replace z1 : IsZip g1 z TI TO .ellipsis := z1
  refine wpAny_bind ?_
  simp only [List.zipIdx_nil, List.zipIdx_cons, List.forIn_nil, List.forIn_cons]
  refine wpAny_bind (wpAny_bind (wpAny_onRaise ?_))
  show wpAny _ A (Builtin.SmallTypes.nextOf (.ref i1) >>= _) _ _ _
  have s1 : Src t1 g1 i1 l1 xs k := h1.keep (fun o e => b1.extBut _ o d3 e) (fun o e => b1.extBut _ o d11 e)
  refine wpAny_bind (Src.draw (st := { st with heap := g1 }) s1 d13 hx fun g2 s2 b2 => wpAny_pure ?_)
  have p2 : IsPair g2 TO a b := b2.extBut _ _ d8 (b1.extBut _ _ d2 hTO)
  refine wpAny_bind (wpAny_seqItems p2 rfl (wpAny_bind (wpAny_updateSeq_pair p2 fun g3 p3 b3 => ?_)))
  replace p3 : IsPair g3 TO x b := p3
  refine wpAny_bind (wpAny_letGo (wpAny_pure ?_))
  refine wpAny_bind (wpAny_bind (wpAny_onRaise ?_))
  show wpAny _ A (Builtin.SmallTypes.nextOf (.ref i2) >>= _) _ _ _
  have s3 : Src t2 g3 i2 l2 ys k := h2.keep (fun o e => b3.extBut _ o d9.symm (b2.extBut _ o d10.symm (b1.extBut _ o d4 e))) (fun o e => b3.extBut _ o d16 (b2.extBut _ o d17 (b1.extBut _ o d15 e)))
  refine wpAny_bind (Src.draw (st := { st with heap := g3 }) s3 d18 hy fun g4 s4 b4 => wpAny_pure ?_)
  have p4 : IsPair g4 TO x b := b4.extBut _ _ d9 p3
  refine wpAny_bind (wpAny_seqItems p4 rfl (wpAny_bind (wpAny_updateSeq_pair p4 fun g5 p5 b5 => ?_)))
  replace p5 : IsPair g5 TO x y := p5
  refine wpAny_bind (wpAny_letGo (wpAny_pure (wpAny_pure ?_)))
  refine wpAny_bind (wpAny_seqItems p5 rfl (wpAny_bind (wpAny_newTuple ?_)))
  have sz : g5.objs.size = st.heap.objs.size := by rw [b5.1, b4.1, b3.1, b2.1, b1.1]
  have z5 : IsZip g5 z TI TO .ellipsis := b5.extBut _ _ d2.symm (b4.extBut _ _ d4.symm (b3.extBut _ _ d2.symm (b2.extBut _ _ d3.symm z1)))
  have kp : ∀ c o, c ≠ z → c ≠ TO → c ≠ i1 → c ≠ i2 → st.heap.get? c = some o → g5.get? c = some o := fun c o c1 c2 c3 c4 e => b5.extBut _ _ c2 (b4.extBut _ _ c4 (b3.extBut _ _ c2 (b2.extBut _ _ c3 (b1.extBut _ _ c1 e))))
  have s5 : Src t1 g5 i1 l1 xs (k + 1) := s2.keep (fun o e => b5.extBut _ o d8.symm (b4.extBut _ o d10 (b3.extBut _ o d8.symm e))) (fun o e => b5.extBut _ o d12 (b4.extBut _ o d14 (b3.extBut _ o d12 e)))
  have r5 : Src t2 g5 i2 l2 ys (k + 1) := s4.keep (fun o e => b5.extBut _ o d9.symm e) (fun o e => b5.extBut _ o d16 e)
  have zlt : z < g5.objs.size := Heap.lt_size z5
  show wpAny _ A (Builtin.SmallTypes.ownedTupleHandOut (.ref z) (.ref g5.objs.size) >>= _) _ _ _
  refine wpAny_bind ?_
  unfold Builtin.SmallTypes.ownedTupleHandOut
  have z6 : IsZip (g5.push { cls := .type "tuple", data := .seq #[x, y] }) z TI TO .ellipsis := Heap.get?_push_of_some _ z5
  refine wpAny_bind (wpAny_setField_rec z6 (by simp) fun g7 z7 b7 => ?_)
  replace z7 : IsZip g7 z TI TO (rawInt g5.objs.size) := z7
  refine wpAny_setField_rec z7 (by simp) fun g8 z8 b8 => ?_
  replace z8 : IsZip g8 z TI TO (rawInt g5.objs.size) := z8
  have up : ∀ c o, c ≠ z → g5.get? c = some o → g8.get? c = some o := fun c o c1 e => b8.extBut _ _ c1 (b7.extBut _ _ c1 (Heap.get?_push_of_some _ e))
  have t8 : IsPair g8 g5.objs.size x y := b8.extBut _ _ (Nat.ne_of_gt zlt) (b7.extBut _ _ (Nat.ne_of_gt zlt) (Heap.get?_push_size _ rfl))
  rw [sz] at z8 t8
  refine wpAny_pure ⟨_, rfl, ?_⟩
  show Q (.ref g5.objs.size) _
  rw [sz]
  exact hQ g8 z8 (up _ _ d2 p5) (s5.keep (fun o e => up _ o d3 e) fun o e => up _ o d11 e) (r5.keep (fun o e => up _ o d4 e) fun o e => up _ o d15 e) t8 fun c o c1 c2 c3 c4 e => up c o c1 (kp c o c1 c2 c3 c4 e)

theorem zip_end {z TI TO i1 i2 l1 l2 : Addr} {t1 t2 : Bool} {k : Nat} {xs ys : Array Value} {a b : Value} {Q : Fin → Shared → Prop} (hh : A.handled = none) (D : Apart z TI TO i1 i2 l1 l2)
    (hz : IsZip st.heap z TI TO .none) (hTI : IsPair st.heap TI (.ref i1) (.ref i2)) (hTO : IsPair st.heap TO a b)
    (h1 : Src t1 st.heap i1 l1 xs k) (h2 : Src t2 st.heap i2 l2 ys k) (hend : xs[k]? = none ∨ ys[k]? = none)
    (hE : ∀ h' e, (∀ c o, c ≠ z → c ≠ TO → c ≠ i1 → c ≠ i2 → st.heap.get? c = some o → h'.get? c = some o) → (∃ o, h'.get? e = some o ∧ o.cls = .type "StopIteration") → E (.ref e) { st with heap := h' }) :
    wpAny (model prog w) A (Builtin.«zip.__next__» ⟨[.ref z], []⟩) Q E st := by
  obtain ⟨⟨d1, d2, d3, d4⟩, ⟨d5, d6, d7, d8, d9, d10⟩, ⟨d11, d12, d13, d14⟩, ⟨d15, d16, d17, d18⟩⟩ := D
  show wpAny _ A (field (.ref z) 2 >>= _) _ _ st
  refine wpAny_bind (wpAny_field (x := .bool false) hz rfl rfl ?_)
  show wpAny _ A (field (.ref z) 3 >>= _) _ _ st
  refine wpAny_bind (wpAny_field (x := .ref TI) hz rfl rfl (wpAny_bind (wpAny_seqItems hTI rfl ?_)))
  show wpAny _ A (Builtin.SmallTypes.ownedTupleIsFree (.ref z) >>= _) _ _ st
  refine wpAny_bind ?_
  unfold Builtin.SmallTypes.ownedTupleIsFree
  refine wpAny_bind (wpAny_field (x := .none) hz rfl rfl (wpAny_pure ?_))
  simp only [if_true]
  refine wpAny_bind (wpAny_rule (wpAny_bind (wpAny_field (x := .ref TO) hz rfl rfl (wpAny_bind (wpAny_setField_rec hz (by simp) fun g1 z1 b1 => ?_)))))
  replace z1 : IsZip g1 z TI TO .ellipsis := z1
  refine wpAny_bind ?_
  simp only [List.zipIdx_nil, List.zipIdx_cons, List.forIn_nil, List.forIn_cons]
  refine wpAny_bind (wpAny_bind (wpAny_onRaise ?_))
  show wpAny _ A (Builtin.SmallTypes.nextOf (.ref i1) >>= _) _ _ _
  have s1 : Src t1 g1 i1 l1 xs k := h1.keep (fun o e => b1.extBut _ o d3 e) (fun o e => b1.extBut _ o d11 e)
  cases hx : xs[k]? with
  | none =>
    refine wpAny_bind (Src.none (st := { st with heap := g1 }) hh s1 hx fun g2 e b2 he => ?_)
    obtain ⟨oe, hoe, hce⟩ := he
    have z2 : IsZip g2 z TI TO .ellipsis := b2 _ _ d3.symm z1
    have ez : e ≠ z := fun q => by subst q; rw [z2] at hoe; cases hoe; simp at hce
    refine wpAny_setField_rec z2 (by simp) fun g3 _ b3 => hE g3 e (fun c o c1 _ c3 _ q => b3.extBut _ _ c1 (b2 _ _ c3 (b1.extBut _ _ c1 q))) ⟨oe, b3.extBut _ _ ez hoe, hce⟩
  | some x =>
    have hy : ys[k]? = none := by rcases hend with h | h; rw [hx] at h; cases h; exact h
    refine wpAny_bind (Src.draw (st := { st with heap := g1 }) s1 d13 hx fun g2 s2 b2 => wpAny_pure ?_)
    have p2 : IsPair g2 TO a b := b2.extBut _ _ d8 (b1.extBut _ _ d2 hTO)
    refine wpAny_bind (wpAny_seqItems p2 rfl (wpAny_bind (wpAny_updateSeq_pair p2 fun g3 p3 b3 => ?_)))
    refine wpAny_bind (wpAny_letGo (wpAny_pure ?_))
    refine wpAny_bind (wpAny_bind (wpAny_onRaise ?_))
    show wpAny _ A (Builtin.SmallTypes.nextOf (.ref i2) >>= _) _ _ _
    have s3 : Src t2 g3 i2 l2 ys k := h2.keep (fun o e => b3.extBut _ o d9.symm (b2.extBut _ o d10.symm (b1.extBut _ o d4 e))) (fun o e => b3.extBut _ o d16 (b2.extBut _ o d17 (b1.extBut _ o d15 e)))
    refine wpAny_bind (Src.none (st := { st with heap := g3 }) hh s3 hy fun g4 e b4 he => ?_)
    obtain ⟨oe, hoe, hce⟩ := he
    have z4 : IsZip g4 z TI TO .ellipsis := b4 _ _ d4.symm (b3.extBut _ _ d2.symm (b2.extBut _ _ d3.symm z1))
    have ez : e ≠ z := fun q => by subst q; rw [z4] at hoe; cases hoe; simp at hce
    refine wpAny_setField_rec z4 (by simp) fun g5 _ b5 => hE g5 e (fun c o c1 c2 c3 c4 q => b5.extBut _ _ c1 (b4 _ _ c4 (b3.extBut _ _ c2 (b2.extBut _ _ c3 (b1.extBut _ _ c1 q))))) ⟨oe, b5.extBut _ _ ez hoe, hce⟩

end
section
def SqK (t : Bool) (h : Heap) (l : Addr) (xs : Array Value) : Prop := match t with
  | true => h.IsTuple l xs
  | false => h.IsList l xs
def itObj (t : Bool) (l : Addr) : Obj := { cls := .type (if t then "tuple_iterator" else "list_iterator"), data := .fields #[.ref l, .int 0 0] }
theorem SqK.push {t : Bool} {h : Heap} {l : Addr} {xs : Array Value} (x : SqK t h l xs) (o : Obj) : SqK t (h.push o) l xs := by
  cases t with
  | true => exact Heap.IsTuple.push x o
  | false => exact Heap.IsList.push x o
theorem Src.new {t : Bool} {h : Heap} {it l : Addr} {xs : Array Value} (e : h.get? it = some (itObj t l)) (q : SqK t h l xs) : Src t h it l xs 0 := by
  cases t with
  | true => exact ⟨⟨_, e, rfl, rfl⟩, q⟩
  | false => exact ⟨⟨_, e, rfl, rfl⟩, q⟩
variable {prog : Program} {w : World} {A : Around} {E : Value → Shared → Prop} {st : Shared}
theorem iter_sq {t : Bool} {l : Addr} {its : Array Value} {Q : Value → Shared → Prop} (hl : SqK t st.heap l its) (hQ : Q (.ref st.heap.objs.size) { st with heap := st.heap.push (itObj t l) }) : wpAny (model prog w) A (pyIter (.ref l)) Q E st := by
  cases t with
  | true => exact wpAny_pyIter_tuple hl hQ
  | false => exact wpAny_pyIter_list hl hQ
abbrev zp1 (h : Heap) (t1 : Bool) (l1 : Addr) : Heap := h.push (itObj t1 l1)
abbrev zp2 (h : Heap) (t1 t2 : Bool) (l1 l2 : Addr) : Heap := (zp1 h t1 l1).push (itObj t2 l2)
abbrev zp3 (h : Heap) (t1 t2 : Bool) (l1 l2 : Addr) : Heap := (zp2 h t1 t2 l1 l2).push { cls := .type "tuple", data := .seq #[.ref h.objs.size, .ref (zp1 h t1 l1).objs.size] }
abbrev zp4 (h : Heap) (t1 t2 : Bool) (l1 l2 : Addr) : Heap := (zp3 h t1 t2 l1 l2).push { cls := .type "tuple", data := .seq #[.none, .none] }
abbrev zp5 (h : Heap) (t1 t2 : Bool) (l1 l2 : Addr) : Heap := (zp4 h t1 t2 l1 l2).push { cls := .type "zip", data := .fields #[.none, .bool false, .bool false, .ref (zp2 h t1 t2 l1 l2).objs.size, .ref (zp3 h t1 t2 l1 l2).objs.size] }
theorem meets_zipK (t1 t2 : Bool) (l1 l2 : Addr) (xs ys : Array Value) :
    Meets (Builtin.«zip.__new__» ⟨[.type "zip", .ref l1, .ref l2], []⟩) (fun _ R s => SqK t1 s.heap l1 xs ∧ SqK t2 s.heap l2 ys ∧ R (.ok (.ret (.ref (zp4 s.heap t1 t2 l1 l2).objs.size))) { s with heap := zp5 s.heap t1 t2 l1 l2 }) :=
  .of_wp fun prog w A R s h => by
    obtain ⟨hp, g, d, tk, os⟩ := s
    obtain ⟨q1, q2, h⟩ := h
    have hsub := sub_zip
    have r1 : SqK t1 (Shared.heap ⟨hp, g, d, tk, os⟩) l1 xs := q1
    have r2 : SqK t2 (Shared.heap ⟨hp.push (itObj t1 l1), g, d, tk, os⟩) l2 ys := q2.push _
    wp_walk using iter_sq r1, iter_sq r2
    exact ⟨_, rfl, h⟩
theorem call_zipK {t1 t2 : Bool} {l1 l2 : Addr} {xs ys : Array Value} {Q : Value → Shared → Prop} (q1 : SqK t1 st.heap l1 xs) (q2 : SqK t2 st.heap l2 ys)
    (h : ∀ h', IsZip h' (st.heap.objs.size + 4) (st.heap.objs.size + 2) (st.heap.objs.size + 3) .none → IsPair h' (st.heap.objs.size + 2) (.ref st.heap.objs.size) (.ref (st.heap.objs.size + 1)) →
      IsPair h' (st.heap.objs.size + 3) .none .none → Src t1 h' st.heap.objs.size l1 xs 0 → Src t2 h' (st.heap.objs.size + 1) l2 ys 0 →
      (∀ c o, st.heap.get? c = some o → h'.get? c = some o) → Q (.ref (st.heap.objs.size + 4)) { st with heap := h' }) :
    wpAny (model prog w) A (call (.type "zip") [.ref l1, .ref l2]) Q E st := by
  refine callType_new F.called_zip (by decide) (F.typeCall_zip_2 _ _) (F.newCall_zip_2 _ _) (fun obj => F.args_object_init_3 obj _ _) F.entry_zip_new (meets_zipK t1 t2 l1 l2 xs ys) ⟨q1, q2, ?_⟩
  have n1 : (zp1 st.heap t1 l1).objs.size = st.heap.objs.size + 1 := Heap.size_push ..
  have n2 : (zp2 st.heap t1 t2 l1 l2).objs.size = st.heap.objs.size + 2 := by rw [Heap.size_push, n1]
  have n3 : (zp3 st.heap t1 t2 l1 l2).objs.size = st.heap.objs.size + 3 := by rw [Heap.size_push, n2]
  have n4 : (zp4 st.heap t1 t2 l1 l2).objs.size = st.heap.objs.size + 4 := by rw [Heap.size_push, n3]
  have g5 : (zp5 st.heap t1 t2 l1 l2).get? (zp4 st.heap t1 t2 l1 l2).objs.size = some _ := Heap.get?_push_size _ rfl
  have g4 : (zp5 st.heap t1 t2 l1 l2).get? (zp3 st.heap t1 t2 l1 l2).objs.size = some _ := Heap.get?_push_of_some _ (Heap.get?_push_size _ rfl)
  have g3 : (zp5 st.heap t1 t2 l1 l2).get? (zp2 st.heap t1 t2 l1 l2).objs.size = some _ := Heap.get?_push_of_some _ (Heap.get?_push_of_some _ (Heap.get?_push_size _ rfl))
  have g2 : (zp5 st.heap t1 t2 l1 l2).get? (zp1 st.heap t1 l1).objs.size = some _ := Heap.get?_push_of_some _ (Heap.get?_push_of_some _ (Heap.get?_push_of_some _ (Heap.get?_push_size _ rfl)))
  have g1 : (zp5 st.heap t1 t2 l1 l2).get? st.heap.objs.size = some _ := Heap.get?_push_of_some _ (Heap.get?_push_of_some _ (Heap.get?_push_of_some _ (Heap.get?_push_of_some _ (Heap.get?_push_size _ rfl))))
  show _ ∧ _
  rw [n2, n3, n4] at g5
  rw [n1, n2] at g3
  rw [n3] at g4
  rw [n1] at g2
  rw [n4]
  exact ⟨⟨_, g5, rfl⟩, h _ g5 g3 g4 (Src.new g1 ((((q1.push _).push _).push _).push _ |>.push _)) (Src.new g2 ((((q2.push _).push _).push _).push _ |>.push _)) fun c o x =>
    Heap.get?_push_of_some _ (Heap.get?_push_of_some _ (Heap.get?_push_of_some _ (Heap.get?_push_of_some _ (Heap.get?_push_of_some _ x))))⟩
end
end L2
set_option Elab.async false
set_option linter.all false
set_option maxRecDepth 100000
set_option maxHeartbeats 4000000
namespace L2
open PySem PySem.Spec PyProof.Rows

/-! ### for sign in text -/
/-! ### for a, b in zip(x, y) -/
def SqB (t : Bool) (K : PySem.W.Frag) (H : Hp) (a : Addr) (xs : List V) : Prop := match t with
  | true => SqT K H a xs
  | false => SqL K H a xs
section
variable {X : Cx} {pins : List (Addr × Obj)} {σ : St} {H : Hp} {s : Shared}
theorem Inv.sq {t : Bool} {a : Addr} {xs : List V} (I : Inv X pins σ H s) (h : SqB t X.K H a xs) : ∃ its : List Value, Vals xs its ∧ SqK t s.heap a its.toArray ∧ xs.length ≤ sizeLine := by
  cases t with
  | true => obtain ⟨its, r, p, z⟩ := I.tuple h; exact ⟨its, r, p, z⟩
  | false => obtain ⟨its, r, p, z⟩ := I.list h; exact ⟨its, r, p.isList, z⟩
theorem Inv.sq_inj {t : Bool} {a : Addr} {xs ys : List V} (I : Inv X pins σ H s) (h : SqB t X.K H a xs) (h' : SqB t X.K H a ys) : xs = ys := by
  cases t with
  | true => exact I.tuple_inj h h'
  | false => exact I.list_inj h h'
/-- what is read is no record of an iterator -/
theorem Inv.sq_ne {t : Bool} {a b : Addr} {xs : List V} (I : Inv X pins σ H s) (h : SqB t X.K H a xs) (f : FpOk X pins H b) : a ≠ b := by
  intro z
  subst z
  obtain ⟨f0, _, _, f3, _⟩ := f
  have nob : ∀ o, X.base.get? a = some o → False := fun o e => by
    rcases f3 with q | q
    · exact I.ok.noex a o e q
    · exact absurd (Nat.lt_of_lt_of_le (Heap.lt_size e) (Nat.le_trans I.ok.bsz q)) (Nat.lt_irrefl _)
  cases t with
  | true =>
    rcases (show SqT X.K H a xs from h) with (q | ⟨o, q⟩) | q
    · rw [f0] at q; cases q
    · rw [f0] at q; cases q
    · obtain ⟨o, q⟩ := q
      first
        | exact nob _ (I.mod.kin a o q.1)
        | (obtain ⟨_, _, q, _⟩ := q; exact nob _ (I.mod.kin a _ q))
        | (obtain ⟨_, q, _⟩ := q; exact nob _ (I.mod.kin a _ q))
  | false =>
    rcases (show SqL X.K H a xs from h) with (q | ⟨o, q⟩) | q
    · rw [f0] at q; cases q
    · rw [f0] at q; cases q
    · obtain ⟨o, q⟩ := q
      first
        | exact nob _ (I.mod.kin a o q.1)
        | (obtain ⟨_, _, q, _⟩ := q; exact nob _ (I.mod.kin a _ q))
        | (obtain ⟨_, q, _⟩ := q; exact nob _ (I.mod.kin a _ q))
end
def Itz (K : PySem.W.Frag) (t1 t2 : Bool) (a b : Addr) : It :=
  ⟨fun i H => ∃ xs ys x y, SqB t1 K H a xs ∧ SqB t2 K H b ys ∧ xs[i]? = some x ∧ ys[i]? = some y,
   fun i H v H' => ∃ p x y, v = .ref p ∧ H p = none ∧ H' = upd H p (.tup [x, y]) ∧ (∀ xs, SqB t1 K H a xs → xs[i]? = some x) ∧ ∀ ys, SqB t2 K H b ys → ys[i]? = some y,
   fun i H => ∃ xs ys, SqB t1 K H a xs ∧ SqB t2 K H b ys ∧ (xs.length ≤ i ∨ ys.length ≤ i)⟩
def ItB (t : Bool) (h : Heap) (it l : Addr) (k : Nat) : Prop := match t with
  | true => h.IsTupleIter it l k
  | false => h.IsListIter it l k
theorem ItB.src {t : Bool} {h : Heap} {it l : Addr} {k : Nat} {xs : Array Value} (a : ItB t h it l k) (b : SqK t h l xs) : Src t h it l xs k := by cases t <;> exact ⟨a, b⟩
theorem Src.it {t : Bool} {h : Heap} {it l : Addr} {k : Nat} {xs : Array Value} (a : Src t h it l xs k) : ItB t h it l k := by cases t <;> exact a.1
theorem ItB.ob {t : Bool} {h : Heap} {it l : Addr} {k : Nat} (a : ItB t h it l k) : ∃ o, h.get? it = some o ∧ ∀ v, o.data ≠ .cell v := by
  cases t <;> (obtain ⟨o, e, _, d⟩ := a; exact ⟨o, e, fun v z => by rw [d] at z; cases z⟩)
theorem ItB.keep {t : Bool} {h h' : Heap} {it l : Addr} {k : Nat} (a : ItB t h it l k) (e : ∀ o, h.get? it = some o → h'.get? it = some o) : ItB t h' it l k := by
  cases t <;> (obtain ⟨o, q, r⟩ := a; exact ⟨o, e o q, r⟩)

theorem turn_zip {P : Program} {w : World} {K : PySem.W.Frag} {es : List Expr} {k0 : Nat} {tp : Pos} {t1 t2 : Bool} {a b z TI TO i1 i2 : Addr}
    (D : (TI ≠ z ∧ TO ≠ z ∧ i1 ≠ z ∧ i2 ≠ z) ∧ TI ≠ TO ∧ TI ≠ i1 ∧ TI ≠ i2 ∧ TO ≠ i1 ∧ TO ≠ i2 ∧ i1 ≠ i2) :
    Turn P w K (.Tuple es k0 tp) (Itz K t1 t2 a b) [z, TI, TO, i1, i2] z (fun i h => IsZip h z TI TO .none ∧ IsPair h TI (.ref i1) (.ref i2) ∧ (∃ u v, IsPair h TO u v) ∧ ItB t1 h i1 a i ∧ ItB t2 h i2 b i) where
  mem := by simp
  obj := fun i h st c hc => by
    obtain ⟨h1, h2, ⟨u, v, h3⟩, h4, h5⟩ := st
    simp only [List.mem_cons, List.not_mem_nil, or_false] at hc
    rcases hc with rfl | rfl | rfl | rfl | rfl
    · exact ⟨_, h1, fun v z => by cases z⟩
    · exact ⟨_, h2, fun v z => by cases z⟩
    · exact ⟨_, h3, fun v z => by cases z⟩
    · exact h4.ob
    · exact h5.ob
  keep := fun i h h' st k => by
    obtain ⟨h1, h2, ⟨u, v, h3⟩, h4, h5⟩ := st
    exact ⟨k z (by simp) _ h1, k TI (by simp) _ h2, ⟨u, v, k TO (by simp) _ h3⟩, h4.keep fun o e => k i1 (by simp) o e, h5.keep fun o e => k i2 (by simp) o e⟩
  item := by
    intro X hP hw hK hc i pins s σ H E I hf st hg
    subst hP hw hK
    obtain ⟨h1, h2, ⟨u, v, h3⟩, h4, h5⟩ := st
    obtain ⟨xs, ys, x, y, q1, q2, hx, hy⟩ := hg
    obtain ⟨its, r1, p1, _⟩ := I.sq q1
    obtain ⟨jts, r2, p2, _⟩ := I.sq q2
    obtain ⟨ux, ex, rx⟩ := r1.get hx
    obtain ⟨uy, ey, ry⟩ := r2.get hy
    have fz := hf z (by simp)
    have fTI := hf TI (by simp)
    have fTO := hf TO (by simp)
    have f1 := hf i1 (by simp)
    have f2 := hf i2 (by simp)
    have Dd : Apart z TI TO i1 i2 a b := ⟨D.1, D.2, ⟨I.sq_ne q1 fz, I.sq_ne q1 fTO, I.sq_ne q1 f1, I.sq_ne q1 f2⟩, ⟨I.sq_ne q2 fz, I.sq_ne q2 fTO, I.sq_ne q2 f1, I.sq_ne q2 f2⟩⟩
    have hT : s.TypeIs (.ref z) "zip" := ⟨_, h1, rfl⟩
    unfold pyNext
    refine wpAny_bind (wpAny_attempt (wpAny_callSpecial?_slot (name := Str.ofString "__next__") hT F.slot_zip_next (wpAny_call_entry F.slot_zip_next hT F.entry_zip_next (zip_item Dd h1 h2 h3 (h4.src p1) (h5.src p2) (by simpa using ex) (by simpa using ey) fun h' a1 a2 a3 a4 a5 a6 => wpAny_pure ?_) (F.args_zip_next_1 _))))
    refine ⟨_, rfl, wpAny_letOwnedTupleGo_zip a1 fun h2' b1 b2 => ?_⟩
    have lt : ∀ {c o}, s.heap.get? c = some o → s.heap.objs.size ≠ c := fun e => Nat.ne_of_gt (Heap.lt_size e)
    have nz := lt h1
    have hk : ∀ c o, c ∉ [z, TI, TO, i1, i2] → s.heap.get? c = some o → h2'.get? c = some o := fun c o hcn e => by
      simp only [List.mem_cons, List.not_mem_nil, or_false, not_or] at hcn
      exact b2.extBut c o hcn.1 (a6 c o hcn.1 hcn.2.2.1 hcn.2.2.2.1 hcn.2.2.2.2 e)
    have hTI' : h2'.get? TI = s.heap.get? TI := by
      rw [h2]
      exact b2.extBut _ _ D.1.1 (a6 TI _ D.1.1 D.2.1 D.2.2.1 D.2.2.2.1 h2)
    -- the own records have turned
    have I1 : Inv X pins σ H { s with heap := h2' } := by
      refine I.step (g' := s.gens) (d' := s.drawn) (t' := s.toks) (ch := [z, TI, TO, i1, i2]) (fun c hcm => ?_) (fun c o _ _ hcn e _ => hk c o hcn e) (fun c o _ _ hcn e _ => ⟨o.slots, hk c o hcn e⟩) (fun _ _ _ _ n => n)
        (fun c o hcn e => ⟨o, hk c o hcn e⟩) (fun _ _ e => e) (fun _ _ _ e => e) (fun c ps e => ⟨#[], by rw [e]; simp⟩) (fun m hm => ?_) (fun c u' e => ?_) I.bare
      · obtain ⟨_, g1, _, g3, g4, g5⟩ := hf c hcm
        exact ⟨g3, g1, g4, g5⟩
      · obtain ⟨o, es', ep, ho, r⟩ := hm
        exact ⟨o, es', ep, hk _ o (fun hm' => (hf _ hm').2.1 rfl) ho, r⟩
      · have nin : ∀ c' u'', H c' = some u'' → c' ∉ [z, TI, TO, i1, i2] := fun c' u'' e' hm' => by rw [(hf _ hm').1] at e'; cases e'
        refine (I.hok c u' e).stay (fun c' v' hc' q => hk c' v' ?_ q) (fun _ q => q) fun _ _ q => q
        rcases hc' with rfl | hc'
        · exact nin _ _ e
        · exact nin _ _ hc'
    have hp : IsPair h2' s.heap.objs.size ux uy := b2.extBut _ _ nz a5
    have fp0 : H s.heap.objs.size = none := I.hok.fresh (Nat.le_refl _)
    -- the pair is tracked
    have nfp : s.heap.objs.size ∉ [z, TI, TO, i1, i2] := fun hm => by
      obtain ⟨o, e, _⟩ : ∃ o, s.heap.get? s.heap.objs.size = some o ∧ True := by
        simp only [List.mem_cons, List.not_mem_nil, or_false] at hm
        rcases hm with q | q | q | q | q
        · exact ⟨_, by rw [q]; exact h1, trivial⟩
        · exact ⟨_, by rw [q]; exact h2, trivial⟩
        · exact ⟨_, by rw [q]; exact h3, trivial⟩
        · obtain ⟨o, e, _⟩ := h4.ob; exact ⟨o, by rw [q]; exact e, trivial⟩
        · obtain ⟨o, e, _⟩ := h5.ob; exact ⟨o, by rw [q]; exact e, trivial⟩
      exact absurd (Heap.lt_size e) (Nat.lt_irrefl _)
    have I2 : Inv X pins σ (upd H s.heap.objs.size (.tup [x, y])) { s with heap := h2' } := by
      refine I1.step (s := { s with heap := h2' }) (g' := s.gens) (d' := s.drawn) (t' := s.toks) (h' := h2') (ch := [s.heap.objs.size]) (fun c hcm => ?_) (fun c o _ _ _ e _ => e) (fun c o _ _ _ e _ => ⟨o.slots, e⟩) (fun c o hcn e n => ?_)
        (fun c o _ e => ⟨o, e⟩) (fun c xs' e => ?_) (fun c o u' e => ?_) (fun c ps e => ⟨#[], ?_⟩) (fun m hm => hm) (fun c u' e => ?_) I.bare
      · have e : c = s.heap.objs.size := by simpa using hcm
        subst e
        obtain ⟨_, g1, _, g3, g4, g5⟩ := I.fpOk (Nat.le_refl _) fp0
        exact ⟨g3, g1, g4, g5⟩
      · rw [upd_ne (by simpa using hcn)]; exact n
      · rw [upd_ne (ne_of_none e fp0)]; exact e
      · rw [upd_ne (ne_of_none e fp0)]; exact e
      · rw [upd_ne (ne_of_none e fp0), e]; simp
      · by_cases hcs : c = s.heap.objs.size
        · subst hcs
          rw [upd_same] at e
          cases e
          exact ⟨by simp [sizeLine_eq], [ux, uy], .cons rx (.cons ry .nil), ⟨_, hp, rfl, _, rfl⟩⟩
        · rw [upd_ne hcs] at e
          exact (I1.hok c u' e).stay (fun _ _ _ q => q) (fun c' q => by rw [upd_ne (ne_of_none q fp0)]; exact q) fun c' xs' q => by rw [upd_ne (ne_of_none q fp0)]; exact q
    refine ⟨.ref s.heap.objs.size, _, I2, rfl, ⟨s.heap.objs.size, x, y, rfl, fp0, rfl, fun xs' q' => by rw [I.sq_inj q' q1]; exact hx, fun ys' q' => by rw [I.sq_inj q' q2]; exact hy⟩, ?_, fun c hcm => ?_⟩
    · exact ⟨b1, hTI'.trans h2, ⟨ux, uy, b2.extBut _ _ D.1.2.1 a2⟩, (Src.it a3).keep fun o e => b2.extBut _ o D.1.2.2.1 e, (Src.it a4).keep fun o e => b2.extBut _ o D.1.2.2.2 e⟩
    · rw [upd_ne (fun q => nfp (by rw [← q]; exact hcm))]; exact (hf c hcm).1
  done := by
    intro X hP hw hK hc i pins s σ H E I hf st hg
    subst hP hw hK
    obtain ⟨h1, h2, ⟨u, v, h3⟩, h4, h5⟩ := st
    obtain ⟨xs, ys, q1, q2, he⟩ := hg
    obtain ⟨its, r1, p1, _⟩ := I.sq q1
    obtain ⟨jts, r2, p2, _⟩ := I.sq q2
    have Dd : Apart z TI TO i1 i2 a b := ⟨D.1, D.2, ⟨I.sq_ne q1 (hf z (by simp)), I.sq_ne q1 (hf TO (by simp)), I.sq_ne q1 (hf i1 (by simp)), I.sq_ne q1 (hf i2 (by simp))⟩, ⟨I.sq_ne q2 (hf z (by simp)), I.sq_ne q2 (hf TO (by simp)), I.sq_ne q2 (hf i1 (by simp)), I.sq_ne q2 (hf i2 (by simp))⟩⟩
    have l1 := r1.length
    have l2 := r2.length
    have hend : its.toArray[i]? = none ∨ jts.toArray[i]? = none := by
      rcases he with e | e
      · exact .inl (by simp; omega)
      · exact .inr (by simp; omega)
    have hT : s.TypeIs (.ref z) "zip" := ⟨_, h1, rfl⟩
    unfold pyNext
    refine wpAny_bind (wpAny_attempt (wpAny_callSpecial?_slot (name := Str.ofString "__next__") hT F.slot_zip_next (wpAny_call_entry F.slot_zip_next hT F.entry_zip_next (zip_end (I.ok.hd hc) Dd h1 h2 h3 (h4.src p1) (h5.src p2) hend fun h' e kk hx => ?_) (F.args_zip_next_1 _))))
    obtain ⟨o, ho, hcl⟩ := hx
    refine wpAny_bind (wpAny_isInstance (T := "StopIteration") (b := true) ⟨o, ho, hcl⟩ isSubtype_stop (wpAny_pure ⟨rfl, ?_⟩))
    have hk : ∀ c o, c ∉ [z, TI, TO, i1, i2] → s.heap.get? c = some o → h'.get? c = some o := fun c o hcn e => by
      simp only [List.mem_cons, List.not_mem_nil, or_false, not_or] at hcn
      exact kk c o hcn.1 hcn.2.2.1 hcn.2.2.2.1 hcn.2.2.2.2 e
    refine I.step (g' := s.gens) (d' := s.drawn) (t' := s.toks) (ch := [z, TI, TO, i1, i2]) (fun c hcm => ?_) (fun c o _ _ hcn e _ => hk c o hcn e) (fun c o _ _ hcn e _ => ⟨o.slots, hk c o hcn e⟩) (fun _ _ _ _ n => n)
      (fun c o hcn e => ⟨o, hk c o hcn e⟩) (fun _ _ e => e) (fun _ _ _ e => e) (fun c ps e => ⟨#[], by rw [e]; simp⟩) (fun m hm => ?_) (fun c u' e => ?_) I.bare
    · obtain ⟨_, g1, _, g3, g4, g5⟩ := hf c hcm
      exact ⟨g3, g1, g4, g5⟩
    · obtain ⟨o, es', ep, ho, r⟩ := hm
      exact ⟨o, es', ep, hk _ o (fun hm' => (hf _ hm').2.1 rfl) ho, r⟩
    · have nin : ∀ c' u'', H c' = some u'' → c' ∉ [z, TI, TO, i1, i2] := fun c' u'' e' hm' => by rw [(hf _ hm').1] at e'; cases e'
      refine (I.hok c u' e).stay (fun c' v' hc' q => hk c' v' ?_ q) (fun _ q => q) fun _ _ q => q
      rcases hc' with rfl | hc'
      · exact nin _ _ e
      · exact nin _ _ hc'
  self := fun _ _ _ _ _ st h => wpAny_pyIter_zip st.1 h

def iZip (K : PySem.W.Frag) (t1 t2 : Bool) (ta : TA) : TI := fun σ H R => ta σ H fun vs H1 => ∃ a b xs ys, vs = [.ref a, .ref b] ∧ SqB t1 K H1 a xs ∧ SqB t2 K H1 b ys ∧ R (Itz K t1 t2 a b) H1
theorem zip_apart (n : Nat) : (n + 2 ≠ n + 4 ∧ n + 3 ≠ n + 4 ∧ n ≠ n + 4 ∧ n + 1 ≠ n + 4) ∧ n + 2 ≠ n + 3 ∧ n + 2 ≠ n ∧ n + 2 ≠ n + 1 ∧ n + 3 ≠ n ∧ n + 3 ≠ n + 1 ∧ n ≠ n + 1 := by omega
theorem zip_above (n x : Nat) (h : x = n + 4 ∨ x = n + 2 ∨ x = n + 3 ∨ x = n ∨ x = n + 1) : n ≤ x := by omega
theorem boot_zip : bootBuiltins "zip" = some (.type "zip") := by decide +kernel
theorem pi_zip {X : Cx} {es0 : List Expr} {k0 : Nat} {tp : Pos} {a b : Expr} {ta : TA} {p pos : Pos} {t1 t2 : Bool} (hg : Gl X "zip") (hm : X.mg "zip" = none) (ha : PA X [a, b] ta)
    (hs : starEach [a, b] X.env = [(false, eval a X.env), (false, eval b X.env)] := by rfl) (hs2 : starEach [b] X.env = [(false, eval b X.env)] := by rfl) :
    PI X (.Tuple es0 k0 tp) (.Call (.Name "zip" p) [a, b] [] pos) (iZip X.K t1 t2 ta) := by
  intro pins s σ H R I h
  refine Call_ (ld_blt I hg hm boot_zip (PyProof.Rows.callWith_type1 (thn (ha pos pins s σ H _ I h) fun us s1 ⟨vs, H1, I1, r1, q1⟩ => ?_) (by rw [hs, hs2]) (by rw [hs2]; rfl)))
  obtain ⟨c, d, xs, ys, e, q1, q2, q⟩ := q1
  subst e
  obtain ⟨u, u', rfl, ru, ru'⟩ := vals2 r1
  cases ru
  cases ru'
  obtain ⟨its, _, p1, _⟩ := I1.sq q1
  obtain ⟨jts, _, p2, _⟩ := I1.sq q2
  refine call_zipK p1 p2 fun h' a1 a2 a3 a4 a5 kk => ?_
  refine wpAny_pyIter_zip (s := { s1 with heap := h' }) a1 ?_
  have I2 : Inv X pins σ H1 { s1 with heap := h' } := I1.kept (t' := s1.toks) kk
  refine ⟨_, [s1.heap.objs.size + 4, s1.heap.objs.size + 2, s1.heap.objs.size + 3, s1.heap.objs.size, s1.heap.objs.size + 1], _, _, H1, rfl, I2, turn_zip (t1 := t1) (t2 := t2) (a := c) (b := d) (zip_apart _),
    ⟨a1, a2, ⟨_, _, a3⟩, Src.it a4, Src.it a5⟩, fun x hx => ?_, q⟩
  have hge : s1.heap.objs.size ≤ x := by
    simp only [List.mem_cons, List.not_mem_nil, or_false] at hx
    exact zip_above _ _ hx
  exact I1.fpOk hge (I1.hok.fresh hge)
end L2
set_option Elab.async false
set_option linter.all false
set_option maxRecDepth 100000
set_option maxHeartbeats 4000000
namespace L2
open PySem PySem.Spec PyProof.Rows
section
variable {X : Cx} {a b : Expr} {ta tb : TE} {pos : Pos}

/-! ### all(list of truths) -/
/-! ### isinstance(x, T) -/
def rIsi (K : PySem.W.Frag) : List V → Hp → VK → Prop := fun xs H Q => ∃ x c t k, xs = [x, .ty c] ∧ TyOf K H x t ∧ PySem.W.kitOne K t (.type c) = some k ∧ Q (.bl k) H
theorem call_isi : CallR X (.builtin "isinstance") (rIsi X.K) := by
  intro pins s σ H xs us Q I r h
  obtain ⟨x, c, t, k, rfl, ty, e, q⟩ := h
  obtain ⟨u, u', rfl, rx, rc⟩ := vals2 r
  cases rc
  exact isinst_ok I rx ty e fun tk => ⟨.bl k, H, I.tok tk, rfl, q⟩

/-! ### f(e, ..) where f is a name that holds a def -/
/-! ### texts -/
/-! ### two lists of flat things compared -/
end

/-! ### t[::-1] of a tuple -/
section
variable {prog : Program} {w : World} {A : Around} {E : Value → Shared → Prop} {s : Shared}
end
end L2
namespace L2
open PySem PySem.Spec PyProof.Rows
/-! ### t + u of two tuples, either may be empty -/
def rCatU : R2 := fun x y H Q => ∃ a b xs ys, x = .ref a ∧ y = .ref b ∧ H a = some (.tup xs) ∧ H b = some (.tup ys) ∧ xs.length + ys.length ≤ sizeLine ∧ ∀ p H', H' p = some (.tup (xs ++ ys)) → Same H H' → Q (.ref p) H'
theorem op_catU {X : Cx} : OpR X (binaryOp .Add) rCatU := by
  intro pins s σ H x y v u Q I rx ry h
  obtain ⟨a, b, xs, ys, rfl, rfl, ha, hb, hz, q⟩ := h
  by_cases hx : xs = []
  · subst hx
    cases rx
    cases ry
    obtain ⟨its, r1, p1, _⟩ := I.tuple (SqT.of ha)
    obtain ⟨its2, r2, p2, _⟩ := I.tuple (SqT.of hb)
    have e1 : its = [] := r1.nil_iff.mpr rfl
    obtain ⟨⟨cls, dd, data, sl⟩, ho, hc, n, hd⟩ := id p1
    obtain ⟨⟨cls2, dd2, data2, sl2⟩, ho2, hc2, n2, hd2⟩ := id p2
    simp only at hc hd hc2 hd2
    subst hc hd hc2 hd2
    exact concat_meets ⟨_, ho, rfl⟩ ⟨_, ho2, rfl⟩ noFill_tuple_add seq_tuple_add PySem.F.slot_tuple_add PySem.F.entry_tuple_add (PySem.F.args_tuple_add_2 _ _)
      (tuple_addW0 a b its.toArray its2.toArray n n2 dd dd2 sl sl2 (by simp [e1])) ⟨ho, ho2, ⟨.ref b, H, I, rfl, q b H (by simpa using hb) (Same.refl _)⟩⟩
  · refine op_catT pins s σ H (.ref a) (.ref b) v u Q I rx ry ⟨a, b, xs, ys, rfl, rfl, SqT.of ha, SqT.of hb, hx, hz, fun e => ?_, fun _ p hp => ?_⟩
    · subst e
      exact q a H (by simpa using ha) (Same.refl _)
    · exact q p _ upd_same fun c o e => by rw [upd_ne (ne_of_none e hp)]; exact e
theorem PT.weak {X : Cx} {e : Expr} {t t' : TT} (h : PT X e t) (w : ∀ σ H Q, t' σ H Q → t σ H Q) : PT X e t' := fun pins s σ H Q I q => h pins s σ H Q I (w σ H Q q)
theorem PE.weak {X : Cx} {e : Expr} {t t' : TE} (h : PE X e t) (w : ∀ σ H Q, t' σ H Q → t σ H Q) : PE X e t' := fun pins s σ H Q I q => h pins s σ H Q I (w σ H Q q)
end L2
set_option Elab.async false
set_option linter.all false
namespace Kp
open PySem PyProof.Rows
/-- a thing, as data -/
inductive D where
  | non | bl (b : Bool) | int (i : Int) | str (x : Str) | tup (xs : List D) | lst (xs : List D)

/-! ### names -/
/-! ### seats -/
def keeper : D → Bool
  | .int i => decide (0 ≤ i) && decide (i ≤ 8)
  | _ => false
end Kp
set_option Elab.async false
set_option linter.all false
set_option maxRecDepth 100000
set_option maxHeartbeats 4000000
namespace Kp
open PySem L2

mutual
/-- v is the thing d in the heap H; its texts and rows are of at most B parts -/
inductive Is (B : Nat) (H : Hp) : V → D → Prop
  | non : Is B H .non .non
  | bl (b : Bool) : Is B H (.bl b) (.bl b)
  | int (i : Int) : Is B H (.int i) (.int i)
  | str (x : Str) (h : x.length ≤ B) : Is B H (.str x) (.str x)
  | tup {a : Addr} {vs : List V} {ds : List D} (e : H a = some (.tup vs)) (l : vs.length ≤ B) (r : IsL B H vs ds) : Is B H (.ref a) (.tup ds)
  | lst {a : Addr} {vs : List V} {ds : List D} (e : H a = some (.lst vs)) (l : vs.length ≤ B) (r : IsL B H vs ds) : Is B H (.ref a) (.lst ds)
inductive IsL (B : Nat) (H : Hp) : List V → List D → Prop
  | nil : IsL B H [] []
  | cons {v : V} {d : D} {vs : List V} {ds : List D} (h : Is B H v d) (t : IsL B H vs ds) : IsL B H (v :: vs) (d :: ds)
end
mutual
theorem Is.mono {B B' : Nat} {H H' : Hp} (hB : B ≤ B') (s : Same H H') : ∀ {v d}, Is B H v d → Is B' H' v d
  | _, _, .non => .non
  | _, _, .bl b => .bl b
  | _, _, .int i => .int i
  | _, _, .str x h => .str x (Nat.le_trans h hB)
  | _, _, .tup e l r => .tup (s _ _ e) (Nat.le_trans l hB) (IsL.mono hB s r)
  | _, _, .lst e l r => .lst (s _ _ e) (Nat.le_trans l hB) (IsL.mono hB s r)
theorem IsL.mono {B B' : Nat} {H H' : Hp} (hB : B ≤ B') (s : Same H H') : ∀ {vs ds}, IsL B H vs ds → IsL B' H' vs ds
  | _, _, .nil => .nil
  | _, _, .cons h t => .cons (Is.mono hB s h) (IsL.mono hB s t)
end
theorem Is.same {B : Nat} {H H' : Hp} {v : V} {d : D} (h : Is B H v d) (s : Same H H') : Is B H' v d := h.mono (Nat.le_refl _) s
theorem IsL.same {B : Nat} {H H' : Hp} {v : List V} {d : List D} (h : IsL B H v d) (s : Same H H') : IsL B H' v d := h.mono (Nat.le_refl _) s
theorem IsL.length {B : Nat} {H : Hp} : ∀ {vs ds}, IsL B H vs ds → vs.length = ds.length
  | _, _, .nil => rfl
  | _, _, .cons _ t => by simp [IsL.length t]
theorem IsL.get {B : Nat} {H : Hp} : ∀ {vs ds} {i : Nat} {v : V}, IsL B H vs ds → vs[i]? = some v → ∃ d, ds[i]? = some d ∧ Is B H v d
  | _, _, _, _, .nil, h => by simp at h
  | _, _, 0, _, .cons h _, e => by simp at e; subst e; exact ⟨_, rfl, h⟩
  | _, _, i + 1, v, .cons _ t, e => by
    obtain ⟨d, e', h⟩ := IsL.get (i := i) (v := v) t (by simpa using e)
    exact ⟨d, by simpa using e', h⟩
theorem IsL.append {B : Nat} {H : Hp} : ∀ {vs ds vs' ds'}, IsL B H vs ds → IsL B H vs' ds' → IsL B H (vs ++ vs') (ds ++ ds')
  | _, _, _, _, .nil, h => h
  | _, _, _, _, .cons h t, h' => .cons h (IsL.append t h')
theorem IsL.take {B : Nat} {H : Hp} : ∀ (n : Nat) {vs ds}, IsL B H vs ds → IsL B H (vs.take n) (ds.take n)
  | 0, _, _, _ => .nil
  | _ + 1, _, _, .nil => .nil
  | n + 1, _, _, .cons h t => .cons h (IsL.take n t)
theorem IsL.drop {B : Nat} {H : Hp} : ∀ (n : Nat) {vs ds}, IsL B H vs ds → IsL B H (vs.drop n) (ds.drop n)
  | 0, _, _, h => h
  | _ + 1, _, _, .nil => .nil
  | n + 1, _, _, .cons _ t => IsL.drop n t
theorem IsL.reverse {B : Nat} {H : Hp} {vs ds} (h : IsL B H vs ds) : IsL B H vs.reverse ds.reverse := by
  induction vs generalizing ds with
  | nil => cases h; exact .nil
  | cons v vs ih =>
    cases h with
    | cons h t => rw [List.reverse_cons, List.reverse_cons]; exact (ih t).append (.cons h .nil)
theorem IsL.ints {B : Nat} {H : Hp} : ∀ (ns : List Int), IsL B H (ns.map V.int) (ns.map D.int)
  | [] => .nil
  | n :: r => .cons (.int n) (IsL.ints r)
/-- some thing of at most B parts -/
def Th (B : Nat) (H : Hp) (v : V) : Prop := ∃ d, Is B H v d
def ThL (B : Nat) (H : Hp) (vs : List V) : Prop := ∃ ds, IsL B H vs ds
theorem Th.mono {B B' : Nat} {H H' : Hp} {v : V} (h : Th B H v) (hB : B ≤ B') (s : Same H H') : Th B' H' v := let ⟨d, q⟩ := h; ⟨d, q.mono hB s⟩
theorem ThL.mono {B B' : Nat} {H H' : Hp} {v : List V} (h : ThL B H v) (hB : B ≤ B') (s : Same H H') : ThL B' H' v := let ⟨d, q⟩ := h; ⟨d, q.mono hB s⟩
theorem ThL.nil {B : Nat} {H : Hp} : ThL B H [] := ⟨[], .nil⟩
theorem ThL.cons {B : Nat} {H : Hp} {v : V} {vs : List V} (h : Th B H v) (t : ThL B H vs) : ThL B H (v :: vs) := let ⟨d, q⟩ := h; let ⟨ds, r⟩ := t; ⟨d :: ds, .cons q r⟩
theorem ThL.append {B : Nat} {H : Hp} {vs us : List V} (h : ThL B H vs) (t : ThL B H us) : ThL B H (vs ++ us) := let ⟨_, q⟩ := h; let ⟨_, r⟩ := t; ⟨_, q.append r⟩
theorem ThL.take {B : Nat} {H : Hp} {vs : List V} (n : Nat) (h : ThL B H vs) : ThL B H (vs.take n) := let ⟨_, q⟩ := h; ⟨_, q.take n⟩
theorem ThL.drop {B : Nat} {H : Hp} {vs : List V} (n : Nat) (h : ThL B H vs) : ThL B H (vs.drop n) := let ⟨_, q⟩ := h; ⟨_, q.drop n⟩
theorem ThL.reverse {B : Nat} {H : Hp} {vs : List V} (h : ThL B H vs) : ThL B H vs.reverse := let ⟨_, q⟩ := h; ⟨_, q.reverse⟩
theorem ThL.get {B : Nat} {H : Hp} {vs : List V} {i : Nat} {v : V} (h : ThL B H vs) (e : vs[i]? = some v) : Th B H v := let ⟨_, q⟩ := h; let ⟨d, _, r⟩ := q.get e; ⟨d, r⟩
theorem Th.tup {B : Nat} {H : Hp} {a : Addr} {vs : List V} (e : H a = some (.tup vs)) (l : vs.length ≤ B) (h : ThL B H vs) : Th B H (.ref a) := let ⟨_, q⟩ := h; ⟨_, .tup e l q⟩
theorem Th.lst {B : Nat} {H : Hp} {a : Addr} {vs : List V} (e : H a = some (.lst vs)) (l : vs.length ≤ B) (h : ThL B H vs) : Th B H (.ref a) := let ⟨_, q⟩ := h; ⟨_, .lst e l q⟩
theorem Th.int {B : Nat} {H : Hp} (i : Int) : Th B H (.int i) := ⟨_, .int i⟩
theorem Th.bl {B : Nat} {H : Hp} (i : Bool) : Th B H (.bl i) := ⟨_, .bl i⟩
theorem Th.non {B : Nat} {H : Hp} : Th B H .non := ⟨_, .non⟩
theorem Th.str {B : Nat} {H : Hp} (x : Str) (h : x.length ≤ B) : Th B H (.str x) := ⟨_, .str x h⟩
/-- a new object leaves all as it was -/
theorem same_upd {H : Hp} {p : Addr} {o : HO} (h : H p = none) : Same H (upd H p o) := fun b u e => by rw [upd_ne (ne_of_none e h)]; exact e

/-! ### the kinds -/
def tyN : D → String
  | .non => "NoneType" | .bl _ => "bool" | .int _ => "int" | .str _ => "str" | .tup _ => "tuple" | .lst _ => "list"
theorem Is.ty {B : Nat} {H : Hp} {K : PySem.W.Frag} {v : V} {d : D} (h : Is B H v d) : TyOf K H v (.type (tyN d)) := by
  cases h with
  | non => exact .non
  | bl b => exact .bl b
  | int i => exact .int i
  | str x _ => exact .str x
  | tup e _ _ => exact .tup e
  | lst e _ _ => exact .lst e
def isInt : D → Bool | .int _ => true | .bl _ => true | _ => false
def isBool : D → Bool | .bl _ => true | _ => false
theorem kit_bool (K : PySem.W.Frag) : ∀ d : D, PySem.W.kitOne K (.type (tyN d)) (.type "bool") = some (isBool d)
  | .non => by with_unfolding_all rfl
  | .bl _ => by with_unfolding_all rfl
  | .int _ => by with_unfolding_all rfl
  | .str _ => by with_unfolding_all rfl
  | .tup _ => by with_unfolding_all rfl
  | .lst _ => by with_unfolding_all rfl
theorem boot_isi : bootBuiltins "isinstance" = some (.builtin "isinstance") := by decide +kernel
theorem boot_int : bootBuiltins "int" = some (.type "int") := by decide +kernel
theorem boot_bool : bootBuiltins "bool" = some (.type "bool") := by decide +kernel
theorem boot_tuple : bootBuiltins "tuple" = some (.type "tuple") := by decide +kernel
theorem pe_ty {X : Cx} {x : Str} {n : String} {pos : Pos} (hg : Gl X x) (hm : X.mg x = none) (hv : bootBuiltins x = some (.type n)) (hn : x ≠ "__name__" := by decide) (hd : (x == ("__debug__" : Str)) = false := by decide) : PE X (.Name x pos) (tC (.ty n)) := pe_bltn (v := .ty n) hg hm hv rfl hn hd
end Kp
set_option Elab.async false
set_option linter.all false
set_option maxRecDepth 100000
set_option maxHeartbeats 4000000
namespace Kp
open PySem L2

/-! ### rules whose reading names the written part, for a block -/
section
variable {X : Cx} {K : PySem.W.Frag} {pos : Pos}
end

/-! ### a comprehension's names -/
def compChk (outer scope : Scope) : Bool := scope.kind == .function && scope.names.all fun y => y.2 != .cell && (y.2 != .local || scope.names.lookup y.1 == some .local) && (y.2 != .free || outer.names.lookup y.1 == some .cell)
theorem compOkN {X : Cx} {outer scope : Scope} {NB : List Str} {n : Nat} {fr : List Nat} (hX : X.env.scope = outer) (h : compChk outer scope = true) (hl : NB.length = n + fr.length)
    (ho : ∀ (j k : Nat), fr[j]? = some k → ∃ x, NB[n + j]? = some x ∧ X.N[k]? = some x ∧ scope.names.lookup x = some .free) : CompOk X scope NB n fr := by
  unfold compChk at h
  rw [Bool.and_eq_true, List.all_eq_true] at h
  obtain ⟨h1, h2⟩ := h
  refine ⟨by simpa using h1, fun y hy => ?_, fun y hy hk => ?_, fun y hy hk => ?_, hl, ho⟩
  · have := h2 y hy
    simp only [Bool.and_eq_true, bne_iff_ne, ne_eq] at this
    exact this.1.1
  · have := h2 y hy
    simp only [Bool.and_eq_true, Bool.or_eq_true, bne_iff_ne, ne_eq, beq_iff_eq] at this
    exact this.1.2.resolve_left (fun z => z hk)
  · have := h2 y hy
    simp only [Bool.and_eq_true, Bool.or_eq_true, bne_iff_ne, ne_eq, beq_iff_eq] at this
    refine .inl ?_
    show X.env.scope.names.lookup y.1 = some .cell
    rw [hX]
    exact this.2.resolve_left (fun z => z hk)
theorem compOk0 {X : Cx} {outer scope : Scope} {NB : List Str} {n : Nat} (hX : X.env.scope = outer) (h : compChk outer scope = true) (hl : NB.length = n + 0) : CompOk X scope NB n [] :=
  compOkN hX h hl fun j k e => by simp at e
/-! ### a comprehension that changes nothing -/
/-! ### promises -/
/-- a teller: of a thing, a truth; nothing is changed -/
def spP (f : D → Bool) : Sp := fun vs H Q _ => ∃ B v d, B ≤ 1000 ∧ vs = [v] ∧ Is B H v d ∧ ∀ H', Same H H' → Q (.bl (f d)) H'
/-- a def of the text that keeps its promise, as a caller sees it -/
structure Cal (P : Program) (w : World) (K : PySem.W.Frag) (mg : Str → Option Value) (base : Heap) (name : Str) (k : Nat) (ps : List Str) (sp : Sp) : Prop where
  ex : ∃ f fd, FnOk P w K mg base CX0 k f fd ps sp ∧ mg name = some (.ref f) ∧ PySem.W.keepIn K (.ref f) = true ∧ Binds K fd ps []
def whole (d : D) : Bool := isInt d && !isBool d
end Kp
set_option Elab.async false
set_option linter.all false
namespace Kp
open PySem L2
section
variable {X : Cx} {es : List Expr} {te : TE} {t : TA} {pos : Pos}
/-! ### argument lists by the first one's form: that it is no star is known once -/
theorem pa_i {c : Const} {k : Nat} (ha : PE X (.Constant c k pos) te) (hr : PA X es t) : PA X (.Constant c k pos :: es) (tCons te t) := pa_cons ha hr rfl
theorem pa_n {x : Str} (ha : PE X (.Name x pos) te) (hr : PA X es t) : PA X (.Name x pos :: es) (tCons te t) := pa_cons ha hr rfl
theorem pa_t {l : List Expr} {k : Nat} (ha : PE X (.Tuple l k pos) te) (hr : PA X es t) : PA X (.Tuple l k pos :: es) (tCons te t) := pa_cons ha hr rfl
theorem pa_l {l : List Expr} (ha : PE X (.List l pos) te) (hr : PA X es t) : PA X (.List l pos :: es) (tCons te t) := pa_cons ha hr rfl
theorem pa_b {o : Operator} {a b : Expr} (ha : PE X (.BinOp a o b pos) te) (hr : PA X es t) : PA X (.BinOp a o b pos :: es) (tCons te t) := pa_cons ha hr rfl
theorem pa_k {f : Expr} {as : List Expr} {ks : List Keyword} (ha : PE X (.Call f as ks pos) te) (hr : PA X es t) : PA X (.Call f as ks pos :: es) (tCons te t) := pa_cons ha hr rfl
theorem pa_s {a b : Expr} (ha : PE X (.Subscript a b pos) te) (hr : PA X es t) : PA X (.Subscript a b pos :: es) (tCons te t) := pa_cons ha hr rfl
theorem pa_c {a : Expr} {o : List CmpOp} {b : List Expr} (ha : PE X (.Compare a o b pos) te) (hr : PA X es t) : PA X (.Compare a o b pos :: es) (tCons te t) := pa_cons ha hr rfl
end
end Kp
namespace Kp
open PySem L2
theorem px_b {a b : Expr} {o : Operator} {pos : Pos} : PlainIx (.BinOp a o b pos) := fun _ _ => rfl
theorem px_n {x : Str} {pos : Pos} : PlainIx (.Name x pos) := fun _ _ => rfl
theorem px_i {c : Const} {k : Nat} {pos : Pos} : PlainIx (.Constant c k pos) := fun _ _ => rfl
end Kp
namespace Kp
open PySem L2
end Kp
namespace Kp
open PySem L2
/-! ### displays of written things -/
structure QA (X : Cx) (es : List Expr) (t : TA) : Prop where
  h : PA X es t
section
variable {X : Cx} {es l : List Expr} {t u : TA} {p p' : Pos} {j : Nat}
theorem qa_nil : QA X [] tNil := ⟨pa_nil⟩
theorem qa_int {i : Int} (r : QA X es t) : QA X (.Constant (.int i) j p :: es) (tCons (tC (.int i)) t) := ⟨pa_cons pe_int r.h rfl⟩
theorem qa_bl {i : Bool} (r : QA X es t) : QA X (.Constant (.bool i) j p :: es) (tCons (tC (.bl i)) t) := ⟨pa_cons pe_bl r.h rfl⟩
theorem qa_str {i : Str} (r : QA X es t) : QA X (.Constant (.str i) j p :: es) (tCons (tC (.str i)) t) := ⟨pa_cons pe_str r.h rfl⟩
theorem qa_non (r : QA X es t) : QA X (.Constant .none j p :: es) (tCons (tC .non) t) := ⟨pa_cons pe_non r.h rfl⟩
theorem qa_tup (a : QA X l u) (r : QA X es t) : QA X (.Tuple l j p :: es) (tCons (tTup u) t) := ⟨pa_cons (pe_tup a.h) r.h rfl⟩
end
end Kp
namespace Kp
open PySem L2
/-! ### judgements in boxes: the elaborator looks into the bare ones, and runs a written display -/
structure QE (X : Cx) (e : Expr) (t : TE) : Prop where
  h : PE X e t
structure QS (X : Cx) (st : Stmt) (t : TS) : Prop where
  h : PS X st t
structure QB (X : Cx) (sts : List Stmt) (t : TS) : Prop where
  h : PSs X sts t
section
variable {X : Cx} {es : List Expr} {t : TA} {p p' pos : Pos} {j : Nat}
theorem qx_lst (a : QA X es t) : QE X (.List es p) (tLst t) := ⟨pe_lst a.h⟩
end
end Kp
set_option Elab.async false
set_option linter.all false
set_option maxRecDepth 100000
set_option maxHeartbeats 4000000
namespace Kp
open PySem L2 PyProof.Rows

/-! ### D.get(word) of a dict of the module -/
/-! ### a teller that is known by its address only -/
structure Tl (P : Program) (w : World) (K : PySem.W.Frag) (mg : Str → Option Value) (base : Heap) (k : Nat) (g : Addr) (p : D → Bool) : Prop where
  ex : ∃ k' fd px, k' ≤ k ∧ FnOk P w K mg base CX0 k' g fd [px] (spP p) ∧ PySem.W.keepIn K (.ref g) = true ∧ Binds K fd [px] []
section
variable {P : Program} {w : World} {K : PySem.W.Frag} {mg : Str → Option Value} {base : Heap}
theorem Tl.mono {k k' : Nat} {g : Addr} {p : D → Bool} (h : Tl P w K mg base k g p) (hk : k ≤ k') : Tl P w K mg base k' g p := let ⟨j, fd, px, a, b⟩ := h.ex; ⟨j, fd, px, Nat.le_trans a hk, b⟩
/-- tellers and what they tell -/
inductive Tls (P : Program) (w : World) (K : PySem.W.Frag) (mg : Str → Option Value) (base : Heap) (k : Nat) : List V → List (D → Bool) → Prop
  | nil : Tls P w K mg base k [] []
  | cons {g : Addr} {p : D → Bool} {gs : List V} {ps : List (D → Bool)} (h : Tl P w K mg base k g p) (t : Tls P w K mg base k gs ps) : Tls P w K mg base k (.ref g :: gs) (p :: ps)
theorem Tls.length {k : Nat} : ∀ {gs ps}, Tls P w K mg base k gs ps → gs.length = ps.length
  | _, _, .nil => rfl
  | _, _, .cons _ t => by simp [Tls.length t]
theorem Tls.get {k : Nat} : ∀ {gs ps} {i : Nat} {v : V}, Tls P w K mg base k gs ps → gs[i]? = some v → ∃ g p, v = .ref g ∧ ps[i]? = some p ∧ Tl P w K mg base k g p
  | _, _, _, _, .nil, e => by simp at e
  | _, _, 0, _, .cons h _, e => by simp at e; subst e; exact ⟨_, _, rfl, rfl, h⟩
  | _, _, i + 1, v, .cons _ t, e => by
    obtain ⟨g, p, a, b, c⟩ := Tls.get (i := i) (v := v) t (by simpa using e)
    exact ⟨g, p, a, by simpa using b, c⟩
theorem Tls.mono {k k' : Nat} (hk : k ≤ k') : ∀ {gs ps}, Tls P w K mg base k gs ps → Tls P w K mg base k' gs ps
  | _, _, .nil => .nil
  | _, _, .cons h t => .cons (h.mono hk) (Tls.mono hk t)

/-! ### a table of tellers by words -/
inductive Tbl (P : Program) (w : World) (K : PySem.W.Frag) (mg : Str → Option Value) (base : Heap) (k : Nat) : List DictEntry → List (Str × List (D → Bool)) → Prop
  | nil : Tbl P w K mg base k [] []
  | cons {x : Str} {tk : Tok} {t : Addr} {gs : List V} {ps : List (D → Bool)} {es : List DictEntry} {tb : List (Str × List (D → Bool))} (hs : ∀ H : Hp, SqT K H t gs) (ht : Tls P w K mg base k gs ps) (r : Tbl P w K mg base k es tb) :
      Tbl P w K mg base k (⟨PyData.keyHash w.params x, .str x tk, .ref t⟩ :: es) ((x, ps) :: tb)
theorem Tbl.keys {k : Nat} : ∀ {es tb}, Tbl P w K mg base k es tb → PySem.W.KeysLit w.params es
  | _, _, .nil => trivial
  | _, _, .cons _ _ r => ⟨⟨_, _, rfl, rfl⟩, Tbl.keys r⟩
theorem Tbl.find {k : Nat} {x : Str} : ∀ {es tb}, Tbl P w K mg base k es tb → ∃ v, RelV v (((es.find? fun e => Value.isStrOf x e.key).map (·.val)).getD .none) ∧
    ((tb.lookup x = none ∧ v = .non) ∨ ∃ ps t gs, tb.lookup x = some ps ∧ v = .ref t ∧ (∀ H : Hp, SqT K H t gs) ∧ Tls P w K mg base k gs ps)
  | _, _, .nil => ⟨.non, rfl, .inl ⟨rfl, rfl⟩⟩
  | _, _, @Tbl.cons _ _ _ _ _ _ y tk t gs ps es tb hs ht r => by
    rw [List.find?_cons, List.lookup_cons]
    have e : Value.isStrOf x (Value.str y tk) = (x == y) := by
      show (y == x) = (x == y)
      rw [Bool.eq_iff_iff, beq_iff_eq, beq_iff_eq]
      exact eq_comm
    dsimp only
    rw [e]
    cases hx : x == y with
    | true => exact ⟨.ref t, rfl, .inr ⟨ps, t, gs, rfl, rfl, hs, ht⟩⟩
    | false => exact Tbl.find r
end
end Kp
set_option Elab.async false
set_option linter.all false
set_option maxRecDepth 100000
set_option maxHeartbeats 4000000
namespace Kp
open PySem

/-! ### tuples by tellers, things by their first word -/
/-! ### the law's -/
def one (p : D → Bool) : List D → Bool
  | [a] => p a
  | _ => false
def two (p q : D → Bool) : List D → Bool
  | [a, b] => p a && q b
  | _ => false
end Kp
set_option Elab.async false
set_option linter.all false
set_option maxRecDepth 100000
set_option maxHeartbeats 4000000
namespace K1
open PySem L2 Kp
def top (i : Nat) : Stmt := PySem.Challenge.pw_keeplog_k41_voices_given.main.body.getD i (.Pass ⟨0, 0, 0, 0⟩)
abbrev s_begun : Stmt := top 4
abbrev s_end_of : Stmt := top 5
abbrev s_entry_at : Stmt := top 6
abbrev s_term_at : Stmt := top 7
abbrev s_as_new : Stmt := top 9
abbrev s_agrees : Stmt := top 10
abbrev s_same_ahead : Stmt := top 12
abbrev s_filled : Stmt := top 13
abbrev s_fresh : Stmt := top 15
abbrev s_first_pack : Stmt := top 26
abbrev s_Keeper___init__ : Stmt := inClass (top 28) 0
abbrev s_Keeper_wake : Stmt := inClass (top 28) 1
abbrev s_Keeper_hear : Stmt := inClass (top 28) 2
abbrev s_Keeper_be_plain : Stmt := inClass (top 28) 3
abbrev s_Keeper_know_no_places : Stmt := inClass (top 28) 4
abbrev s_took_for_head : Stmt := top 30
abbrev s_held_letter : Stmt := top 31
abbrev s_know_agreed : Stmt := top 33
abbrev s_take_hand : Stmt := top 34
abbrev s_may_give : Stmt := top 36
abbrev s_take_ask : Stmt := top 37
abbrev sCell : Stmt := top 39
abbrev sMixed : Stmt := top 40
abbrev s__law_drawn : Stmt := top 41
abbrev s__law_given : Stmt := top 42
abbrev sLaw : Stmt := top 43
end K1
set_option Elab.async false
set_option linter.all false
set_option maxRecDepth 100000
namespace Kp
open PySem L2
theorem tiny {n : Nat} (h : n ≤ 1000) : n ≤ sizeLine := by rw [sizeLine_eq]; omega
section
variable {X : Cx} {es l : List Expr} {te : TE} {t u : TA} {p p' pos : Pos} {j : Nat}
theorem qa_n {x : Str} (ha : PE X (.Name x p) te) (r : QA X es t) : QA X (.Name x p :: es) (tCons te t) := ⟨pa_n ha r.h⟩
theorem qa_k {f : Expr} {as : List Expr} {ks : List Keyword} (ha : PE X (.Call f as ks p) te) (r : QA X es t) : QA X (.Call f as ks p :: es) (tCons te t) := ⟨pa_k ha r.h⟩
theorem qa_s {a b : Expr} (ha : PE X (.Subscript a b p) te) (r : QA X es t) : QA X (.Subscript a b p :: es) (tCons te t) := ⟨pa_s ha r.h⟩
theorem qa_b {o : Operator} {a b : Expr} (ha : PE X (.BinOp a o b p) te) (r : QA X es t) : QA X (.BinOp a o b p :: es) (tCons te t) := ⟨pa_b ha r.h⟩
theorem qx_tup (a : QA X es t) : QE X (.Tuple es j p) (tTup t) := ⟨pe_tup a.h⟩
end
end Kp
set_option Elab.async false
set_option linter.all false
set_option maxRecDepth 100000
set_option maxHeartbeats 4000000
namespace Kp
open PySem L2
/-! ### displays of written things, by «things of at most 16 parts» -/
theorem PA.weak {X : Cx} {es : List Expr} {t t' : TA} (h : PA X es t) (w : ∀ σ H Q, t' σ H Q → t σ H Q) : PA X es t' := fun pos pins s σ H Q I q => h pos pins s σ H Q I (w σ H Q q)
def tAnyA (n : Nat) : TA := fun _ H Q => ∀ vs H', ThL 16 H' vs → vs.length = n → Same H H' → Q vs H'
structure DA (X : Cx) (es : List Expr) (n : Nat) : Prop where
  h : PA X es (tAnyA n)
section
variable {X : Cx} {es l : List Expr} {n m : Nat} {p p' : Pos} {j : Nat}
/-- a display of tuples alone -/
def TupV (H : Hp) (v : V) : Prop := ∃ a xs, v = .ref a ∧ H a = some (.tup xs) ∧ xs.length ≤ 16 ∧ ThL 16 H xs
theorem TupV.mono {H H' : Hp} {v : V} (h : TupV H v) (s : Same H H') : TupV H' v := let ⟨a, xs, e, ha, l, t⟩ := h; ⟨a, xs, e, s _ _ ha, l, t.mono (Nat.le_refl _) s⟩
def tTupA (n : Nat) : TA := fun _ H Q => ∀ vs H', (∀ v ∈ vs, TupV H' v) → vs.length = n → Same H H' → Q vs H'
structure DT (X : Cx) (es : List Expr) (n : Nat) : Prop where
  h : PA X es (tTupA n)
end
end Kp
set_option Elab.async false
set_option linter.all false
set_option maxRecDepth 100000
namespace Kp
open PySem L2
section
variable {es l : List Expr} {te : TE} {t u : TA} {p p' pos : Pos} {j : Nat}
/- written with @ and holes for the rest: what is under them is built first, and met with the goal at the end -/
theorem pss_p {X : Cx} {st : Stmt} {rest : List Stmt} {t u : TS} (h1 : PS X st t) (h2 : PSs X rest u) : PSs X (st :: rest) (tSeq t u) := pss_cons h1 h2
theorem pss_o {X : Cx} {st : Stmt} {t : TS} (h1 : PS X st t) : PSs X [st] t := pss_one h1
end
end Kp
set_option Elab.async false
set_option linter.all false
set_option maxRecDepth 100000
set_option maxHeartbeats 4000000
namespace L2
open PySem PySem.Spec PyProof.Rows
/-! ### for k, x in enumerate(list) -/
/-! ### sorted(list of texts), list.count(text) -/
section
variable {X : Cx}
end
end L2
set_option Elab.async false
set_option linter.all false
set_option maxRecDepth 100000
set_option maxHeartbeats 4000000
namespace Kp
open PySem

/-! ### rows by the alphabet -/
/-! ### the law's -/
end Kp
set_option Elab.async false
set_option linter.all false
set_option maxRecDepth 100000
set_option maxHeartbeats 4000000
namespace Kp
open PySem L2
/-! ### a comprehension whose items are known by a property only -/
/-- tuples stay -/
def SameT (H H' : Hp) : Prop := ∀ b xs, H b = some (.tup xs) → H' b = some (.tup xs)
/-- a short text -/
def ShortS (_ : Hp) (v : V) : Prop := ∃ x : Str, v = .str x ∧ x.length ≤ 16
theorem ShortS.list {H : Hp} : ∀ {ys : List V}, (∀ v ∈ ys, ShortS H v) → ∃ ws : List Str, ys = ws.map V.str ∧ ∀ x ∈ ws, x.length ≤ 16
  | [], _ => ⟨[], rfl, fun x hx => (List.not_mem_nil hx).elim⟩
  | y :: ys, h => by
    obtain ⟨x, rfl, hx⟩ := h y List.mem_cons_self
    obtain ⟨ws, rfl, hw⟩ := ShortS.list (fun v hv => h v (List.mem_cons_of_mem _ hv))
    exact ⟨x :: ws, rfl, fun z hz => by
      rcases List.mem_cons.mp hz with rfl | hz
      · exact hx
      · exact hw z hz⟩
theorem one_slot {t : St} (h : t.length = 1) : ∃ t0, t = [t0] := by
  match t, h with
  | [t0], _ => exact ⟨t0, rfl⟩
end Kp
set_option Elab.async false
set_option linter.all false
set_option maxRecDepth 100000
set_option maxHeartbeats 4000000
namespace L2
open PySem PySem.Spec PyProof.Rows
/-! ### lists of pairs as tables -/
section
variable {κ : Type} [DecidableEq κ]
def valV (kvs : List (κ × V)) (k : κ) : Option V := (kvs.find? fun kv => decide (kv.1 = k)).map (·.2)
/-- in its place, or at the end -/
def putK (kvs : List (κ × V)) (k : κ) (v : V) : List (κ × V) :=
  if (kvs.any fun kv => decide (kv.1 = k)) = true then kvs.map (fun kv => if kv.1 = k then (kv.1, v) else kv) else kvs ++ [(k, v)]
def dropK (kvs : List (κ × V)) (k : κ) : List (κ × V) := kvs.filter fun kv => decide (kv.1 ≠ k)

theorem valV_pos {p : κ × V} {r : List (κ × V)} {k : κ} (e : p.1 = k) : valV (p :: r) k = some p.2 := by simp [valV, List.find?_cons, e]
theorem valV_neg {p : κ × V} {r : List (κ × V)} {k : κ} (e : ¬ p.1 = k) : valV (p :: r) k = valV r k := by simp [valV, List.find?_cons, e]
theorem valV_any (k : κ) : ∀ kvs : List (κ × V), (kvs.any fun kv => decide (kv.1 = k)) = (valV kvs k).isSome
  | [] => rfl
  | p :: r => by
    rw [List.any_cons]
    by_cases e : p.1 = k
    · simp only [valV_pos e, decide_eq_true e, Bool.true_or, Option.isSome_some]
    · rw [valV_neg e, decide_eq_false e, Bool.false_or]; exact valV_any k r
theorem RelO.isSome_eq {o : Option V} {u : Option Value} (r : RelO o u) : o.isSome = u.isSome := by
  cases o with
  | none => cases u with
    | none => rfl
    | some _ => exact (show False from r).elim
  | some _ => cases u with
    | none => exact (show False from r).elim
    | some _ => rfl
theorem RelO.getD {o : Option V} {u : Option Value} {d : V} {d' : Value} (r : RelO o u) (rd : RelV d d') : RelV (o.getD d) (u.getD d') := by
  cases o with
  | none => cases u with
    | none => exact rd
    | some _ => exact (show False from r).elim
  | some _ => cases u with
    | none => exact (show False from r).elim
    | some _ => exact r

/-- raw tables of the same keys -/
theorem KV.val {kvs : List (κ × V)} {vs : List (κ × Value)} (r : KV kvs vs) (k : κ) : RelO (valV kvs k) (valueAt vs k) := by
  unfold KV at r
  induction r with
  | nil => exact True.intro
  | @cons p q ps qs h t ih =>
    obtain ⟨h1, h2⟩ := h
    by_cases e : p.1 = k
    · have e' : q.1 = k := h1.symm.trans e
      have b : valueAt (q :: qs) k = some q.2 := by simp [valueAt, List.find?_cons, e']
      rw [valV_pos e, b]; exact h2
    · have e' : ¬ q.1 = k := fun z => e (h1.trans z)
      have b : valueAt (q :: qs) k = valueAt qs k := by simp [valueAt, List.find?_cons, e']
      rw [valV_neg e, b]; exact ih
theorem KV.any {kvs : List (κ × V)} {vs : List (κ × Value)} (r : KV kvs vs) (k : κ) : (kvs.any fun kv => decide (kv.1 = k)) = vs.any fun kv => decide (kv.1 = k) := by
  unfold KV at r
  induction r with
  | nil => rfl
  | cons h t ih => rw [List.any_cons, List.any_cons, ih, h.1]
theorem KV.repl {kvs : List (κ × V)} {vs : List (κ × Value)} (r : KV kvs vs) (k : κ) {y : V} {u : Value} (ry : RelV y u) :
    KV (kvs.map fun kv => if kv.1 = k then (kv.1, y) else kv) (vs.map fun kv => if kv.1 = k then (kv.1, u) else kv) := by
  unfold KV at r ⊢
  induction r with
  | nil => exact .nil
  | @cons p q ps qs h t ih =>
    rw [List.map_cons, List.map_cons]
    refine .cons ?_ ih
    obtain ⟨h1, h2⟩ := h
    by_cases e : p.1 = k
    · rw [if_pos e, if_pos (h1.symm.trans e)]; exact ⟨h1, ry⟩
    · rw [if_neg e, if_neg (fun z => e (h1.trans z))]; exact ⟨h1, h2⟩
theorem KV.put {kvs : List (κ × V)} {vs : List (κ × Value)} (r : KV kvs vs) (k : κ) {y : V} {u : Value} (ry : RelV y u) : KV (putK kvs k y) (stored vs k u) := by
  unfold putK stored
  rw [r.any k]
  by_cases e : (vs.any fun kv => decide (kv.1 = k)) = true
  · rw [if_pos e, if_pos e]; exact r.repl k ry
  · rw [if_neg e, if_neg e]; exact Paired.snoc r ⟨rfl, ry⟩
theorem KV.drop {kvs : List (κ × V)} {vs : List (κ × Value)} (r : KV kvs vs) (k : κ) : KV (dropK kvs k) (without vs k) := by
  unfold KV at r ⊢
  unfold dropK without
  induction r with
  | nil => exact .nil
  | @cons p q ps qs h t ih =>
    obtain ⟨h1, h2⟩ := h
    rw [List.filter_cons, List.filter_cons]
    by_cases e : p.1 = k
    · have a : ¬ decide (p.1 ≠ k) = true := by simp [e]
      have b : ¬ decide (q.1 ≠ k) = true := by simp [h1.symm.trans e]
      rw [if_neg a, if_neg b]; exact ih
    · have e' : ¬ q.1 = k := fun z => e (h1.trans z)
      have a : decide (p.1 ≠ k) = true := by simp [e]
      have b : decide (q.1 ≠ k) = true := by simp [e']
      rw [if_pos a, if_pos b]; exact .cons ⟨h1, h2⟩ ih
theorem KV.keys {kvs : List (κ × V)} {vs : List (κ × Value)} (r : KV kvs vs) : kvs.map (·.1) = vs.map (·.1) := by
  unfold KV at r
  induction r with
  | nil => rfl
  | cons h t ih => rw [List.map_cons, List.map_cons, ih, h.1]
theorem KV.length {kvs : List (κ × V)} {vs : List (κ × Value)} (r : KV kvs vs) : kvs.length = vs.length := Paired.length r
end


/-! ### a tracked dict, its keys ints and texts or tuples of these -/
/-- raw entries of a dict with tuple keys -/
abbrev KT (H : Hp) : List (List Key × V) → List (List Key × Addr × Value) → Prop := Paired fun p q => p.1 = q.1 ∧ H q.2.1 = some (.tup (p.1.map kV)) ∧ RelV p.2 q.2.2
theorem KT.val {H : Hp} {kvs : List (List Key × V)} {xs : List (List Key × Addr × Value)} (r : KT H kvs xs) (k : List Key) : RelO (valV kvs k) ((atKey xs k).map (·.2)) := by
  induction r with
  | nil => exact True.intro
  | @cons p q ps qs h t ih =>
    obtain ⟨h1, _, h2⟩ := h
    by_cases e : p.1 = k
    · have e' : q.1 = k := h1.symm.trans e
      have b : atKey (q :: qs) k = some q.2 := by simp [atKey, List.find?_cons, e']
      rw [valV_pos e, b]; exact h2
    · have e' : ¬ q.1 = k := fun z => e (h1.trans z)
      have b : atKey (q :: qs) k = atKey qs k := by simp [atKey, List.find?_cons, e']
      rw [valV_neg e, b]; exact ih
theorem KT.repl {H : Hp} {kvs : List (List Key × V)} {xs : List (List Key × Addr × Value)} (r : KT H kvs xs) (k : List Key) {y : V} {u : Value} (ry : RelV y u) :
    KT H (kvs.map fun kv => if kv.1 = k then (kv.1, y) else kv) (xs.map (putAt k u)) := by
  induction r with
  | nil => exact .nil
  | @cons p q ps qs h t ih =>
    rw [List.map_cons, List.map_cons]
    refine .cons ?_ ih
    obtain ⟨h1, h2, h3⟩ := h
    unfold putAt
    by_cases e : p.1 = k
    · rw [if_pos e, if_pos (h1.symm.trans e)]; exact ⟨h1, h2, ry⟩
    · rw [if_neg e, if_neg (fun z => e (h1.trans z))]; exact ⟨h1, h2, h3⟩
theorem KT.put {H : Hp} {kvs : List (List Key × V)} {xs : List (List Key × Addr × Value)} (r : KT H kvs xs) (k : List Key) {b : Addr} {y : V} {u : Value} (hb : H b = some (.tup (k.map kV))) (ry : RelV y u) :
    KT H (putK kvs k y) (storedH xs k b u) := by
  have e : (kvs.any fun kv => decide (kv.1 = k)) = (atKey xs k).isSome := by
    rw [valV_any, (r.val k).isSome_eq, Option.isSome_map]
  unfold putK storedH
  rw [e]
  by_cases q : (atKey xs k).isSome = true
  · rw [if_pos q, if_pos q]; exact r.repl k ry
  · rw [if_neg q, if_neg q]; exact Paired.snoc r ⟨rfl, hb, ry⟩
theorem KT.keeps {H H' : Hp} {kvs : List (List Key × V)} {xs : List (List Key × Addr × Value)} (r : KT H kvs xs) (ht : ∀ b ys, H b = some (.tup ys) → H' b = some (.tup ys)) : KT H' kvs xs :=
  Paired.mapP r fun _ _ z => ⟨z.1, ht _ _ z.2.1, z.2.2⟩

section
variable {P : Program} {w : World} {H : Hp} {h : Heap} {a : Addr}
end

/-- what the dict at a holds at the key y -/
def DGet (H : Hp) (a : Addr) (y : V) (r : Option V) : Prop :=
  (∃ kvs k, Rd H a (.dK kvs) ∧ y = kV k ∧ r = valV kvs k) ∨ ∃ kvs k b, Rd H a (.dT kvs) ∧ y = .ref b ∧ H b = some (.tup (k.map kV)) ∧ r = valV kvs k
/-- the heap behind a[y] = v -/
def DPut (H : Hp) (a : Addr) (y v : V) (H' : Hp) : Prop :=
  (∃ kvs k, H a = some (.dK kvs) ∧ y = kV k ∧ kvs.length < sizeLine ∧ H' = upd H a (.dK (putK kvs k v))) ∨
  ∃ kvs k b, H a = some (.dT kvs) ∧ y = .ref b ∧ H b = some (.tup (k.map kV)) ∧ kvs.length < sizeLine ∧ H' = upd H a (.dT (putK kvs k v))
theorem DGet.k {H : Hp} {a : Addr} {kvs : List (Key × V)} {k : Key} (e : H a = some (.dK kvs)) : DGet H a (kV k) (valV kvs k) := .inl ⟨kvs, k, .inl e, rfl, rfl⟩
theorem DGet.t {H : Hp} {a b : Addr} {kvs : List (List Key × V)} {k : List Key} (e : H a = some (.dT kvs)) (eb : H b = some (.tup (k.map kV))) : DGet H a (.ref b) (valV kvs k) := .inr ⟨kvs, k, b, .inl e, rfl, eb, rfl⟩
theorem DPut.k {H : Hp} {a : Addr} {kvs : List (Key × V)} {k : Key} {v : V} (e : H a = some (.dK kvs)) (hl : kvs.length < sizeLine) : DPut H a (kV k) v (upd H a (.dK (putK kvs k v))) := .inl ⟨kvs, k, e, rfl, hl, rfl⟩
theorem DPut.t {H : Hp} {a b : Addr} {kvs : List (List Key × V)} {k : List Key} {v : V} (e : H a = some (.dT kvs)) (eb : H b = some (.tup (k.map kV))) (hl : kvs.length < sizeLine) :
    DPut H a (.ref b) v (upd H a (.dT (putK kvs k v))) := .inr ⟨kvs, k, b, e, rfl, eb, hl, rfl⟩


section
variable {X : Cx} {pins : List (Addr × Obj)} {σ : St} {H : Hp} {s : Shared} {a : Addr} {y v : V} {u r : Value} {o : Option V} {A : Around} {E : Value → Shared → Prop}

end

section
variable {X : Cx} {pins : List (Addr × Obj)} {σ : St} {H : Hp} {s : Shared} {a : Addr} {kvs : List (Key × V)} {k : Key} {u : Value} {A : Around} {E : Value → Shared → Prop}
end


/-! ### readings and rules -/
section
variable {X : Cx} {o i e value : Expr} {pos pos' tpos : Pos} {td ty tv : TE}
end


/-! ### displays -/
section
variable {X : Cx} {pos : Pos}
end

end L2
set_option Elab.async false
set_option linter.all false
set_option maxRecDepth 100000
set_option maxHeartbeats 4000000
namespace Kp
open PySem L2 PySem.Spec PyProof.Rows
end Kp
set_option Elab.async false
set_option linter.all false
set_option maxRecDepth 100000
set_option maxHeartbeats 4000000
namespace Kp
open PySem L2
/-! ### things without lists: they stay while tuples stay -/
mutual
inductive ThN (B : Nat) (H : Hp) : V → Prop
  | non : ThN B H .non
  | bl (b : Bool) : ThN B H (.bl b)
  | int (i : Int) : ThN B H (.int i)
  | str (x : Str) (h : x.length ≤ B) : ThN B H (.str x)
  | tup {a : Addr} {vs : List V} (e : H a = some (.tup vs)) (l : vs.length ≤ B) (r : ThNL B H vs) : ThN B H (.ref a)
inductive ThNL (B : Nat) (H : Hp) : List V → Prop
  | nil : ThNL B H []
  | cons {v : V} {vs : List V} (h : ThN B H v) (t : ThNL B H vs) : ThNL B H (v :: vs)
end
mutual
theorem ThN.sameT {B B' : Nat} {H H' : Hp} (hB : B ≤ B') (s : SameT H H') : ∀ {v}, ThN B H v → ThN B' H' v
  | _, .non => .non
  | _, .bl b => .bl b
  | _, .int i => .int i
  | _, .str x h => .str x (Nat.le_trans h hB)
  | _, .tup e l r => .tup (s _ _ e) (Nat.le_trans l hB) (ThNL.sameT hB s r)
theorem ThNL.sameT {B B' : Nat} {H H' : Hp} (hB : B ≤ B') (s : SameT H H') : ∀ {vs}, ThNL B H vs → ThNL B' H' vs
  | _, .nil => .nil
  | _, .cons h t => .cons (ThN.sameT hB s h) (ThNL.sameT hB s t)
end
mutual
theorem ThN.th {B : Nat} {H : Hp} : ∀ {v}, ThN B H v → Th B H v
  | _, .non => Th.non
  | _, .bl b => Th.bl b
  | _, .int i => Th.int i
  | _, .str x h => Th.str x h
  | _, .tup e l r => Th.tup e l (ThNL.th r)
theorem ThNL.th {B : Nat} {H : Hp} : ∀ {vs}, ThNL B H vs → ThL B H vs
  | _, .nil => ThL.nil
  | _, .cons h t => ThL.cons (ThN.th h) (ThNL.th t)
end
theorem sameT_of {H H' : Hp} (s : Same H H') : SameT H H' := fun b xs e => s _ _ e
theorem ThN.mono {B B' : Nat} {H H' : Hp} {v : V} (h : ThN B H v) (hB : B ≤ B') (s : Same H H') : ThN B' H' v := ThN.sameT hB (sameT_of s) h
theorem ThNL.mono {B B' : Nat} {H H' : Hp} {v : List V} (h : ThNL B H v) (hB : B ≤ B') (s : Same H H') : ThNL B' H' v := ThNL.sameT hB (sameT_of s) h
theorem ThNL.ints {B : Nat} {H : Hp} : ∀ (ns : List Int), ThNL B H (ns.map V.int)
  | [] => .nil
  | n :: r => .cons (.int n) (ThNL.ints r)
theorem ThNL.of {B : Nat} {H : Hp} : ∀ {vs : List V}, (∀ v ∈ vs, ThN B H v) → ThNL B H vs
  | [], _ => .nil
  | v :: vs, h => .cons (h v List.mem_cons_self) (ThNL.of fun u hu => h u (List.mem_cons_of_mem _ hu))
end Kp
set_option Elab.async false
set_option linter.all false
set_option maxRecDepth 100000
set_option maxHeartbeats 4000000
namespace HT
open PySem PySem.Spec PyProof.Rows L2
section
variable {prog : Program} {w : World} {A : Around} {E : Value → Shared → Prop} {s : Shared}
theorem getItem_tuple_whole {t sl : Addr} {items : Array Value} {vl vu : Value} {lo hi : Option Int} {Q : Value → Shared → Prop} (ht : IsTup s.heap t items) (hs : s.heap.IsSliceOf sl vl vu .none) (pl : IsPart vl lo) (pu : IsPart vu hi)
    (hw : sIx items.size 0 lo = 0 ∧ sIx items.size items.size hi = items.size) (h : Q (.ref t) s) : wpAny (model prog w) A (getItem (.ref t) (.ref sl)) Q E s := by
  obtain ⟨os, hos, hcs, hds⟩ := id hs
  have hTs : s.TypeIs (.ref sl) "slice" := ⟨os, hos, hcs⟩
  unfold getItem
  try with_reducible refine wpAny_holding ?_
  first | refine wpAny_bind (wpAny_pure ?_) | skip
  refine wpAny_bind (wpAny_sequenceKey ht.typeIs (by decide) ?_)
  refine wpAny_bind (wpAny_callSpecial?_slot (name := Str.ofString "__getitem__") ht.typeIs PyProof.Rows.slot_tuple_getitem
    (wpAny_call_entry PyProof.Rows.slot_tuple_getitem ht.typeIs entry_tuple_getitem ?_ (args_tuple_getitem _ _)))
  show wpAny _ _ (Builtin.Tuple.tupleItemsOf (.ref t) >>= _) _ _ s
  refine wpAny_bind (tupleItemsOf_ ht ?_)
  refine wpAny_bind (wpAny_typeOf hTs ?_)
  rw [if_pos (by decide)]
  refine wpAny_bind (sliceApplied_gen hs pl pu ?_)
  have hyes : (((sIx items.size 0 lo : Nat) : Int) == 0 && (1 : Int) == 1 && (sIx items.size items.size hi - sIx items.size 0 lo) == items.size) = true := by
    rw [hw.1, hw.2]; simp
  show wpAny _ _ (if (((sIx items.size 0 lo : Nat) : Int) == 0 && (1 : Int) == 1 && (sIx items.size items.size hi - sIx items.size 0 lo) == items.size) = true then _ else _) _ _ s
  rw [if_pos hyes]
  refine wpAny_bind (m := Builtin.Tuple.tupleIsExact _) (wpAny_bind (wpAny_typeOf ht.typeIs (wpAny_pure ?_)))
  rw [if_pos (by decide)]
  refine wpAny_bind (wpAny_rule ?_)
  first
    | exact wpAny_bind (wpAny_pure (wpAny_pure ⟨_, rfl, wpAny_pure h⟩))
    | exact wpAny_pure ⟨_, rfl, wpAny_pure h⟩
    | exact wpAny_bind (wpAny_pure ⟨_, rfl, wpAny_pure h⟩)
end
end HT
namespace L2
open PySem PySem.Spec PyProof.Rows L2
theorem cutV_whole {xs : List V} {lo hi : Option Int} (h1 : HT.sIx xs.length 0 lo = 0) (h2 : HT.sIx xs.length xs.length hi = xs.length) : cutV xs lo hi = xs := by
  unfold cutV; rw [h1, h2]; simp
end L2
set_option Elab.async false
set_option linter.all false
set_option maxRecDepth 100000
set_option maxHeartbeats 4000000
namespace Kp
open PySem L2 PySem.Spec PyProof.Rows
/-! ### the same thing twice: == -/
theorem all_true (n : Nat) : ((List.range n).all fun _ => true) = true := by simp
theorem Vals.at {xs : List V} {us : List Value} (r : Vals xs us) {j : Nat} (h : j < us.toArray.size) : ∃ x, xs[j]? = some x ∧ RelV x us.toArray[j] := by
  have h' : j < us.length := by simpa using h
  have hx : j < xs.length := by rw [r.length]; exact h'
  obtain ⟨u, e, rv⟩ := r.get (i := j) (x := xs[j]) (by simp [hx])
  have e2 : us.toArray[j] = u := by
    have := (List.getElem?_eq_some_iff.mp e).2
    simpa using this
  exact ⟨xs[j], by simp [hx], e2 ▸ rv⟩
end Kp
set_option Elab.async false
set_option linter.all false
set_option maxRecDepth 100000
set_option maxHeartbeats 4000000
namespace K1
open PySem L2 Kp
structure Txt (mg : Str → Option Value) : Prop where
  isi : mg "isinstance" = none
  int : mg "int" = none
  bool : mg "bool" = none
  str : mg "str" = none
  tuple : mg "tuple" = none
  list : mg "list" = none
  all : mg "all" = none
  zip : mg "zip" = none
  len : mg "len" = none
  range : mg "range" = none
  max : mg "max" = none
  min : mg "min" = none
  sorted : mg "sorted" = none
  any : mg "any" = none
  sum : mg "sum" = none
section
variable {P : Program} {w : World} {K : PySem.W.Frag} {mg : Str → Option Value} {base : Heap}
theorem SqT.same {H H' : Hp} {a : Addr} {xs : List V} (h : SqT K H a xs) (s : Same H H') : SqT K H' a xs := by
  rcases h with h | h
  · exact .inl (h.elim (fun e => .inl (s _ _ e)) fun ⟨o, e⟩ => .inr ⟨o, s _ _ e⟩)
  · exact .inr h
theorem SqL.same {H H' : Hp} {a : Addr} {xs : List V} (h : SqL K H a xs) (s : Same H H') : SqL K H' a xs := by
  rcases h with h | h
  · exact .inl (h.elim (fun e => .inl (s _ _ e)) fun ⟨o, e⟩ => .inr ⟨o, s _ _ e⟩)
  · exact .inr h
theorem emod_in (x : Int) {m : Int} (h : 0 < m) : 0 ≤ x % m ∧ x % m < m := ⟨Int.emod_nonneg _ (Int.ne_of_gt h), Int.emod_lt_of_pos _ h⟩
end
end K1
set_option Elab.async false
set_option linter.all false
set_option maxRecDepth 100000
set_option maxHeartbeats 4000000
namespace L2
open PySem PySem.Spec PyProof.Rows
/-! ### rows of ints -/
def isInt (z : Int) : Value → Bool
  | .int i _ => i == z
  | _ => false
end L2
set_option Elab.async false
set_option linter.all false
set_option maxRecDepth 100000
set_option maxHeartbeats 4000000
namespace L2
open PySem PySem.Spec PyProof.Rows
/-! ### a tuple whose methods may be called: it has no dict of its own -/
def TupF (H : Hp) (a : Addr) (ys : List V) : Prop := ∃ o : Obj, H a = some (.frz o (.tup ys)) ∧ o.cls = .type "tuple" ∧ o.dict = none
theorem TupF.sq {K : PySem.W.Frag} {H : Hp} {a : Addr} {ys : List V} (h : TupF H a ys) : SqT K H a ys := by
  obtain ⟨o, e, _⟩ := h
  exact .inl (.inr ⟨o, e⟩)
section
variable {X : Cx}
variable {o e : Expr} {es : List Expr} {to : TE} {t : TA} {name : Str} {apos cpos : Pos} {id : String} {r : V → List V → Hp → VK → Prop}
end
end L2
set_option Elab.async false
set_option linter.all false
set_option maxRecDepth 100000
set_option maxHeartbeats 4000000
namespace L2
open PySem PySem.Spec PyProof.Rows
/-! ### rows of ints: remove, sorted -/
section
variable {X : Cx}
theorem ints_are : ∀ {xs : List Int} {us : List Value}, Vals (xs.map V.int) us → IntsAre us xs
  | [], _, h => by cases h; exact .nil
  | x :: xs, _, h => by
    cases h with
    | cons r t => obtain ⟨tk, rfl⟩ := r; exact .cons _ _ (ints_are t)
theorem ints_back : ∀ {xs : List Int} {us : List Value}, IntsAre us xs → Vals (xs.map V.int) us
  | [], _, h => by cases h; exact .nil
  | x :: xs, _, h => by
    cases h with
    | cons _ _ t => exact .cons ⟨_, rfl⟩ (ints_back t)
theorem call_sortedI : CallR X (.builtin "sorted") (fun xs H Q => ∃ (p : Addr) (ys : List Int), xs = [.ref p] ∧ SqL X.K H p (ys.map V.int) ∧ ys.length < 64 ∧ ∀ l (ys' : List Int), H l = none → ys'.Perm ys → ys'.Pairwise (· ≤ ·) → Q (.ref l) (upd H l (.lst (ys'.map V.int)))) := by
  intro pins s σ H xs us Q I r h
  obtain ⟨p, ys, rfl, hq, h64, q⟩ := h
  obtain ⟨u, rfl, rx⟩ := vals1 r
  cases rx
  obtain ⟨its, rv, pl, hz⟩ := I.list hq
  have hlen : its.length = ys.length := by rw [← rv.length, List.length_map]
  refine sorted_ints pl.isList (ints_are rv) (by omega) fun out ys' h1 h2 h3 => ?_
  obtain ⟨e, he⟩ := sortedAll_at s.heap its out
  have hl : ys'.length = ys.length := h2.length_eq
  have fr : H (s.heap.objs.size + 1) = none := I.hok.fresh (Nat.le_add_right s.heap.objs.size 1)
  refine ⟨.ref _, _, I.laid (t' := s.toks) (o := .lst (ys'.map V.int)) (fun b o => sortedAll_old) (Nat.le_add_right s.heap.objs.size 1) ⟨?_, out.toList, e, ints_back h1, by simpa using he⟩, rfl, q _ ys' fr h2 h3⟩
  rw [List.length_map, sizeLine_eq]; omega
end
end L2
namespace K1
open PySem L2 Kp
theorem PS.weakU {X : Cx} {st : Stmt} {t t' : TS} (h : PS X st t) (w : ∀ D σ H, t' D σ H → t D σ H) : PS X st t' := fun pins s σ H D I q => h pins s σ H D I (w D σ H q)
theorem boot_max : bootBuiltins "max" = some (.builtin "max") := by decide +kernel
end K1
set_option Elab.async false
set_option linter.all false
set_option maxRecDepth 100000
set_option maxHeartbeats 4000000
namespace L2
open PySem PySem.Spec PyProof.Rows
/-! ### two tuples of flat things compared -/
section
variable {X : Cx}
end
end L2
namespace K1
open PySem L2 Kp
theorem SqT.same' {K : PySem.W.Frag} {H H' : Hp} {a : Addr} {xs : List V} (h : SqT K H a xs) (s : Same H H') : SqT K H' a xs := by
  rcases h with h | h
  · exact .inl (h.elim (fun e => .inl (s _ _ e)) fun ⟨o, e⟩ => .inr ⟨o, s _ _ e⟩)
  · exact .inr h
theorem SqL.same' {K : PySem.W.Frag} {H H' : Hp} {a : Addr} {xs : List V} (h : SqL K H a xs) (s : Same H H') : SqL K H' a xs := by
  rcases h with h | h
  · exact .inl (h.elim (fun e => .inl (s _ _ e)) fun ⟨o, e⟩ => .inr ⟨o, s _ _ e⟩)
  · exact .inr h
end K1
set_option Elab.async false
set_option linter.all false
set_option maxRecDepth 100000
set_option maxHeartbeats 4000000
namespace Kp
open PySem L2 PySem.Spec PyProof.Rows
/-! ### a sort of fewer than 64 things whose keys are all unlike, by any kind of comparing -/
abbrev Ord := PyProof.Rows.KeyKind
section
variable {prog : Program} {w : World} {A : Around} {E : Value → Shared → Prop} {s : Shared} {a0 : Array Keyed} {κ : Ord} {kd : SortKind} {st : SortSt}
structure TB (κ : Ord) (kd : SortKind) (a0 : Array Keyed) (st : SortSt) : Prop where
  pm : (arrOf st).Perm a0
  kn : kindOf st = kd
  fl : failedOf st = none
  pe : pendingOf st = #[]
  un : ∀ i j, i < a0.size → j < a0.size → KK κ (arrOf st) i = KK κ (arrOf st) j → i = j
def Up (κ : Ord) (xs : Array Keyed) (k : Nat) : Prop := ∀ i j, i < j → j < k → κ.blt (KK κ xs i) (KK κ xs j) = true
def Dn (κ : Ord) (xs : Array Keyed) (k : Nat) : Prop := ∀ i j, i < j → j < k → κ.blt (KK κ xs j) (KK κ xs i) = true
theorem TB.sz (B : TB κ kd a0 st) : (arrOf st).size = a0.size := B.pm.size_eq
theorem TB.lt (B : TB κ kd a0 st) {i j : Nat} (hi : i < a0.size) (hj : j < a0.size) (hne : i ≠ j) (h : κ.blt (KK κ (arrOf st) i) (KK κ (arrOf st) j) = false) : κ.blt (KK κ (arrOf st) j) (KK κ (arrOf st) i) = true := by
  cases e : κ.blt (KK κ (arrOf st) j) (KK κ (arrOf st) i) with
  | true => rfl
  | false => exact absurd (B.un i j hi hj (κ.total _ _ h e)) hne
theorem Up.more (B : TB κ kd a0 st) {x : Nat} (h1 : 1 ≤ x) (hx : x < a0.size) (u : Up κ (arrOf st) x) (h : κ.blt (KK κ (arrOf st) x) (KK κ (arrOf st) (x - 1)) = false) : Up κ (arrOf st) (x + 1) := by
  intro i j hij hj
  by_cases hjx : j < x
  · exact u i j hij hjx
  · obtain rfl : j = x := by omega
    have t := B.lt hx (by omega) (by omega) h
    by_cases hi : i = j - 1
    · subst hi; exact t
    · exact κ.trans _ _ _ (u i (j - 1) (by omega) (by omega)) t
theorem Dn.more {x : Nat} {xs : Array Keyed} (h1 : 1 ≤ x) (u : Dn κ xs x) (h : κ.blt (KK κ xs x) (KK κ xs (x - 1)) = true) : Dn κ xs (x + 1) := by
  intro i j hij hj
  by_cases hjx : j < x
  · exact u i j hij hjx
  · obtain rfl : j = x := by omega
    by_cases hi : i = j - 1
    · subst hi; exact h
    · exact κ.trans _ _ _ h (u i (j - 1) (by omega) (by omega))
def TD (κ : Ord) (a0 : Array Keyed) (st : SortSt) : Prop := (arrOf st).Perm a0 ∧ failedOf st = none ∧ pendingOf st = #[(0, a0.size, 0)] ∧ Up κ (arrOf st) a0.size
theorem TB.td (B : TB κ kd a0 st) (u : Up κ (arrOf st) a0.size) : TD κ a0 (setPending st ((pendingOf st).push (0, a0.size, 0))) :=
  ⟨B.pm, B.fl, by show (pendingOf st).push _ = _; rw [B.pe]; rfl, u⟩
end
end Kp
set_option Elab.async false
set_option linter.all false
set_option maxRecDepth 100000
set_option maxHeartbeats 4000000
namespace Kp
open PySem L2 PySem.Spec PyProof.Rows
/-! ### sorted(list of tuples that begin with unlike texts) -/
def TupS (h : Heap) (v : Value) (k : Str) : Prop := ∃ (p : Addr) (t : Tok) (xs : List Value), v = .ref p ∧ h.IsTuple p (Value.str k t :: xs).toArray
theorem TupS.kept {h h' : Heap} {v : Value} {k : Str} (x : TupS h v k) (o : ∀ b u, h.get? b = some u → h'.get? b = some u) : TupS h' v k := by
  obtain ⟨p, t, xs, rfl, u, hu, e⟩ := x
  exact ⟨p, t, xs, rfl, u, o _ _ hu, e⟩
section
variable {prog : Program} {w : World} {A : Around} {E : Value → Shared → Prop} {s : Shared}
end
end Kp
set_option Elab.async false
set_option linter.all false
set_option maxRecDepth 100000
set_option maxHeartbeats 4000000
namespace Kp
open PySem L2 PySem.Spec PyProof.Rows
/-- the key of a tuple: its first text, in a heap -/
def headOf (h : Heap) : Value → Option (List Nat)
  | .ref p => match h.get? p with
    | some ⟨_, _, .seq xs _, _⟩ => match (xs[0]? : Option Value) with
      | some (.str k _) => some k.cps.toList
      | _ => none
    | _ => none
  | _ => none
theorem TupS.key {h : Heap} {v : Value} {k : Str} (x : TupS h v k) : headOf h v = some k.cps.toList := by
  obtain ⟨p, t, xs, rfl, ⟨cls, dd, data, sl⟩, ho, hc, n, hd⟩ := x
  simp only at hd
  subst hd
  unfold headOf
  simp only [ho]
  rfl
section
variable {prog : Program} {w : World} {A : Around} {E : Value → Shared → Prop} {s : Shared}
end
end Kp
set_option Elab.async false
set_option linter.all false
set_option maxRecDepth 100000
set_option maxHeartbeats 4000000
namespace Kp
open PySem L2 PySem.Spec PyProof.Rows
/-- a text before another by the alphabet -/
def before (a b : Str) : Prop := a.cps.toList < b.cps.toList
section
variable {X : Cx}
end
end Kp
set_option Elab.async false
set_option linter.all false
set_option maxRecDepth 100000
set_option maxHeartbeats 4000000
namespace Kp
open PySem L2 PySem.Spec PyProof.Rows
/-! ### sorted(dict of texts), sorted(list of texts): rising -/
section
variable {X : Cx}
end
end Kp
set_option Elab.async false
set_option linter.all false
set_option maxRecDepth 100000
set_option maxHeartbeats 4000000
namespace L2
open PySem PySem.Spec PyProof.Rows
/-! ### t + u of two tuples, however they are known -/
/-- a slice of a tuple that is tracked -/
def rSlV : V → Option Int → Option Int → Hp → VK → Prop := fun x lo hi H Q => ∃ a xs, x = .ref a ∧ H a = some (.tup xs) ∧ ∀ p H', H' p = some (.tup (cutV xs lo hi)) → Same H H' → Q (.ref p) H'
theorem sl_tupV {X : Cx} : SlR X rSlV := by
  intro pins s σ H x v vl vu lo hi sl Q I rx hs pl pu h
  obtain ⟨a, xs, rfl, hx, q⟩ := h
  by_cases hw : HT.sIx xs.length 0 lo = 0 ∧ HT.sIx xs.length xs.length hi = xs.length
  · cases rx
    obtain ⟨its, r, ht, hz⟩ := I.tuple (SqT.of hx)
    have hlen : its.toArray.size = xs.length := by rw [List.size_toArray]; exact r.length.symm
    refine ⟨"tuple", _, PyProof.Rows.slot_tuple_getitem.lookup, ht.typeIs, ?_⟩
    refine HT.getItem_tuple_whole ht hs pl pu (by rw [hlen]; exact hw) ⟨.ref a, H, I, rfl, q a H (by rw [cutV_whole hw.1 hw.2]; exact hx) (Same.refl _)⟩
  · exact sl_tup pins s σ H _ _ vl vu lo hi sl Q I rx hs pl pu ⟨a, xs, rfl, SqT.of hx, hw, fun p hp => q p _ upd_same (Kp.same_upd hp)⟩
end L2
namespace K1
open PySem L2 Kp
theorem drop_min {α : Type} (xs : List α) (k : Nat) : xs.drop (min k xs.length) = xs.drop k := by
  by_cases h : k ≤ xs.length
  · rw [Nat.min_eq_left h]
  · rw [Nat.min_eq_right (by omega), List.drop_length, List.drop_eq_nil_of_le (by omega)]
theorem take_min {α : Type} (xs : List α) (k : Nat) : xs.take (min k xs.length) = xs.take k := by
  by_cases h : k ≤ xs.length
  · rw [Nat.min_eq_left h]
  · rw [Nat.min_eq_right (by omega), List.take_length, List.take_of_length_le (by omega)]
theorem cut_toN (xs : List V) (k : Nat) : cutV xs none (some (k : Int)) = xs.take k := by
  unfold cutV; rw [HT.sIx_nat, HT.sIx_none, List.drop_zero, Nat.sub_zero, take_min]
theorem cut_fromN (xs : List V) (k : Nat) : cutV xs (some (k : Int)) none = xs.drop k := by
  unfold cutV; rw [HT.sIx_nat, HT.sIx_none, drop_min]
  exact List.take_of_length_le (by rw [List.length_drop]; omega)
/-! ### rows: a base, a last term, entries with their terms -/
inductive Ents (H : Hp) : List V → List Int → Prop
  | nil : Ents H [] []
  | cons {p : Addr} {x : V} {t : Int} {vs : List V} {ts : List Int} : H p = some (.tup [.int t, x]) → ThN 16 H x → Ents H vs ts → Ents H (.ref p :: vs) (t :: ts)
theorem Ents.same {H H' : Hp} (s : Same H H') : ∀ {vs ts}, Ents H vs ts → Ents H' vs ts
  | _, _, .nil => .nil
  | _, _, .cons e t r => .cons (s _ _ e) (t.mono (Nat.le_refl _) s) (Ents.same s r)
theorem Ents.length {H : Hp} : ∀ {vs ts}, Ents H vs ts → vs.length = ts.length
  | _, _, .nil => rfl
  | _, _, .cons _ _ r => by rw [List.length_cons, List.length_cons, Ents.length r]
theorem Ents.append {H : Hp} : ∀ {vs ts us rs}, Ents H vs ts → Ents H us rs → Ents H (vs ++ us) (ts ++ rs)
  | _, _, _, _, .nil, r => r
  | _, _, _, _, .cons e t r, q => .cons e t (Ents.append r q)
theorem Ents.get {H : Hp} : ∀ {vs : List V} {ts : List Int} {i : Nat} (h : i < ts.length), Ents H vs ts → ∃ p x, vs[i]? = some (.ref p) ∧ H p = some (.tup [.int ts[i], x]) ∧ ThN 16 H x
  | _, _, _, h, .nil => absurd h (Nat.not_lt_zero _)
  | _, _, 0, _, .cons e t _ => ⟨_, _, rfl, e, t⟩
  | _, _, i + 1, h, .cons _ _ r => Ents.get (i := i) (by simpa using h) r
theorem Ents.take {H : Hp} : ∀ {vs : List V} {ts : List Int} (n : Nat), Ents H vs ts → Ents H (vs.take n) (ts.take n)
  | _, _, 0, _ => by rw [List.take_zero, List.take_zero]; exact .nil
  | _, _, _ + 1, .nil => .nil
  | _, _, n + 1, .cons e t r => .cons e t (Ents.take n r)
theorem Ents.drop {H : Hp} : ∀ {vs : List V} {ts : List Int} (n : Nat), Ents H vs ts → Ents H (vs.drop n) (ts.drop n)
  | _, _, 0, r => r
  | _, _, _ + 1, .nil => .nil
  | _, _, n + 1, .cons _ _ r => Ents.drop n r
structure RowX (K : PySem.W.Frag) (H : Hp) (v : V) (b l : Int) (es : List V) (ts : List Int) : Prop where
  ex : ∃ rb c, v = .ref rb ∧ H rb = some (.tup [.int b, .int l, .ref c]) ∧ H c = some (.tup es)
  ents : Ents H es ts
  few : ts.length ≤ 900
theorem RowX.same {K : PySem.W.Frag} {H H' : Hp} {v : V} {b l : Int} {es : List V} {ts : List Int} (r : RowX K H v b l es ts) (s : Same H H') : RowX K H' v b l es ts :=
  let ⟨rb, c, e, h1, h2⟩ := r.ex
  ⟨⟨rb, c, e, s _ _ h1, s _ _ h2⟩, r.ents.same s, r.few⟩
def RowV (K : PySem.W.Frag) (H : Hp) (v : V) (b l : Int) (ts : List Int) : Prop := ∃ es, RowX K H v b l es ts
theorem RowV.same {K : PySem.W.Frag} {H H' : Hp} {v : V} {b l : Int} {ts : List Int} (r : RowV K H v b l ts) (s : Same H H') : RowV K H' v b l ts :=
  let ⟨es, x⟩ := r
  ⟨es, x.same s⟩
theorem ndec {p : Prop} [Decidable p] (h : ¬ decide p = true) : ¬ p := fun g => h (decide_eq_true g)
theorem getD_at {ts : List Int} {i : Nat} (h : i < ts.length) : ts.getD i 0 = ts[i] := by simp [h]
/-- the term at the end -/
def endT (l : Int) (ts : List Int) : Int := ts.getLastD l
def endP (b : Int) (ts : List Int) : Int := b + (ts.length : Int)
def asNewB (t p b l : Int) (ts : List Int) : Bool := decide (endT l ts < t) || (decide (t = endT l ts) && decide (endP b ts ≤ p))
def spAsNew (K : PySem.W.Frag) : Sp := fun vs H Q _ => ∃ (v : V) (t p b l : Int) (ts : List Int), vs = [.int t, .int p, v] ∧ RowV K H v b l ts ∧ ∀ H', Same H H' → Q (.bl (asNewB t p b l ts)) H'
/-- the term at a place from base to the end -/
def termAt (b l : Int) (ts : List Int) (p : Int) : Int := if p = b then l else ts.getD (p - b - 1).toNat 0
def agreesB (b l : Int) (ts : List Int) (p t : Int) : Bool := decide (p < b) || (decide (p ≤ endP b ts) && decide (termAt b l ts p = t))
theorem termAt_end (b l : Int) (ts : List Int) : termAt b l ts (endP b ts) = endT l ts := by
  unfold termAt endP endT
  rcases List.eq_nil_or_concat ts with rfl | ⟨r, x, rfl⟩
  · simp
  · have hl : (r.concat x).length = r.length + 1 := by simp
    have e : (b + ((r.concat x).length : Int) - b - 1).toNat = r.length := by rw [hl]; omega
    rw [if_neg (by rw [hl]; omega), e]
    simp
def spEndOf (K : PySem.W.Frag) : Sp := fun vs H Q _ => ∃ (v : V) (b l : Int) (ts : List Int), vs = [v] ∧ RowV K H v b l ts ∧ Q (.int (endP b ts)) H
def spEntIn (K : PySem.W.Frag) : Sp := fun vs H Q _ => ∃ (v : V) (b l : Int) (es : List V) (ts : List Int) (p : Int), vs = [v, .int p] ∧ RowX K H v b l es ts ∧ b < p ∧ p ≤ endP b ts ∧ ∀ e, es[(p - b - 1).toNat]? = some e → Q e H
def spTermIn (K : PySem.W.Frag) : Sp := fun vs H Q _ => ∃ (v : V) (b l : Int) (ts : List Int) (p : Int), vs = [v, .int p] ∧ RowV K H v b l ts ∧ b ≤ p ∧ p ≤ endP b ts ∧ Q (.int (termAt b l ts p)) H
def spAgrees (K : PySem.W.Frag) : Sp := fun vs H Q _ => ∃ (v : V) (t p b l : Int) (ts : List Int), vs = [v, .int p, .int t] ∧ RowV K H v b l ts ∧ Q (.bl (agreesB b l ts p t)) H
end K1
set_option Elab.async false
set_option linter.all false
set_option maxRecDepth 100000
set_option maxHeartbeats 4000000
namespace Kp
open PySem L2 PySem.Spec PyProof.Rows
/-! ### things that are the same at every part, however they are known: == is True -/
inductive Alike (K : PySem.W.Frag) (H : Hp) : Nat → V → V → Prop
  | flat {n : Nat} {v : V} (h : flatV v = true) : Alike K H n v v
  | ref {n : Nat} (a : Addr) : Alike K H n (.ref a) (.ref a)
  | tup {n : Nat} {a b : Addr} {xs ys : List V} (h1 : SqT K H a xs) (h2 : SqT K H b ys) (hl : xs.length = ys.length) (h : ∀ (i : Nat) (x y : V), xs[i]? = some x → ys[i]? = some y → Alike K H n x y) : Alike K H (n + 1) (.ref a) (.ref b)
theorem Alike.self {K : PySem.W.Frag} {H : Hp} {n B : Nat} {v : V} (t : ThN B H v) : Alike K H n v v := by
  cases t with
  | tup e l r => exact .ref _
  | _ => exact .flat rfl
theorem eqV_self {v : V} (h : flatV v = true) : eqV v v = true := by
  cases v with
  | bl b => cases b <;> rfl
  | int i => simp [eqV]
  | str x => simp [eqV]
  | non => rfl
  | _ => cases h
theorem eq_alike {X : Cx} {pins : List (Addr × Obj)} {σ : L2.St} {H : Hp} {s : Shared} (I : Inv X pins σ H s) : ∀ (n : Nat) (v u : V) (uv uu : Value) (A : Around), Alike X.K H n v u → RelV v uv → RelV u uu → A.units + n < cLine → SeqAt.EqAt A s uv uu true := by
  intro n
  induction n with
  | zero =>
    intro v u uv uu A h rv ru hu
    cases h with
    | flat f =>
      have := eqAt_V (A := A) (s := s) rv ru f f
      rw [eqV_self f] at this
      exact this
    | ref a => cases rv; cases ru; exact .same _
  | succ n ih =>
    intro v u uv uu A h rv ru hu
    cases h with
    | flat f =>
      have := eqAt_V (A := A) (s := s) rv ru f f
      rw [eqV_self f] at this
      exact this
    | ref a => cases rv; cases ru; exact .same _
    | @tup _ a b xs ys h1 h2 hl h =>
      cases rv
      cases ru
      by_cases hab : a = b
      · subst hab; exact .same _
      · refine SeqAt.EqAt.of_refs hab ?_
        have hu0 : A.units < cLine := by omega
        obtain ⟨its, q1, p1, _⟩ := I.tuple h1
        obtain ⟨jts, q2, p2, _⟩ := I.tuple h2
        have hl2 : its.toArray.size = jts.toArray.size := by simp [← q1.length, ← q2.length, hl]
        have z := SeqAt.RcAt.tuples (e := fun _ => true) (show s.heap.IsTuple a its.toArray from p1) (show s.heap.IsTuple b jts.toArray from p2) hu0 (fun j g1 g2 => by
          obtain ⟨x, ex, rx⟩ := Vals.at q1 g1
          obtain ⟨y, ey, ry⟩ := Vals.at q2 g2
          exact ih x y _ _ A.in1 (h j x y ex ey) rx ry (by show A.units + 1 + n < cLine; omega))
        rw [all_true, hl2, beq_self_eq_true] at z
        exact z
def rAl (K : PySem.W.Frag) (c : Bool) : R2 := fun x y H Q => ∃ p q xs ys n, x = .ref p ∧ y = .ref q ∧ SqT K H p xs ∧ SqT K H q ys ∧ xs.length = ys.length ∧ (∀ (i : Nat) (x y : V), xs[i]? = some x → ys[i]? = some y → Alike K H n x y) ∧ n ≤ 90 ∧ Q (.bl c) H
def rAlL (K : PySem.W.Frag) (c : Bool) : R2 := fun x y H Q => ∃ p q xs ys n, x = .ref p ∧ y = .ref q ∧ SqL K H p xs ∧ SqL K H q ys ∧ xs.length = ys.length ∧ (∀ (i : Nat) (x y : V), xs[i]? = some x → ys[i]? = some y → Alike K H n x y) ∧ n ≤ 90 ∧ Q (.bl c) H
theorem op_eqA {X : Cx} (hu : X.A.units + 100 < cLine) : OpR X (compareOp .Eq) (rAl X.K true) := by
  intro pins s σ H x y v u Q I rx ry h
  obtain ⟨p, q', xs, ys, n, rfl, rfl, h1, h2, hl, h, hn, q⟩ := h
  cases rx
  cases ry
  obtain ⟨its, q1, p1, _⟩ := I.tuple h1
  obtain ⟨jts, q2, p2, _⟩ := I.tuple h2
  have hl2 : its.toArray.size = jts.toArray.size := by simp [← q1.length, ← q2.length, hl]
  refine SeqAt.eq_tupleAt (e := fun _ => true) (show s.heap.IsTuple p its.toArray from p1) (show s.heap.IsTuple q' jts.toArray from p2) (by omega) (fun j g1 g2 => ?_) ⟨.bl true, H, I, ?_, q⟩
  · obtain ⟨x, ex, rx⟩ := Vals.at q1 g1
    obtain ⟨y, ey, ry⟩ := Vals.at q2 g2
    exact eq_alike I n x y _ _ X.A.in1 (h j x y ex ey) rx ry (by show X.A.units + 1 + n < cLine; omega)
  · rw [all_true, hl2, beq_self_eq_true]; rfl
theorem op_neA {X : Cx} (hu : X.A.units + 100 < cLine) : OpR X (compareOp .NotEq) (rAl X.K false) := by
  intro pins s σ H x y v u Q I rx ry h
  obtain ⟨p, q', xs, ys, n, rfl, rfl, h1, h2, hl, h, hn, q⟩ := h
  cases rx
  cases ry
  obtain ⟨its, q1, p1, _⟩ := I.tuple h1
  obtain ⟨jts, q2, p2, _⟩ := I.tuple h2
  have hl2 : its.toArray.size = jts.toArray.size := by simp [← q1.length, ← q2.length, hl]
  refine SeqAt.RcNeAt.tuples (e := fun _ => true) (show s.heap.IsTuple p its.toArray from p1) (show s.heap.IsTuple q' jts.toArray from p2) (by omega) (fun j g1 g2 => ?_) X.prog X.w X.xe _ ⟨.bl false, H, I, ?_, q⟩
  · obtain ⟨x, ex, rx⟩ := Vals.at q1 g1
    obtain ⟨y, ey, ry⟩ := Vals.at q2 g2
    exact eq_alike I n x y _ _ X.A.in1 (h j x y ex ey) rx ry (by show X.A.units + 1 + n < cLine; omega)
  · rw [all_true, hl2, beq_self_eq_true]; rfl
theorem op_neAL {X : Cx} (hu : X.A.units + 100 < cLine) : OpR X (compareOp .NotEq) (rAlL X.K false) := by
  intro pins s σ H x y v u Q I rx ry h
  obtain ⟨p, q', xs, ys, n, rfl, rfl, h1, h2, hl, h, hn, q⟩ := h
  cases rx
  cases ry
  obtain ⟨its, q1, p1, _⟩ := I.list h1
  obtain ⟨jts, q2, p2, _⟩ := I.list h2
  refine SeqAt.RcNeAt.lists (e := fun _ => true) p1.isList p2.isList (by simp [← q1.length, ← q2.length, hl]) (by omega) (fun j g1 g2 => ?_) _ _ _ _ ⟨.bl false, H, I, ?_, q⟩
  · obtain ⟨x, ex, rx⟩ := Vals.at q1 g1
    obtain ⟨y, ey, ry⟩ := Vals.at q2 g2
    exact eq_alike I n x y _ _ X.A.in1 (h j x y ex ey) rx ry (by show X.A.units + 1 + n < cLine; omega)
  · rw [all_true]; rfl
end Kp
namespace L2
open PySem
theorem Room.units100 {k : Nat} {A : Around} (r : Room k A) : A.units + 100 < cLine := by have := r.un; omega
end L2
set_option Elab.async false
set_option linter.all false
set_option maxRecDepth 100000
set_option maxHeartbeats 1000000
namespace L2
open PySem PySem.Spec PyProof.Rows
/-! ### max of a list of ints; min of one, with a default -/
section
variable {prog : Program} {w : World} {A : Around} {R : Result → Shared → Prop} {it : Addr} {fp wr : List Addr} {n : Nat} {Pv : Nat → Value → Prop} {St : Nat → Heap → Prop} {dv : Value}
end
section
variable {X : Cx}
end
theorem boot_min : bootBuiltins "min" = some (.builtin "min") := by decide +kernel
end L2
namespace K1
open PySem L2 Kp
end K1
namespace Kp
open PySem L2
theorem Cal.mono {P : Program} {w : World} {K : PySem.W.Frag} {mg : Str → Option Value} {base : Heap} {x : Str} {k k' : Nat} {ps : List Str} {sp : Sp} (C : Cal P w K mg base x k ps sp) (h : k ≤ k') : Cal P w K mg base x k' ps sp :=
  let ⟨f, fd, F, a, b, c⟩ := C.ex
  ⟨⟨f, fd, F.mono h, a, b, c⟩⟩
end Kp
set_option Elab.async false
set_option linter.all false
set_option maxRecDepth 100000
set_option maxHeartbeats 4000000
namespace Kp
open PySem L2
/-- a comprehension without a condition whose items are known by their places -/
theorem comp_idx {J : It} {H1 : Hp} {n k : Nat} {frs : St} {g : TG} {tt : TT} {te : TE} {Q : VK} (R : Nat → Hp → V → Prop) (mono : ∀ i H H' v, SameT H H' → R i H v → R i H' v) (hn : n < sizeLine)
    (go : ∀ i H, i < n → Same H1 H → J.go i H) (stop : ∀ H, Same H1 H → J.stop n H)
    (turn : ∀ i H t x H2 (S : St → Hp → Option V → Prop), i < n → Same H1 H → t.length = k → J.yld i H x H2 →
      (∀ t' H' v, t'.length = k → Same H H' → R i H' v → S (t' ++ frs) H' (some v)) →
      g x (t ++ frs) H2 fun σ3 H3 => tt σ3 H3 fun b H4 => if b = true then te σ3 H4 fun v H5 => S σ3 H5 (some v) else S σ3 H4 none)
    (hq : ∀ D H' ys, Same H1 H' → H1 D = none → H' D = some (.lst ys) → ys.length = n → (∀ i v, ys[i]? = some v → R i H' v) → Q (.ref D) H') : CompGo (List.replicate k none ++ frs) g tt te Q J H1 := by
  intro D hD
  refine ⟨fun i m ys σ H => i ≤ n ∧ m = n - i ∧ ys.length = i ∧ (∀ j v, ys[j]? = some v → R j H v) ∧ Same H1 H ∧ ∃ t, t.length = k ∧ σ = t ++ frs, ⟨n, Nat.zero_le _, rfl, rfl, fun j v hv => by simp at hv, same_upd hD, _, by simp, rfl⟩, ?_⟩
  rintro i m ys σ H ⟨hi, rfl, hl, hR, s1, t, ht, rfl⟩ hd
  by_cases hlt : i < n
  · right
    refine ⟨go i H hlt s1, by omega, fun x H2 y => ?_⟩
    have keep : ∀ (H5 : Hp) (zs : List V), H5 D = some (.lst ys) → SameT H5 (upd H5 D (.lst zs)) := fun H5 zs h5 b xs e => by
      rw [upd_ne (fun q => by rw [q, h5] at e; cases e)]; exact e
    have tup : ∀ {H H' : Hp}, Same H H' → SameT H H' := fun s b xs e => s _ _ e
    refine turn i H t x H2 (fun σ3 H5 r => match r with
      | some v => H5 D = some (.lst ys) ∧ ∃ m', m' < n - i ∧ (i + 1 ≤ n ∧ m' = n - (i + 1) ∧ (ys ++ [v]).length = i + 1 ∧ (∀ j u, (ys ++ [v])[j]? = some u → R j (upd H5 D (.lst (ys ++ [v]))) u) ∧ Same H1 (upd H5 D (.lst (ys ++ [v]))) ∧ ∃ t, t.length = k ∧ σ3 = t ++ frs)
      | none => H5 D = some (.lst ys) ∧ ∃ m', m' < n - i ∧ (i + 1 ≤ n ∧ m' = n - (i + 1) ∧ ys.length = i + 1 ∧ (∀ j u, ys[j]? = some u → R j H5 u) ∧ Same H1 H5 ∧ ∃ t, t.length = k ∧ σ3 = t ++ frs)) hlt s1 ht y ?_
    intro t' H' v ht' s2 rv
    have h5 := s2 _ _ hd
    refine ⟨h5, n - (i + 1), by omega, by omega, rfl, by rw [List.length_append, hl]; rfl, fun j u hu => ?_, fun b o e => ?_, t', ht', rfl⟩
    · by_cases hj : j < ys.length
      · rw [List.getElem?_append_left hj] at hu
        exact mono _ _ _ _ (keep H' _ h5) (mono _ _ _ _ (tup s2) (hR j u hu))
      · rw [List.getElem?_append_right (by omega)] at hu
        have e0 : j - ys.length = 0 := by
          cases e : j - ys.length with
          | zero => rfl
          | succ m => rw [e] at hu; simp at hu
        rw [e0] at hu
        cases hu
        obtain rfl : j = i := by omega
        exact mono _ _ _ _ (keep H' _ h5) rv
    · rw [upd_ne (ne_of_none e hD)]; exact s2 _ _ (s1 _ _ e)
  · have e : i = n := by omega
    subst e
    exact .inl ⟨stop H s1, hq D H ys s1 hD hd hl hR⟩
end Kp
namespace K1
open PySem L2 Kp
/-! ### rows of a store: a name and whole numbers -/
abbrev Rw := Str × List Int
instance (a b : Str) : Decidable (before a b) := inferInstanceAs (Decidable (a.cps.toList < b.cps.toList))
theorem before_irrefl (a : Str) : ¬ before a a := List.lt_irrefl _
theorem before_ne {a b : Str} (h : before a b) : a ≠ b := fun e => before_irrefl _ (e ▸ h)
structure RwOk (W : List Str) (n : Nat) (rs : List Rw) : Prop where
  up : rs.Pairwise fun a b => before a.1 b.1
  inW : ∀ r ∈ rs, r.1 ∈ W
  sz : ∀ r ∈ rs, r.2.length = n
theorem nodup_len : ∀ (l W : List Str), l.Nodup → (∀ x ∈ l, x ∈ W) → l.length ≤ W.length
  | [], _, _, _ => Nat.zero_le _
  | x :: l, W, hn, h => by
    have hx := h x List.mem_cons_self
    rw [List.nodup_cons] at hn
    have := nodup_len l (W.erase x) hn.2 fun y hy => (List.mem_erase_of_ne (fun e : y = x => hn.1 (by rw [← e]; exact hy))).mpr (h y (List.mem_cons_of_mem _ hy))
    rw [List.length_erase_of_mem hx] at this
    have := List.length_pos_of_mem hx
    rw [List.length_cons]
    omega
theorem RwOk.nodup {W : List Str} {n : Nat} {rs : List Rw} (h : RwOk W n rs) : (rs.map (·.1)).Nodup := by
  unfold List.Nodup
  rw [List.pairwise_map]
  exact h.up.imp fun h => before_ne h
theorem RwOk.len {W : List Str} {n : Nat} {rs : List Rw} (h : RwOk W n rs) : rs.length ≤ W.length := by
  have := nodup_len _ W h.nodup fun x hx => by
    obtain ⟨r, hr, rfl⟩ := List.mem_map.mp hx
    exact h.inW r hr
  rwa [List.length_map] at this
/-- a row put at its place by the alphabet -/
def putF (rs : List Rw) (r : Rw) : List Rw := rs.filter (fun x => decide (before x.1 r.1)) ++ r :: rs.filter fun x => decide (before r.1 x.1)
/-- the value that stands at a name -/
def valF (rs : List Rw) (n : Str) : Int := match rs.filter fun r => decide (r.1 = n) with
  | [] => 0
  | r :: _ => r.2.headD 0
inductive Deed | get (n : Str) | set (n : Str) (x : Int) | add (n : Str) (x : Int)
def Deed.nm : Deed → Str
  | .get n => n
  | .set n _ => n
  | .add n _ => n
abbrev Sto := List Rw × List Rw
def doneF (S : Sto) : Deed → Sto × Int
  | .get n => (S, valF S.1 n)
  | .add n x => ((putF S.1 (n, [valF S.1 n + x]), S.2), valF S.1 n + x)
  | .set n x => ((putF S.1 (n, [x]), S.2), valF S.1 n)
structure StoOk (W C : List Str) (S : Sto) : Prop where
  ns : RwOk W 1 S.1
  cs : RwOk C 2 S.2
  ge : ∀ r ∈ S.2, 1 ≤ r.2.headD 0
/-! ### in the heap -/
inductive Rws (H : Hp) : List V → List Rw → Prop
  | nil : Rws H [] []
  | cons {p : Addr} {n : Str} {is : List Int} {vs : List V} {rs : List Rw} : H p = some (.tup (.str n :: is.map V.int)) → Rws H vs rs → Rws H (.ref p :: vs) ((n, is) :: rs)
theorem Rws.sameT {H H' : Hp} (s : SameT H H') : ∀ {vs rs}, Rws H vs rs → Rws H' vs rs
  | _, _, .nil => .nil
  | _, _, .cons e r => .cons (s _ _ e) (Rws.sameT s r)
theorem Rws.same {H H' : Hp} {vs : List V} {rs : List Rw} (h : Rws H vs rs) (s : Same H H') : Rws H' vs rs := h.sameT (sameT_of s)
theorem Rws.length {H : Hp} : ∀ {vs rs}, Rws H vs rs → vs.length = rs.length
  | _, _, .nil => rfl
  | _, _, .cons _ r => by rw [List.length_cons, List.length_cons, Rws.length r]
theorem Rws.get {H : Hp} : ∀ {vs : List V} {rs : List Rw} {i : Nat} (h : i < rs.length), Rws H vs rs → ∃ p, vs[i]? = some (.ref p) ∧ H p = some (.tup (.str (rs[i]).1 :: (rs[i]).2.map V.int))
  | _, _, _, h, .nil => absurd h (Nat.not_lt_zero _)
  | _, _, 0, _, .cons e _ => ⟨_, rfl, e⟩
  | _, _, i + 1, h, .cons _ r => Rws.get (i := i) (by simpa using h) r
theorem Rws.append {H : Hp} : ∀ {vs rs us qs}, Rws H vs rs → Rws H us qs → Rws H (vs ++ us) (rs ++ qs)
  | _, _, _, _, .nil, r => r
  | _, _, _, _, .cons e r, q => .cons e (Rws.append r q)
def RwT (H : Hp) (a : Addr) (rs : List Rw) : Prop := ∃ vs, H a = some (.tup vs) ∧ Rws H vs rs
theorem RwT.same {H H' : Hp} {a : Addr} {rs : List Rw} (h : RwT H a rs) (s : Same H H') : RwT H' a rs := let ⟨vs, e, r⟩ := h; ⟨vs, s _ _ e, r.same s⟩
def StV (H : Hp) (v : V) (S : Sto) : Prop := ∃ s a c, v = .ref s ∧ H s = some (.tup [.ref a, .ref c]) ∧ RwT H a S.1 ∧ RwT H c S.2
theorem StV.same {H H' : Hp} {v : V} {S : Sto} (h : StV H v S) (s : Same H H') : StV H' v S := let ⟨p, a, c, e, h1, h2, h3⟩ := h; ⟨p, a, c, e, s _ _ h1, h2.same s, h3.same s⟩
theorem RwT.alike {K : PySem.W.Frag} {H : Hp} {a c : Addr} {rs : List Rw} (h : RwT H a rs) (h' : RwT H c rs) : Alike K H 2 (.ref a) (.ref c) := by
  obtain ⟨vs, e, r⟩ := h
  obtain ⟨us, e', r'⟩ := h'
  refine .tup (SqT.of e) (SqT.of e') (by rw [r.length, r'.length]) fun i x y hx hy => ?_
  have hi : i < rs.length := by rw [← r.length]; exact (List.getElem?_eq_some_iff.mp hx).1
  obtain ⟨p, g, hp⟩ := r.get hi
  obtain ⟨q, g', hq⟩ := r'.get hi
  rw [g] at hx
  rw [g'] at hy
  cases hx
  cases hy
  refine .tup (SqT.of hp) (SqT.of hq) rfl fun j x y hx hy => ?_
  rw [hx] at hy
  cases hy
  cases j with
  | zero => cases hx; exact .flat rfl
  | succ j =>
    rw [List.getElem?_cons_succ, List.getElem?_map] at hx
    cases e2 : (rs[i]).2[j]? with
    | none => rw [e2] at hx; cases hx
    | some z => rw [e2] at hx; cases hx; exact .flat rfl
def DeedV (H : Hp) (v : V) : Deed → Prop
  | .get n => ∃ p, v = .ref p ∧ H p = some (.tup [.str "get", .str n])
  | .set n x => ∃ p, v = .ref p ∧ H p = some (.tup [.str "set", .str n, .int x])
  | .add n x => ∃ p, v = .ref p ∧ H p = some (.tup [.str "add", .str n, .int x])
theorem DeedV.same {H H' : Hp} {v : V} {d : Deed} (h : DeedV H v d) (s : Same H H') : DeedV H' v d := by
  cases d <;> (obtain ⟨p, e, hp⟩ := h; exact ⟨p, e, s _ _ hp⟩)
end K1
set_option Elab.async false
set_option linter.all false
set_option maxRecDepth 100000
namespace Kp
open PySem L2
/-! ### displays of written flat things, as they are -/
def tFix (xs : List V) : TA := fun _ H Q => Q xs H
structure FA (X : Cx) (es : List Expr) (xs : List V) : Prop where
  h : PA X es (tFix xs)
section
variable {X : Cx} {es : List Expr} {xs : List V} {p : Pos} {j : Nat}
end
end Kp
namespace Kp
open PySem L2
end Kp
namespace Kp
open PySem L2
end Kp
set_option Elab.async false
set_option linter.all false
set_option maxRecDepth 100000
set_option maxHeartbeats 4000000
namespace K1
open PySem L2 Kp
section
variable {P : Program} {w : World} {K : PySem.W.Frag} {mg : Str → Option Value} {base : Heap}
def cellF (ns : List Int) (k : Int) : Int := ns.getD k.toNat 0
def spCellF (K : PySem.W.Frag) : Sp := fun vs H Q _ => ∃ (a : Addr) (ns : List Int) (k : Int), vs = [.ref a, .int k] ∧ SqL K H a (ns.map V.int) ∧ 0 ≤ k ∧ Q (.int (cellF ns k)) H
theorem scCf : FnScope ["_law_script", "_law_k"] ["_law_script", "_law_k"] (defScope sCell) := ⟨rfl, rfl, rfl, by decide +kernel, rfl, by decide +kernel, by decide +kernel⟩
theorem ok_cellF {f : Addr} {fd : FuncData} (F : Fun K "_law_cell_at" "_law_cell_at" sCell f fd) (T : Txt mg) : FnOk P w K mg base CX0 1 f fd ["_law_script", "_law_k"] (spCellF K) := by
  refine F.ok scCf (fun vs H Q E ⟨_, _, _, e, _⟩ => by subst e; rfl) (fun cdv A outer s H vs Q E hr h => ?_)
  obtain ⟨a, ns, k, rfl, hS, h0, q⟩ := h
  obtain ⟨j, rfl⟩ := Int.eq_ofNat_of_zero_le h0
  refine ⟨_, @pss_p _ _ _ _ _ (ps_if (pt_cmpR op_lt (pv 1) (pe_callB call_len_seq (by rfl) T.len PySem.boot_len (pa_n (pv 0) pa_nil)) (nomark _)) (@pss_o _ _ _ (ps_ret (pe_ix ix_list (pv 0) (pv 1) px_n))) pss_nil)
    (@pss_o _ _ _ (ps_ret (pe_int))), ?_⟩
  unfold cellF at q
  rw [Int.toNat_natCast] at q
  refine ⟨_, rfl, _, rfl, a, _, rfl, .inl hS, _, _, rfl, rfl, _, rfl, ite2 (fun hlt => ?_) (fun hlt => ?_)⟩
  · have hj : j < ns.length := by have := of_decide_eq_true hlt; rw [List.length_map] at this; omega
    rw [getD_at hj] at q
    exact ⟨_, rfl, _, rfl, a, _, _, .int ns[j], rfl, rfl, hS, atI_nat (by simp [hj]), q⟩
  · have hj : ns.length ≤ j := by have := ndec hlt; rw [List.length_map] at this; omega
    rw [List.getD_eq_getElem?_getD, List.getElem?_eq_none hj] at q
    exact q
def spMixG (K : PySem.W.Frag) : Sp := fun vs H Q _ => ∃ (a : Addr) (ns : List Int) (k : Int), vs = [.ref a, .int k] ∧ SqL K H a (ns.map V.int) ∧ 0 ≤ k ∧ ∀ m : Int, 0 ≤ m → m < 2147483629 → Q (.int m) H
theorem scMg : FnScope ["_law_script", "_law_k", "_law_number"] ["_law_script", "_law_k"] (defScope sMixed) := ⟨rfl, rfl, rfl, by decide +kernel, rfl, by decide +kernel, by decide +kernel⟩
theorem ok_mixG {f : Addr} {fd : FuncData} (F : Fun K "_law_mixed" "_law_mixed" sMixed f fd) (CC : Cal P w K mg base "_law_cell_at" 1 ["_law_script", "_law_k"] (spCellF K)) : FnOk P w K mg base CX0 2 f fd ["_law_script", "_law_k"] (spMixG K) := by
  refine F.ok scMg (fun vs H Q E ⟨_, _, _, e, _⟩ => by subst e; rfl) (fun cdv A outer s H vs Q E hr h => ?_)
  obtain ⟨a, ns, k, rfl, hS, h0, q⟩ := h
  obtain ⟨gC, dC, GC, mC, kC, bC⟩ := CC.ex
  refine ⟨_, @pss_p _ _ _ _ _ (ps_set (i := 2) scMg.nd (by rfl) (by exact Or.inl rfl) (pe_op op_mod (pe_op op_mul (pe_op op_add (pe_call GC hr (by rfl) mC kC bC .nil pass0 (pa_n (pv 0) (pa_n (pv 1) pa_nil))) (pe_op op_mul (pe_int) (pv 1))) (pe_int)) (pe_int)))
    (@pss_o _ _ _ (ps_ret (pe_op op_mod (pe_op op_add (pe_op op_add (pe_op op_mul (pv 2) (pv 2)) (pe_op op_mul (pe_int) (pv 2))) (pv 1)) (pe_int)))), ?_⟩
  refine ⟨_, rfl, _, rfl, a, ns, k, rfl, hS, h0, _, rfl, _, _, rfl, rfl, .inl ⟨by decide, by decide⟩, _, _, rfl, rfl, _, _, rfl, rfl, .inr ⟨by decide, by decide⟩, _, _, rfl, rfl, (by show (0 : Int) < 2147483647; decide), ?_⟩
  have b := emod_in ((cellF ns k + 7919 * k) * 48271) (m := 2147483647) (by decide)
  show gName 2 (V.int ((cellF ns k + 7919 * k) * 48271 % 2147483647)) _ _ _
  generalize (cellF ns k + 7919 * k) * 48271 % 2147483647 = n at b
  have b2 := emod_in (n * n + 7 * n + k) (m := 2147483629) (by decide)
  exact ⟨_, rfl, _, rfl, _, _, rfl, rfl, .inl ⟨by omega, by omega⟩, _, rfl, _, _, rfl, rfl, .inl ⟨by decide, by decide⟩, _, _, rfl, rfl, _, rfl, _, _, rfl, rfl, _, _, rfl, rfl, (by show (0 : Int) < 2147483629; decide), q _ b2.1 b2.2⟩
def spDraw : Sp := fun vs H Q _ => ∃ (n : Int) (l : Addr) (ss : List Int), vs = [.int n, .ref l] ∧ H l = some (.lst (ss.map V.int)) ∧ ss.length ≤ 100 ∧ (∀ s ∈ ss, 0 < s ∧ s < 1073741824) ∧ ∀ (r : Addr) (ds : List Int) (H' : Hp), H' r = some (.lst (ds.map V.int)) → ds.length = ss.length → (∀ (i : Nat) (s d : Int), ss[i]? = some s → ds[i]? = some d → 0 ≤ d ∧ d < s) → Same H H' → Q (.ref r) H'
theorem scDr : FnScope ["_law_number", "_law_sizes", "_law_some", "_law_size"] ["_law_number", "_law_sizes"] (defScope s__law_drawn) := ⟨rfl, rfl, rfl, by decide +kernel, rfl, by decide +kernel, by decide +kernel⟩
theorem ok_draw {f : Addr} {fd : FuncData} (F : Fun K "_law_drawn" "_law_drawn" s__law_drawn f fd) : FnOk P w K mg base CX0 1 f fd ["_law_number", "_law_sizes"] spDraw := by
  refine F.ok scDr (fun vs H Q E ⟨_, _, _, e, _⟩ => by subst e; rfl) (fun cdv A outer s H vs Q E hr h => ?_)
  obtain ⟨n, l, ss, rfl, hl, hln, hpos, q⟩ := h
  refine ⟨_, @pss_p _ _ _ _ _ (ps_set (i := 2) scDr.nd (by rfl) (by exact Or.inl rfl) (pe_lst pa_nil))
    (@pss_p _ _ _ _ _ (ps_for PassesOwn.never (by rfl) (pi_list (pv 1)) (pg_name (i := 3) scDr.nd (by rfl) (by exact Or.inl rfl)) (@pss_p _ _ _ _ _ (ps_expr (pe_bm PySem.F.plainAttrs_list PySem.F.slot_list_append PySem.F.type_list_append mt_append (pv 2) (pa_b (pe_op op_mod (pv 0) (pv 3)) pa_nil)))
    (@pss_o _ _ _ (ps_set (i := 0) scDr.nd (by rfl) (by exact Or.inl rfl) (pe_op op_fdiv (pv 0) (pv 3))))))
    (@pss_o _ _ _ (ps_ret (pv 2)))), ?_⟩
  refine ⟨tiny (by show 0 ≤ 1000; decide), fun r hr0 => ?_⟩
  have s0 := same_upd (o := HO.lst []) hr0
  have nlr : l ≠ r := fun z => by rw [z, hr0] at hl; cases hl
  refine ⟨_, rfl, l, rfl, ⟨_, SqL.of (s0 _ _ hl)⟩, for_list (K := K) (a := l) (xs := ss.map V.int) (fun i σ H' => ∃ (m : Int) (ds : List Int) (t : Option V), σ = [some (.int m), some (.ref l), some (.ref r), t] ∧ H' r = some (.lst (ds.map V.int)) ∧ ds.length = i ∧ (∀ (i : Nat) (s d : Int), ss[i]? = some s → ds[i]? = some d → 0 ≤ d ∧ d < s) ∧ Same H H')
    ⟨n, [], none, rfl, upd_same, rfl, fun i s d _ h => by simp at h, s0⟩ (fun i σ H' _ ⟨_, _, _, _, _, _, _, s1⟩ => SqL.of (s1 _ _ hl)) ?_ ?_⟩
  · rintro i x σ H' hx ⟨m, ds, t, rfl, hr1, hd, hb, s1⟩
    have hi : i < ss.length := by have := (List.getElem?_eq_some_iff.mp hx).1; rwa [List.length_map] at this
    rw [List.getElem?_map, List.getElem?_eq_getElem hi] at hx
    cases hx
    have hp := hpos _ (List.getElem_mem hi)
    refine ⟨_, rfl, .inl ⟨rfl, _, SqL.of hr1⟩, _, rfl, _, rfl, _, _, rfl, rfl, hp.1, r, _, _, rfl, rfl, hr1, by rw [List.length_map, sizeLine_eq]; omega, ?_⟩
    refine ⟨_, rfl, _, rfl, _, _, rfl, rfl, hp, ?_⟩
    have bm := emod_in m hp.1
    refine ⟨_, ds ++ [m % ss[i]], _, rfl, by rw [List.map_append]; exact upd_same, by rw [List.length_append, hd]; rfl, fun j s d h1 h2 => ?_, fun b o e => by rw [upd_ne (fun z => by rw [z, hr0] at e; cases e)]; exact s1 _ _ e⟩
    by_cases hj : j < ds.length
    · rw [List.getElem?_append_left hj] at h2
      exact hb j s d h1 h2
    · rw [List.getElem?_append_right (by omega)] at h2
      have e0 : j - ds.length = 0 := by
        cases e : j - ds.length with
        | zero => rfl
        | succ k => rw [e] at h2; simp at h2
      rw [e0] at h2
      obtain rfl : j = i := by omega
      rw [List.getElem?_eq_getElem hi] at h1
      cases h1
      cases h2
      exact bm
  · rintro σ H' ⟨m, ds, t, rfl, hr1, hd, hb, s1⟩
    rw [List.length_map] at hd
    exact ⟨_, rfl, q r ds H' hr1 hd hb s1⟩
def vcV : Option Int → V
  | none => .non
  | some i => .int i
def termF (tm term : Int) : Int := if term > tm then term else tm
def vc1F (tm : Int) (vc : Option Int) (term : Int) : Option Int := if term > tm then none else vc
def giveB (tm : Int) (vc : Option Int) (one term place last et ep : Int) : Bool := decide (term = termF tm term) && (decide (vc1F tm vc term = none) || decide (vc1F tm vc term = some one)) && (decide (et < last) || (decide (last = et) && decide (ep ≤ place)))
def vc2F (tm : Int) (vc : Option Int) (one term place last et ep : Int) : Option Int := if giveB tm vc one term place last et ep then some one else vc1F tm vc term
def tGv : TS := fun D σ H => ∃ (hl : Addr) (one term place last : Int) (el : Addr) (tm : Int) (vc : Option Int), σ = [some (.ref hl), some (.int one), some (.int term), some (.int place), some (.int last), some (.ref el)] ∧ H hl = some (.lst [.int tm, vcV vc]) ∧
  ∀ H', H' hl = some (.lst [.int (termF tm term), vcV (vc1F tm vc term)]) → (∀ b o, b ≠ hl → H b = some o → H' b = some o) → D.nx [some (.ref hl), some (.int one), some (.int term), some (.int place), some (.int last), some (.ref el)] H'
def spGiv : Sp := fun vs H Q _ => ∃ (hl el : Addr) (tm : Int) (vc : Option Int) (one term place last et ep : Int), vs = [.ref hl, .int one, .int term, .int place, .int last, .ref el] ∧ hl ≠ el ∧ H hl = some (.lst [.int tm, vcV vc]) ∧ H el = some (.lst [.int et, .int ep]) ∧
  ∀ H', H' hl = some (.lst [.int (termF tm term), vcV (vc2F tm vc one term place last et ep)]) → (∀ b o, b ≠ hl → H b = some o → H' b = some o) → Q (.bl (giveB tm vc one term place last et ep)) H'
theorem scGv : FnScope ["_law_held", "_law_one", "_law_term", "_law_place", "_law_last", "_law_end"] ["_law_held", "_law_one", "_law_term", "_law_place", "_law_last", "_law_end"] (defScope s__law_given) := ⟨rfl, rfl, rfl, by decide +kernel, rfl, by decide +kernel, by decide +kernel⟩
theorem ok_giv {f : Addr} {fd : FuncData} (F : Fun K "_law_given" "_law_given" s__law_given f fd) : FnOk P w K mg base CX0 1 f fd ["_law_held", "_law_one", "_law_term", "_law_place", "_law_last", "_law_end"] spGiv := by
  refine F.ok scGv (fun vs H Q E ⟨_, _, _, _, _, _, _, _, _, _, e, _⟩ => by subst e; rfl) (fun cdv A outer s H vs Q E hr h => ?_)
  obtain ⟨hl, el, tm, vc, one, term, place, last, et, ep, rfl, hne, hh, he, q⟩ := h
  refine ⟨_, @pss_p _ _ _ _ _ (PS.weakU (t' := tGv) (ps_if (pt_cmpR op_gt (pv 2) (pe_ix ix_list (pv 0) pe_int px_i) (nomark _)) (@pss_p _ _ _ _ _ (ps_asg (pv 2) (pg_sub (pv 0) pe_int set_list))
    (@pss_o _ _ _ (ps_asg (pe_non) (pg_sub (pv 0) pe_int set_list)))) pss_nil) ?w1)
    (@pss_p _ _ _ _ _ (ps_if (PW.pt (pw_or (pt_cmpR op_lt (pv 2) (pe_ix ix_list (pv 0) pe_int px_i) (nomark _)) (pw_or1 (PW.pt (pw_and (pt_cmpR op_notN (pe_ix ix_list (pv 0) pe_int px_i) pe_non (nomark _)) (pw_and1 (pt_cmpR op_ne (pe_ix ix_list (pv 0) pe_int px_i) (pv 1) (nomark _)))))))) (@pss_o _ _ _ (ps_ret pe_bl)) pss_nil)
    (@pss_p _ _ _ _ _ (ps_if (PW.pt (pw_or (pt_cmpR op_lt (pv 4) (pe_ix ix_list (pv 5) pe_int px_i) (nomark _)) (pw_or1 (PW.pt (pw_and (pt_cmpR op_eq (pv 4) (pe_ix ix_list (pv 5) pe_int px_i) (nomark _)) (pw_and1 (pt_cmpR op_lt (pv 3) (pe_ix ix_list (pv 5) pe_int px_i) (nomark _)))))))) (@pss_o _ _ _ (ps_ret pe_bl)) pss_nil)
    (@pss_p _ _ _ _ _ (ps_asg (pv 1) (pg_sub (pv 0) pe_int set_list))
    (@pss_o _ _ _ (ps_ret (pe_bl)))))), ?_⟩
  case w1 =>
    rintro D σ H ⟨hl, one, term, place, last, el, tm, vc, rfl, hh, q⟩
    unfold termF vc1F at q
    refine ⟨_, rfl, _, rfl, hl, _, _, .int tm, rfl, rfl, SqL.of hh, atI_nat (j := 0) rfl, _, _, rfl, rfl, _, rfl, ite2 (fun h => ?_) (fun h => ?_)⟩
    · have e : term > tm := of_decide_eq_true h
      rw [if_pos e, if_pos e] at q
      refine ⟨_, rfl, _, rfl, hl, _, _, 0, rfl, rfl, hh, rfl, _, rfl, hl, _, _, 1, rfl, rfl, upd_same, rfl, ?_⟩
      exact q _ upd_same fun b o hb e => by rw [upd_ne hb, upd_ne hb]; exact e
    · have e : ¬ term > tm := ndec h
      rw [if_neg e, if_neg e] at q
      exact q H hh fun b o _ e => e
  refine ⟨hl, one, term, place, last, el, tm, vc, rfl, hh, fun H1 hh1 k1 => ?_⟩
  have he1 := k1 _ _ hne.symm he
  unfold vc2F giveB at q
  have htm : term ≤ termF tm term := by unfold termF; split <;> omega
  generalize termF tm term = tm1 at q hh1 htm
  generalize vc1F tm vc term = vc1 at q hh1
  refine ⟨_, rfl, _, rfl, hl, _, _, .int tm1, rfl, rfl, SqL.of hh1, atI_nat (j := 0) rfl, _, _, rfl, rfl, _, rfl, ?_⟩
  by_cases h1 : term < tm1
  · rw [decide_eq_true h1]
    have e2 : (decide (term = tm1) && (decide (vc1 = none) || decide (vc1 = some one)) && (decide (et < last) || (decide (last = et) && decide (ep ≤ place)))) = false := by rw [decide_eq_false (show ¬ term = tm1 by omega)]; rfl
    rw [e2] at q
    exact iteT (iteT (q H1 hh1 k1))
  · have et0 : term = tm1 := by omega
    rw [decide_eq_false h1]
    refine iteF ⟨_, rfl, hl, _, _, vcV vc1, rfl, rfl, SqL.of hh1, atI_nat (j := 1) rfl, rfl, _, rfl, ?_⟩
    cases vc1 with
    | none =>
      refine iteF (iteF ?_)
      refine ⟨_, rfl, _, rfl, el, _, _, .int et, rfl, rfl, SqL.of he1, atI_nat (j := 0) rfl, _, _, rfl, rfl, _, rfl, ?_⟩
      by_cases g1 : last < et
      · rw [decide_eq_true g1]
        have e2 : (decide (term = tm1) && (decide ((none : Option Int) = none) || decide ((none : Option Int) = some one)) && (decide (et < last) || (decide (last = et) && decide (ep ≤ place)))) = false := by rw [decide_eq_false (show ¬ et < last by omega), decide_eq_false (show ¬ last = et by omega)]; simp
        rw [e2] at q
        exact iteT (iteT (q H1 hh1 k1))
      · rw [decide_eq_false g1]
        refine iteF ⟨_, rfl, _, rfl, el, _, _, .int et, rfl, rfl, SqL.of he1, atI_nat (j := 0) rfl, rfl, _, rfl, ?_⟩
        by_cases g2 : last = et
        · rw [decide_eq_true (congrArg V.int g2)]
          refine iteT ⟨_, rfl, _, rfl, el, _, _, .int ep, rfl, rfl, SqL.of he1, atI_nat (j := 1) rfl, _, _, rfl, rfl, _, rfl, ?_⟩
          by_cases g3 : place < ep
          · rw [decide_eq_true g3]
            have e2 : (decide (term = tm1) && (decide ((none : Option Int) = none) || decide ((none : Option Int) = some one)) && (decide (et < last) || (decide (last = et) && decide (ep ≤ place)))) = false := by rw [decide_eq_false (show ¬ et < last by omega), decide_eq_false (show ¬ ep ≤ place by omega)]; simp
            rw [e2] at q
            exact iteT (q H1 hh1 k1)
          · rw [decide_eq_false g3]
            have e2 : (decide (term = tm1) && (decide ((none : Option Int) = none) || decide ((none : Option Int) = some one)) && (decide (et < last) || (decide (last = et) && decide (ep ≤ place)))) = true := by rw [decide_eq_true (show ep ≤ place by omega), decide_eq_true g2, decide_eq_true et0]; simp
            rw [e2] at q
            exact iteF (⟨_, rfl, _, rfl, hl, _, _, 1, rfl, rfl, hh1, rfl, q _ upd_same fun b o hb e => by rw [upd_ne hb]; exact k1 b o hb e⟩)
        · rw [decide_eq_false (fun z : V.int last = V.int et => g2 (by injection z))]
          have e2 : (decide (term = tm1) && (decide ((none : Option Int) = none) || decide ((none : Option Int) = some one)) && (decide (et < last) || (decide (last = et) && decide (ep ≤ place)))) = true := by rw [decide_eq_true (show et < last by omega), decide_eq_true et0]; simp
          rw [e2] at q
          exact iteF (iteF (⟨_, rfl, _, rfl, hl, _, _, 1, rfl, rfl, hh1, rfl, q _ upd_same fun b o hb e => by rw [upd_ne hb]; exact k1 b o hb e⟩))
    | some w =>
      refine iteT ⟨_, rfl, hl, _, _, .int w, rfl, rfl, SqL.of hh1, atI_nat (j := 1) rfl, _, rfl, rfl, _, rfl, ?_⟩
      by_cases hw : w = one
      · subst hw
        rw [decide_eq_true rfl]
        refine iteF ?_
        refine ⟨_, rfl, _, rfl, el, _, _, .int et, rfl, rfl, SqL.of he1, atI_nat (j := 0) rfl, _, _, rfl, rfl, _, rfl, ?_⟩
        by_cases g1 : last < et
        · rw [decide_eq_true g1]
          have e2 : (decide (term = tm1) && (decide ((some w : Option Int) = none) || decide ((some w : Option Int) = some w)) && (decide (et < last) || (decide (last = et) && decide (ep ≤ place)))) = false := by rw [decide_eq_false (show ¬ et < last by omega), decide_eq_false (show ¬ last = et by omega)]; simp
          rw [e2] at q
          exact iteT (iteT (q H1 hh1 k1))
        · rw [decide_eq_false g1]
          refine iteF ⟨_, rfl, _, rfl, el, _, _, .int et, rfl, rfl, SqL.of he1, atI_nat (j := 0) rfl, rfl, _, rfl, ?_⟩
          by_cases g2 : last = et
          · rw [decide_eq_true (congrArg V.int g2)]
            refine iteT ⟨_, rfl, _, rfl, el, _, _, .int ep, rfl, rfl, SqL.of he1, atI_nat (j := 1) rfl, _, _, rfl, rfl, _, rfl, ?_⟩
            by_cases g3 : place < ep
            · rw [decide_eq_true g3]
              have e2 : (decide (term = tm1) && (decide ((some w : Option Int) = none) || decide ((some w : Option Int) = some w)) && (decide (et < last) || (decide (last = et) && decide (ep ≤ place)))) = false := by rw [decide_eq_false (show ¬ et < last by omega), decide_eq_false (show ¬ ep ≤ place by omega)]; simp
              rw [e2] at q
              exact iteT (q H1 hh1 k1)
            · rw [decide_eq_false g3]
              have e2 : (decide (term = tm1) && (decide ((some w : Option Int) = none) || decide ((some w : Option Int) = some w)) && (decide (et < last) || (decide (last = et) && decide (ep ≤ place)))) = true := by rw [decide_eq_true (show ep ≤ place by omega), decide_eq_true g2, decide_eq_true et0]; simp
              rw [e2] at q
              exact iteF (⟨_, rfl, _, rfl, hl, _, _, 1, rfl, rfl, hh1, rfl, q _ upd_same fun b o hb e => by rw [upd_ne hb]; exact k1 b o hb e⟩)
          · rw [decide_eq_false (fun z : V.int last = V.int et => g2 (by injection z))]
            have e2 : (decide (term = tm1) && (decide ((some w : Option Int) = none) || decide ((some w : Option Int) = some w)) && (decide (et < last) || (decide (last = et) && decide (ep ≤ place)))) = true := by rw [decide_eq_true (show et < last by omega), decide_eq_true et0]; simp
            rw [e2] at q
            exact iteF (iteF (⟨_, rfl, _, rfl, hl, _, _, 1, rfl, rfl, hh1, rfl, q _ upd_same fun b o hb e => by rw [upd_ne hb]; exact k1 b o hb e⟩))
      · rw [decide_eq_false (fun z : V.int w = V.int one => hw (by injection z))]
        have e2 : (decide (term = tm1) && (decide ((some w : Option Int) = none) || decide ((some w : Option Int) = some one)) && (decide (et < last) || (decide (last = et) && decide (ep ≤ place)))) = false := by rw [decide_eq_false (show ¬ (some w : Option Int) = some one from fun z => hw (by injection z)), decide_eq_false (show ¬ (some w : Option Int) = none from fun z => by cases z)]; simp
        rw [e2] at q
        exact iteT (q H1 hh1 k1)
end
end K1
set_option Elab.async false
set_option linter.all false
set_option maxRecDepth 100000
set_option maxHeartbeats 4000000
namespace K1
open PySem L2 Kp
/-! ### what an entry holds, and what it does to a store -/
inductive What | opn | seats (ms : List Int) | wish (c : Str) (n : Int) (d : Deed)
def WhatV (H : Hp) (v : V) : What → Prop
  | .opn => ∃ p, v = .ref p ∧ H p = some (.tup [.str "open"])
  | .seats ms => ∃ p q, v = .ref p ∧ H p = some (.tup [.str "seats", .ref q]) ∧ H q = some (.tup (ms.map V.int))
  | .wish c n d => ∃ p u, v = .ref p ∧ H p = some (.tup [.str "wish", .str c, .int n, u]) ∧ DeedV H u d
theorem WhatV.same {H H' : Hp} {v : V} {x : What} (h : WhatV H v x) (s : Same H H') : WhatV H' v x := by
  cases x with
  | opn => obtain ⟨p, e, hp⟩ := h; exact ⟨p, e, s _ _ hp⟩
  | seats ms => obtain ⟨p, q, e, hp, hq⟩ := h; exact ⟨p, q, e, s _ _ hp, s _ _ hq⟩
  | wish c n d => obtain ⟨p, u, e, hp, hd⟩ := h; exact ⟨p, u, e, s _ _ hp, hd.same s⟩
/-- the number and the answer that stand with a caller -/
def standF (rs : List Rw) (c : Str) : Int × Int := match rs.find? fun r => decide (r.1 = c) with
  | some r => (r.2.headD 0, r.2.getD 1 0)
  | none => (0, 0)
def applyF (S : Sto) : What → Sto
  | .wish c n d => if n ≤ (standF S.2 c).1 then S else ((doneF S d).1.1, putF S.2 (c, [n, (doneF S d).2]))
  | _ => S
/-- a wish that was applied stands: applied once more it does nothing -/
def Knows (S : Sto) : What → Prop
  | .wish c n _ => n ≤ (standF S.2 c).1
  | _ => True
theorem Knows.id {S : Sto} {x : What} (h : Knows S x) : applyF S x = S := by
  cases x with
  | wish c n d => unfold applyF; exact if_pos h
  | opn => rfl
  | seats ms => rfl
end K1
set_option Elab.async false
set_option linter.all false
set_option maxRecDepth 100000
set_option maxHeartbeats 4000000
namespace K1
open PySem L2 Kp
/-! ### wishes done twice over change nothing more -/
/-! ### entries with what they hold -/
inductive EW (H : Hp) : List V → List What → Prop
  | nil : EW H [] []
  | cons {p : Addr} {t : Int} {u : V} {x : What} {vs : List V} {xs : List What} : H p = some (.tup [.int t, u]) → WhatV H u x → EW H vs xs → EW H (.ref p :: vs) (x :: xs)
theorem EW.same {H H' : Hp} (s : Same H H') : ∀ {vs xs}, EW H vs xs → EW H' vs xs
  | _, _, .nil => .nil
  | _, _, .cons e w r => .cons (s _ _ e) (w.same s) (EW.same s r)
theorem EW.length {H : Hp} : ∀ {vs xs}, EW H vs xs → vs.length = xs.length
  | _, _, .nil => rfl
  | _, _, .cons _ _ r => by rw [List.length_cons, List.length_cons, EW.length r]
theorem EW.get {H : Hp} : ∀ {vs : List V} {xs : List What} {i : Nat} (h : i < xs.length), EW H vs xs → ∃ p t u, vs[i]? = some (.ref p) ∧ H p = some (.tup [.int t, u]) ∧ WhatV H u xs[i]
  | _, _, _, h, .nil => absurd h (Nat.not_lt_zero _)
  | _, _, 0, _, .cons e w _ => ⟨_, _, _, rfl, e, w⟩
  | _, _, i + 1, h, .cons _ _ r => EW.get (i := i) (by simpa using h) r
theorem EW.append {H : Hp} : ∀ {vs xs us ys}, EW H vs xs → EW H us ys → EW H (vs ++ us) (xs ++ ys)
  | _, _, _, _, .nil, r => r
  | _, _, _, _, .cons e w r, q => .cons e w (EW.append r q)
theorem EW.take {H : Hp} : ∀ {vs : List V} {xs : List What} (n : Nat), EW H vs xs → EW H (vs.take n) (xs.take n)
  | _, _, 0, _ => by rw [List.take_zero, List.take_zero]; exact .nil
  | _, _, _ + 1, .nil => .nil
  | _, _, n + 1, .cons e w r => .cons e w (EW.take n r)
theorem EW.drop {H : Hp} : ∀ {vs : List V} {xs : List What} (n : Nat), EW H vs xs → EW H (vs.drop n) (xs.drop n)
  | _, _, 0, r => r
  | _, _, _ + 1, .nil => .nil
  | _, _, n + 1, .cons _ _ r => EW.drop n r
end K1
set_option Elab.async false
set_option linter.all false
set_option maxRecDepth 100000
set_option maxHeartbeats 4000000
namespace K1
open PySem L2 Kp
/-! ### packs, and the entries that come behind them -/
abbrev En := Int × What
inductive ET (H : Hp) : List V → List En → Prop
  | nil : ET H [] []
  | cons {p : Addr} {t : Int} {u : V} {x : What} {vs : List V} {es : List En} : H p = some (.tup [.int t, u]) → WhatV H u x → ET H vs es → ET H (.ref p :: vs) ((t, x) :: es)
theorem ET.same {H H' : Hp} (s : Same H H') : ∀ {vs es}, ET H vs es → ET H' vs es
  | _, _, .nil => .nil
  | _, _, .cons e w r => .cons (s _ _ e) (w.same s) (ET.same s r)
theorem ET.length {H : Hp} : ∀ {vs es}, ET H vs es → vs.length = es.length
  | _, _, .nil => rfl
  | _, _, .cons _ _ r => by rw [List.length_cons, List.length_cons, ET.length r]
theorem ET.get {H : Hp} : ∀ {vs : List V} {es : List En} {i : Nat} (h : i < es.length), ET H vs es → ∃ p u, vs[i]? = some (.ref p) ∧ H p = some (.tup [.int (es[i]).1, u]) ∧ WhatV H u (es[i]).2
  | _, _, _, h, .nil => absurd h (Nat.not_lt_zero _)
  | _, _, 0, _, .cons e w _ => ⟨_, _, rfl, e, w⟩
  | _, _, i + 1, h, .cons _ _ r => ET.get (i := i) (by simpa using h) r
theorem ET.append {H : Hp} : ∀ {vs es us fs}, ET H vs es → ET H us fs → ET H (vs ++ us) (es ++ fs)
  | _, _, _, _, .nil, r => r
  | _, _, _, _, .cons e w r, q => .cons e w (ET.append r q)
theorem ET.take {H : Hp} : ∀ {vs : List V} {es : List En} (n : Nat), ET H vs es → ET H (vs.take n) (es.take n)
  | _, _, 0, _ => by rw [List.take_zero, List.take_zero]; exact .nil
  | _, _, _ + 1, .nil => .nil
  | _, _, n + 1, .cons e w r => .cons e w (ET.take n r)
theorem ET.drop {H : Hp} : ∀ {vs : List V} {es : List En} (n : Nat), ET H vs es → ET H (vs.drop n) (es.drop n)
  | _, _, 0, r => r
  | _, _, _ + 1, .nil => .nil
  | _, _, n + 1, .cons _ _ r => ET.drop n r
theorem ET.ew {H : Hp} : ∀ {vs es}, ET H vs es → EW H vs (es.map (·.2))
  | _, _, .nil => .nil
  | _, _, .cons e w r => .cons e w (ET.ew r)
structure Pk where
  pl : Int
  tm : Int
  st : List Int
  so : Sto
def PkV (H : Hp) (v : V) (P : Pk) : Prop := ∃ p q u, v = .ref p ∧ H p = some (.tup [.int P.pl, .int P.tm, .ref q, u]) ∧ H q = some (.tup (P.st.map V.int)) ∧ StV H u P.so
theorem PkV.same {H H' : Hp} {v : V} {P : Pk} (h : PkV H v P) (s : Same H H') : PkV H' v P := let ⟨p, q, u, e, h1, h2, h3⟩ := h; ⟨p, q, u, e, s _ _ h1, s _ _ h2, h3.same s⟩
def RwP (H : Hp) (v : V) (b l : Int) (es : List En) : Prop := ∃ r c us, v = .ref r ∧ H r = some (.tup [.int b, .int l, .ref c]) ∧ H c = some (.tup us) ∧ ET H us es
theorem RwP.same {H H' : Hp} {v : V} {b l : Int} {es : List En} (h : RwP H v b l es) (s : Same H H') : RwP H' v b l es := let ⟨p, q, u, e, h1, h2, h3⟩ := h; ⟨p, q, u, e, s _ _ h1, s _ _ h2, h3.same s⟩
def lastT (t0 : Int) (es : List En) : Int := es.foldl (fun _ e => e.1) t0
theorem lastT_snoc (t0 : Int) (es : List En) {i : Nat} (hi : i < es.length) : lastT t0 (es.take (i + 1)) = (es[i]).1 := by
  unfold lastT
  rw [List.take_succ_eq_append_getElem hi, List.foldl_append]
  rfl
theorem StV.alike {K : PySem.W.Frag} {H : Hp} {v u : V} {S : Sto} (h : StV H v S) (h' : StV H u S) : Alike K H 3 v u := by
  obtain ⟨sa, a, c, rfl, hs, ha, hc⟩ := h
  obtain ⟨sb, a2, c2, rfl, hs2, ha2, hc2⟩ := h'
  refine .tup (SqT.of hs) (SqT.of hs2) rfl fun i x y e1 e2 => ?_
  match i, e1, e2 with
  | 0, e1, e2 => cases e1; cases e2; exact ha.alike ha2
  | 1, e1, e2 => cases e1; cases e2; exact hc.alike hc2
end K1
set_option Elab.async false
set_option linter.all false
set_option maxRecDepth 100000
set_option maxHeartbeats 4000000
namespace K1
open PySem L2 Kp
/-! ### what stores and packs promise, whatever law asks -/
def spFreshP (K : PySem.W.Frag) : Sp := fun vs H Q _ => vs = [] ∧ ∀ (v : V) (H' : Hp), StV H' v ([], []) → Same H H' → Q v H'
def spFp : Sp := fun vs H Q _ => ∃ (q : Addr) (ms : List Int), vs = [.ref q] ∧ H q = some (.tup (ms.map V.int)) ∧ ∀ (r : V) (H' : Hp), PkV H' r ⟨0, 0, ms, ([], [])⟩ → Same H H' → Q r H'
def spBegP : Sp := fun vs H Q _ => vs = [] ∧ ∀ (v : V) (H' : Hp), RwP H' v 0 0 [] → Same H H' → Q v H'
def spEndP : Sp := fun vs H Q _ => ∃ (v : V) (b l : Int) (es : List En), vs = [v] ∧ RwP H v b l es ∧ Q (.int (b + (es.length : Int))) H
end K1
set_option Elab.async false
set_option linter.all false
set_option maxRecDepth 100000
set_option maxHeartbeats 4000000
namespace L2
open PySem PySem.Spec PyProof.Rows

/-! ### an exception that leaves a def: it lies in the heap, all untracked things but frames stand in B -/
def CXe (P : Program) (w : World) : CXT := fun outer H s E e s' => ∃ (a : Addr) (cls a0 : Value) (B : Heap) (H1 : Hp), e = .ref a ∧ s'.os = s.os ∧ AllBare s'.gens ∧ Heap.FlyingW B outer a cls a0 s'.heap ∧
  Un (frs outer) [] H H1 s.heap s'.heap ∧ (∀ b o, s.heap.get? b = some o → H b = none → b ∉ frs outer → B.get? b = some o) ∧ (∀ b o, s.heap.get? b = some o → b ∉ frs outer → ∃ o', B.get? b = some o') ∧ HOk P w H1 B ∧ H1 a = none ∧ E cls none H1
theorem ObjOk.there {P : Program} {w : World} {H : Hp} {h : Heap} {a : Addr} {o : HO} (x : ObjOk P w H h a o) : ∃ u, h.get? a = some u := by
  cases o with
  | lst xs => obtain ⟨_, _, _, _, e⟩ := x; exact ⟨_, e⟩
  | tup xs => obtain ⟨_, _, _, o, e, _⟩ := x; exact ⟨_, e⟩
  | dK kvs => obtain ⟨_, _, _, _, o, _, _, e, _⟩ := x; exact ⟨_, e⟩
  | dT kvs => obtain ⟨_, _, _, _, o, _, _, e, _⟩ := x; exact ⟨_, e⟩
  | set S n => obtain ⟨o, _, _, _, e, _⟩ := x; exact ⟨_, e⟩
  | ins C dx fs => obtain ⟨_, _, _, e, _⟩ := x; exact ⟨_, e⟩
  | own y => exact x
  | xd fs => obtain ⟨_, ⟨_, _, _, e, _⟩, _⟩ := x; exact ⟨_, e⟩
  | rng lo hi => obtain ⟨_, _, _, e⟩ := x; exact ⟨_, e⟩
  | frz ob u => obtain ⟨e, _⟩ := x; exact ⟨_, e⟩
  | tbl ps => exact ⟨_, x⟩
  | met f y => exact ⟨_, x⟩
  | ext φ => obtain ⟨_, e, _⟩ := x; exact e
section
variable {P : Program} {w : World} {K : PySem.W.Frag} {mg : Str → Option Value} {base : Heap} {N : List Str} {qual : Str} {scope : Scope} {f : Addr} {cd : Value} {A : Around} {outer : List Env} {s : Shared} {H : Hp} {E : XK}
end

/-! ### the module's own classes of exceptions -/
abbrev mroV : List Value := [.type "ValueError", .type "Exception", .type "BaseException", .type "object"]
end L2
set_option Elab.async false
set_option linter.all false
set_option maxRecDepth 100000
set_option maxHeartbeats 4000000
namespace L2
open PySem PySem.Spec PyProof.Rows

section
variable {X : Cx} {pins : List (Addr × Obj)} {σ : St} {H : Hp} {s : Shared}
/-- an except suite -/
abbrev Cx.suite (X : Cx) (a : Addr) : Cx := { X with A := X.A.mark (some (.ref a)), calm := false, xe := fun _ _ => False }
theorem Cx.Ok.suite {X : Cx} (ok : X.Ok) (a : Addr) : (X.suite a).Ok :=
  ⟨ok.mod, ok.kind, ok.glob, ok.blt, ok.above, ok.inj, ok.has, ok.cab, (fun z => by cases z), ok.frames, ok.stk, ok.exf, ok.bs, ok.bsz, ok.noex, ok.exfs, ok.funs, ok.frf⟩
theorem Inv.suite (I : Inv X pins σ H s) (a : Addr) : Inv (X.suite a) pins σ H s := ⟨I.ok.suite a, I.os, I.bare, I.base, I.loc, I.cell, I.free, I.freeC, I.pin, I.hok, I.len⟩
theorem Inv.unsuite {a : Addr} (ok : X.Ok) (I : Inv (X.suite a) pins σ H s) : Inv X pins σ H s := ⟨ok, I.os, I.bare, I.base, I.loc, I.cell, I.free, I.freeC, I.pin, I.hok, I.len⟩
theorem SP.unsuite {a : Addr} (ok : X.Ok) {D : Ends} {f : Flow} {s' : Shared} (h : SP (X.suite a) pins D f s') : SP X pins D f s' := by
  cases f with
  | next => obtain ⟨σ', H', I, q⟩ := h; exact ⟨σ', H', I.unsuite ok, q⟩
  | brk => obtain ⟨σ', H', I, q⟩ := h; exact ⟨σ', H', I.unsuite ok, q⟩
  | cont => obtain ⟨σ', H', I, q⟩ := h; exact ⟨σ', H', I.unsuite ok, q⟩
  | ret u => obtain ⟨v, σ', H', I, r, q⟩ := h; exact ⟨v, σ', H', I.unsuite ok, r, q⟩
/-- the locals are forgotten (a name of theirs went) -/
theorem Inv.lost {h' : Heap} {m' : Str → Option Value} {tk : Nat} (I : Inv X pins σ H s) (hn : h'.Ns X.env.locals m') (sb : Heap.SameBut X.env.locals s.heap h') : Inv X pins (List.replicate X.N.length none) H { s with heap := h', toks := tk } := by
  have low : ∀ {b : Addr} {o : Obj}, X.s₀.heap.get? b = some o → b ≠ X.env.locals := fun {b o} e => Nat.ne_of_lt (Nat.lt_of_lt_of_le (Heap.lt_size e) I.ok.above)
  refine ⟨I.ok, I.os, I.bare, ⟨fun b o e n hb hx => sb.extBut b o (low e) (I.base.keep b o e n hb hx), fun b o e n hb hx => ?_, I.base.free, fun b o e hx => ?_, I.base.tups, I.base.frzs, I.base.tbls⟩, ⟨m', hn, fun i x v _ e2 _ => ?_⟩, fun x c e => ?_, I.free, I.freeC, fun p hp => ?_, ?_, by simp⟩
  · obtain ⟨sl, e1⟩ := I.base.slot b o e n hb hx
    exact ⟨sl, sb.extBut b _ (low e) e1⟩
  · obtain ⟨o', e1⟩ := I.base.there b o e hx
    exact ⟨o', sb.extBut b _ (low e) e1⟩
  · rw [List.getElem?_replicate] at e2
    split at e2 <;> cases e2
  · obtain ⟨v, z⟩ := I.cell x c e
    exact ⟨v, z.sameBut sb (I.cne x c e)⟩
  · obtain ⟨e, n, ne, nf, d⟩ := I.pin p hp
    exact ⟨sb.extBut _ _ ne e, n, ne, nf, d⟩
  · exact HOk.but I.hok I.free fun b o hb e => sb.extBut b o hb e
/-- behind a suite whose name went -/
def Ends.lost (D : Ends) (n : Nat) : Ends := { D with nx := fun _ H => D.nx (List.replicate n none) H, bk := fun _ H => D.bk (List.replicate n none) H, ct := fun _ H => D.ct (List.replicate n none) H }
end

/-! ### try: return f(..) / x = f(..), with one clause -/
section
variable {X : Cx} {k : Nat} {f C : Addr} {fd : FuncData} {ps : List Str} {sp : Sp} {x y n : Str} {i j : Nat} {p pos rp tp np hp py : Pos} {e : Expr} {es : List Expr} {t : TA} {b₀ : Stmt} {suite : List Stmt} {ts : TS}
end
end L2
set_option Elab.async false
set_option linter.all false
set_option maxRecDepth 100000
set_option maxHeartbeats 4000000
namespace L2
open PySem PySem.Spec PyProof.Rows PySem.W PySem.Builtin PySem.Builtin.ObjectAttr PySem.Builtin.Getset_descriptor
section
variable {prog : Program} {w : World} {A : Around} {E : Value → Shared → Prop} {s : Shared} {K : Frag} {x C : Addr} {R : Result → Shared → Prop} {h : Heap} {g : Array GenState} {d : Drawn} {t : Nat} {os : OsState} {o : Obj} {name : Str}
structure ExcK (K : Frag) (C : Addr) : Prop where
  ga : findIn K (.ref C) "__getattribute__" = some (some (.builtin "BaseException.__getattribute__"))
  gn : findIn K (.ref C) "__getattr__" = some none
  cl : findIn K (.ref C) "__class__" = some (some (.builtin "object.__class__"))
  gt : specialIn K (.builtin "object.__class__") "__get__" = some (some (.builtin "getset_descriptor.__get__"))
  tk : takesIn K (.builtin "object.__class__") = some true
  mo : mroIn K C (.type "object") = some true
  mb : mroIn K C (.type "BaseException") = some true
end
end L2
set_option Elab.async false
set_option linter.all false
set_option maxRecDepth 100000
set_option maxHeartbeats 4000000
namespace L2
open PySem PySem.Spec PyProof.Rows
/-! ### defs that are called within an except suite -/
structure RoomH (k : Nat) (A : Around) : Prop where
  dp : A.depth + 3 * k + 5 < recursionLimit
  un : A.units + 16 * k + 200 < cLine
theorem Room.h {k : Nat} {A : Around} (r : Room k A) : RoomH k A := ⟨r.dp, r.un⟩
theorem RoomH.mono {j k : Nat} {A : Around} (r : RoomH k A) (h : j ≤ k) : RoomH j A := ⟨by have := r.dp; omega, by have := r.un; omega⟩
theorem RoomH.deeper {k : Nat} {A : Around} (r : RoomH (k + 1) A) (env : Env) : RoomH k (A.deeper env) :=
  ⟨by have := r.dp; show A.depth + 1 + 3 * k + 5 < _; omega, by have := r.un; show A.units + 3 + 16 * k + 200 < _; omega⟩
theorem RoomH.depth {k : Nat} {A : Around} (r : RoomH k A) : A.depth < recursionLimit := by have := r.dp; omega
theorem RoomH.units0 {k : Nat} {A : Around} (r : RoomH k A) : A.units < cLine := by have := r.un; omega
theorem RoomH.suite {k : Nat} {X : Cx} {a : Addr} (r : RoomH k X.A) : RoomH k (X.suite a).A := ⟨r.dp, r.un⟩
structure FnH (P : Program) (w : World) (K : PySem.W.Frag) (mg : Str → Option Value) (base : Heap) (k : Nat) (f : Addr) (fd : FuncData) (ps : List Str) (sp : Sp) : Prop where
  len : ∀ vs H Q, sp vs H Q E0 → vs.length = ps.length
  run : ∀ (A : Around) (outer : List Env) (s : Shared) (H : Hp) (args : Args) (us : List Value) (vs : List V) (Q : VK), RoomH k A → Env0 P w K mg base A outer s H → BindsTo s fd args (ps.zip us) → Vals vs us → sp vs H Q E0 →
    codeAny (model P w) A (.call (.ref f) args) (CR CX0 outer P w H s Q E0) s
section
variable {P : Program} {w : World} {K : PySem.W.Frag} {mg : Str → Option Value} {base : Heap}
end
section
variable {X : Cx} {k : Nat} {f : Addr} {fd : FuncData} {ps : List Str} {sp : Sp} {x : Str} {p pos : Pos} {e : Expr} {es : List Expr} {t : TA}
end
end L2
set_option Elab.async false
set_option linter.all false
set_option maxRecDepth 100000
set_option maxHeartbeats 4000000
namespace Kp
open PySem L2
/-- a def that may raise -/
structure CalE (P : Program) (w : World) (K : PySem.W.Frag) (mg : Str → Option Value) (base : Heap) (name : Str) (k : Nat) (ps : List Str) (sp : Sp) : Prop where
  ex : ∃ f fd, FnOk P w K mg base (CXe P w) k f fd ps sp ∧ mg name = some (.ref f) ∧ PySem.W.keepIn K (.ref f) = true ∧ Binds K fd ps []
/-- a def that an except suite calls -/
structure CalH (P : Program) (w : World) (K : PySem.W.Frag) (mg : Str → Option Value) (base : Heap) (name : Str) (k : Nat) (ps : List Str) (sp : Sp) : Prop where
  ex : ∃ f fd, FnH P w K mg base k f fd ps sp ∧ mg name = some (.ref f) ∧ PySem.W.keepIn K (.ref f) = true ∧ Binds K fd ps []
theorem CalE.mono {P : Program} {w : World} {K : PySem.W.Frag} {mg : Str → Option Value} {base : Heap} {x : Str} {k k' : Nat} {ps : List Str} {sp : Sp} (C : CalE P w K mg base x k ps sp) (h : k ≤ k') : CalE P w K mg base x k' ps sp :=
  let ⟨f, fd, F, a, b, c⟩ := C.ex
  ⟨⟨f, fd, F.mono h, a, b, c⟩⟩
/-- the classes of refusals, as the module has them -/
structure ExcF (K : PySem.W.Frag) (mg : Str → Option Value) (cP cL c1 c2 c3 c4 : Addr) : Prop where
  mP : mg "NoPlace" = some (.ref cP)
  mL : mg "LogError" = some (.ref cL)
  m1 : mg "NoLetter" = some (.ref c1)
  m2 : mg "NoKeeper" = some (.ref c2)
  m3 : mg "NoRoom" = some (.ref c3)
  m4 : mg "NoSchedule" = some (.ref c4)
  mV : mg "ValueError" = none
  xP : PySem.W.excIn K cP mroV "ValueError.__new__" = true
  ex : PySem.W.exmOne K (.ref cP) (.ref cL) = some true
  ek : ExcK K cP
  ci : (PySem.W.clsIn K cP).isSome = true
  k1 : PySem.W.kitOne K (.ref cP) (.ref cP) = some true
  k2 : PySem.W.kitOne K (.ref cP) (.type "ValueError") = some true
  k3 : PySem.W.kitAny K (.ref cP) ([c1, c2, c3, c4].map Value.ref) = some false
end Kp
namespace K1
open PySem L2 Kp
end K1
set_option Elab.async false
set_option linter.all false
set_option maxRecDepth 100000
set_option maxHeartbeats 4000000
namespace L2
open PySem PySem.Spec PyProof.Rows
section
variable {X : Cx} {k : Nat} {f C : Addr} {fd : FuncData} {ps : List Str} {sp : Sp} {x m : Str} {p pos apos : Pos} {e o : Expr} {es : List Expr} {ta : TE} {t : TA}
end
/-! ### try: if c: return a; return b, with one clause that has a name -/
section
variable {X : Cx} {C : Addr} {y n : Str} {j : Nat} {ip r1 r2 tp np hp : Pos} {c e1 e2 : Expr} {tc : TT} {t1 t2 : XK → TE} {b₀ : Stmt} {suite : List Stmt} {ts : TS}
end
end L2
set_option Elab.async false
set_option linter.all false
set_option maxRecDepth 100000
set_option maxHeartbeats 4000000
namespace Kp
open PySem L2 PySem.Spec PyProof.Rows
end Kp
namespace K1
open PySem L2 Kp
/-! ### a road: what it holds, and the addresses that are its own -/
abbrev Rd := Hp → Addr → (Addr → Prop) → List V → Prop
/-- all but what is owned stays -/
def Keeps (O : Addr → Prop) (H H' : Hp) : Prop := ∀ b o, ¬ O b → H b = some o → H' b = some o
/-- what is owned behind was owned ahead, or is new -/
def Grows (O O' : Addr → Prop) (H : Hp) : Prop := ∀ b, O' b → O b ∨ H b = none
structure RdL (R : Rd) (C : Addr) : Prop where
  frame : ∀ {H H' : Hp} {a : Addr} {O : Addr → Prop} {xs : List V}, R H a O xs → SameT H H' → (∀ b o, O b → H b = some o → H' b = some o) → R H' a O xs
  dom : ∀ {H : Hp} {a : Addr} {O : Addr → Prop} {xs : List V}, R H a O xs → ∀ b, O b → ∃ o, H b = some o
  notT : ∀ {H : Hp} {a : Addr} {O : Addr → Prop} {xs : List V}, R H a O xs → ∀ b vs, O b → H b = some (.tup vs) → False
  ins : ∀ {H : Hp} {a : Addr} {O : Addr → Prop} {xs : List V}, R H a O xs → ∃ dx fs, H a = some (.ins C dx fs) ∧ fs.lookup ("put" : Str) = none ∧ fs.lookup ("look" : Str) = none ∧ fs.lookup ("take" : Str) = none ∧ fs.lookup ("waiting" : Str) = none
theorem RdL.same {R : Rd} {C : Addr} (L : RdL R C) {H H' : Hp} {a : Addr} {O : Addr → Prop} {xs : List V} (r : R H a O xs) (s : Same H H') : R H' a O xs := L.frame r (sameT_of s) fun b o _ e => s _ _ e
theorem RdL.fresh {R : Rd} {C : Addr} (L : RdL R C) {H : Hp} {a b : Addr} {O : Addr → Prop} {xs : List V} (r : R H a O xs) (hb : H b = none) : ¬ O b := fun z => by
  obtain ⟨o, e⟩ := L.dom r b z
  rw [hb] at e
  cases e
def LtOk (H : Hp) (xs : List V) : Prop := ∀ x ∈ xs, ∃ p vs, x = .ref p ∧ H p = some (.tup vs)
theorem LtOk.sameT {H H' : Hp} {xs : List V} (h : LtOk H xs) (s : SameT H H') : LtOk H' xs := fun x hx => let ⟨p, vs, e, hp⟩ := h x hx; ⟨p, vs, e, s _ _ hp⟩
theorem LtOk.same {H H' : Hp} {xs : List V} (h : LtOk H xs) (s : Same H H') : LtOk H' xs := h.sameT (sameT_of s)
theorem LtOk.alike {K : PySem.W.Frag} {H : Hp} {xs : List V} (h : LtOk H xs) : ∀ (i : Nat) (x y : V), xs[i]? = some x → xs[i]? = some y → Alike K H 0 x y := fun i x y e1 e2 => by
  rw [e1] at e2
  cases e2
  obtain ⟨p, vs, rfl, _⟩ := h x (List.mem_of_getElem? e1)
  exact .ref p
def spRInit (R : Rd) (C : Addr) : Sp := fun vs H Q _ => ∃ x dx : Addr, vs = [.ref x] ∧ H x = some (.ins C dx []) ∧ ∀ (O : Addr → Prop) (H' : Hp), R H' x O [] → (∀ b, O b → b = x ∨ H b = none) → (∀ b o, b ≠ x → H b = some o → H' b = some o) → Q .non H'
def spRPut (R : Rd) : Sp := fun vs H Q _ => ∃ (a l : Addr) (O : Addr → Prop) (xs ys : List V), vs = [.ref a, .ref l] ∧ R H a O xs ∧ H l = some (.lst ys) ∧ ¬ O l ∧ LtOk H ys ∧ xs.length + ys.length ≤ 3000 ∧ ∀ (O' : Addr → Prop) (H' : Hp), R H' a O' (xs ++ ys) → Grows O O' H → Keeps O H H' → Q .non H'
def spRLook (R : Rd) (cP : Addr) : Sp := fun vs H Q E => ∃ (a : Addr) (O : Addr → Prop) (xs : List V) (i : Int), vs = [.ref a, .int i] ∧ R H a O xs ∧ LtOk H xs ∧ xs.length ≤ 3000 ∧ (∀ (j : Nat) (x : V), i = (j : Int) → xs[j]? = some x → ∀ H', Same H H' → Q x H') ∧ ((i < 0 ∨ (xs.length : Int) ≤ i) → ∀ H', Same H H' → E (.ref cP) none H')
def spRTake (R : Rd) (cP : Addr) : Sp := fun vs H Q E => ∃ (a : Addr) (O : Addr → Prop) (xs : List V) (i : Int), vs = [.ref a, .int i] ∧ R H a O xs ∧ LtOk H xs ∧ xs.length ≤ 3000 ∧ (∀ (j : Nat) (x : V), i = (j : Int) → xs[j]? = some x → ∀ (O' : Addr → Prop) (H' : Hp), R H' a O' (xs.take j ++ xs.drop (j + 1)) → Grows O O' H → Keeps O H H' → Q x H') ∧ ((i < 0 ∨ (xs.length : Int) ≤ i) → ∀ H', Same H H' → E (.ref cP) none H')
def spRWait (R : Rd) : Sp := fun vs H Q _ => ∃ (a : Addr) (O : Addr → Prop) (xs : List V), vs = [.ref a] ∧ R H a O xs ∧ LtOk H xs ∧ xs.length ≤ 3000 ∧ ∀ (l : Addr) (H' : Hp), H' l = some (.lst xs) → H l = none → Same H H' → Q (.ref l) H'
/-- a class of roads: its methods -/
structure RdM (P : Program) (w : World) (K : PySem.W.Frag) (mg : Str → Option Value) (base : Heap) (R : Rd) (C cP : Addr) (kR : Nat) : Prop where
  cl : Cls K C
  gl : mg "Road" = some (.ref C)
  init : ∃ f fd, Mk K C f ∧ FnOk P w K mg base CX0 kR f fd ["self"] (spRInit R C) ∧ Binds K fd ["self"] []
  put : ∃ f fd p, Meth K C "put" f ∧ FnOk P w K mg base CX0 kR f fd ["self", p] (spRPut R) ∧ Binds K fd ["self", p] []
  look : ∃ f fd p, Meth K C "look" f ∧ FnOk P w K mg base (CXe P w) kR f fd ["self", p] (spRLook R cP) ∧ Binds K fd ["self", p] []
  take : ∃ f fd p, Meth K C "take" f ∧ FnOk P w K mg base (CXe P w) kR f fd ["self", p] (spRTake R cP) ∧ Binds K fd ["self", p] []
  waiting : ∃ f fd, Meth K C "waiting" f ∧ FnOk P w K mg base CX0 kR f fd ["self"] (spRWait R) ∧ Binds K fd ["self"] []
end K1
set_option Elab.async false
set_option linter.all false
set_option maxRecDepth 100000
set_option maxHeartbeats 4000000
namespace K1
open PySem L2 Kp
section
variable {P : Program} {w : World} {K : PySem.W.Frag} {mg : Str → Option Value} {base : Heap}
abbrev St41 := Hp → Addr → Int → Option Int → List En → Prop
def Off41 (a : Addr) (H H' : Hp) : Prop := ∀ b o, b ≠ a → H b = some o → H' b = some o
/-- what the law needs of a keeper's state: KS a keeper with its term, voice and row; K0 one as it was made -/
structure K41L (KS : St41) (K0 : Hp → Addr → Prop) (C : Addr) : Prop where
  look : ∀ {H : Hp} {a : Addr} {tm : Int} {vc : Option Int} {es : List En}, KS H a tm vc es → ∃ dx fs vr, H a = some (.ins C dx fs) ∧ fs.lookup ("term" : Str) = some (.int tm) ∧ fs.lookup ("voice" : Str) = some (vcV vc) ∧ fs.lookup ("row" : Str) = some vr ∧ fs.lookup ("way" : Str) = some (.str "plain") ∧ fs.lookup ("wake" : Str) = none ∧ RwP H vr 0 0 es
  frame : ∀ {H H' : Hp} {a : Addr} {tm : Int} {vc : Option Int} {es : List En}, KS H a tm vc es → SameT H H' → (∀ o, H a = some o → H' a = some o) → KS H' a tm vc es
  look0 : ∀ {H : Hp} {a : Addr}, K0 H a → ∃ dx fs, H a = some (.ins C dx fs)
  frame0 : ∀ {H H' : Hp} {a : Addr}, K0 H a → SameT H H' → (∀ o, H a = some o → H' a = some o) → K0 H' a
def enOk (es : List En) : Prop := ∀ e ∈ es, e.2 = .opn ∧ 1 ≤ e.1 ∧ e.1 ≤ 2
def spI41 (K0 : Hp → Addr → Prop) (C : Addr) : Sp := fun vs H Q _ => ∃ (x q dx : Addr), vs = [.ref x, .int 4, .ref q] ∧ H x = some (.ins C dx []) ∧ H q = some (.tup (([0, 1, 2, 3, 4] : List Int).map V.int)) ∧ ∀ H', K0 H' x → Off41 x H H' → Q .non H'
def spW41 (KS : St41) : Sp := fun vs H Q _ => ∃ (a : Addr) (tm : Int) (vc : Option Int) (es : List En), vs = [.ref a] ∧ KS H a tm vc es ∧ ∀ H', KS H' a tm vc es → Off41 a H H' → Q .non H'
def spH41 (KS : St41) (K0 : Hp → Addr → Prop) : Sp := fun vs H Q _ => ∃ (a p e : Addr) (us : List V) (es : List En), vs = [.ref a, .ref p] ∧ K0 H a ∧ H p = some (.tup [.str "hand", .int 0, .int 4, .int 2, .int 0, .int 0, .ref e, .int 0]) ∧ H e = some (.tup us) ∧ ET H us es ∧ enOk es ∧ es.length ≤ 3 ∧ ∀ (r h : Addr) (H' : Hp), H' r = some (.lst [.ref h]) → H' h = some (.tup [.str "held", .int 4, .int 0, .int 2, .bl true, .int es.length]) → KS H' a 2 none es → Off41 a H H' → Q (.ref r) H'
def spA41 (KS : St41) : Sp := fun vs H Q _ => ∃ (a p : Addr) (tm : Int) (vc : Option Int) (es : List En) (one term place last : Int), vs = [.ref a, .ref p] ∧ KS H a tm vc es ∧ H p = some (.tup [.str "ask", .int one, .int 4, .int term, .int place, .int last]) ∧ es.length ≤ 3 ∧ ∀ (r h : Addr) (H' : Hp), H' r = some (.lst [.ref h]) → H' h = some (.tup [.str "voice", .int 4, .int one, .int (termF tm term), .bl (giveB tm vc one term place last (lastT 0 es) es.length)]) → KS H' a (termF tm term) (vc2F tm vc one term place last (lastT 0 es) es.length) es → Off41 a H H' → Q (.ref r) H'
structure K41M (P : Program) (w : World) (K : PySem.W.Frag) (mg : Str → Option Value) (base : Heap) (KS : St41) (K0 : Hp → Addr → Prop) (C : Addr) (kI kW : Nat) : Prop where
  cl : Cls K C
  gl : mg "Keeper" = some (.ref C)
  a_term : NoAttr K C "term"
  a_voice : NoAttr K C "voice"
  a_row : NoAttr K C "row"
  a_way : NoAttr K C "way"
  init : ∃ f fd p q, Mk K C f ∧ FnOk P w K mg base CX0 kI f fd ["self", p, q] (spI41 K0 C) ∧ Binds K fd ["self", p, q] []
  wake : ∃ f fd, Meth K C "wake" f ∧ FnOk P w K mg base CX0 kW f fd ["self"] (spW41 KS) ∧ Binds K fd ["self"] []
def tL41 (KS : St41) : TS := fun D σ H => ∃ (v0 v3 v4 v6 v8 v9 v10 v11 v12 : Option V) (a sl el hl : Addr) (ds : List Int) (tm : Int) (vc : Option Int) (es : List En), σ = [v0, some (.ref a), some (.ref sl), v3, v4, some (.ref el), v6, some (.ref hl), v8, v9, v10, v11, v12] ∧ KS H a tm vc es ∧ es.length ≤ 3 ∧ H sl = some (.lst (ds.map V.int)) ∧ ds.length = 5 ∧ (∀ d ∈ ds, 0 ≤ d ∧ d < 9) ∧ H el = some (.lst [.int (lastT 0 es), .int es.length]) ∧ H hl = some (.lst [.int tm, vcV vc]) ∧ hl ≠ el ∧ hl ≠ sl ∧
  ∀ (w6 w9 w10 w11 w12 : Option V) (tm' : Int) (vc' : Option Int) (H' : Hp), KS H' a tm' vc' es → H' hl = some (.lst [.int tm', vcV vc']) → (∀ b o, b ≠ a → b ≠ hl → H b = some o → H' b = some o) → D.nx [v0, some (.ref a), some (.ref sl), v3, v4, some (.ref el), w6, some (.ref hl), v8, w9, w10, w11, w12] H'
theorem en_alike {K : PySem.W.Frag} {H : Hp} {us vs : List V} {es : List En} (h : ET H us es) (h' : ET H vs es) (ok : enOk es) : ∀ (i : Nat) (x y : V), us[i]? = some x → vs[i]? = some y → Alike K H 2 x y := fun i x y e1 e2 => by
  have hi : i < es.length := by rw [← h.length]; exact (List.getElem?_eq_some_iff.mp e1).1
  obtain ⟨p, u, g, hp, hu⟩ := h.get hi
  obtain ⟨q, u', g', hq, hu'⟩ := h'.get hi
  rw [g] at e1
  rw [g'] at e2
  cases e1
  cases e2
  rw [(ok _ (List.getElem_mem hi)).1] at hu hu'
  obtain ⟨p2, rfl, h2⟩ := hu
  obtain ⟨q2, rfl, h2'⟩ := hu'
  refine .tup (SqT.of hp) (SqT.of hq) rfl fun j x y e1 e2 => ?_
  match j, e1, e2 with
  | 0, e1, e2 => cases e1; cases e2; exact .flat rfl
  | 1, e1, e2 =>
    cases e1
    cases e2
    exact .tup (SqT.of h2) (SqT.of h2') rfl fun k x y e1 e2 => by
      rw [e1] at e2
      cases e2
      match k, e1 with
      | 0, e1 => cases e1; exact .flat rfl
      | k + 1, e1 => simp at e1
theorem eto_sameT {H H' : Hp} (s : SameT H H') : ∀ {us : List V} {es : List En}, ET H us es → enOk es → ET H' us es
  | _, _, .nil, _ => .nil
  | _, _, .cons (x := x) hp hu r, ok => by
    have e : x = .opn := (ok _ (List.mem_cons_self ..)).1
    subst e
    obtain ⟨q, e, hq⟩ := hu
    exact .cons (s _ _ hp) ⟨q, e, s _ _ hq⟩ (eto_sameT s r fun e h => ok e (List.mem_cons_of_mem _ h))
theorem rwo_sameT {H H' : Hp} {v : V} {es : List En} (h : RwP H v 0 0 es) (ok : enOk es) (s : SameT H H') : RwP H' v 0 0 es := by
  obtain ⟨r, c, us, e, h1, h2, h3⟩ := h
  exact ⟨r, c, us, e, s _ _ h1, s _ _ h2, eto_sameT s h3 ok⟩
theorem rwo_alike {K : PySem.W.Frag} {H : Hp} {v u : V} {es : List En} (h : RwP H v 0 0 es) (h' : RwP H u 0 0 es) (ok : enOk es) {c : Bool} {Q : VK} (q : Q (.bl c) H) : rAl K c v u H Q := by
  obtain ⟨r, c1, us, rfl, h1, h2, h3⟩ := h
  obtain ⟨r', c2, us', rfl, h1', h2', h3'⟩ := h'
  refine ⟨r, r', _, _, 3, rfl, rfl, SqT.of h1, SqT.of h1', rfl, fun i x y e1 e2 => ?_, by decide, q⟩
  match i, e1, e2 with
  | 0, e1, e2 => cases e1; cases e2; exact .flat rfl
  | 1, e1, e2 => cases e1; cases e2; exact .flat rfl
  | 2, e1, e2 => cases e1; cases e2; exact .tup (SqT.of h2) (SqT.of h2') (by rw [h3.length, h3'.length]) (en_alike h3 h3' ok)
  | i + 3, e1, _ => simp at e1
def esO (ts : List Int) : List En := ts.map fun t => (t, What.opn)
theorem et_made {H : Hp} : ∀ {ys : List V} {ts : List Int}, ys.length = ts.length → (∀ (i : Nat) v, ys[i]? = some v → ∃ (p q : Addr) (t : Int), v = .ref p ∧ ts[i]? = some t ∧ H p = some (.tup [.int t, .ref q]) ∧ H q = some (.tup [.str "open"])) → ET H ys (esO ts)
  | [], [], _, _ => .nil
  | y :: ys, t :: ts, e, h => by
    obtain ⟨p, q, t', rfl, ht, hp, hq⟩ := h 0 y rfl
    cases ht
    exact .cons hp ⟨q, rfl, hq⟩ (et_made (by simpa using e) fun i v hv => h (i + 1) v hv)
theorem cut_ints (ys : List Int) (lo hi : Option Int) : ∃ ts : List Int, cutV (ys.map V.int) lo hi = ts.map V.int ∧ ts.length ≤ ys.length ∧ ∀ t ∈ ts, t ∈ ys := by
  refine ⟨(ys.drop (HT.sIx (ys.map V.int).length 0 lo)).take (HT.sIx (ys.map V.int).length (ys.map V.int).length hi - HT.sIx (ys.map V.int).length 0 lo), ?_, ?_, fun t h => List.mem_of_mem_drop (List.mem_of_mem_take h)⟩
  · unfold cutV
    rw [List.map_take, List.map_drop]
  · rw [List.length_take, List.length_drop]
    omega
def spLaw (K : PySem.W.Frag) : Sp := fun vs H Q _ => ∃ (a : Addr) (ns : List Int), vs = [.ref a] ∧ SqL K H a (ns.map V.int) ∧ ns.length ≤ 63 ∧ ∀ H', Q (.bl true) H'
theorem scL41 : FnScope ["_law_script", "_law_keeper", "_law_some", "_law_terms", "_law_row", "_law_end", "_law_term", "_law_held", "_law_at", "_law_last", "_law_letter", "_law_due", "_law_found"] ["_law_script"] (defScope sLaw) := ⟨rfl, rfl, rfl, by decide +kernel, rfl, by decide +kernel, by decide +kernel⟩
theorem ok_law {f : Addr} {fd : FuncData} {KS : St41} {K0 : Hp → Addr → Prop} {C : Addr} {kI kW kH kA LV : Nat} (hL : 2 ≤ LV ∧ kI + 1 ≤ LV ∧ kW ≤ LV ∧ kH ≤ LV ∧ kA ≤ LV) (L : K41L KS K0 C) (M : K41M P w K mg base KS K0 C kI kW) (F : Fun K "law" "law" sLaw f fd) (T : Txt mg) (CM : Cal P w K mg base "_law_mixed" 2 ["_law_script", "_law_k"] (spMixG K)) (CD : Cal P w K mg base "_law_drawn" 1 ["_law_number", "_law_sizes"] spDraw) (CG : Cal P w K mg base "_law_given" 1 ["_law_held", "_law_one", "_law_term", "_law_place", "_law_last", "_law_end"] spGiv) (CH : Cal P w K mg base "take_hand" kH ["keeper", "letter"] (spH41 KS K0)) (CA : Cal P w K mg base "take_ask" kA ["keeper", "letter"] (spA41 KS)) : FnOk P w K mg base CX0 (LV + 1) f fd ["_law_script"] (spLaw K) := by
  refine F.ok scL41 (fun vs H Q E ⟨_, _, e, _⟩ => by subst e; rfl) (fun cdv A outer s H vs Q E hr h => ?_)
  obtain ⟨a0, ns, rfl, hS, hlen, k⟩ := h
  obtain ⟨gM, dM, GM, mM, kM, bM⟩ := CM.ex
  obtain ⟨gD, dD, GD, mD, kD, bD⟩ := CD.ex
  obtain ⟨gG, dG, GG, mG, kG, bG⟩ := CG.ex
  obtain ⟨gH, dH, GH, mH, kH, bH⟩ := CH.ex
  obtain ⟨gA, dA, GA, mA, kA, bA⟩ := CA.ex
  obtain ⟨fI, dI, p1, p2, MI, FI, bI⟩ := M.init
  obtain ⟨fW, dW, MW, FW, bW⟩ := M.wake
  have r1 := hr.mono (show 1 ≤ LV by omega)
  have r2 := hr.mono hL.1
  have rI := hr.mono hL.2.1
  have rW := hr.mono hL.2.2.1
  have rH := hr.mono hL.2.2.2.1
  have rA := hr.mono hL.2.2.2.2
  refine ⟨_, @pss_p _ _ _ _ _ (ps_set (i := 1) scL41.nd (by rfl) (by exact Or.inl rfl) (pe_make MI FI rI (by rfl) M.gl bI .nil pass0 (pa_i pe_int (pa_t (QE.h (qx_tup (qa_int (qa_int (qa_int (qa_int (qa_int (qa_nil)))))))) pa_nil))))
    (@pss_p _ _ _ _ _ (ps_set (i := 2) scL41.nd (by rfl) (by exact Or.inl rfl) (pe_call GD r1 (by rfl) mD kD bD .nil pass0 (pa_k (pe_call GM r2 (by rfl) mM kM bM .nil pass0 (pa_n (pv 0) (pa_i pe_int pa_nil))) (pa_l (QE.h (qx_lst (qa_int (qa_int (qa_nil))))) pa_nil))))
    (@pss_p _ _ _ _ _ (ps_set (i := 3) scL41.nd (by rfl) (by exact Or.inl rfl) (pe_slice sl_list (pe_callB call_sortedI (by rfl) T.sorted PyProof.Rows.boot_sorted (pa_l (QE.h (qx_lst (qa_b (pe_op op_add (pe_int) (pe_op op_fdiv (pe_ix ix_list (pv 2) pe_int px_i) (pe_int))) (qa_b (pe_op op_add (pe_int) (pe_op op_mod (pe_ix ix_list (pv 2) pe_int px_i) (pe_int))) (qa_int qa_nil))))) pa_nil)) po_none (po_some (pe_ix ix_list (pv 2) pe_int px_i))))
    (@pss_p _ _ _ _ _ (ps_set (i := 4) scL41.nd (by rfl) (by exact Or.inl rfl) (QE.h (qx_tup (qa_int (qa_int (qa_k (pe_callTy call_tuple_of (by rfl) T.tuple boot_tuple (pa_cons (pe_comp (NB := ["_law_term"]) (n := 1) (fr := []) (compOk0 (outer := defScope sLaw)  (by rfl) (by decide +kernel) (by rfl)) (by rfl) (pi_list (pv 3))
      (fun _ _ _ _ _ => pg_name (i := 0) (show (["_law_term"] : List Str).Nodup by decide +kernel) (by rfl) (by exact Or.inl rfl)) (fun _ _ _ _ _ => pifs_nil) (fun _ _ _ _ _ => QE.h (qx_tup (qa_n (pv 0) (qa_tup (qa_str qa_nil) qa_nil))))) pa_nil)) qa_nil))))))
    (@pss_p _ _ _ _ _ (ps_if (pt_cmpR (op_neAL hr.units100) (pe_call GH rH (by rfl) mH kH bH .nil pass0 (pa_n (pv 1) (pa_t (QE.h (qx_tup (qa_str (qa_int (qa_int (qa_int (qa_int (qa_int (qa_s (pe_ix ix_tup (pv 4) (pe_int) px_i) (qa_int qa_nil)))))))))) pa_nil))) (QE.h (qx_lst (qa_tup (qa_str (qa_int (qa_int (qa_int (qa_bl (qa_k (pe_callB call_len_seq (by rfl) T.len PySem.boot_len (pa_n (pv 3) pa_nil)) qa_nil)))))) qa_nil))) (nomark _)) (@pss_o _ _ _ (ps_ret pe_bl)) pss_nil)
    (@pss_p _ _ _ _ _ (ps_set (i := 5) scL41.nd (by rfl) (by exact Or.inl rfl) (QE.h (qx_lst (qa_int (qa_int (qa_nil))))))
    (@pss_p _ _ _ _ _ (ps_for PassesOwn.never (by rfl) (pi_list (pv 3)) (pg_name (i := 6) scL41.nd (by rfl) (by exact Or.inl rfl)) (@pss_o _ _ _ (ps_set (i := 5) scL41.nd (by rfl) (by exact Or.inl rfl) (QE.h (qx_lst (qa_n (pv 6) (qa_b (pe_op op_add (pe_ix ix_list (pv 5) pe_int px_i) (pe_int)) qa_nil)))))))
    (@pss_p _ _ _ _ _ (ps_set (i := 7) scL41.nd (by rfl) (by exact Or.inl rfl) (QE.h (qx_lst (qa_int (qa_non qa_nil)))))
    (@pss_p _ _ _ _ _ (ps_for PassesOwn.never (by rfl) (pi_range2 (by rfl) T.range (pa_i pe_int (pa_k (pe_callB call_len_seq (by rfl) T.len PySem.boot_len (pa_n (pv 0) pa_nil)) pa_nil))) (pg_name (i := 8) scL41.nd (by rfl) (by exact Or.inl rfl)) (@pss_p _ _ _ _ _ (ps_set (i := 2) scL41.nd (by rfl) (by exact Or.inl rfl) (pe_call GD r1 (by rfl) mD kD bD .nil pass0 (pa_k (pe_call GM r2 (by rfl) mM kM bM .nil pass0 (pa_n (pv 0) (pa_n (pv 8) pa_nil))) (pa_l (QE.h (qx_lst (qa_int (qa_int (qa_int (qa_int (qa_int (qa_nil)))))))) pa_nil))))
    (@pss_p _ _ _ _ _ (PS.weakU (t' := tL41 KS) (ps_if (pt_cmpR op_eq (pe_ix ix_list (pv 2) pe_int px_i) pe_int (nomark _)) (@pss_o _ _ _ (ps_expr (pe_meth0 (pv 1) M.cl MW FW rW bW .nil pass0))) (@pss_p _ _ _ _ _ (ps_set (i := 6) scL41.nd (by rfl) (by exact Or.inl rfl) (pe_callB (call_max2 (by rfl)) (by rfl) T.max boot_max (pa_i pe_int (pa_b (pe_op op_sub (pe_op op_add (pe_ix ix_list (pv 7) pe_int px_i) (pe_ix ix_list (pv 2) pe_int px_i)) (pe_int)) pa_nil))))
    (@pss_p _ _ _ _ _ (ps_set (i := 9) scL41.nd (by rfl) (by exact Or.inl rfl) (pe_op op_mul (pe_ix ix_list (pv 2) pe_int px_i) (pe_callTy call_int1 (by rfl) T.int boot_int (pa_c (pe_cmpR op_gt (pe_ix ix_list (pv 2) pe_int px_i) pe_int (nomark _)) pa_nil))))
    (@pss_p _ _ _ _ _ (ps_set (i := 10) scL41.nd (by rfl) (by exact Or.inl rfl) (QE.h (qx_tup (qa_str (qa_s (pe_ix ix_list (pv 2) pe_int px_i) (qa_int (qa_n (pv 6) (qa_b (pe_op op_mul (pe_ix ix_list (pv 2) pe_int px_i) (pe_callTy call_int1 (by rfl) T.int boot_int (pa_c (pe_cmpR op_gt (pv 9) pe_int (nomark _)) pa_nil))) (qa_n (pv 9) qa_nil)))))))))
    (@pss_p _ _ _ _ _ (ps_set (i := 11) scL41.nd (by rfl) (by exact Or.inl rfl) (pe_call GG r1 (by rfl) mG kG bG .nil pass0 (pa_n (pv 7) (pa_s (pe_ix ix_list (pv 2) pe_int px_i) (pa_n (pv 6) (pa_s (pe_ix ix_tup (pv 10) (pe_int) px_i) (pa_n (pv 9) (pa_n (pv 5) pa_nil))))))))
    (@pss_p _ _ _ _ _ (ps_set (i := 12) scL41.nd (by rfl) (by exact Or.inl rfl) (pe_call GA rA (by rfl) mA kA bA .nil pass0 (pa_n (pv 1) (pa_n (pv 10) pa_nil))))
    (@pss_o _ _ _ (ps_if (PW.pt (pw_or (pt_cmpR (op_neAL hr.units100) (pv 12) (QE.h (qx_lst (qa_tup (qa_str (qa_int (qa_s (pe_ix ix_list (pv 2) pe_int px_i) (qa_s (pe_ix ix_list (pv 7) pe_int px_i) (qa_n (pv 11) qa_nil))))) qa_nil))) (nomark _)) (pw_or1 (pt_not (pt_val (pe_callB call_isi (by rfl) T.isi boot_isi (pa_s (pe_ix ix_tup (pe_ix ix_list (pv 12) pe_int px_i) (pe_int) px_i) (pa_n (pe_ty (by rfl) T.bool boot_bool) pa_nil)))))))) (@pss_o _ _ _ (ps_ret pe_bl)) pss_nil)))))))) ?w1)
    (@pss_o _ _ _ (ps_if (PW.pt (pw_or (pt_cmpR (op_neAL hr.units100) (pe_lst (pa_cons (pe_fld (pv 1) (by rfl)) (pa_cons (pe_fld (pv 1) (by rfl)) pa_nil))) (pv 7) (nomark _)) (pw_or (pt_cmpR (op_neA hr.units100) (pe_fld (pv 1) (by rfl)) (pv 4) (nomark _)) (pw_or1 (pt_cmpR op_ne (pe_fld (pv 1) (by rfl)) pe_str (nomark _)))))) (@pss_o _ _ _ (ps_ret pe_bl)) pss_nil)))))
    (@pss_o _ _ _ (ps_ret (pe_cmpR (op_eqA hr.units100) (pe_fld (pv 1) (by rfl)) (pv 4) (nomark _)))))))))))), ?_⟩
  case w1 =>
    rintro D σ H ⟨v0, v3, v4, v6, v8, v9, v10, v11, v12, a, sl, el, hl, ds, tm, vc, es, rfl, hK, hes, hsl, hds, hb, hel, hhl, ne1, ne2, q⟩
    obtain ⟨d0, d1, d2, d3, d4, rfl⟩ : ∃ d0 d1 d2 d3 d4, ds = [d0, d1, d2, d3, d4] := by
      match ds, hds with
      | [d0, d1, d2, d3, d4], _ => exact ⟨d0, d1, d2, d3, d4, rfl⟩
    have b3 := hb d3 (by simp)
    have b4 := hb d4 (by simp)
    obtain ⟨dx, fs, vr, ha, lt, lv, lr, lw, lk, hrw⟩ := L.look hK
    have nha : hl ≠ a := fun z => by rw [z, ha] at hhl; cases hhl
    refine ⟨_, rfl, sl, _, _, .int d0, rfl, rfl, SqL.of hsl, atI_nat (j := 0) rfl, rfl, _, rfl, ite2 (fun h => ?_) (fun h => ?_)⟩
    · exact ⟨_, rfl, a, dx, fs, rfl, ha, lk, a, tm, vc, es, rfl, hK, fun H1 hK1 off => q _ _ _ _ _ tm vc H1 hK1 (off _ _ nha hhl) fun b o h1 _ e => off b o h1 e⟩
    · refine ⟨_, rfl, hl, _, _, .int tm, rfl, rfl, SqL.of hhl, atI_nat (j := 0) rfl, _, rfl, sl, _, _, .int d2, rfl, rfl, SqL.of hsl, atI_nat (j := 2) rfl, _, _, rfl, rfl, _, _, rfl, rfl, 1, _, rfl, ?_⟩
      generalize (if tm + d2 - 2 > 1 then tm + d2 - 2 else 1) = term
      refine ⟨_, rfl, sl, _, _, .int d4, rfl, rfl, SqL.of hsl, atI_nat (j := 4) rfl, _, rfl, sl, _, _, .int d3, rfl, rfl, SqL.of hsl, atI_nat (j := 3) rfl, _, _, rfl, rfl, .inr ⟨_, rfl, _, _, rfl, rfl, .inl ⟨by omega, by omega⟩, ?_⟩⟩
      show gName 9 (V.int (d4 * (if decide (0 < d3) = true then 1 else 0))) _ _ _
      generalize d4 * (if decide (0 < d3) = true then 1 else 0) = la
      refine ⟨_, rfl, sl, _, _, .int d1, rfl, rfl, SqL.of hsl, atI_nat (j := 1) rfl, _, rfl, _, rfl, sl, _, _, .int d3, rfl, rfl, SqL.of hsl, atI_nat (j := 3) rfl, _, rfl, _, _, rfl, rfl, .inr ⟨_, rfl, _, _, rfl, rfl, .inl ⟨by omega, by omega⟩, _, rfl, tiny (by show 6 ≤ 1000; decide), fun p hp => ?_⟩⟩
      show gName 10 (V.ref p) _ (upd H p (HO.tup [V.str "ask", V.int d1, V.int 4, V.int term, V.int (d3 * (if decide (0 < la) = true then 1 else 0)), V.int la])) _
      generalize d3 * (if decide (0 < la) = true then 1 else 0) = pl
      have s1 := same_upd (o := HO.tup [V.str "ask", V.int d1, V.int 4, V.int term, V.int pl, V.int la]) hp
      have hp1 : upd H p (HO.tup [V.str "ask", V.int d1, V.int 4, V.int term, V.int pl, V.int la]) p = some (.tup [V.str "ask", V.int d1, V.int 4, V.int term, V.int pl, V.int la]) := upd_same
      generalize upd H p (HO.tup [V.str "ask", V.int d1, V.int 4, V.int term, V.int pl, V.int la]) = H1 at s1 hp1
      have hsl1 := s1 _ _ hsl
      have hhl1 := s1 _ _ hhl
      refine ⟨_, rfl, _, rfl, sl, _, _, .int d1, rfl, rfl, SqL.of hsl1, atI_nat (j := 1) rfl, _, rfl, _, rfl, p, _, _, .int pl, rfl, rfl, SqT.of hp1, atI_nat (j := 4) rfl, _, rfl, _, rfl, hl, el, tm, vc, d1, term, pl, la, lastT 0 es, es.length, rfl, ne1, hhl1, s1 _ _ hel, fun H2 hh2 k2 => ?_⟩
      have sT12 : SameT H1 H2 := fun b vs e => k2 b _ (fun z => by rw [z, hhl1] at e; cases e) e
      have hK2 := L.frame hK (fun b vs e => sT12 _ _ (s1 _ _ e)) fun o e => k2 _ _ nha.symm (s1 _ _ e)
      refine ⟨_, rfl, _, rfl, a, p, tm, vc, es, d1, term, pl, la, rfl, hK2, sT12 _ _ hp1, hes, fun r h H3 hr3 hh3 hK3 off3 => ?_⟩
      have hsl3 := off3 _ _ (fun z => by rw [z, ha] at hsl; cases hsl) (k2 _ _ ne2.symm hsl1)
      have hhl3 := off3 _ _ nha hh2
      refine ⟨_, rfl, _, rfl, sl, _, _, .int d1, rfl, rfl, SqL.of hsl3, atI_nat (j := 1) rfl, _, rfl, hl, _, _, .int (termF tm term), rfl, rfl, SqL.of hhl3, atI_nat (j := 0) rfl, _, rfl, tiny (by show 5 ≤ 1000; decide), fun t1 ht1 => ⟨tiny (by show 1 ≤ 1000; decide), fun t2 ht2 => ?_⟩⟩
      have s4 := same_upd (o := HO.tup [V.str "voice", V.int 4, V.int d1, V.int (termF tm term), V.bl (giveB tm vc d1 term pl la (lastT 0 es) es.length)]) ht1
      have s5 := same_upd (o := HO.lst [V.ref t1]) ht2
      have s45 := s4.trans s5
      refine ⟨r, t2, _, _, 1, rfl, rfl, SqL.of (s45 _ _ hr3), SqL.of upd_same, rfl, fun i x y e1 e2 => ?_, by decide, _, rfl, iteF ?_⟩
      · match i, e1, e2 with
        | 0, e1, e2 =>
          cases e1
          cases e2
          refine .tup (SqT.of (s45 _ _ hh3)) (SqT.of (s5 _ _ upd_same)) rfl fun j x y e1 e2 => ?_
          rw [e1] at e2
          cases e2
          match j, e1 with
          | 0, e1 => cases e1; exact .flat rfl
          | 1, e1 => cases e1; exact .flat rfl
          | 2, e1 => cases e1; exact .flat rfl
          | 3, e1 => cases e1; exact .flat rfl
          | 4, e1 => cases e1; exact .flat rfl
          | j + 5, e1 => simp at e1
        | i + 1, e1, _ => simp at e1
      refine ⟨_, rfl, r, _, _, .ref h, rfl, rfl, SqL.of (s45 _ _ hr3), atI_nat (j := 0) rfl, h, _, _, .bl _, rfl, rfl, SqT.of (s45 _ _ hh3), atI_nat (j := 4) rfl, _, _, _, _, rfl, .bl _, kit_bool K (.bl (giveB tm vc d1 term pl la (lastT 0 es) es.length)), _, rfl, iteF ?_⟩
      exact q _ _ _ _ _ _ _ _ (L.frame hK3 (sameT_of s45) fun o e => s45 _ _ e) (s45 _ _ hhl3) fun b o h1 h2 e => s45 _ _ (off3 b o h1 (k2 b o h2 (s1 _ _ e)))
  refine ⟨tiny (by show 5 ≤ 1000; decide), fun q hq => ?_⟩
  have sq := same_upd (o := HO.tup (([0, 1, 2, 3, 4] : List Int).map V.int)) hq
  have hq1 : upd H q (HO.tup (([0, 1, 2, 3, 4] : List Int).map V.int)) q = some (.tup (([0, 1, 2, 3, 4] : List Int).map V.int)) := upd_same
  refine fun x dx hx hdx hne => ?_
  have hqx : upd (upd (upd H q (HO.tup (([0, 1, 2, 3, 4] : List Int).map V.int))) dx (.own x)) x (.ins C dx []) q = some (.tup (([0, 1, 2, 3, 4] : List Int).map V.int)) := by
    rw [upd_ne (fun z => ?_), upd_ne (fun z => ?_)]
    · exact hq1
    · have z2 : upd H q (HO.tup (([0, 1, 2, 3, 4] : List Int).map V.int)) q = none := z ▸ hdx
      rw [hq1] at z2; cases z2
    · have z2 : upd H q (HO.tup (([0, 1, 2, 3, 4] : List Int).map V.int)) q = none := z ▸ hx
      rw [hq1] at z2; cases z2
  refine ⟨x, q, dx, rfl, upd_same, hqx, fun H1 hk0 off1 => ⟨rfl, ?_⟩⟩
  have s1 : Same H H1 := fun b o e => by
    have e1 := sq _ _ e
    have g1 : b ≠ x := fun z => by subst z; have z2 := e1.symm.trans hx; cases z2
    have g2 : b ≠ dx := fun z => by subst z; have z2 := e1.symm.trans hdx; cases z2
    exact off1 b o g1 (by rw [upd_ne g1, upd_ne g2]; exact e1)
  have nHx : ∀ b o, H b = some o → b ≠ x := fun b o e z => by
    subst z
    have z2 := (sq _ _ e).symm.trans hx
    cases z2
  clear hqx off1 hx hdx hne hq1 sq hq
  refine ⟨_, rfl, a0, ns, _, rfl, SqL.same hS s1, by decide, fun m hm0 hm1 => ⟨tiny (by show 2 ≤ 1000; decide), fun l hl => ?_⟩⟩
  have sl := same_upd (o := HO.lst (([4, 4] : List Int).map V.int)) hl
  refine ⟨m, l, [4, 4], rfl, upd_same, by decide, by decide, fun r ds H2 hr2 hds hb s2 => ?_⟩
  have s12 := sl.trans s2
  obtain ⟨d0, d1, rfl⟩ : ∃ d0 d1, ds = [d0, d1] := by
    match ds, hds with
    | [d0, d1], _ => exact ⟨d0, d1, rfl⟩
  have b1 := hb 1 4 d1 rfl rfl
  refine ⟨_, rfl, r, _, _, .int d1, rfl, rfl, SqL.of hr2, atI_nat (j := 1) rfl, _, _, rfl, rfl, ⟨by decide, by decide⟩, _, _, rfl, rfl, _, rfl, r, _, _, .int d1, rfl, rfl, SqL.of hr2, atI_nat (j := 1) rfl, _, _, rfl, rfl, (by show (0 : Int) < 2; decide), _, _, rfl, rfl, tiny (by show 3 ≤ 1000; decide), fun l3 hl3 => ?_⟩
  have s3 := same_upd (o := HO.lst (([1 + d1 / 2, 1 + d1 % 2, 2] : List Int).map V.int)) hl3
  refine ⟨l3, [1 + d1 / 2, 1 + d1 % 2, 2], rfl, SqL.of upd_same, by show 3 < 64; decide, fun l4 ys hl4 perm pw => ?_⟩
  have s4 := same_upd (o := HO.lst (ys.map V.int)) hl4
  have s14 := (s12.trans s3).trans s4
  have hr4 := s4 _ _ (s3 _ _ hr2)
  refine ⟨_, rfl, r, _, _, .int d0, rfl, rfl, SqL.of hr4, atI_nat (j := 0) rfl, _, rfl, l4, _, rfl, SqL.of upd_same, fun l5 hl5 => ?_⟩
  obtain ⟨ts, ets, lts, mts⟩ := cut_ints ys none (some d0)
  rw [ets] at *
  have bts : ∀ t ∈ ts, 1 ≤ t ∧ t ≤ 2 := fun t h => by
    have h2 := perm.mem_iff.mp (mts t h)
    have c1 := Int.emod_nonneg d1 (show (2 : Int) ≠ 0 by decide)
    have c2 := Int.emod_lt_of_pos d1 (show (0 : Int) < 2 by decide)
    simp only [List.mem_cons, List.not_mem_nil, or_false] at h2
    omega
  have l3' : ts.length ≤ 3 := by rw [perm.length_eq] at lts; exact lts
  have s5 := same_upd (o := HO.lst (ts.map V.int)) hl5
  obtain ⟨H5, e5, hT, s15⟩ : ∃ H5, H5 = upd (upd (upd H2 l3 (HO.lst [V.int (1 + d1 / 2), V.int (1 + d1 % 2), V.int 2])) l4 (HO.lst (ys.map V.int))) l5 (HO.lst (ts.map V.int)) ∧ H5 l5 = some (.lst (ts.map V.int)) ∧ Same H1 H5 := ⟨_, rfl, upd_same, s14.trans s5⟩
  show gName 3 (V.ref l5) _ (upd (upd (upd H2 l3 (HO.lst [V.int (1 + d1 / 2), V.int (1 + d1 % 2), V.int 2])) l4 (HO.lst (ys.map V.int))) l5 (HO.lst (ts.map V.int))) _
  rw [← e5]
  clear e5 s5 hl5 hr4 s14 s4 hl4 s3 hl3 s12 s2 sl hl hr2 perm pw mts lts ets
  have hk5 := L.frame0 hk0 (sameT_of s15) fun o e => s15 _ _ e
  have sH5 := s1.trans s15
  refine ⟨_, rfl, l5, rfl, ⟨_, SqL.of hT⟩, comp_idx (J := Itl K l5) (k := 1) (n := ts.length) (fun i H v => ∃ (p q : Addr) (t : Int), v = .ref p ∧ ts[i]? = some t ∧ H p = some (.tup [.int t, .ref q]) ∧ H q = some (.tup [.str "open"])) (fun i H H' v s ⟨p, q, t, e, ht, hp, hq⟩ => ⟨p, q, t, e, ht, s _ _ hp, s _ _ hq⟩) (by rw [sizeLine_eq]; omega) (fun i H3 hi s4 => ?_) (fun H3 s4 => ?_) ?_ ?_⟩
  · exact ⟨ts.map V.int, .int ts[i], SqL.of (s4 _ _ hT), by simp [hi]⟩
  · exact ⟨ts.map V.int, SqL.of (s4 _ _ hT), by simp⟩
  · intro i H3 t x H4 R hi s4 ht y hR
    obtain ⟨t0, rfl⟩ := one_slot ht
    obtain ⟨rfl, hy⟩ := y
    have hv := hy _ (SqL.of (s4 _ _ hT))
    rw [List.getElem?_map, List.getElem?_eq_getElem hi] at hv
    cases hv
    refine ⟨_, rfl, tiny (by show 1 ≤ 1000; decide), fun q hq => ⟨tiny (by show 2 ≤ 1000; decide), fun p hp => ?_⟩⟩
    exact hR [_] _ _ rfl ((same_upd hq).trans (same_upd hp)) ⟨p, q, ts[i], rfl, by simp [hi], upd_same, same_upd hp _ _ upd_same⟩
  intro D6 H6 us s6 hD6 hd6 hus hy
  refine ⟨D6, us, rfl, .inl ⟨SqL.of hd6, fun c hc => ?_⟩⟩
  have s7 := same_upd (o := HO.tup us) hc
  have hE : ET (upd H6 c (HO.tup us)) us (esO ts) := (et_made hus hy).same s7
  refine ⟨tiny (by show 3 ≤ 1000; decide), fun r4 hr4 => ?_⟩
  have s8 := same_upd (o := HO.tup [V.int 0, V.int 0, V.ref c]) hr4
  have hR8 : RwP (upd (upd H6 c (HO.tup us)) r4 (HO.tup [V.int 0, V.int 0, V.ref c])) (.ref r4) 0 0 (esO ts) := ⟨r4, c, us, rfl, upd_same, s8 _ _ upd_same, hE.same s8⟩
  have hc8 : upd (upd H6 c (HO.tup us)) r4 (HO.tup [V.int 0, V.int 0, V.ref c]) c = some (.tup us) := s8 _ _ upd_same
  have hr8 : upd (upd H6 c (HO.tup us)) r4 (HO.tup [V.int 0, V.int 0, V.ref c]) r4 = some (.tup [V.int 0, V.int 0, V.ref c]) := upd_same
  have hE8 := hE.same s8
  have s58 := (s6.trans s7).trans s8
  generalize upd (upd H6 c (HO.tup us)) r4 (HO.tup [V.int 0, V.int 0, V.ref c]) = H8 at hR8 s58 hc8 hr8 hE8
  have hk8 := L.frame0 hk5 (sameT_of s58) fun o e => s58 _ _ e
  have sH8 := sH5.trans s58
  have hT8 := s58 _ _ hT
  clear hE s8 s7 hr4 hc hd6 hD6 hy s6 hk5 sH5 s58 hT s15 hk0 s1
  have ok : enOk (esO ts) := fun e h => by
    obtain ⟨t, ht, rfl⟩ := List.mem_map.mp h
    exact ⟨rfl, bts t ht⟩
  have len : (esO ts).length = ts.length := List.length_map ..
  obtain ⟨dx8, fs8, hx8⟩ := L.look0 hk8
  have nl5 : l5 ≠ x := fun z => by rw [z, hx8] at hT8; cases hT8
  refine ⟨_, rfl, _, rfl, r4, _, _, .ref c, rfl, rfl, SqT.of hr8, atI_nat (j := 2) rfl, tiny (by show 8 ≤ 1000; decide), fun p9 hp9 => ?_⟩
  have s9 := same_upd (o := HO.tup [V.str "hand", V.int 0, V.int 4, V.int 2, V.int 0, V.int 0, V.ref c, V.int 0]) hp9
  refine ⟨x, p9, c, us, esO ts, rfl, L.frame0 hk8 (sameT_of s9) (fun o e => s9 _ _ e), upd_same, s9 _ _ hc8, hE8.same s9, ok, by rw [len]; exact l3', fun ra ha Ha hra hha hKa offa => ?_⟩
  have hTa := offa _ _ nl5 (s9 _ _ hT8)
  have sTa : SameT H8 Ha := fun b vs e => offa b _ (fun z => by rw [z, hx8] at e; cases e) (s9 _ _ e)
  have sHa : Same H Ha := fun b o e => offa b o (nHx b o e) (s9 _ _ (sH8 _ _ e))
  have hRa := rwo_sameT hR8 ok sTa
  refine ⟨_, rfl, l5, _, rfl, .inl (SqL.of hTa), tiny (by show 6 ≤ 1000; decide), fun t1 ht1 => ⟨tiny (by show 1 ≤ 1000; decide), fun t2 ht2 => ?_⟩⟩
  have sb := same_upd (o := HO.tup [V.str "held", V.int 4, V.int 0, V.int 2, V.bl true, V.int (ts.map V.int).length]) ht1
  have sc := same_upd (o := HO.lst [V.ref t1]) ht2
  have sbc := sb.trans sc
  refine ⟨ra, t2, _, _, 1, rfl, rfl, SqL.of (sbc _ _ hra), SqL.of upd_same, rfl, fun i x y e1 e2 => ?_, by decide, _, rfl, iteF ?_⟩
  · match i, e1, e2 with
    | 0, e1, e2 =>
      cases e1
      cases e2
      refine .tup (SqT.of (sbc _ _ hha)) (SqT.of (sc _ _ upd_same)) rfl fun j x y e1 e2 => ?_
      rw [len, show ts.length = (ts.map V.int).length from (List.length_map ..).symm, e2] at e1
      cases e1
      match j, e2 with
      | 0, e2 => cases e2; exact .flat rfl
      | 1, e2 => cases e2; exact .flat rfl
      | 2, e2 => cases e2; exact .flat rfl
      | 3, e2 => cases e2; exact .flat rfl
      | 4, e2 => cases e2; exact .flat rfl
      | 5, e2 => cases e2; exact .flat rfl
      | j + 6, e2 => simp at e2
    | i + 1, e1, _ => simp at e1
  have hTb := sbc _ _ hTa
  have hKb := L.frame hKa (sameT_of sbc) fun o e => sbc _ _ e
  have sHb := sHa.trans sbc
  have hRb := hRa.same sbc
  generalize upd (upd Ha t1 (HO.tup [V.str "held", V.int 4, V.int 0, V.int 2, V.bl true, V.int (ts.map V.int).length])) t2 (HO.lst [V.ref t1]) = Hb at hTb hKb sHb hRb
  clear sb sc sbc hra hha hRa sHa sTa hTa hKa offa s9 hp9 hk8 hT8 hR8 hc8 hr8 hE8 sH8 nl5 hx8
  refine ⟨tiny (by show 2 ≤ 1000; decide), fun e0 he0 => ?_⟩
  have s0 := same_upd (o := HO.lst [V.int 0, V.int 0]) he0
  have hT0 := s0 _ _ hTb
  refine ⟨_, rfl, l5, rfl, ⟨_, SqL.of hT0⟩, for_list (K := K) (a := l5) (xs := ts.map V.int) (fun i σ H' => ∃ (e : Addr) (t : Option V), σ = [some (.ref a0), some (.ref x), some (.ref r), some (.ref l5), some (.ref r4), some (.ref e), t, none, none, none, none, none, none] ∧ H' e = some (.lst [.int (lastT 0 ((esO ts).take i)), .int i]) ∧ Same Hb H') ⟨e0, none, rfl, upd_same, s0⟩ (fun i σ H' _ ⟨_, _, _, _, s1⟩ => SqL.of (s1 _ _ hTb)) ?_ ?_⟩
  · rintro i y σ H' hy ⟨e, t, rfl, he, sb⟩
    have hi : i < ts.length := by have := (List.getElem?_eq_some_iff.mp hy).1; rwa [List.length_map] at this
    rw [List.getElem?_map, List.getElem?_eq_getElem hi] at hy
    cases hy
    refine ⟨_, rfl, _, rfl, e, _, _, .int i, rfl, rfl, SqL.of he, atI_nat (j := 1) rfl, _, _, rfl, rfl, tiny (by show 2 ≤ 1000; decide), fun e' he' => ⟨e', _, rfl, ?_, sb.trans (same_upd he')⟩⟩
    rw [upd_same, lastT_snoc 0 (esO ts) (by rw [len]; exact hi)]
    simp [esO]
  rintro σ Hc ⟨el, t6, rfl, hel, sbc⟩
  have hfull : (esO ts).take (ts.map V.int).length = esO ts := List.take_of_length_le (by rw [len, List.length_map]; exact Nat.le_refl _)
  rw [hfull, show (ts.map V.int).length = (esO ts).length by rw [len, List.length_map]] at hel
  have hKc := L.frame hKb (sameT_of sbc) fun o e => sbc _ _ e
  have hRc := hRb.same sbc
  have sHc := sHb.trans sbc
  clear sbc hKb hRb sHb hTb hT0 s0 he0
  refine ⟨tiny (by show 2 ≤ 1000; decide), fun hl hhl => ?_⟩
  have sd := same_upd (o := HO.lst [V.int 2, V.non]) hhl
  have ne1 : hl ≠ el := fun z => by rw [← z, hhl] at hel; cases hel
  have nH : ∀ b o, H b = some o → b ≠ hl := fun b o e z => by have := sHc _ _ e; rw [z, hhl] at this; cases this
  have hd1 : upd Hc hl (HO.lst [V.int 2, V.non]) hl = some (.lst [.int 2, vcV none]) := upd_same
  have hKd := L.frame hKc (sameT_of sd) fun o e => sd _ _ e
  have hRd := hRc.same sd
  have sHd := sHc.trans sd
  have held := sd _ _ hel
  generalize upd Hc hl (HO.lst [V.int 2, V.non]) = Hd at hd1 hKd hRd sHd held
  clear sd hKc hRc sHc hel hhl
  have les : (esO ts).length ≤ 3 := by rw [len]; exact l3'
  generalize esO ts = es at hKd hRd held les ok
  have hSd := SqL.same hS sHd
  refine ⟨_, rfl, a0, _, rfl, .inl hSd, _, _, rfl, ⟨by decide, by decide, by rw [List.length_map]; omega, by rw [List.length_map]; omega⟩, ?_⟩
  refine for_range (n := _) (fun i σ H' => ∃ (v2 v3 v6 v8 v9 v10 v11 v12 : Option V) (tm : Int) (vc : Option Int), σ = [some (.ref a0), some (.ref x), v2, v3, some (.ref r4), some (.ref el), v6, some (.ref hl), v8, v9, v10, v11, v12] ∧ KS H' x tm vc es ∧ H' hl = some (.lst [.int tm, vcV vc]) ∧ H' el = some (.lst [.int (lastT 0 es), .int es.length]) ∧ RwP H' (.ref r4) 0 0 es ∧ Same H H')
    ⟨_, _, _, _, _, _, _, _, 2, none, rfl, hKd, hd1, held, hRd, sHd⟩ ?_ ?_
  · rintro i σ He hi ⟨v2, v3, v6, v8, v9, v10, v11, v12, tm, vc, rfl, hKe, hhe, hele, hRe, sHe⟩
    refine ⟨_, rfl, _, rfl, a0, ns, _, rfl, SqL.same hS sHe, by omega, fun m hm0 hm1 => ⟨tiny (by show 5 ≤ 1000; decide), fun l hl' => ?_⟩⟩
    have sl := same_upd (o := HO.lst (([9, 4, 5, 6, 5] : List Int).map V.int)) hl'
    refine ⟨m, l, [9, 4, 5, 6, 5], rfl, upd_same, by decide, by decide, fun sl' ds Hf hsl hds hb sf => ?_⟩
    have sef := sl.trans sf
    have hKf := L.frame hKe (sameT_of sef) fun o e => sef _ _ e
    have nls : hl ≠ sl' := fun z => by
      have z2 := (sef _ _ hhe).symm.trans (z ▸ hsl)
      have z3 := congrArg (fun o => match o with | some (HO.lst xs) => xs.length | _ => 0) z2
      simp [hds] at z3
    obtain ⟨dxf, fsf, _, hxf, _⟩ := L.look hKf
    refine ⟨_, _, _, _, _, _, _, _, _, x, sl', el, hl, ds, tm, vc, es, rfl, hKf, les, hsl, hds, ?_, sef _ _ hele, sef _ _ hhe, ne1, nls, fun w6 w9 w10 w11 w12 tm' vc' Hg hKg hhg kg => ?_⟩
    · intro d hd
      obtain ⟨j, hj, e⟩ := List.mem_iff_getElem.mp hd
      have e2 := (List.getElem?_eq_getElem hj).trans (congrArg some e)
      rw [hds] at hj
      match j, hj, e2 with
      | 0, _, e2 => have := hb 0 9 d rfl e2; omega
      | 1, _, e2 => have := hb 1 4 d rfl e2; omega
      | 2, _, e2 => have := hb 2 5 d rfl e2; omega
      | 3, _, e2 => have := hb 3 6 d rfl e2; omega
      | 4, _, e2 => have := hb 4 5 d rfl e2; omega
      | j + 5, hj, _ => exact absurd hj (by simp)
    obtain ⟨dxg, fsg, vr, hxg, lt, lv, lr, lw, lk, hrw⟩ := L.look hKg
    have sTg : SameT Hf Hg := fun b vs e => kg b _ (fun z => by rw [z, hxf] at e; cases e) (fun z => by rw [z, sef _ _ hhe] at e; cases e) e
    have hRg := rwo_sameT (hRe.same sef) ok sTg
    have sHg : Same H Hg := fun b o e => kg b o (nHx b o e) (nH b o e) (sef _ _ (sHe _ _ e))
    have nex : el ≠ x := fun z => by have := sef _ _ hele; rw [z, hxf] at this; cases this
    have heg := kg _ _ nex ne1.symm (sef _ _ hele)
    refine ⟨_, rfl, x, C, dxg, fsg, _, rfl, hxg, M.cl, M.a_term, lt, _, rfl, x, C, dxg, fsg, _, rfl, hxg, M.cl, M.a_voice, lv, by show 2 ≤ sizeLine; rw [sizeLine_eq]; decide, fun t ht => ⟨_, rfl, ?_⟩⟩
    have st := same_upd (o := HO.lst [V.int tm', vcV vc']) ht
    have hxt := st _ _ hxg
    refine ⟨t, hl, _, _, 1, rfl, rfl, SqL.of upd_same, SqL.of (st _ _ hhg), rfl, fun i x y e1 e2 => ?_, by decide, _, rfl, iteF ?_⟩
    · rw [e1] at e2
      cases e2
      match i, e1 with
      | 0, e1 => cases e1; exact .flat rfl
      | 1, e1 => cases e1; exact .flat (by cases vc' <;> rfl)
      | i + 2, e1 => simp at e1
    refine ⟨_, rfl, x, C, dxg, fsg, vr, rfl, hxt, M.cl, M.a_row, lr, _, rfl, rwo_alike (hrw.same st) (hRg.same st) ok ⟨_, rfl, iteF ?_⟩⟩
    refine ⟨_, rfl, x, C, dxg, fsg, _, rfl, hxt, M.cl, M.a_way, lw, rfl, _, rfl, iteF ?_⟩
    exact ⟨_, _, _, _, _, _, _, _, tm', vc', rfl, L.frame hKg (sameT_of st) (fun o e => st _ _ e), st _ _ hhg, st _ _ heg, hRg.same st, sHg.trans st⟩
  · rintro σ He ⟨v2, v3, v6, v8, v9, v10, v11, v12, tm, vc, rfl, hKe, hhe, hele, hRe, sHe⟩
    obtain ⟨dxg, fsg, vr, hxg, lt, lv, lr, lw, lk, hrw⟩ := L.look hKe
    exact ⟨_, rfl, x, C, dxg, fsg, vr, rfl, hxg, M.cl, M.a_row, lr, _, rfl, rwo_alike hrw hRe ok (k _)⟩
end
end K1
set_option Elab.async false
set_option linter.all false
set_option maxRecDepth 100000
set_option maxHeartbeats 4000000
namespace L2
open PySem PySem.Spec PyProof.Rows
/-! ### t * n of a tuple with parts, 2 ≤ n -/
theorem noFill_tuple_mul : fillsNumberSlot (.type "tuple") "mul" = pure false :=
  PySem.fillsNumberSlot_seq (id := "tuple.__mul__") (r := some (.builtin "tuple.__rmul__")) F.slot_tuple_mul.lookup (by decide +kernel) F.slot_tuple_rmul.lookup (by decide +kernel)
theorem repeat_tuple : seqRepeat? (.type "tuple") = pure (some (.builtin "tuple.__mul__")) := by
  unfold seqRepeat?
  rw [PySem.seqSlot_of (T := "tuple") (name := "__mul__") (id := "tuple.__mul__") F.slot_tuple_mul.lookup (by decide +kernel), PySem.seqSlot_of (T := "tuple") (name := "__rmul__") (id := "tuple.__rmul__") F.slot_tuple_rmul.lookup (by decide +kernel)]
  rfl
theorem int_rmul_tuple (a : Int) (t : Tok) (l : Addr) (items : Array Value) (n : Nat) (dd : Option Addr) (sl : Array (Option Value)) :
    Meets (Builtin.«int.__rmul__» ⟨[.int a t, .ref l], []⟩) (fun _ R s => s.heap.get? l = some { cls := .type "tuple", dict := dd, data := .seq items n, slots := sl } ∧ R (.ok (.ret Value.notImplemented)) s) :=
  .of_wp fun prog w A R s h => by obtain ⟨hp, g, d, tk, os⟩ := s; obtain ⟨hl, h⟩ := h; wp_walk; exact ⟨_, rfl, h⟩
theorem tuple_mulW (l : Addr) (items : Array Value) (n : Nat) (dd : Option Addr) (sl : Array (Option Value)) (x : Int) (u : Tok) (hc0 : ¬(decide (x < -(2 ^ 63)) || decide (x ≥ 2 ^ 63)) = true) (hc1 : ¬(items.isEmpty || x == 1) = true) (hc2 : ¬(decide (x ≤ 0) || items.isEmpty) = true) (hc3 : ¬((items.size : Int) * x > (2 ^ 63 - 1) / 8)) (hc4 : ¬Builtin.Tuple.tupleTooMany ((items.size : Int) * x) = true) (hsz : ((List.replicate x.toNat items).foldl (· ++ ·) #[]).size ≤ sizeLine) :
    Meets (Builtin.«tuple.__mul__» ⟨[.ref l, .int x u], []⟩) (fun _ R s => s.heap.get? l = some { cls := .type "tuple", dict := dd, data := .seq items n, slots := sl } ∧ R (.ok (.ret (Value.ref s.heap.objs.size))) { s with heap := s.heap.push { cls := Value.type "tuple", data := Data.seq ((List.replicate x.toNat items).foldl (· ++ ·) #[]) }, toks := s.toks }) :=
  .of_wp fun prog w A R s h => by
    obtain ⟨hp, g, d, tk, os⟩ := s; obtain ⟨hl, h⟩ := h; have f1 := AutoSeq1.idx_int
    wp_walk using wpAny_loadPart' hl
    refine wpAny_ite_false (decide_eq_false hc0) ?_
    wp_walk using wpAny_loadPart' hl
    refine wpAny_ite_false (decide_eq_false hc3) ?_
    wp_walk using wpAny_loadPart' hl
    exact ⟨_, rfl, h⟩
/-- the same tuple n times over -/
def rRepT : R2 := fun x y H Q => ∃ a k xs, x = .ref a ∧ y = .int k ∧ H a = some (.tup xs) ∧ xs ≠ [] ∧ 2 ≤ k ∧ k < 1000 ∧ xs.length ≤ 1000 ∧ ∀ p, H p = none → Q (.ref p) (upd H p (.tup (List.replicate k.toNat xs).flatten))
theorem op_repT {X : Cx} : OpR X (binaryOp .Mult) rRepT := by
  intro pins s σ H x y v u Q I rx ry h
  obtain ⟨a, k, xs, rfl, rfl, hH, hne, h1, h2, hx, q⟩ := h
  cases rx
  obtain ⟨t, rfl⟩ := ry
  obtain ⟨its, r, p1, _⟩ := I.tuple (SqT.of hH)
  obtain ⟨⟨cls, dd, data, sl⟩, ho, hc, n, hd⟩ := id p1
  simp only at hc hd
  subst hc hd
  have hl := r.length
  have hpos : 0 < its.length := by rw [← hl]; exact List.length_pos_iff.mpr hne
  have hemp : its.toArray.isEmpty = false := by cases its with
    | nil => simp at hpos
    | cons _ _ => rfl
  have hk : ((k.toNat : Nat) : Int) = k := Int.toNat_of_nonneg (by omega)
  have hnew : List.foldl (fun x1 x2 => x1 ++ x2) #[] (List.replicate k.toNat its.toArray) = (List.replicate k.toNat its).flatten.toArray := by
    have := foldl_rep its k.toNat []
    rw [List.nil_append] at this
    exact this
  have hlen : (List.replicate k.toNat xs).flatten.length ≤ 1000000 := by
    rw [len_rep]
    have hkn : k.toNat ≤ 1000 := by omega
    exact Nat.le_trans (Nat.mul_le_mul hkn hx) (by decide)
  have hz : (List.replicate k.toNat xs).flatten.length ≤ sizeLine := by rw [sizeLine_eq]; omega
  have hprod : ((its.toArray.size : Int) * k) ≤ 1000000 := by
    rw [len_rep, hl] at hlen
    rw [List.size_toArray, ← hk, Int.mul_comm]
    have e2 : ((k.toNat * its.length : Nat) : Int) = (k.toNat : Int) * (its.length : Int) := Int.natCast_mul _ _
    rw [← e2]
    omega
  have hmany : ¬ Builtin.Tuple.tupleTooMany ((its.toArray.size : Int) * k) = true := fun g => by
    have g2 : (its.toArray.size : Int) * k > (sizeLine : Int) := of_decide_eq_true g
    rw [sizeLine_eq] at g2
    omega
  have hv := r.rep k.toNat
  refine wpAny_binaryOp_repeat_ref (T := "tuple") (U := "int") (by decide) ⟨_, ho, rfl⟩ (fun s' => typeIs_int s' k t) noFill_tuple_mul F.fills_int_mul F.slot_int_rmul repeat_tuple F.slot_int_index.lookup
    (call_meets F.slot_int_rmul (typeIs_int s k t) F.entry_int_rmul (F.args_int_rmul_2 _ _) (int_rmul_tuple k t a its.toArray n dd sl)
      ⟨ho, rfl, ⟨_, ho, rfl⟩, call_meets F.slot_tuple_mul ⟨_, ho, rfl⟩ F.entry_tuple_mul (F.args_tuple_mul_2 _ _) (tuple_mulW a its.toArray n dd sl k t (by simp; omega) (by simp [hemp]; omega) (by simp [hemp]; omega) (by omega) hmany (by rw [hnew, List.size_toArray, ← hv.length]; exact hz)) ⟨ho, ?_⟩⟩)
  rw [hnew]
  have hf : H s.heap.objs.size = none := I.hok.fresh (Nat.le_refl _)
  refine ⟨.ref s.heap.objs.size, upd H s.heap.objs.size (.tup (List.replicate k.toNat xs).flatten), I.laid (t' := s.toks) (fun b u e => Heap.get?_push_of_some _ e) (Nat.le_refl _) ?_, rfl, q _ hf⟩
  exact ⟨hz, _, hv, ⟨_, Heap.get?_push_size _ rfl, rfl, _, rfl⟩⟩
end L2
set_option Elab.async false
set_option linter.all false
set_option maxRecDepth 100000
set_option maxHeartbeats 4000000
namespace K1
open PySem L2 Kp
/-! ### an object's values, by their names -/
theorem lk_ne {f g : Str} {v : V} {fs : List (Str × V)} {x : Option V} (h : ¬ g = f) (e : fs.lookup g = x) : (L2.putF f v fs).lookup g = x := by rw [L2.lookup_putF, if_neg h]; exact e
theorem lk_eq {f : Str} {v : V} {fs : List (Str × V)} : (L2.putF f v fs).lookup f = some v := by rw [L2.lookup_putF, if_pos rfl]
def kpN : List Str := ["number", "term", "voice", "pack", "row", "way", "voices", "head", "waits", "nexts", "held", "agreed", "store"]
structure FsOk (fs : List (Str × V)) : Prop where
  nd : (fs.map (·.1)).Nodup
  inN : ∀ x ∈ fs.map (·.1), x ∈ kpN
theorem keys_put {f : Str} {v : V} : ∀ {fs : List (Str × V)} {x : Str}, x ∈ (L2.putF f v fs).map (·.1) → x ∈ fs.map (·.1) ∨ x = f
  | [], x, h => .inr (List.mem_singleton.mp h)
  | (g, y) :: r, x, h => by
    unfold L2.putF at h
    by_cases e : g = f
    · rw [if_pos e] at h
      exact .inl h
    · rw [if_neg e, List.map_cons] at h
      rcases List.mem_cons.mp h with h | h
      · exact .inl (List.mem_cons.mpr (.inl h))
      · rcases keys_put h with h | h
        · exact .inl (List.mem_cons.mpr (.inr h))
        · exact .inr h
theorem nd_put {f : Str} {v : V} : ∀ {fs : List (Str × V)}, (fs.map (·.1)).Nodup → ((L2.putF f v fs).map (·.1)).Nodup
  | [], _ => List.nodup_cons.mpr ⟨List.not_mem_nil, List.nodup_nil⟩
  | (g, y) :: r, h => by
    unfold L2.putF
    by_cases e : g = f
    · rw [if_pos e]
      exact h
    · rw [if_neg e, List.map_cons, List.nodup_cons]
      rw [List.map_cons, List.nodup_cons] at h
      refine ⟨fun hm => ?_, nd_put h.2⟩
      rcases keys_put hm with hm | hm
      · exact h.1 hm
      · exact e hm
theorem FsOk.nil : FsOk [] := ⟨List.nodup_nil, fun x h => absurd h List.not_mem_nil⟩
theorem FsOk.put {f : Str} {v : V} {fs : List (Str × V)} (h : FsOk fs) (hf : f ∈ kpN) : FsOk (L2.putF f v fs) := ⟨nd_put h.nd, fun x hx => by
  rcases keys_put hx with hx | rfl
  · exact h.inN x hx
  · exact hf⟩
theorem FsOk.len {fs : List (Str × V)} (h : FsOk fs) : fs.length < 1000 := by
  have := nodup_len _ kpN h.nd h.inN
  rw [List.length_map] at this
  have e : kpN.length = 13 := rfl
  omega
theorem lk_none : ∀ {fs : List (Str × V)} {g : Str}, ¬ g ∈ fs.map (·.1) → fs.lookup g = none
  | [], _, _ => rfl
  | (k, y) :: r, g, h => by
    rw [List.map_cons, List.mem_cons] at h
    have hb : (g == k) = false := beq_eq_false_iff_ne.mpr fun e => h (.inl e)
    simp only [List.lookup, hb]
    exact lk_none fun hm => h (.inr hm)
theorem FsOk.no {fs : List (Str × V)} {g : Str} (h : FsOk fs) (hg : ¬ g ∈ kpN) : fs.lookup g = none := lk_none fun hm => hg (h.inN _ hm)
end K1
set_option Elab.async false
set_option linter.all false
set_option maxRecDepth 100000
set_option maxHeartbeats 4000000
namespace K1
open PySem L2 Kp
section
variable {P : Program} {w : World} {K : PySem.W.Frag} {mg : Str → Option Value} {base : Heap}
structure KpC (K : PySem.W.Frag) (C : Addr) : Prop where
  cl : Cls K C
  n_number : NoAttr K C "number"
  n_term : NoAttr K C "term"
  n_voice : NoAttr K C "voice"
  n_head : NoAttr K C "head"
  n_way : NoAttr K C "way"
  n_pack : NoAttr K C "pack"
  n_row : NoAttr K C "row"
  n_store : NoAttr K C "store"
  n_nexts : NoAttr K C "nexts"
  n_held : NoAttr K C "held"
  n_agreed : NoAttr K C "agreed"
  n_voices : NoAttr K C "voices"
  n_waits : NoAttr K C "waits"
def Off (a : Addr) (H H' : Hp) : Prop := ∀ b o, b ≠ a → H b = some o → H' b = some o
theorem Off.tups {a C dx : Addr} {fs : List (Str × V)} {H H' : Hp} (o : Off a H H') (ha : H a = some (.ins C dx fs)) : SameT H H' := fun b xs e => o b _ (fun z => by rw [z, ha] at e; cases e) e
theorem RwT.nilT {H H' : Hp} {a : Addr} (h : RwT H a []) (s : SameT H H') : RwT H' a [] := by
  obtain ⟨vs, e, r⟩ := h
  cases r
  exact ⟨[], s _ _ e, .nil⟩
theorem Off.refl {a : Addr} {H : Hp} : Off a H H := fun b o _ e => e
theorem Off.trans {a : Addr} {H H' H2 : Hp} (h : Off a H H') (h' : Off a H' H2) : Off a H H2 := fun b o n e => h' b o n (h b o n e)
theorem off_upd {a : Addr} {H : Hp} {o : HO} : Off a H (upd H a o) := fun b u n e => by rw [upd_ne n]; exact e
theorem off_same {a : Addr} {H H' : Hp} (s : Same H H') : Off a H H' := fun b u _ e => s _ _ e
theorem off_new {a p : Addr} {H : Hp} {o : HO} (hp : H p = none) : Off a H (upd H p o) := off_same (same_upd hp)
theorem PkV.offT {H H' : Hp} {v : V} {ms : List Int} (h : PkV H v ⟨0, 0, ms, ([], [])⟩) (s : SameT H H') : PkV H' v ⟨0, 0, ms, ([], [])⟩ := by
  obtain ⟨p, q, u, e, h1, h2, ⟨s1, a1, c1, e1, g1, g2, g3⟩⟩ := h
  exact ⟨p, q, u, e, s _ _ h1, s _ _ h2, ⟨s1, a1, c1, e1, s _ _ g1, g2.nilT s, g3.nilT s⟩⟩
/-- a keeper, 4, that is plain and knows nothing to be agreed, behind the first pack -/
def K4V (C : Addr) (H : Hp) (a : Addr) (tm : Int) (vc : Option Int) (es : List En) : Prop := ∃ (dx : Addr) (fs : List (Str × V)) (vp vr vs vh vn vl : V) (av aw : Addr), H a = some (.ins C dx fs) ∧ fs.lookup ("number" : Str) = some (.int 4) ∧ fs.lookup ("term" : Str) = some (.int tm) ∧ fs.lookup ("voice" : Str) = some (vcV vc) ∧ fs.lookup ("head" : Str) = some (vh) ∧ fs.lookup ("way" : Str) = some (.str "plain") ∧ fs.lookup ("pack" : Str) = some (vp) ∧ fs.lookup ("row" : Str) = some (vr) ∧ fs.lookup ("store" : Str) = some (vs) ∧ fs.lookup ("nexts" : Str) = some (vn) ∧ fs.lookup ("held" : Str) = some (vl) ∧ fs.lookup ("agreed" : Str) = some (.int 0) ∧ fs.lookup ("voices" : Str) = some (.ref av) ∧ fs.lookup ("waits" : Str) = some (.ref aw) ∧ FsOk fs ∧
  PkV H vp ⟨0, 0, [0, 1, 2, 3, 4], ([], [])⟩ ∧ RwP H vr 0 0 es ∧ StV H vs ([], []) ∧ H av = some (.tup []) ∧ H aw = some (.tup []) ∧ enOk es
theorem StV.offT {H H' : Hp} {v : V} (h : StV H v ([], [])) (s : SameT H H') : StV H' v ([], []) := by
  obtain ⟨s1, a1, c1, e1, g1, g2, g3⟩ := h
  exact ⟨s1, a1, c1, e1, s _ _ g1, g2.nilT s, g3.nilT s⟩
/-- plain, no voices, no head, nothing waits; the other values as they were -/
structure Plain (C a dx : Addr) (fs fs' : List (Str × V)) (av aw : Addr) (H H' : Hp) : Prop where
  at_ : H' a = some (.ins C dx fs')
  ok : FsOk fs'
  way : fs'.lookup ("way" : Str) = some (.str "plain")
  voices : fs'.lookup ("voices" : Str) = some (.ref av)
  head : fs'.lookup ("head" : Str) = some .non
  waits : fs'.lookup ("waits" : Str) = some (.ref aw)
  hv : H' av = some (.tup [])
  hw : H' aw = some (.tup [])
  kept : ∀ g : Str, ¬ g ∈ (["way", "voices", "head", "waits"] : List Str) → fs'.lookup g = fs.lookup g
  off : Off a H H'
def spPlainK (C : Addr) : Sp := fun vs H Q _ => ∃ (a dx : Addr) (fs : List (Str × V)), vs = [.ref a] ∧ H a = some (.ins C dx fs) ∧ FsOk fs ∧ ∀ (fs' : List (Str × V)) (av aw : Addr) (H' : Hp), Plain C a dx fs fs' av aw H H' → Q .non H'
theorem scBp : FnScope ["self"] ["self"] (defScope s_Keeper_be_plain) := ⟨rfl, rfl, rfl, by decide +kernel, rfl, by decide +kernel, by decide +kernel⟩
theorem ok_be_plain {f : Addr} {fd : FuncData} {C : Addr} (Y : KpC K C) (F : Fun K "be_plain" "Keeper.be_plain" s_Keeper_be_plain f fd) : FnOk P w K mg base CX0 1 f fd ["self"] (spPlainK C) := by
  refine F.ok scBp (fun vs H Q E ⟨_, _, _, e, _⟩ => by subst e; rfl) (fun cdv A outer s H vs Q E hr h => ?_)
  obtain ⟨a, dx, fs, rfl, ha, ok, q⟩ := h
  refine ⟨_, @pss_p _ _ _ _ _ (ps_fld (pv 0) (pe_str) (by rfl))
    (@pss_p _ _ _ _ _ (ps_fld (pv 0) (QE.h (qx_tup (qa_nil))) (by rfl))
    (@pss_p _ _ _ _ _ (ps_fld (pv 0) (pe_non) (by rfl))
    (@pss_o _ _ _ (ps_fld (pv 0) (QE.h (qx_tup (qa_nil))) (by rfl))))), ?_⟩
  have k1 : FsOk (L2.putF "way" (.str "plain") fs) := ok.put (by decide +kernel)
  refine ⟨_, rfl, a, C, dx, fs, rfl, ha, Y.cl, Y.n_way, ok.len, ?_⟩
  refine ⟨tiny (by show 0 ≤ 1000; decide), fun av hav => ?_⟩
  have na : a ≠ av := fun z => by rw [← z, upd_same] at hav; cases hav
  refine ⟨_, rfl, a, C, dx, _, rfl, (by rw [upd_ne na]; exact upd_same), Y.cl, Y.n_voices, k1.len, ?_⟩
  have k2 := k1.put (f := "voices") (v := .ref av) (by decide +kernel)
  refine ⟨_, rfl, a, C, dx, _, rfl, upd_same, Y.cl, Y.n_head, k2.len, ?_⟩
  have k3 := k2.put (f := "head") (v := .non) (by decide +kernel)
  refine ⟨tiny (by show 0 ≤ 1000; decide), fun aw haw => ?_⟩
  have nw : a ≠ aw := fun z => by rw [← z, upd_same] at haw; cases haw
  have o5 := off_new (a := a) (o := HO.tup []) haw
  refine ⟨_, rfl, a, C, dx, _, rfl, (by rw [upd_ne nw]; exact upd_same), Y.cl, Y.n_waits, k3.len, ?_⟩
  have k4 := k3.put (f := "waits") (v := .ref aw) (by decide +kernel)
  refine q _ av aw _ ⟨upd_same, k4, lk_ne (by decide +kernel) (lk_ne (by decide +kernel) (lk_ne (by decide +kernel) (lk_eq))), lk_ne (by decide +kernel) (lk_ne (by decide +kernel) (lk_eq)), lk_ne (by decide +kernel) (lk_eq), lk_eq, ?_, ?_, fun g hg => ?_, ?_⟩
  · exact off_upd _ _ na.symm (o5 _ _ na.symm (off_upd _ _ na.symm (off_upd _ _ na.symm upd_same)))
  · rw [upd_ne nw.symm]; exact upd_same
  · simp only [List.mem_cons, List.not_mem_nil, or_false, not_or] at hg
    obtain ⟨g1, g2, g3, g4⟩ := hg
    exact lk_ne g4 (lk_ne g3 (lk_ne g2 (lk_ne g1 rfl)))
  · exact off_upd.trans ((off_new hav).trans (off_upd.trans (off_upd.trans (o5.trans off_upd))))
/-- next places and held places anew; the other values as they were -/
structure Knp (C a dx : Addr) (fs fs' : List (Str × V)) (tk tn : Addr) (z : Int) (H H' : Hp) : Prop where
  at_ : H' a = some (.ins C dx fs')
  ok : FsOk fs'
  nexts : fs'.lookup ("nexts" : Str) = some (.ref tk)
  held : fs'.lookup ("held" : Str) = some (.ref tn)
  hn : H' tk = some (.tup (List.replicate 9 (V.int z)))
  hh : H' tn = some (.tup (List.replicate 9 (V.int 0)))
  kept : ∀ g : Str, ¬ g ∈ (["nexts", "held"] : List Str) → fs'.lookup g = fs.lookup g
  off : Off a H H'
def spKnp (C : Addr) : Sp := fun vs H Q _ => ∃ (a dx : Addr) (fs : List (Str × V)) (vr : V) (b l : Int) (es : List En), vs = [.ref a] ∧ H a = some (.ins C dx fs) ∧ FsOk fs ∧ fs.lookup ("row" : Str) = some vr ∧ RwP H vr b l es ∧ ∀ (fs' : List (Str × V)) (tk tn : Addr) (H' : Hp), Knp C a dx fs fs' tk tn (b + (es.length : Int) + 1) H H' → Q .non H'
theorem scKn : FnScope ["self"] ["self"] (defScope s_Keeper_know_no_places) := ⟨rfl, rfl, rfl, by decide +kernel, rfl, by decide +kernel, by decide +kernel⟩
theorem ok_knp {f : Addr} {fd : FuncData} {C : Addr} (Y : KpC K C) (F : Fun K "know_no_places" "Keeper.know_no_places" s_Keeper_know_no_places f fd) (CE : Cal P w K mg base "end_of" 1 ["row"] spEndP) : FnOk P w K mg base CX0 2 f fd ["self"] (spKnp C) := by
  refine F.ok scKn (fun vs H Q E ⟨_, _, _, _, _, _, _, e, _⟩ => by subst e; rfl) (fun cdv A outer s H vs Q E hr h => ?_)
  obtain ⟨a, dx, fs, vr, b, l, es, rfl, ha, ok, lr, hrw, q⟩ := h
  obtain ⟨gE, dE, GE, mE, kE, bE⟩ := CE.ex
  refine ⟨_, @pss_p _ _ _ _ _ (ps_fld (pv 0) (pe_op op_repT (QE.h (qx_tup (qa_b (pe_op op_add (pe_call GE hr (by rfl) mE kE bE .nil pass0 (pa_cons (pe_fld (pv 0) (by rfl)) pa_nil)) (pe_int)) qa_nil))) pe_int) (by rfl))
    (@pss_o _ _ _ (ps_fld (pv 0) (pe_op op_repT (QE.h (qx_tup (qa_int qa_nil))) pe_int) (by rfl))), ?_⟩
  refine ⟨_, rfl, a, C, dx, fs, vr, rfl, ha, Y.cl, Y.n_row, lr, vr, b, l, es, rfl, hrw, _, _, rfl, rfl, tiny (by show 1 ≤ 1000; decide), fun tj htj => ?_⟩
  refine ⟨tj, 9, [V.int (b + (es.length : Int) + 1)], rfl, rfl, upd_same, by simp, by first | decide | (show 1 ≤ 1000; decide), by first | decide | (show 1 ≤ 1000; decide), by first | decide | (show 1 ≤ 1000; decide), fun tk htk => ?_⟩
  have s2 := same_upd (o := HO.tup [V.int (b + (es.length : Int) + 1)]) htj
  have s3 := same_upd (o := HO.tup (List.replicate (9 : Int).toNat [V.int (b + (es.length : Int) + 1)]).flatten) htk
  refine ⟨_, rfl, a, C, dx, fs, rfl, (s2.trans s3) _ _ ha, Y.cl, Y.n_nexts, ok.len, ?_⟩
  have na : tk ≠ a := fun z => by
    have := s2 _ _ ha
    rw [← z] at this
    exact absurd (htk.symm.trans this) (by intro e; cases e)
  have k2 := ok.put (f := "nexts") (v := .ref tk) (by decide +kernel)
  refine ⟨tiny (by show 1 ≤ 1000; decide), fun tl htl => ?_⟩
  refine ⟨tl, 9, [V.int 0], rfl, rfl, upd_same, by simp, by decide, by decide, by decide, fun tn htn => ?_⟩
  have s4 := same_upd (o := HO.tup [V.int 0]) htl
  have s5 := same_upd (o := HO.tup (List.replicate (9 : Int).toNat [V.int 0]).flatten) htn
  have nb : tn ≠ a := fun z => by
    subst z
    exact absurd (htn.symm.trans (s4 tn _ upd_same)) (by intro e; cases e)
  refine ⟨_, rfl, a, C, dx, _, rfl, (s4.trans s5) _ _ upd_same, Y.cl, Y.n_held, k2.len, ?_⟩
  have k3 := k2.put (f := "held") (v := .ref tn) (by decide +kernel)
  refine q _ tk tn _ ⟨upd_same, k3, lk_ne (by decide +kernel) lk_eq, lk_eq, ?_, ?_, fun g hg => ?_, ?_⟩
  · exact off_upd _ _ na ((s4.trans s5) _ _ (off_upd _ _ na upd_same))
  · exact off_upd _ _ nb upd_same
  · simp only [List.mem_cons, List.not_mem_nil, or_false, not_or] at hg
    exact lk_ne hg.2 (lk_ne hg.1 rfl)
  · exact (off_same (s2.trans s3)).trans (off_upd.trans ((off_same (s4.trans s5)).trans off_upd))
def spWakeR (C : Addr) : Sp := fun vs H Q _ => ∃ (a dx : Addr) (fs : List (Str × V)) (vp vr : V) (tm : Int) (vc : Option Int) (es : List En), vs = [.ref a] ∧ H a = some (.ins C dx fs) ∧ FsOk fs ∧ fs.lookup ("number" : Str) = some (.int 4) ∧ fs.lookup ("term" : Str) = some (.int tm) ∧ fs.lookup ("voice" : Str) = some (vcV vc) ∧ fs.lookup ("pack" : Str) = some vp ∧ fs.lookup ("row" : Str) = some vr ∧ PkV H vp ⟨0, 0, [0, 1, 2, 3, 4], ([], [])⟩ ∧ RwP H vr 0 0 es ∧ enOk es ∧ ∀ H', K4V C H' a tm vc es → Off a H H' → Q .non H'
theorem scWk : FnScope ["self"] ["self"] (defScope s_Keeper_wake) := ⟨rfl, rfl, rfl, by decide +kernel, rfl, by decide +kernel, by decide +kernel⟩
theorem ok_wakeR {f fB fN : Addr} {fd dB dN : FuncData} {C : Addr} (Y : KpC K C) (F : Fun K "wake" "Keeper.wake" s_Keeper_wake f fd) (MB : Meth K C "be_plain" fB) (FB : FnOk P w K mg base CX0 1 fB dB ["self"] (spPlainK C)) (bB : Binds K dB ["self"] []) (MN : Meth K C "know_no_places" fN) (FN : FnOk P w K mg base CX0 2 fN dN ["self"] (spKnp C)) (bN : Binds K dN ["self"] []) : FnOk P w K mg base CX0 3 f fd ["self"] (spWakeR C) := by
  refine F.ok scWk (fun vs H Q E ⟨_, _, _, _, _, _, _, _, e, _⟩ => by subst e; rfl) (fun cdv A outer s H vs Q E hr h => ?_)
  obtain ⟨a, dx, fs, vp, vr, tm, vc, es, rfl, ha, ok, l1, l2, l3, l4, l5, hp, hrw, en, q⟩ := h
  have r1 := hr.mono (show 1 ≤ 2 by omega)
  refine ⟨_, @pss_p _ _ _ _ _ (ps_expr (pe_meth0 (pv 0) Y.cl MB FB r1 bB .nil pass0))
    (@pss_p _ _ _ _ _ (ps_expr (pe_meth0 (pv 0) Y.cl MN FN hr bN .nil pass0))
    (@pss_p _ _ _ _ _ (ps_fld (pv 0) (pe_ix ix_tup (pe_fld (pv 0) (by rfl)) pe_int px_i) (by rfl))
    (@pss_o _ _ _ (ps_fld (pv 0) (pe_ix ix_tup (pe_fld (pv 0) (by rfl)) pe_int px_i) (by rfl))))), ?_⟩
  refine ⟨_, rfl, a, dx, fs, rfl, ha, ok.no (by decide +kernel), a, dx, fs, rfl, ha, ok, fun fs1 av aw H1 pl => ?_⟩
  have l1' := (pl.kept "number" (by decide +kernel)).trans l1
  have l2' := (pl.kept "term" (by decide +kernel)).trans l2
  have l3' := (pl.kept "voice" (by decide +kernel)).trans l3
  have l4' := (pl.kept "pack" (by decide +kernel)).trans l4
  have l5' := (pl.kept "row" (by decide +kernel)).trans l5
  have sT := pl.off.tups ha
  have hp1 := hp.offT sT
  have hrw1 := rwo_sameT hrw en sT
  refine ⟨_, rfl, a, dx, fs1, rfl, pl.at_, pl.ok.no (by decide +kernel), a, dx, fs1, vr, 0, 0, es, rfl, pl.at_, pl.ok, l5', hrw1, fun fs2 tk tn H2 kn => ?_⟩
  have hp2 := hp1.offT (kn.off.tups pl.at_)
  have hp2' := hp2
  obtain ⟨pp, pq, pu, rfl, hpp, hpq, hpu⟩ := hp2'
  have l4b := (kn.kept "pack" (by decide +kernel)).trans l4'
  refine ⟨_, rfl, a, C, dx, _, .ref pp, rfl, kn.at_, Y.cl, Y.n_pack, l4b, pp, _, _, .int 0, rfl, rfl, SqT.of hpp, atI_nat (j := 0) rfl, _, rfl, a, C, dx, _, rfl, kn.at_, Y.cl, Y.n_agreed, kn.ok.len, ?_⟩
  have k4 := kn.ok.put (f := "agreed") (v := .int 0) (by decide +kernel)
  have np : pp ≠ a := fun z => by rw [z, kn.at_] at hpp; cases hpp
  refine ⟨_, rfl, a, C, dx, _, .ref pp, rfl, upd_same, Y.cl, Y.n_pack, lk_ne (by decide +kernel) l4b, pp, _, _, pu, rfl, rfl, SqT.of (off_upd _ _ np hpp), atI_nat (j := 3) rfl, _, rfl, a, C, dx, _, rfl, upd_same, Y.cl, Y.n_store, k4.len, ?_⟩
  have k5 := k4.put (f := "store") (v := pu) (by decide +kernel)
  have oC : Off a H2 _ := (off_upd (o := HO.ins C dx (L2.putF "agreed" (.int 0) fs2))).trans (off_upd (o := HO.ins C dx (L2.putF "store" pu (L2.putF "agreed" (.int 0) fs2))))
  have sC := oC.tups kn.at_
  have oD := kn.off.trans oC
  have sD := oD.tups pl.at_
  obtain ⟨s1, a1, c1, e1, g1, g2, g3⟩ := hpu
  have hst : StV _ pu ([], []) := ⟨s1, a1, c1, e1, sC _ _ g1, g2.nilT sC, g3.nilT sC⟩
  exact q _ ⟨dx, _, .ref pp, vr, pu, .non, .ref tk, .ref tn, av, aw, upd_same, lk_ne (by decide +kernel) (lk_ne (by decide +kernel) ((kn.kept "number" (by decide +kernel)).trans l1')), lk_ne (by decide +kernel) (lk_ne (by decide +kernel) ((kn.kept "term" (by decide +kernel)).trans l2')), lk_ne (by decide +kernel) (lk_ne (by decide +kernel) ((kn.kept "voice" (by decide +kernel)).trans l3')), lk_ne (by decide +kernel) (lk_ne (by decide +kernel) ((kn.kept "head" (by decide +kernel)).trans pl.head)), lk_ne (by decide +kernel) (lk_ne (by decide +kernel) ((kn.kept "way" (by decide +kernel)).trans pl.way)), lk_ne (by decide +kernel) (lk_ne (by decide +kernel) ((kn.kept "pack" (by decide +kernel)).trans l4')), lk_ne (by decide +kernel) (lk_ne (by decide +kernel) ((kn.kept "row" (by decide +kernel)).trans l5')), lk_eq, lk_ne (by decide +kernel) (lk_ne (by decide +kernel) (kn.nexts)), lk_ne (by decide +kernel) (lk_ne (by decide +kernel) (kn.held)), lk_ne (by decide +kernel) (lk_eq), lk_ne (by decide +kernel) (lk_ne (by decide +kernel) ((kn.kept "voices" (by decide +kernel)).trans pl.voices)), lk_ne (by decide +kernel) (lk_ne (by decide +kernel) ((kn.kept "waits" (by decide +kernel)).trans pl.waits)), k5, hp2.offT sC, rwo_sameT hrw1 en sD, hst, sD _ _ pl.hv, sD _ _ pl.hw, en⟩ (pl.off.trans oD)
theorem ok_wake4 {f : Addr} {fd : FuncData} {C : Addr} (F : FnOk P w K mg base CX0 3 f fd ["self"] (spWakeR C)) : FnOk P w K mg base CX0 3 f fd ["self"] (spW41 (K4V C)) := F.imp fun vs H Q E ⟨a, tm, vc, es, e, hk, q⟩ => by
  subst e
  obtain ⟨dx, fs, vp, vr, vs, vh, vn, vl, av, aw, ha, l_number, l_term, l_voice, l_head, l_way, l_pack, l_row, l_store, l_nexts, l_held, l_agreed, l_voices, l_waits, l_ok, hp, hrw, hs, hv, hw, en⟩ := hk
  exact ⟨a, dx, fs, vp, vr, tm, vc, es, rfl, ha, l_ok, l_number, l_term, l_voice, l_pack, l_row, hp, hrw, en, q⟩
def spHear4 (C : Addr) : Sp := fun vs H Q _ => ∃ (a : Addr) (t tm : Int) (vc : Option Int) (es : List En), vs = [.ref a, .int t] ∧ K4V C H a tm vc es ∧ ∀ H', K4V C H' a (termF tm t) (vc1F tm vc t) es → Off a H H' → Q .non H'
theorem scHr : FnScope ["self", "term"] ["self", "term"] (defScope s_Keeper_hear) := ⟨rfl, rfl, rfl, by decide +kernel, rfl, by decide +kernel, by decide +kernel⟩
theorem ok_hear4 {f fB : Addr} {fd dB : FuncData} {C : Addr} (Y : KpC K C) (F : Fun K "hear" "Keeper.hear" s_Keeper_hear f fd) (MB : Meth K C "be_plain" fB) (FB : FnOk P w K mg base CX0 1 fB dB ["self"] (spPlainK C)) (bB : Binds K dB ["self"] []) : FnOk P w K mg base CX0 2 f fd ["self", "term"] (spHear4 C) := by
  refine F.ok scHr (fun vs H Q E ⟨_, _, _, _, _, e, _⟩ => by subst e; rfl) (fun cdv A outer s H vs Q E hr h => ?_)
  obtain ⟨a, t, tm, vc, es, rfl, hk, q⟩ := h
  refine ⟨_, @pss_o _ _ _ (ps_if (pt_cmpR op_gt (pv 1) (pe_fld (pv 0) (by rfl)) (nomark _)) (@pss_p _ _ _ _ _ (ps_fld (pv 0) (pv 1) (by rfl))
    (@pss_p _ _ _ _ _ (ps_fld (pv 0) (pe_non) (by rfl))
    (@pss_o _ _ _ (ps_expr (pe_meth0 (pv 0) Y.cl MB FB hr bB .nil pass0))))) pss_nil), ?_⟩
  have hk' := hk
  obtain ⟨dx, fs, vp, vr, vs, vh, vn, vl, av, aw, ha, l_number, l_term, l_voice, l_head, l_way, l_pack, l_row, l_store, l_nexts, l_held, l_agreed, l_voices, l_waits, l_ok, hp, hrw, hs, hv, hw, en⟩ := hk'
  refine ⟨_, rfl, _, rfl, a, C, dx, fs, _, rfl, ha, Y.cl, Y.n_term, l_term, _, _, rfl, rfl, _, rfl, ite2 (fun h => ?_) (fun h => ?_)⟩
  · have e : t > tm := of_decide_eq_true h
    unfold termF vc1F at q
    rw [if_pos e, if_pos e] at q
    have k1 : FsOk (L2.putF "term" (.int t) fs) := l_ok.put (by decide +kernel)
    have k2 := k1.put (f := "voice") (v := .non) (by decide +kernel)
    refine ⟨_, rfl, _, rfl, a, C, dx, fs, rfl, ha, Y.cl, Y.n_term, l_ok.len, _, rfl, a, C, dx, _, rfl, upd_same, Y.cl, Y.n_voice, k1.len, ?_⟩
    refine ⟨_, rfl, a, dx, _, rfl, upd_same, k2.no (by decide +kernel), a, dx, _, rfl, upd_same, k2, fun fs' av' aw' H' pl => ?_⟩
    have o2 : Off a H H' := off_upd.trans (off_upd.trans pl.off)
    have sT := o2.tups ha
    have kp : ∀ g : Str, ¬ g ∈ (["way", "voices", "head", "waits"] : List Str) → ¬ g = "term" → ¬ g = "voice" → ∀ x, fs.lookup g = x → fs'.lookup g = x := fun g g1 g2 g3 x e => (pl.kept g g1).trans (lk_ne g3 (lk_ne g2 e))
    exact q H' ⟨dx, fs', vp, vr, vs, .non, vn, vl, av', aw', pl.at_, kp "number" (by decide +kernel) (by decide +kernel) (by decide +kernel) _ l_number, (pl.kept "term" (by decide +kernel)).trans (lk_ne (by decide +kernel) lk_eq), (pl.kept "voice" (by decide +kernel)).trans lk_eq, pl.head, pl.way, kp "pack" (by decide +kernel) (by decide +kernel) (by decide +kernel) _ l_pack, kp "row" (by decide +kernel) (by decide +kernel) (by decide +kernel) _ l_row, kp "store" (by decide +kernel) (by decide +kernel) (by decide +kernel) _ l_store, kp "nexts" (by decide +kernel) (by decide +kernel) (by decide +kernel) _ l_nexts, kp "held" (by decide +kernel) (by decide +kernel) (by decide +kernel) _ l_held, kp "agreed" (by decide +kernel) (by decide +kernel) (by decide +kernel) _ l_agreed, pl.voices, pl.waits, pl.ok, hp.offT sT, rwo_sameT hrw en sT, hs.offT sT, pl.hv, pl.hw, en⟩ o2
  · have e : ¬ t > tm := ndec h
    unfold termF vc1F at q
    rw [if_neg e, if_neg e] at q
    exact q H hk Off.refl
theorem scIn : FnScope ["self", "number", "seats"] ["self", "number", "seats"] (defScope s_Keeper___init__) := ⟨rfl, rfl, rfl, by decide +kernel, rfl, by decide +kernel, by decide +kernel⟩
theorem ok_init4 {f fW : Addr} {fd dW : FuncData} {C : Addr} (Y : KpC K C) (F : Fun K "__init__" "Keeper.__init__" s_Keeper___init__ f fd) (MW : Meth K C "wake" fW) (FW : FnOk P w K mg base CX0 3 fW dW ["self"] (spWakeR C)) (bW : Binds K dW ["self"] []) (CF : Cal P w K mg base "first_pack" 2 ["seats"] spFp) (CR : Cal P w K mg base "begun" 1 [] spBegP) : FnOk P w K mg base CX0 4 f fd ["self", "number", "seats"] (spI41 (fun H a => K4V C H a 0 none []) C) := by
  refine F.ok scIn (fun vs H Q E ⟨_, _, _, e, _⟩ => by subst e; rfl) (fun cdv A outer s H vs Q E hr h => ?_)
  obtain ⟨x, q0, dx, rfl, hx, hq, q⟩ := h
  obtain ⟨gF, dF, GF, mF, kF, bF⟩ := CF.ex
  obtain ⟨gR, dR, GR, mR, kR, bR⟩ := CR.ex
  have r1 := hr.mono (show 1 ≤ 3 by omega)
  have r2 := hr.mono (show 2 ≤ 3 by omega)
  refine ⟨_, @pss_p _ _ _ _ _ (ps_fld (pv 0) (pv 1) (by rfl))
    (@pss_p _ _ _ _ _ (ps_fld (pv 0) (pe_int) (by rfl))
    (@pss_p _ _ _ _ _ (ps_fld (pv 0) (pe_non) (by rfl))
    (@pss_p _ _ _ _ _ (ps_fld (pv 0) (pe_call GF r2 (by rfl) mF kF bF .nil pass0 (pa_n (pv 2) pa_nil)) (by rfl))
    (@pss_p _ _ _ _ _ (ps_fld (pv 0) (pe_call0 GR r1 (by rfl) mR kR bR .nil pass0) (by rfl))
    (@pss_o _ _ _ (ps_expr (pe_meth0 (pv 0) Y.cl MW FW hr bW .nil pass0))))))), ?_⟩
  have k0 := FsOk.nil
  have k1 := k0.put (f := "number") (v := .int 4) (by decide +kernel)
  have k2 := k1.put (f := "term") (v := .int 0) (by decide +kernel)
  have k3 := k2.put (f := "voice") (v := .non) (by decide +kernel)
  refine ⟨_, rfl, _, rfl, x, C, dx, _, rfl, hx, Y.cl, Y.n_number, k0.len, ?_⟩
  refine ⟨_, rfl, x, C, dx, _, rfl, upd_same, Y.cl, Y.n_term, k1.len, ?_⟩
  refine ⟨_, rfl, x, C, dx, _, rfl, upd_same, Y.cl, Y.n_voice, k2.len, ?_⟩
  have o3 : Off x H _ := (off_upd (o := HO.ins C dx (L2.putF "number" (.int 4) []))).trans ((off_upd (o := HO.ins C dx (L2.putF "term" (.int 0) (L2.putF "number" (.int 4) [])))).trans (off_upd (o := HO.ins C dx (L2.putF "voice" .non (L2.putF "term" (.int 0) (L2.putF "number" (.int 4) []))))))
  refine ⟨_, rfl, q0, [0, 1, 2, 3, 4], rfl, (o3.tups hx) _ _ hq, fun vp H1 hp s1 => ?_⟩
  have k4 := k3.put (f := "pack") (v := vp) (by decide +kernel)
  refine ⟨_, rfl, x, C, dx, _, rfl, s1 _ _ upd_same, Y.cl, Y.n_pack, k3.len, ?_⟩
  refine ⟨rfl, fun vr H2 hrw s2 => ?_⟩
  have k5 := k4.put (f := "row") (v := vr) (by decide +kernel)
  refine ⟨_, rfl, x, C, dx, _, rfl, s2 _ _ upd_same, Y.cl, Y.n_row, k4.len, ?_⟩
  have o5 : Off x H1 _ := (off_upd (o := HO.ins C dx (L2.putF "pack" vp (L2.putF "voice" .non (L2.putF "term" (.int 0) (L2.putF "number" (.int 4) [])))))).trans ((off_same s2).trans (off_upd (o := HO.ins C dx (L2.putF "row" vr (L2.putF "pack" vp (L2.putF "voice" .non (L2.putF "term" (.int 0) (L2.putF "number" (.int 4) []))))))))
  refine ⟨_, rfl, x, dx, _, rfl, upd_same, k5.no (by decide +kernel), x, dx, _, vp, vr, 0, none, [], rfl, upd_same, k5, lk_ne (by decide +kernel) (lk_ne (by decide +kernel) (lk_ne (by decide +kernel) (lk_ne (by decide +kernel) (lk_eq)))), lk_ne (by decide +kernel) (lk_ne (by decide +kernel) (lk_ne (by decide +kernel) (lk_eq))), lk_ne (by decide +kernel) (lk_ne (by decide +kernel) (lk_eq)), lk_ne (by decide +kernel) (lk_eq), lk_eq, hp.offT (o5.tups (s1 _ _ upd_same)), rwo_sameT hrw (fun e h => absurd h List.not_mem_nil) (off_upd.tups (s2 _ _ upd_same)), (fun e h => absurd h List.not_mem_nil), fun H' hk off => q H' hk (o3.trans ((off_same s1).trans (o5.trans off)))⟩
theorem k4_law (C : Addr) : K41L (K4V C) (fun H a => K4V C H a 0 none []) C where
  look := fun hk => by
    obtain ⟨dx, fs, vp, vr, vs, vh, vn, vl, av, aw, ha, l_number, l_term, l_voice, l_head, l_way, l_pack, l_row, l_store, l_nexts, l_held, l_agreed, l_voices, l_waits, l_ok, hp, hrw, hs, hv, hw, en⟩ := hk
    exact ⟨dx, fs, vr, ha, l_term, l_voice, l_row, l_way, l_ok.no (by decide +kernel), hrw⟩
  look0 := fun hk => by
    obtain ⟨dx, fs, vp, vr, vs, vh, vn, vl, av, aw, ha, l_number, l_term, l_voice, l_head, l_way, l_pack, l_row, l_store, l_nexts, l_held, l_agreed, l_voices, l_waits, l_ok, hp, hrw, hs, hv, hw, en⟩ := hk
    exact ⟨dx, fs, ha⟩
  frame := fun hk s ka => by
    obtain ⟨dx, fs, vp, vr, vs, vh, vn, vl, av, aw, ha, l_number, l_term, l_voice, l_head, l_way, l_pack, l_row, l_store, l_nexts, l_held, l_agreed, l_voices, l_waits, l_ok, hp, hrw, hs, hv, hw, en⟩ := hk
    exact ⟨dx, fs, vp, vr, vs, vh, vn, vl, av, aw, ka _ ha, l_number, l_term, l_voice, l_head, l_way, l_pack, l_row, l_store, l_nexts, l_held, l_agreed, l_voices, l_waits, l_ok, hp.offT s, rwo_sameT hrw en s, hs.offT s, s _ _ hv, s _ _ hw, en⟩
  frame0 := fun hk s ka => by
    obtain ⟨dx, fs, vp, vr, vs, vh, vn, vl, av, aw, ha, l_number, l_term, l_voice, l_head, l_way, l_pack, l_row, l_store, l_nexts, l_held, l_agreed, l_voices, l_waits, l_ok, hp, hrw, hs, hv, hw, en⟩ := hk
    exact ⟨dx, fs, vp, vr, vs, vh, vn, vl, av, aw, ka _ ha, l_number, l_term, l_voice, l_head, l_way, l_pack, l_row, l_store, l_nexts, l_held, l_agreed, l_voices, l_waits, l_ok, hp.offT s, rwo_sameT hrw en s, hs.offT s, s _ _ hv, s _ _ hw, en⟩
end
end K1
set_option Elab.async false
set_option linter.all false
set_option maxRecDepth 100000
set_option maxHeartbeats 4000000
namespace K1
open PySem L2 Kp
section
variable {P : Program} {w : World} {K : PySem.W.Frag} {mg : Str → Option Value} {base : Heap}
theorem scEo : FnScope ["row"] ["row"] (defScope s_end_of) := ⟨rfl, rfl, rfl, by decide +kernel, rfl, by decide +kernel, by decide +kernel⟩
theorem ok_end_of {f : Addr} {fd : FuncData} (F : Fun K "end_of" "end_of" s_end_of f fd) (T : Txt mg) : FnOk P w K mg base CX0 1 f fd ["row"] (spEndOf K) := by
  refine F.ok scEo (fun vs H Q E ⟨_, _, _, _, e, _⟩ => by subst e; rfl) (fun cdv A outer s H vs Q E hr h => ?_)
  obtain ⟨v, b, l, ts, rfl, ⟨es, ⟨rb, c, rfl, hb, hc⟩, hen, hfew⟩, q⟩ := h
  replace hb := SqT.of (K := K) hb
  replace hc := SqT.of (K := K) hc
  refine ⟨_, @pss_o _ _ _ (ps_ret (pe_op op_add (pe_ix ix_tup (pv 0) (pe_int) px_i) (pe_callB call_len_seq (by rfl) T.len PySem.boot_len (pa_s (pe_ix ix_tup (pv 0) (pe_int) px_i) pa_nil)))), ?_⟩
  have hlen := hen.length
  refine ⟨_, rfl, rb, _, _, .int b, rfl, rfl, hb, atI_nat (j := 0) rfl, _, rfl, rb, _, _, .ref c, rfl, rfl, hb, atI_nat (j := 2) rfl, c, es, rfl, .inr hc, _, _, rfl, rfl, ?_⟩
  have e : b + (es.length : Int) = endP b ts := by unfold endP; rw [hlen]
  show Q (.int (b + (es.length : Int))) H
  rw [e]; exact q
end
end K1
set_option Elab.async false
set_option linter.all false
set_option maxRecDepth 100000
set_option maxHeartbeats 4000000
namespace L2
open PySem PySem.Spec PyProof.Rows
/-- for x, y in zip(t, u) of two tuples -/
theorem for_zipT {K : PySem.W.Frag} {a b : Addr} {xs ys : List V} {g : TG} {tb : TS} {D : Ends} {σ : St} {H : Hp} (Pv : Nat → St → Hp → Prop) (h0 : Pv 0 σ H) (hl : ∀ i σ H, Pv i σ H → SqT K H a xs ∧ SqT K H b ys)
    (hs : ∀ i x y p σ H, xs[i]? = some x → ys[i]? = some y → H p = none → Pv i σ H → g (.ref p) σ (upd H p (.tup [x, y])) fun σ2 H2 => tb { D with nx := Pv (i + 1), ct := Pv (i + 1), bk := D.nx } σ2 H2)
    (hd : ∀ i σ H, i ≤ xs.length → i ≤ ys.length → (xs.length ≤ i ∨ ys.length ≤ i) → Pv i σ H → D.nx σ H) :
    ∃ W : Nat → Nat → St → Hp → Prop, (∃ m, W 0 m σ H) ∧ ∀ i m σ H, W i m σ H →
      ((Itz K true true a b).stop i H ∧ D.nx σ H) ∨ ((Itz K true true a b).go i H ∧ ∃ N : St → Hp → Prop, (∀ σ' H', N σ' H' → ∃ m', m' < m ∧ W (i + 1) m' σ' H') ∧ ∀ x H', (Itz K true true a b).yld i H x H' → g x σ H' fun σ2 H2 => tb { D with nx := N, ct := N, bk := D.nx } σ2 H2) := by
  refine ⟨fun i m σ H => m = xs.length - i ∧ i ≤ xs.length ∧ i ≤ ys.length ∧ Pv i σ H, ⟨xs.length, by simp, Nat.zero_le _, Nat.zero_le _, h0⟩, ?_⟩
  rintro i m σ H ⟨rfl, hi, hj, p⟩
  obtain ⟨q1, q2⟩ := hl i σ H p
  by_cases hlt : i < xs.length ∧ i < ys.length
  · refine .inr ⟨⟨xs, ys, xs[i], ys[i], q1, q2, by simp [hlt.1], by simp [hlt.2]⟩, Pv (i + 1), fun σ' H' p' => ⟨xs.length - (i + 1), by omega, rfl, hlt.1, hlt.2, p'⟩, fun x H' y => ?_⟩
    obtain ⟨r, u, w, e, hr, e2, y1, y2⟩ := y
    subst e e2
    exact hs i u w r σ _ (y1 xs q1) (y2 ys q2) hr p
  · exact .inl ⟨⟨xs, ys, q1, q2, by omega⟩, hd i σ H hi hj (by omega) p⟩
end L2
namespace K1
open PySem L2 Kp
/-- how many of the first ones are the same -/
def sameN : List Int → List Int → Nat
  | x :: xs, y :: ys => if x = y then sameN xs ys + 1 else 0
  | _, _ => 0
theorem sameN_le : ∀ xs ys : List Int, sameN xs ys ≤ xs.length ∧ sameN xs ys ≤ ys.length
  | [], _ => by unfold sameN; simp
  | _ :: _, [] => by unfold sameN; simp
  | x :: xs, y :: ys => by
    have ih := sameN_le xs ys
    unfold sameN
    simp only [List.length_cons]
    split <;> omega
theorem sameN_eq : ∀ {xs ys : List Int} {i : Nat}, i < sameN xs ys → xs[i]? = ys[i]?
  | [], _, i, h => by unfold sameN at h; omega
  | _ :: _, [], i, h => by unfold sameN at h; omega
  | x :: xs, y :: ys, i, h => by
    unfold sameN at h
    split at h
    · rename_i e
      cases i with
      | zero => simp [e]
      | succ i =>
        have := sameN_eq (xs := xs) (ys := ys) (i := i) (by omega)
        simpa using this
    · omega
theorem sameN_ne : ∀ {xs ys : List Int}, sameN xs ys < xs.length → sameN xs ys < ys.length → xs[sameN xs ys]? ≠ ys[sameN xs ys]?
  | [], _, h, _ => by simp at h
  | _ :: _, [], _, h => by simp at h
  | x :: xs, y :: ys, h1, h2 => by
    unfold sameN at h1 h2 ⊢
    split at h1
    · rename_i e
      rw [if_pos e] at h2 ⊢
      simp only [List.length_cons] at h1 h2
      have := sameN_ne (xs := xs) (ys := ys) (by omega) (by omega)
      simpa using this
    · rename_i e
      rw [if_neg e]
      simpa using e
/-- the place from which a row is filled, counted in the entries and in the row -/
def stOf (b p : Int) : Int := if b > p then b else p
def comeN (b p : Int) : Nat := (stOf b p - p).toNat
def ownN (b p : Int) : Nat := (stOf b p - b).toNat
def fillN (b p : Int) (ts us : List Int) : Nat := sameN (ts.drop (ownN b p)) (us.drop (comeN b p))
end K1
set_option Elab.async false
set_option linter.all false
set_option maxRecDepth 100000
set_option maxHeartbeats 4000000
namespace K1
open PySem L2 Kp
section
variable {P : Program} {w : World} {K : PySem.W.Frag} {mg : Str → Option Value} {base : Heap}
def spSameA : Sp := fun vs H Q _ => ∃ (a c : Addr) (es fs : List V) (ts us : List Int), vs = [.ref a, .ref c] ∧ H a = some (.tup es) ∧ H c = some (.tup fs) ∧ Ents H es ts ∧ Ents H fs us ∧ ∀ H', Same H H' → Q (.int (sameN ts us : Nat)) H'
theorem scSa : FnScope ["own", "others", "many", "entry", "other"] ["own", "others"] (defScope s_same_ahead) := ⟨rfl, rfl, rfl, by decide +kernel, rfl, by decide +kernel, by decide +kernel⟩
theorem ok_same_ahead {f : Addr} {fd : FuncData} (F : Fun K "same_ahead" "same_ahead" s_same_ahead f fd) (T : Txt mg) : FnOk P w K mg base CX0 1 f fd ["own", "others"] spSameA := by
  refine F.ok scSa (fun vs H Q E ⟨_, _, _, _, _, _, e, _⟩ => by subst e; rfl) (fun cdv A outer s H vs Q E hr h => ?_)
  obtain ⟨a, c, es, fs, ts, us, rfl, ha, hc, hen, hfn, q⟩ := h
  refine ⟨_, @pss_p _ _ _ _ _ (ps_set (i := 2) scSa.nd (by rfl) (by exact Or.inl rfl) (pe_int))
    (@pss_p _ _ _ _ _ (ps_for PassesOwn.never (by rfl) (pi_zip (t1 := true) (t2 := true) (by rfl) T.zip (pa_n (pv 0) (pa_n (pv 1) pa_nil))) (pg_tup (n := 2) (by rfl) (pgs_cons (pg_name (i := 3) scSa.nd (by rfl) (by exact Or.inl rfl)) (pgs_cons (pg_name (i := 4) scSa.nd (by rfl) (by exact Or.inl rfl)) pgs_nil))) (@pss_p _ _ _ _ _ (ps_if (pt_cmpR op_ne (pe_ix ix_tup (pv 3) (pe_int) px_i) (pe_ix ix_tup (pv 4) (pe_int) px_i) (nomark _)) (@pss_o _ _ _ (ps_ret (pv 2))) pss_nil)
    (@pss_o _ _ _ (ps_set (i := 2) scSa.nd (by rfl) (by exact Or.inl rfl) (pe_op op_add (pv 2) (pe_int))))))
    (@pss_o _ _ _ (ps_ret (pv 2)))), ?_⟩
  have l1 := hen.length
  have l2 := hfn.length
  obtain ⟨le1, le2⟩ := sameN_le ts us
  refine ⟨_, rfl, _, rfl, a, c, es, fs, rfl, SqT.of ha, SqT.of hc, for_zipT (K := K) (a := a) (b := c) (xs := es) (ys := fs) (fun i σ H' => ∃ x3 x4 : Option V, σ = [some (.ref a), some (.ref c), some (.int (i : Nat)), x3, x4] ∧ i ≤ sameN ts us ∧ Same H H')
    ⟨none, none, rfl, Nat.zero_le _, Same.refl _⟩ (fun i σ H' ⟨_, _, _, _, s1⟩ => ⟨SqT.of (s1 _ _ ha), SqT.of (s1 _ _ hc)⟩) ?_ ?_⟩
  · rintro i x y p σ H' hx hy hp ⟨x3, x4, rfl, hi, s1⟩
    have i1 : i < ts.length := by rw [← l1]; exact (List.getElem?_eq_some_iff.mp hx).1
    have i2 : i < us.length := by rw [← l2]; exact (List.getElem?_eq_some_iff.mp hy).1
    have s2 := same_upd (o := HO.tup [x, y]) hp
    obtain ⟨pe, xe, ge, he, _⟩ := (hen.same (s1.trans s2)).get i1
    obtain ⟨pf, xf, gf, hf, _⟩ := (hfn.same (s1.trans s2)).get i2
    rw [ge] at hx
    cases hx
    rw [gf] at hy
    cases hy
    refine ⟨p, _, rfl, SqT.of upd_same, rfl, _, _, rfl, _, _, rfl, rfl, ?_⟩
    refine ⟨_, rfl, pe, _, _, .int ts[i], rfl, rfl, SqT.of he, atI_nat (j := 0) rfl, _, rfl, pf, _, _, .int us[i], rfl, rfl, SqT.of hf, atI_nat (j := 0) rfl, rfl, _, rfl, ite2 (fun h => ?_) (fun h => ?_)⟩
    · have hne : ts[i] ≠ us[i] := fun e => by rw [e] at h; simp at h
      have hi2 : i = sameN ts us := by
        by_cases hlt : i < sameN ts us
        · have := sameN_eq hlt
          rw [List.getElem?_eq_getElem i1, List.getElem?_eq_getElem i2] at this
          exact absurd (Option.some.inj this) hne
        · omega
      refine ⟨_, rfl, ?_⟩
      rw [hi2]
      exact q _ (s1.trans s2)
    · have heq : ts[i] = us[i] := by
        by_cases e : ts[i] = us[i]
        · exact e
        · exact absurd (by simpa using e) h
      refine ⟨_, rfl, _, _, rfl, rfl, _, _, rfl, ?_, s1.trans s2⟩
      by_cases hlt : i < sameN ts us
      · exact hlt
      · have hi2 : sameN ts us = i := by omega
        have := sameN_ne (xs := ts) (ys := us) (by omega) (by omega)
        rw [hi2, List.getElem?_eq_getElem i1, List.getElem?_eq_getElem i2, heq] at this
        exact absurd rfl this
  · rintro i σ H' g1 g2 hend ⟨x3, x4, rfl, hi, s1⟩
    have hi2 : i = sameN ts us := by omega
    refine ⟨_, rfl, ?_⟩
    rw [hi2]
    exact q _ s1
def spFilN (K : PySem.W.Frag) : Sp := fun vs H Q _ => ∃ (v : V) (b l : Int) (es : List V) (ts : List Int) (p : Int) (fa : Addr) (fs : List V) (us : List Int), vs = [v, .int p, .ref fa] ∧ RowX K H v b l es ts ∧ ts.length ≤ 250 ∧ H fa = some (.tup fs) ∧ Ents H fs us ∧ us.length ≤ 200 ∧ p ≤ endP b ts ∧
  (fillN b p ts us = (us.drop (comeN b p)).length → ∀ H', Same H H' → Q v H') ∧
  (fillN b p ts us ≠ (us.drop (comeN b p)).length → ∀ (u : V) (H' : Hp), RowX K H' u b l (es.take (ownN b p + fillN b p ts us) ++ fs.drop (comeN b p + fillN b p ts us)) (ts.take (ownN b p + fillN b p ts us) ++ us.drop (comeN b p + fillN b p ts us)) → Same H H' → Q u H')
theorem scFi : FnScope ["row", "place", "entries", "base", "start", "come", "own", "same"] ["row", "place", "entries"] (defScope s_filled) := ⟨rfl, rfl, rfl, by decide +kernel, rfl, by decide +kernel, by decide +kernel⟩
theorem ok_filledN {f : Addr} {fd : FuncData} (F : Fun K "filled" "filled" s_filled f fd) (T : Txt mg) (CE : Cal P w K mg base "end_of" 1 ["row"] (spEndOf K)) (CS : Cal P w K mg base "same_ahead" 1 ["own", "others"] spSameA) : FnOk P w K mg base CX0 2 f fd ["row", "place", "entries"] (spFilN K) := by
  refine F.ok scFi (fun vs H Q E ⟨_, _, _, _, _, _, _, _, _, e, _⟩ => by subst e; rfl) (fun cdv A outer s H vs Q E hr h => ?_)
  obtain ⟨v, b, l, es, ts, p, fa, fs, us, rfl, hX, hfw, hfa, hfn, hlu, g, q1, q2⟩ := h
  have hX' := hX
  obtain ⟨⟨rb, c, rfl, hb0, hc0⟩, hen, hfew⟩ := hX'
  have hb := SqT.of (K := K) hb0
  have hc := SqT.of (K := K) hc0
  obtain ⟨gE, dE, GE, mE, kE, bE⟩ := CE.ex
  obtain ⟨gS, dS, GS, mS, kS, bS⟩ := CS.ex
  refine ⟨_, @pss_p _ _ _ _ _ (ps_if (pt_cmpR op_gt (pv 1) (pe_call GE hr (by rfl) mE kE bE .nil pass0 (pa_n (pv 0) pa_nil)) (nomark _)) (@pss_o _ _ _ (ps_never)) pss_nil)
    (@pss_p _ _ _ _ _ (ps_set (i := 3) scFi.nd (by rfl) (by exact Or.inl rfl) (pe_ix ix_tup (pv 0) (pe_int) px_i))
    (@pss_p _ _ _ _ _ (ps_set (i := 4) scFi.nd (by rfl) (by exact Or.inl rfl) (pe_callB (call_max2 (by rfl)) (by rfl) T.max boot_max (pa_n (pv 1) (pa_n (pv 3) pa_nil))))
    (@pss_p _ _ _ _ _ (ps_set (i := 5) scFi.nd (by rfl) (by exact Or.inl rfl) (pe_slice sl_tupV (pv 2) (po_some (pe_op op_sub (pv 4) (pv 1))) po_none))
    (@pss_p _ _ _ _ _ (ps_set (i := 6) scFi.nd (by rfl) (by exact Or.inl rfl) (pe_slice sl_tupV (pe_ix ix_tup (pv 0) (pe_int) px_i) (po_some (pe_op op_sub (pv 4) (pv 3))) po_none))
    (@pss_p _ _ _ _ _ (ps_set (i := 7) scFi.nd (by rfl) (by exact Or.inl rfl) (pe_call GS hr (by rfl) mS kS bS .nil pass0 (pa_n (pv 6) (pa_n (pv 5) pa_nil))))
    (@pss_p _ _ _ _ _ (ps_if (pt_cmpR op_eq (pv 7) (pe_callB call_len_seq (by rfl) T.len PySem.boot_len (pa_n (pv 5) pa_nil)) (nomark _)) (@pss_o _ _ _ (ps_ret (pv 0))) pss_nil)
    (@pss_o _ _ _ (ps_ret (QE.h (qx_tup (qa_n (pv 3) (qa_s (pe_ix ix_tup (pv 0) (pe_int) px_i) (qa_b (pe_op op_catU (pe_slice sl_tupV (pe_ix ix_tup (pv 0) (pe_int) px_i) po_none (po_some (pe_op op_add (pe_op op_sub (pv 4) (pv 3)) (pv 7)))) (pe_slice sl_tupV (pv 5) (po_some (pv 7)) po_none)) qa_nil))))))))))))), ?_⟩
  have at0 : atI [V.int b, V.int l, V.ref c] 0 = some (.int b) := atI_nat (j := 0) rfl
  have at1 : atI [V.int b, V.int l, V.ref c] 1 = some (.int l) := atI_nat (j := 1) rfl
  have at2 : atI [V.int b, V.int l, V.ref c] 2 = some (.ref c) := atI_nat (j := 2) rfl
  have l1 := hen.length
  have l2 := hfn.length
  refine ⟨_, rfl, _, rfl, _, b, l, ts, rfl, ⟨es, hX⟩, _, _, rfl, rfl, _, rfl, ite2 (fun h => absurd (of_decide_eq_true h) (by omega)) (fun h => ?_)⟩
  have ge : p ≤ b + (ts.length : Int) := g
  refine ⟨_, rfl, rb, _, _, .int b, rfl, rfl, hb, at0, ?_⟩
  refine ⟨_, rfl, _, rfl, _, _, rfl, ?_⟩
  show gName 4 (V.int (stOf b p)) _ _ _
  have hx : ((comeN b p : Nat) : Int) = stOf b p - p := by unfold comeN stOf; split <;> omega
  have hy : ((ownN b p : Nat) : Int) = stOf b p - b := by unfold ownN stOf; split <;> omega
  refine ⟨_, rfl, _, rfl, _, rfl, _, _, rfl, rfl, _, rfl, fa, fs, rfl, hfa, fun ca H1 hca s1 => ?_⟩
  rw [← hx, cut_fromN] at hca
  refine ⟨_, rfl, rb, _, _, .ref c, rfl, rfl, SqT.same hb s1, at2, _, rfl, _, rfl, _, _, rfl, rfl, _, rfl, c, es, rfl, s1 _ _ hc0, fun oa H2 hoa s2 => ?_⟩
  rw [← hy, cut_fromN] at hoa
  have s12 := s1.trans s2
  refine ⟨_, rfl, _, rfl, oa, ca, _, _, ts.drop (ownN b p), us.drop (comeN b p), rfl, hoa, s2 _ _ hca, (hen.same s12).drop _, (hfn.same s12).drop _, fun H3 s3 => ?_⟩
  have s13 := s12.trans s3
  show gName 7 (V.int ((fillN b p ts us : Nat) : Int)) _ _ _
  have hca3 : H3 ca = some (.tup (fs.drop (comeN b p))) := s3 _ _ (s2 _ _ hca)
  refine ⟨_, rfl, _, rfl, ca, _, rfl, .inr (SqT.of hca3), rfl, _, rfl, ite2 (fun h2 => ?_) (fun h2 => ?_)⟩
  · have e : fillN b p ts us = (us.drop (comeN b p)).length := by
      have := of_decide_eq_true h2
      simp only [V.int.injEq] at this
      rw [List.length_drop] at this ⊢
      omega
    exact ⟨_, rfl, q1 e H3 s13⟩
  · have e : fillN b p ts us ≠ (us.drop (comeN b p)).length := fun e => h2 (decide_eq_true (by rw [e, List.length_drop, List.length_drop, l2]))
    have hap : stOf b p - b + ((fillN b p ts us : Nat) : Int) = ((ownN b p + fillN b p ts us : Nat) : Int) := by omega
    refine ⟨_, rfl, _, rfl, rb, _, _, .int l, rfl, rfl, SqT.same hb s13, at1, _, rfl, rb, _, _, .ref c, rfl, rfl, SqT.same hb s13, at2, _, rfl, _, rfl, _, _, rfl, rfl, _, rfl, _, _, rfl, rfl, _, rfl, c, es, rfl, s13 _ _ hc0, fun p4 H4 h4 s4 => ?_⟩
    rw [hap, cut_toN] at h4
    refine ⟨_, rfl, _, rfl, _, rfl, ca, _, rfl, s4 _ _ hca3, fun p5 H5 h5 s5 => ?_⟩
    rw [cut_fromN, List.drop_drop] at h5
    refine ⟨p4, p5, _, _, rfl, rfl, s5 _ _ h4, h5, tiny ?_, fun p6 H6 h6 s6 => ⟨tiny (by show 3 ≤ 1000; decide), fun p7 hp7 => ?_⟩⟩
    · show (es.take _).length + (fs.drop _).length ≤ 1000
      rw [List.length_take, List.length_drop]; omega
    have s7 := same_upd (o := HO.tup [V.int b, V.int l, V.ref p6]) hp7
    have s47 := s4.trans (s5.trans (s6.trans s7))
    refine q2 e (.ref p7) _ ⟨⟨p7, p6, rfl, upd_same, s7 _ _ h6⟩, (((hen.same s13).same s47).take _).append (((hfn.same s13).same s47).drop _), ?_⟩ (s13.trans s47)
    rw [List.length_append, List.length_take, List.length_drop]; omega
end
end K1
set_option Elab.async false
set_option linter.all false
set_option maxRecDepth 100000
set_option maxHeartbeats 4000000
namespace K1
open PySem L2 Kp
section
variable {P : Program} {w : World} {K : PySem.W.Frag} {mg : Str → Option Value} {base : Heap}
theorem ET.ents {H : Hp} : ∀ {us : List V} {es : List En}, ET H us es → enOk es → Ents H us (es.map (·.1))
  | _, _, .nil, _ => .nil
  | _, _, .cons (x := x) hp hu r, ok => by
    have e : x = .opn := (ok _ (List.mem_cons_self ..)).1
    subst e
    obtain ⟨q, rfl, hq⟩ := hu
    exact .cons hp (.tup hq (by show 1 ≤ 16; decide) (.cons (.str _ (by decide +kernel)) .nil)) (ET.ents r fun e h => ok e (List.mem_cons_of_mem _ h))
theorem rw_row {H : Hp} {v : V} {es : List En} (h : RwP H v 0 0 es) (ok : enOk es) (hl : es.length ≤ 3) : ∃ us, ET H us es ∧ RowX K H v 0 0 us (es.map (·.1)) := by
  obtain ⟨r, c, us, e, h1, h2, h3⟩ := h
  exact ⟨us, h3, ⟨r, c, e, h1, h2⟩, h3.ents ok, by rw [List.length_map]; omega⟩
theorem lastD_es : ∀ (l : Int) (es : List En), (es.map (·.1)).getLastD l = es.foldl (fun _ e => e.1) l
  | _, [] => rfl
  | l, e :: es => by
    rw [List.map_cons, List.getLastD_cons, List.foldl_cons]
    exact lastD_es e.1 es
theorem endT_es (es : List En) : endT 0 (es.map (·.1)) = lastT 0 es := lastD_es 0 es
theorem asNew_es (t p : Int) (es : List En) : asNewB t p 0 0 (es.map (·.1)) = (decide (lastT 0 es < t) || (decide (t = lastT 0 es) && decide ((es.length : Int) ≤ p))) := by
  unfold asNewB endP
  rw [endT_es, List.length_map, Int.zero_add]
end
end K1
set_option Elab.async false
set_option linter.all false
set_option maxRecDepth 100000
set_option maxHeartbeats 4000000
namespace K1
open PySem L2 Kp
section
variable {P : Program} {w : World} {K : PySem.W.Frag} {mg : Str → Option Value} {base : Heap}
theorem qa_at {X : Cx} {o : Expr} {f : Str} {es : List Expr} {p : Pos} {te : TE} {t : TA} (ha : PE X (.Attribute o f p) te) (r : QA X es t) : QA X (.Attribute o f p :: es) (tCons te t) := ⟨pa_cons ha r.h rfl⟩
theorem scEoP : FnScope ["row"] ["row"] (defScope s_end_of) := ⟨rfl, rfl, rfl, by decide +kernel, rfl, by decide +kernel, by decide +kernel⟩
theorem ok_end_ofP {f : Addr} {fd : FuncData} (F : Fun K "end_of" "end_of" s_end_of f fd) (T : Txt mg) : FnOk P w K mg base CX0 1 f fd ["row"] spEndP := by
  refine F.ok scEoP (fun vs H Q E ⟨_, _, _, _, e, _⟩ => by subst e; rfl) (fun cdv A outer s H vs Q E hr h => ?_)
  obtain ⟨v, b, l, es, rfl, ⟨rb, c, us, rfl, hb, hc, he⟩, q⟩ := h
  refine ⟨_, @pss_o _ _ _ (ps_ret (pe_op op_add (pe_ix ix_tup (pv 0) (pe_int) px_i) (pe_callB call_len_seq (by rfl) T.len PySem.boot_len (pa_s (pe_ix ix_tup (pv 0) (pe_int) px_i) pa_nil)))), ?_⟩
  refine ⟨_, rfl, rb, _, _, .int b, rfl, rfl, SqT.of hb, atI_nat (j := 0) rfl, _, rfl, rb, _, _, .ref c, rfl, rfl, SqT.of hb, atI_nat (j := 2) rfl, c, us, rfl, .inr (SqT.of hc), _, _, rfl, rfl, ?_⟩
  show Q (.int (b + (us.length : Int))) H
  rw [he.length]; exact q
theorem en_nil : enOk [] := fun e h => absurd h List.not_mem_nil
theorem fil0 (us : List Int) : fillN 0 0 [] us = 0 := by
  unfold fillN
  rw [List.drop_nil]
  cases us.drop (comeN 0 0) <;> rfl
def spFil4 : Sp := fun vs H Q _ => ∃ (v : V) (fa : Addr) (fs : List V) (es : List En), vs = [v, .int 0, .ref fa] ∧ RwP H v 0 0 [] ∧ H fa = some (.tup fs) ∧ ET H fs es ∧ enOk es ∧ es.length ≤ 3 ∧ ∀ (u : V) (H' : Hp), RwP H' u 0 0 es → Same H H' → Q u H'
theorem ok_fil4 {f : Addr} {fd : FuncData} (F : FnOk P w K mg base CX0 2 f fd ["row", "place", "entries"] (spFilN K)) : FnOk P w K mg base CX0 2 f fd ["row", "place", "entries"] spFil4 := F.imp fun vs H Q E ⟨v, fa, fs, es, e, hv, hfa, hE, en, hl, q⟩ => by
  subst e
  obtain ⟨us0, hE0, hR⟩ := rw_row (K := K) hv en_nil (by decide)
  cases hE0
  have c0 : comeN 0 0 = 0 := by decide
  have o0 : ownN 0 0 = 0 := by decide
  refine ⟨v, 0, 0, [], [], 0, fa, fs, es.map (·.1), rfl, hR, by decide, hfa, hE.ents en, by rw [List.length_map]; omega, by decide, fun h H' s => ?_, fun h u H' hR' s => ?_⟩
  · rw [fil0, c0, List.drop_zero, List.length_map] at h
    have e0 : es = [] := List.length_eq_zero_iff.mp h.symm
    subst e0
    exact q v H' (hv.same s) s
  · obtain ⟨r, c, e, h1, h2⟩ := hR'.ex
    refine q u H' ⟨r, c, fs, e, h1, ?_, hE.same s⟩ s
    rw [h2, fil0, c0, o0]
    rfl
def spAg4 : Sp := fun vs H Q _ => ∃ v : V, vs = [v, .int 0, .int 0] ∧ RwP H v 0 0 [] ∧ Q (.bl true) H
theorem ok_ag4 {f : Addr} {fd : FuncData} (F : FnOk P w K mg base CX0 4 f fd ["row", "place", "last"] (spAgrees K)) : FnOk P w K mg base CX0 4 f fd ["row", "place", "last"] spAg4 := F.imp fun vs H Q E ⟨v, e, hv, q⟩ => by
  subst e
  obtain ⟨us0, hE0, hR⟩ := rw_row (K := K) hv en_nil (by decide)
  have e1 : agreesB 0 0 [] 0 0 = true := by decide
  exact ⟨v, 0, 0, 0, 0, [], rfl, ⟨_, hR⟩, by rw [e1]; exact q⟩
def spAn4 : Sp := fun vs H Q _ => ∃ (v : V) (t p : Int) (es : List En), vs = [.int t, .int p, v] ∧ RwP H v 0 0 es ∧ enOk es ∧ es.length ≤ 3 ∧ ∀ H', Same H H' → Q (.bl (decide (lastT 0 es < t) || (decide (t = lastT 0 es) && decide ((es.length : Int) ≤ p)))) H'
theorem ok_an4 {f : Addr} {fd : FuncData} (F : FnOk P w K mg base CX0 4 f fd ["last", "place", "row"] (spAsNew K)) : FnOk P w K mg base CX0 4 f fd ["last", "place", "row"] spAn4 := F.imp fun vs H Q E ⟨v, t, p, es, e, hv, en, hl, q⟩ => by
  subst e
  obtain ⟨us0, hE0, hR⟩ := rw_row (K := K) hv en hl
  exact ⟨v, t, p, 0, 0, es.map (·.1), rfl, ⟨_, hR⟩, fun H' s => by rw [asNew_es]; exact q H' s⟩
def spTook (C : Addr) : Sp := fun vs H Q _ => ∃ (a p : Addr) (x : Str) (one other t : Int) (rest : List V) (tm : Int) (vc : Option Int) (es : List En), vs = [.ref a, .ref p] ∧ K4V C H a tm vc es ∧ H p = some (.tup (.str x :: .int one :: .int other :: .int t :: rest)) ∧ tm ≤ t ∧ ∀ H', K4V C H' a t (vc1F tm vc t) es → Off a H H' → Q (.bl true) H'
theorem scTo4 : FnScope ["keeper", "letter"] ["keeper", "letter"] (defScope s_took_for_head) := ⟨rfl, rfl, rfl, by decide +kernel, rfl, by decide +kernel, by decide +kernel⟩
theorem ok_took {f fH : Addr} {fd dH : FuncData} {C : Addr} (Y : KpC K C) (F : Fun K "took_for_head" "took_for_head" s_took_for_head f fd) (MH : Meth K C "hear" fH) (FH : FnOk P w K mg base CX0 2 fH dH ["self", "term"] (spHear4 C)) (bH : Binds K dH ["self", "term"] []) : FnOk P w K mg base CX0 3 f fd ["keeper", "letter"] (spTook C) := by
  refine F.ok scTo4 (fun vs H Q E ⟨_, _, _, _, _, _, _, _, _, _, e, _⟩ => by subst e; rfl) (fun cdv A outer s H vs Q E hr h => ?_)
  obtain ⟨a, p, x, one, other, t, rest, tm, vc, es, rfl, hk, hp, hle, q⟩ := h
  refine ⟨_, @pss_p _ _ _ _ _ (ps_expr (pe_meth (pv 0) Y.cl MH FH hr bH .nil pass0 (pa_s (pe_ix ix_tup (pv 1) (pe_int) px_i) pa_nil)))
    (@pss_p _ _ _ _ _ (ps_if (PW.pt (pw_or (pt_cmpR op_lt (pe_ix ix_tup (pv 1) (pe_int) px_i) (pe_fld (pv 0) (by rfl)) (nomark _)) (pw_or1 (pt_cmpR op_eq (pe_fld (pv 0) (by rfl)) pe_str (nomark _))))) pss_never pss_nil)
    (@pss_p _ _ _ _ _ (ps_fld (pv 0) (pe_str) (by rfl))
    (@pss_p _ _ _ _ _ (ps_fld (pv 0) (QE.h (qx_tup (qa_nil))) (by rfl))
    (@pss_p _ _ _ _ _ (ps_fld (pv 0) (pe_ix ix_tup (pv 1) (pe_int) px_i) (by rfl))
    (@pss_o _ _ _ (ps_ret (pe_bl))))))), ?_⟩
  have hk' := hk
  obtain ⟨dx, fs, vp, vr, vs, vh, vn, vl, av, aw, ha, l_number, l_term, l_voice, l_head, l_way, l_pack, l_row, l_store, l_nexts, l_held, l_agreed, l_voices, l_waits, l_ok, hpk, hrw, hs, hv, hw, en⟩ := hk'
  have etm : termF tm t = t := by unfold termF; split <;> omega
  refine ⟨_, rfl, a, dx, fs, rfl, ha, l_ok.no (by decide +kernel), _, rfl, p, _, _, .int t, rfl, rfl, SqT.of hp, atI_nat (j := 3) rfl, a, t, tm, vc, es, rfl, hk, fun H1 hk1 o1 => ?_⟩
  rw [etm] at hk1
  have hp1 := (o1.tups ha) _ _ hp
  obtain ⟨dx1, fs1, vp1, vr1, vs1, vh1, vn1, vl1, av1, aw1, ha1, l1_number, l1_term, l1_voice, l1_head, l1_way, l1_pack, l1_row, l1_store, l1_nexts, l1_held, l1_agreed, l1_voices, l1_waits, l1_ok, hpk1, hrw1, hs1, hv1, hw1, en1⟩ := hk1
  refine ⟨_, rfl, p, _, _, .int t, rfl, rfl, SqT.of hp1, atI_nat (j := 3) rfl, _, rfl, a, C, dx1, fs1, _, rfl, ha1, Y.cl, Y.n_term, l1_term, _, _, rfl, rfl, _, rfl, ite2 (fun h => absurd (of_decide_eq_true h) (by omega)) (fun _ => ?_)⟩
  refine ⟨_, rfl, a, C, dx1, fs1, _, rfl, ha1, Y.cl, Y.n_way, l1_way, rfl, _, rfl, ite2 (fun h => absurd (of_decide_eq_true h) (by decide +kernel)) (fun _ => ?_)⟩
  refine ⟨_, rfl, a, C, dx1, fs1, rfl, ha1, Y.cl, Y.n_way, l1_ok.len, ?_⟩
  have k1 : FsOk (L2.putF "way" (.str "plain") fs1) := l1_ok.put (by decide +kernel)
  refine ⟨tiny (by show 0 ≤ 1000; decide), fun av2 hav2 => ?_⟩
  have na : a ≠ av2 := fun z => by rw [← z, upd_same] at hav2; cases hav2
  refine ⟨_, rfl, a, C, dx1, _, rfl, (by rw [upd_ne na]; exact upd_same), Y.cl, Y.n_voices, k1.len, ?_⟩
  have k2 := k1.put (f := "voices") (v := .ref av2) (by decide +kernel)
  have o2 := (off_upd (a := a) (H := H1) (o := HO.ins C dx1 (L2.putF "way" (.str "plain") fs1))).trans ((off_new (a := a) (o := HO.tup []) hav2).trans (off_upd (o := HO.ins C dx1 (L2.putF "voices" (.ref av2) (L2.putF "way" (.str "plain") fs1)))))
  refine ⟨_, rfl, p, _, _, .int one, rfl, rfl, SqT.of ((o2.tups ha1) _ _ hp1), atI_nat (j := 1) rfl, _, rfl, a, C, dx1, _, rfl, upd_same, Y.cl, Y.n_head, k2.len, ?_⟩
  have k3 := k2.put (f := "head") (v := .int one) (by decide +kernel)
  have o3 := o2.trans (off_upd (o := HO.ins C dx1 (L2.putF "head" (.int one) (L2.putF "voices" (.ref av2) (L2.putF "way" (.str "plain") fs1)))))
  have sT := o3.tups ha1
  refine q _ ⟨dx1, _, vp1, vr1, vs1, .int one, vn1, vl1, av2, aw1, upd_same, lk_ne (by decide +kernel) (lk_ne (by decide +kernel) (lk_ne (by decide +kernel) (l1_number))), lk_ne (by decide +kernel) (lk_ne (by decide +kernel) (lk_ne (by decide +kernel) (l1_term))), lk_ne (by decide +kernel) (lk_ne (by decide +kernel) (lk_ne (by decide +kernel) (l1_voice))), lk_eq, lk_ne (by decide +kernel) (lk_ne (by decide +kernel) (lk_eq)), lk_ne (by decide +kernel) (lk_ne (by decide +kernel) (lk_ne (by decide +kernel) (l1_pack))), lk_ne (by decide +kernel) (lk_ne (by decide +kernel) (lk_ne (by decide +kernel) (l1_row))), lk_ne (by decide +kernel) (lk_ne (by decide +kernel) (lk_ne (by decide +kernel) (l1_store))), lk_ne (by decide +kernel) (lk_ne (by decide +kernel) (lk_ne (by decide +kernel) (l1_nexts))), lk_ne (by decide +kernel) (lk_ne (by decide +kernel) (lk_ne (by decide +kernel) (l1_held))), lk_ne (by decide +kernel) (lk_ne (by decide +kernel) (lk_ne (by decide +kernel) (l1_agreed))), lk_ne (by decide +kernel) (lk_eq), lk_ne (by decide +kernel) (lk_ne (by decide +kernel) (lk_ne (by decide +kernel) (l1_waits))), k3, hpk1.offT sT, rwo_sameT hrw1 en1 sT, hs1.offT sT, ?_, sT _ _ hw1, en1⟩ (o1.trans o3)
  exact off_upd _ _ na.symm (off_upd _ _ na.symm upd_same)
def spHl (C : Addr) : Sp := fun vs H Q _ => ∃ (a : Addr) (vo vg vq : V) (tm : Int) (vc : Option Int) (es : List En), vs = [.ref a, vo, vg, vq] ∧ K4V C H a tm vc es ∧ ∀ h, H h = none → Q (.ref h) (upd H h (.tup [.str "held", .int 4, vo, .int tm, vg, vq]))
theorem scHl4 : FnScope ["keeper", "other", "good", "place"] ["keeper", "other", "good", "place"] (defScope s_held_letter) := ⟨rfl, rfl, rfl, by decide +kernel, rfl, by decide +kernel, by decide +kernel⟩
theorem ok_hl {f : Addr} {fd : FuncData} {C : Addr} (Y : KpC K C) (F : Fun K "held_letter" "held_letter" s_held_letter f fd) : FnOk P w K mg base CX0 1 f fd ["keeper", "other", "good", "place"] (spHl C) := by
  refine F.ok scHl4 (fun vs H Q E ⟨_, _, _, _, _, _, _, e, _⟩ => by subst e; rfl) (fun cdv A outer s H vs Q E hr h => ?_)
  obtain ⟨a, vo, vg, vq, tm, vc, es, rfl, hk, q⟩ := h
  refine ⟨_, @pss_o _ _ _ (ps_ret (QE.h (qx_tup (qa_str (qa_at (pe_fld (pv 0) (by rfl)) (qa_n (pv 1) (qa_at (pe_fld (pv 0) (by rfl)) (qa_n (pv 2) (qa_n (pv 3) qa_nil))))))))), ?_⟩
  obtain ⟨dx, fs, vp, vr, vs, vh, vn, vl, av, aw, ha, l_number, l_term, l_voice, l_head, l_way, l_pack, l_row, l_store, l_nexts, l_held, l_agreed, l_voices, l_waits, l_ok, hpk, hrw, hs, hv, hw, en⟩ := hk
  exact ⟨_, rfl, a, C, dx, fs, _, rfl, ha, Y.cl, Y.n_number, l_number, _, rfl, _, rfl, a, C, dx, fs, _, rfl, ha, Y.cl, Y.n_term, l_term, _, rfl, _, rfl, tiny (by show 6 ≤ 1000; decide), fun h hh => q h hh⟩
def spKa (C : Addr) : Sp := fun vs H Q _ => ∃ (a : Addr) (i tm : Int) (vc : Option Int) (es : List En), vs = [.ref a, .int i] ∧ i ≤ 0 ∧ K4V C H a tm vc es ∧ Q .non H
theorem scKa4 : FnScope ["keeper", "place", "entries"] ["keeper", "place"] (defScope s_know_agreed) := ⟨rfl, rfl, rfl, by decide +kernel, rfl, by decide +kernel, by decide +kernel⟩
theorem ok_ka {f : Addr} {fd : FuncData} {C : Addr} (Y : KpC K C) (F : Fun K "know_agreed" "know_agreed" s_know_agreed f fd) : FnOk P w K mg base CX0 1 f fd ["keeper", "place"] (spKa C) := by
  refine F.ok scKa4 (fun vs H Q E ⟨_, _, _, _, _, e, _⟩ => by subst e; rfl) (fun cdv A outer s H vs Q E hr h => ?_)
  obtain ⟨a, i, tm, vc, es, rfl, hi, hk, q⟩ := h
  refine ⟨_, @pss_o _ _ _ (ps_if (pt_cmpR op_gt (pv 1) (pe_fld (pv 0) (by rfl)) (nomark _)) pss_never pss_nil), ?_⟩
  obtain ⟨dx, fs, vp, vr, vs, vh, vn, vl, av, aw, ha, l_number, l_term, l_voice, l_head, l_way, l_pack, l_row, l_store, l_nexts, l_held, l_agreed, l_voices, l_waits, l_ok, hpk, hrw, hs, hv, hw, en⟩ := hk
  exact ⟨_, rfl, _, rfl, a, C, dx, fs, _, rfl, ha, Y.cl, Y.n_agreed, l_agreed, _, _, rfl, rfl, _, rfl, ite2 (fun h => absurd (of_decide_eq_true h) (by omega)) (fun _ => q)⟩
theorem scTh4 : FnScope ["keeper", "letter", "one", "place", "entries", "end"] ["keeper", "letter"] (defScope s_take_hand) := ⟨rfl, rfl, rfl, by decide +kernel, rfl, by decide +kernel, by decide +kernel⟩
theorem ok_take_hand {f : Addr} {fd : FuncData} {C : Addr} (Y : KpC K C) (F : Fun K "take_hand" "take_hand" s_take_hand f fd) (T : Txt mg) (CT : Cal P w K mg base "took_for_head" 3 ["keeper", "letter"] (spTook C)) (CA : Cal P w K mg base "agrees" 4 ["row", "place", "last"] spAg4) (CL : Cal P w K mg base "filled" 2 ["row", "place", "entries"] spFil4) (CK : Cal P w K mg base "know_agreed" 1 ["keeper", "place"] (spKa C)) (CH : Cal P w K mg base "held_letter" 1 ["keeper", "other", "good", "place"] (spHl C)) : FnOk P w K mg base CX0 5 f fd ["keeper", "letter"] (spH41 (K4V C) (fun H a => K4V C H a 0 none [])) := by
  refine F.ok scTh4 (fun vs H Q E ⟨_, _, _, _, _, e, _⟩ => by subst e; rfl) (fun cdv A outer s H vs Q E hr h => ?_)
  obtain ⟨a, p, e, us, es, rfl, hk, hp, he, hE, en, hl, q⟩ := h
  obtain ⟨gT, dT, GT, mT, kT, bT⟩ := CT.ex
  obtain ⟨gA, dA, GA, mA, kA, bA⟩ := CA.ex
  obtain ⟨gL, dL, GL, mL, kL, bL⟩ := CL.ex
  obtain ⟨gK, dK, GK, mK, kK, bK⟩ := CK.ex
  obtain ⟨gH, dH, GH, mH, kH, bH⟩ := CH.ex
  have r1 := hr.mono (show 1 ≤ 4 by omega)
  have r2 := hr.mono (show 2 ≤ 4 by omega)
  have r3 := hr.mono (show 3 ≤ 4 by omega)
  refine ⟨_, @pss_p _ _ _ _ _ (ps_if (pt_not (pt_val (pe_call GT r3 (by rfl) mT kT bT .nil pass0 (pa_n (pv 0) (pa_n (pv 1) pa_nil))))) pss_never pss_nil)
    (@pss_p _ _ _ _ _ (ps_set (i := 2) scTh4.nd (by rfl) (by exact Or.inl rfl) (pe_ix ix_tup (pv 1) (pe_int) px_i))
    (@pss_p _ _ _ _ _ (ps_set (i := 3) scTh4.nd (by rfl) (by exact Or.inl rfl) (pe_ix ix_tup (pv 1) (pe_int) px_i))
    (@pss_p _ _ _ _ _ (ps_set (i := 4) scTh4.nd (by rfl) (by exact Or.inl rfl) (pe_ix ix_tup (pv 1) (pe_int) px_i))
    (@pss_p _ _ _ _ _ (ps_if (pt_not (pt_val (pe_call GA hr (by rfl) mA kA bA .nil pass0 (pa_cons (pe_fld (pv 0) (by rfl)) (pa_n (pv 3) (pa_s (pe_ix ix_tup (pv 1) (pe_int) px_i) pa_nil)))))) pss_never pss_nil)
    (@pss_p _ _ _ _ _ (ps_fld (pv 0) (pe_call GL r2 (by rfl) mL kL bL .nil pass0 (pa_cons (pe_fld (pv 0) (by rfl)) (pa_n (pv 3) (pa_n (pv 4) pa_nil)))) (by rfl))
    (@pss_p _ _ _ _ _ (ps_set (i := 5) scTh4.nd (by rfl) (by exact Or.inl rfl) (pe_op op_add (pv 3) (pe_callB call_len_seq (by rfl) T.len PySem.boot_len (pa_n (pv 4) pa_nil))))
    (@pss_p _ _ _ _ _ (ps_expr (pe_call GK r1 (by rfl) mK kK bK .nil pass0 (pa_n (pv 0) (pa_k (pe_callB (call_min2 (by rfl)) (by rfl) T.min boot_min (pa_s (pe_ix ix_tup (pv 1) (pe_int) px_i) (pa_n (pv 5) pa_nil))) pa_nil))))
    (@pss_o _ _ _ (ps_ret (pe_lst (pa_k (pe_call GH r1 (by rfl) mH kH bH .nil pass0 (pa_n (pv 0) (pa_n (pv 2) (pa_i pe_bl (pa_k (pe_callB (call_max2 (by rfl)) (by rfl) T.max boot_max (pa_n (pv 5) (pa_s (pe_ix ix_tup (pe_fld (pv 0) (by rfl)) pe_int px_i) pa_nil))) pa_nil))))) pa_nil))))))))))), ?_⟩
  have hk' := hk
  obtain ⟨dx0, fs0, vp0, vr0, vs0, vh0, vn0, vl0, av0, aw0, ha0, l0_number, l0_term, l0_voice, l0_head, l0_way, l0_pack, l0_row, l0_store, l0_nexts, l0_held, l0_agreed, l0_voices, l0_waits, l0_ok, hpk0, hrw0, hs0, hv0, hw0, en0⟩ := hk'
  refine ⟨_, rfl, _, rfl, a, p, "hand", 0, 4, 2, _, 0, none, [], rfl, hk, hp, by decide, fun H1 hk1 o1 => ⟨_, rfl, iteF ?_⟩⟩
  have sT1 := o1.tups ha0
  have hp1 := sT1 _ _ hp
  have he1 := sT1 _ _ he
  have hE1 := eto_sameT sT1 hE en
  have e1 : vc1F 0 none 2 = none := by decide
  rw [e1] at hk1
  obtain ⟨dx1, fs1, vp1, vr1, vs1, vh1, vn1, vl1, av1, aw1, ha1, l1_number, l1_term, l1_voice, l1_head, l1_way, l1_pack, l1_row, l1_store, l1_nexts, l1_held, l1_agreed, l1_voices, l1_waits, l1_ok, hpk1, hrw1, hs1, hv1, hw1, en1⟩ := hk1
  refine ⟨_, rfl, p, _, _, .int 0, rfl, rfl, SqT.of hp1, atI_nat (j := 1) rfl, _, rfl, p, _, _, .int 0, rfl, rfl, SqT.of hp1, atI_nat (j := 4) rfl, _, rfl, p, _, _, .ref e, rfl, rfl, SqT.of hp1, atI_nat (j := 6) rfl, ?_⟩
  refine ⟨_, rfl, a, C, dx1, fs1, _, rfl, ha1, Y.cl, Y.n_row, l1_row, _, rfl, _, rfl, p, _, _, .int 0, rfl, rfl, SqT.of hp1, atI_nat (j := 5) rfl, vr1, rfl, hrw1, _, rfl, iteF ?_⟩
  refine ⟨_, rfl, a, C, dx1, fs1, _, rfl, ha1, Y.cl, Y.n_row, l1_row, _, rfl, _, rfl, vr1, e, us, es, rfl, hrw1, he1, hE1, en, hl, fun u H2 hu s2 => ?_⟩
  refine ⟨_, rfl, a, C, dx1, fs1, rfl, s2 _ _ ha1, Y.cl, Y.n_row, l1_ok.len, ?_⟩
  have k2 := l1_ok.put (f := "row") (v := u) (by decide +kernel)
  have o2 : Off a H1 _ := (off_same s2).trans (off_upd (o := HO.ins C dx1 (L2.putF "row" u fs1)))
  have sT2 := o2.tups ha1
  have hk2 : K4V C (upd H2 a (.ins C dx1 (L2.putF "row" u fs1))) a 2 none es := ⟨dx1, _, vp1, u, vs1, vh1, vn1, vl1, av1, aw1, upd_same, lk_ne (by decide +kernel) (l1_number), lk_ne (by decide +kernel) (l1_term), lk_ne (by decide +kernel) (l1_voice), lk_ne (by decide +kernel) (l1_head), lk_ne (by decide +kernel) (l1_way), lk_ne (by decide +kernel) (l1_pack), lk_eq, lk_ne (by decide +kernel) (l1_store), lk_ne (by decide +kernel) (l1_nexts), lk_ne (by decide +kernel) (l1_held), lk_ne (by decide +kernel) (l1_agreed), lk_ne (by decide +kernel) (l1_voices), lk_ne (by decide +kernel) (l1_waits), k2, hpk1.offT sT2, rwo_sameT hu en ((off_upd (a := a)).tups (s2 _ _ ha1)), hs1.offT sT2, sT2 _ _ hv1, sT2 _ _ hw1, en⟩
  have hp2 := sT2 _ _ hp1
  have he2 := sT2 _ _ he1
  have oH2 := o1.trans o2
  generalize upd H2 a (HO.ins C dx1 (L2.putF "row" u fs1)) = H3 at *
  have hk3 := hk2
  obtain ⟨dx3, fs3, vp3, vr3, vs3, vh3, vn3, vl3, av3, aw3, ha3, l3_number, l3_term, l3_voice, l3_head, l3_way, l3_pack, l3_row, l3_store, l3_nexts, l3_held, l3_agreed, l3_voices, l3_waits, l3_ok, hpk3, hrw3, hs3, hv3, hw3, en3⟩ := hk3
  obtain ⟨rr, rc, ru, erw, hrr, _, _⟩ := hrw3
  subst erw
  refine ⟨_, rfl, _, rfl, e, us, rfl, .inr (SqT.of he2), _, _, rfl, rfl, ?_⟩
  refine ⟨_, rfl, _, rfl, p, _, _, .int 0, rfl, rfl, SqT.of hp2, atI_nat (j := 7) rfl, _, rfl, _, _, rfl, a, _, 2, none, es, rfl, (by split <;> omega), hk2, ?_⟩
  refine ⟨_, rfl, _, rfl, _, rfl, _, rfl, a, C, dx3, fs3, _, rfl, ha3, Y.cl, Y.n_row, l3_row, rr, _, _, .int 0, rfl, rfl, SqT.of hrr, atI_nat (j := 0) rfl, _, _, rfl, a, _, _, _, 2, none, es, rfl, hk2, fun h hh => ⟨tiny (by show 1 ≤ 1000; decide), fun r hr1 => ?_⟩⟩
  have ev : (if (0 : Int) > 0 + (us.length : Int) then (0 : Int) else 0 + (us.length : Int)) = (es.length : Int) := by rw [hE.length]; split <;> omega
  have s4 := same_upd (o := HO.tup [V.str "held", V.int 4, V.int 0, V.int 2, V.bl true, V.int (if (0 : Int) > 0 + (us.length : Int) then (0 : Int) else 0 + (us.length : Int))]) hh
  have s5 := same_upd (o := HO.lst [V.ref h]) hr1
  have s45 := s4.trans s5
  exact q r h _ upd_same (by rw [← ev]; exact s5 _ _ upd_same) ((k4_law C).frame hk2 (sameT_of s45) fun o e => s45 _ _ e) fun b o n e => s45 _ _ (oH2 b o n e)
def spMay (C : Addr) : Sp := fun vs H Q _ => ∃ (a p : Addr) (x : Str) (one other t pl la tm : Int) (vc : Option Int) (es : List En), vs = [.ref a, .ref p] ∧ K4V C H a tm vc es ∧ H p = some (.tup [.str x, .int one, .int other, .int t, .int pl, .int la]) ∧ es.length ≤ 3 ∧ ∀ H', Same H H' → Q (.bl (decide (t = tm) && (decide (vc = none) || decide (vc = some one)) && (decide (lastT 0 es < la) || (decide (la = lastT 0 es) && decide ((es.length : Int) ≤ pl))))) H'
theorem in_vc (vc : Option Int) (one : Int) : inV (vcV vc) [V.non, V.int one] = (decide (vc = none) || decide (vc = some one)) := by
  cases vc with
  | none => rfl
  | some v =>
    show (false || (decide (one = v) || false)) = (decide (some v = none) || decide (some v = some one))
    by_cases h : one = v
    · subst h; simp
    · have h2 : ¬ some v = some one := fun e => h (by injection e with e; exact e.symm)
      rw [decide_eq_false h, decide_eq_false h2]; simp
theorem flat_vc (vc : Option Int) : flatV (vcV vc) = true := by cases vc <;> rfl
theorem scMy4 : FnScope ["keeper", "letter"] ["keeper", "letter"] (defScope s_may_give) := ⟨rfl, rfl, rfl, by decide +kernel, rfl, by decide +kernel, by decide +kernel⟩
theorem ok_may {f : Addr} {fd : FuncData} {C : Addr} (Y : KpC K C) (F : Fun K "may_give" "may_give" s_may_give f fd) (CN : Cal P w K mg base "as_new" 4 ["last", "place", "row"] spAn4) : FnOk P w K mg base CX0 5 f fd ["keeper", "letter"] (spMay C) := by
  refine F.ok scMy4 (fun vs H Q E ⟨_, _, _, _, _, _, _, _, _, _, _, e, _⟩ => by subst e; rfl) (fun cdv A outer s H vs Q E hr h => ?_)
  obtain ⟨a, p, x, one, other, t, pl, la, tm, vc, es, rfl, hk, hp, hl, q⟩ := h
  obtain ⟨gN, dN, GN, mN, kN, bN⟩ := CN.ex
  refine ⟨_, @pss_p _ _ _ _ _ (ps_if (PW.pt (pw_or (pt_cmpR op_ne (pe_ix ix_tup (pv 1) (pe_int) px_i) (pe_fld (pv 0) (by rfl)) (nomark _)) (pw_or1 (pt_cmpR op_notIn_seq (pe_fld (pv 0) (by rfl)) (QE.h (qx_tup (qa_non (qa_s (pe_ix ix_tup (pv 1) (pe_int) px_i) qa_nil)))) (by rfl))))) (@pss_o _ _ _ (ps_ret pe_bl)) pss_nil)
    (@pss_o _ _ _ (ps_ret (pe_call GN hr (by rfl) mN kN bN .nil pass0 (pa_s (pe_ix ix_tup (pv 1) (pe_int) px_i) (pa_s (pe_ix ix_tup (pv 1) (pe_int) px_i) (pa_cons (pe_fld (pv 0) (by rfl)) pa_nil)))))), ?_⟩
  obtain ⟨dx, fs, vp, vr, vs, vh, vn, vl, av, aw, ha, l_number, l_term, l_voice, l_head, l_way, l_pack, l_row, l_store, l_nexts, l_held, l_agreed, l_voices, l_waits, l_ok, hpk, hrw, hs, hv, hw, en⟩ := hk
  refine ⟨_, rfl, p, _, _, .int t, rfl, rfl, SqT.of hp, atI_nat (j := 3) rfl, _, rfl, a, C, dx, fs, _, rfl, ha, Y.cl, Y.n_term, l_term, rfl, _, rfl, ?_⟩
  by_cases ht : t = tm
  · rw [decide_eq_true (congrArg V.int ht)]
    rw [decide_eq_true ht] at q
    refine iteF ⟨_, rfl, a, C, dx, fs, _, rfl, ha, Y.cl, Y.n_voice, l_voice, _, rfl, p, _, _, .int one, rfl, rfl, SqT.of hp, atI_nat (j := 1) rfl, tiny (by show 2 ≤ 1000; decide), fun tp htp => ?_⟩
    have s1 := same_upd (o := HO.tup [V.non, V.int one]) htp
    refine ⟨tp, _, rfl, .inr (SqT.of upd_same), flat_vc vc, rfl, _, rfl, ?_⟩
    rw [if_pos rfl, in_vc]
    cases hb : (decide (vc = none) || decide (vc = some one)) with
    | false =>
      rw [hb] at q
      exact iteT (q _ s1)
    | true =>
      rw [hb] at q
      refine iteF ⟨_, rfl, p, _, _, .int la, rfl, rfl, SqT.of (s1 _ _ hp), atI_nat (j := 5) rfl, _, rfl, p, _, _, .int pl, rfl, rfl, SqT.of (s1 _ _ hp), atI_nat (j := 4) rfl, _, rfl, a, C, dx, fs, _, rfl, (s1 _ _ ha), Y.cl, Y.n_row, l_row, _, la, pl, es, rfl, hrw.same s1, en, hl, fun H' s2 => ?_⟩
      exact q H' (s1.trans s2)
  · rw [decide_eq_false (fun e : V.int t = V.int tm => ht (by injection e))]
    rw [decide_eq_false ht] at q
    exact iteT (iteT (q H (Same.refl _)))
theorem scTa4 : FnScope ["keeper", "letter", "one", "given"] ["keeper", "letter"] (defScope s_take_ask) := ⟨rfl, rfl, rfl, by decide +kernel, rfl, by decide +kernel, by decide +kernel⟩
theorem ok_take_ask {f fH : Addr} {fd dH : FuncData} {C : Addr} (Y : KpC K C) (F : Fun K "take_ask" "take_ask" s_take_ask f fd) (MH : Meth K C "hear" fH) (FH : FnOk P w K mg base CX0 2 fH dH ["self", "term"] (spHear4 C)) (bH : Binds K dH ["self", "term"] []) (CG : Cal P w K mg base "may_give" 5 ["keeper", "letter"] (spMay C)) : FnOk P w K mg base CX0 6 f fd ["keeper", "letter"] (spA41 (K4V C)) := by
  refine F.ok scTa4 (fun vs H Q E ⟨_, _, _, _, _, _, _, _, _, e, _⟩ => by subst e; rfl) (fun cdv A outer s H vs Q E hr h => ?_)
  obtain ⟨a, p, tm, vc, es, one, term, place, last, rfl, hk, hp, hl, q⟩ := h
  obtain ⟨gG, dG, GG, mG, kG, bG⟩ := CG.ex
  have r2 := hr.mono (show 2 ≤ 5 by omega)
  refine ⟨_, @pss_p _ _ _ _ _ (ps_set (i := 2) scTa4.nd (by rfl) (by exact Or.inl rfl) (pe_ix ix_tup (pv 1) (pe_int) px_i))
    (@pss_p _ _ _ _ _ (ps_expr (pe_meth (pv 0) Y.cl MH FH r2 bH .nil pass0 (pa_s (pe_ix ix_tup (pv 1) (pe_int) px_i) pa_nil)))
    (@pss_p _ _ _ _ _ (ps_set (i := 3) scTa4.nd (by rfl) (by exact Or.inl rfl) (pe_call GG hr (by rfl) mG kG bG .nil pass0 (pa_n (pv 0) (pa_n (pv 1) pa_nil))))
    (@pss_p _ _ _ _ _ (ps_if (pt_val (pv 3)) (@pss_o _ _ _ (ps_fld (pv 0) (pv 2) (by rfl))) pss_nil)
    (@pss_o _ _ _ (ps_ret (pe_lst (pa_t (QE.h (qx_tup (qa_str (qa_at (pe_fld (pv 0) (by rfl)) (qa_n (pv 2) (qa_at (pe_fld (pv 0) (by rfl)) (qa_n (pv 3) qa_nil))))))) pa_nil))))))), ?_⟩
  have hk' := hk
  obtain ⟨dx, fs, vp, vr, vs, vh, vn, vl, av, aw, ha, l_number, l_term, l_voice, l_head, l_way, l_pack, l_row, l_store, l_nexts, l_held, l_agreed, l_voices, l_waits, l_ok, hpk, hrw, hs, hv, hw, en⟩ := hk'
  refine ⟨_, rfl, p, _, _, .int one, rfl, rfl, SqT.of hp, atI_nat (j := 1) rfl, _, rfl, a, dx, fs, rfl, ha, l_ok.no (by decide +kernel), _, rfl, p, _, _, .int term, rfl, rfl, SqT.of hp, atI_nat (j := 3) rfl, a, term, tm, vc, es, rfl, hk, fun H1 hk1 o1 => ?_⟩
  have hp1 := (o1.tups ha) _ _ hp
  refine ⟨_, rfl, _, rfl, a, p, "ask", one, 4, term, place, last, termF tm term, vc1F tm vc term, es, rfl, hk1, hp1, hl, fun H2 s2 => ?_⟩
  have hk2 := (k4_law C).frame hk1 (sameT_of s2) fun o e => s2 _ _ e
  have o2 : Off a H H2 := o1.trans (off_same s2)
  show gName 3 (V.bl (giveB tm vc one term place last (lastT 0 es) es.length)) _ _ _
  unfold vc2F at q
  clear hk1 hp1 o1 s2
  obtain ⟨dx2, fs2, vp2, vr2, vs2, vh2, vn2, vl2, av2, aw2, ha2, l2_number, l2_term, l2_voice, l2_head, l2_way, l2_pack, l2_row, l2_store, l2_nexts, l2_held, l2_agreed, l2_voices, l2_waits, l2_ok, hpk2, hrw2, hs2, hv2, hw2, en2⟩ := hk2
  cases hb : giveB tm vc one term place last (lastT 0 es) es.length with
  | true =>
    rw [hb] at q
    refine ⟨_, rfl, _, rfl, iteT ⟨_, rfl, _, rfl, a, C, dx2, fs2, rfl, ha2, Y.cl, Y.n_voice, l2_ok.len, ?_⟩⟩
    have k3 := l2_ok.put (f := "voice") (v := .int one) (by decide +kernel)
    have o3 : Off a H2 _ := off_upd (o := HO.ins C dx2 (L2.putF "voice" (.int one) fs2))
    have sT := o3.tups ha2
    have hk3 : K4V C (upd H2 a (.ins C dx2 (L2.putF "voice" (.int one) fs2))) a (termF tm term) (some one) es := ⟨dx2, _, vp2, vr2, vs2, vh2, vn2, vl2, av2, aw2, upd_same, lk_ne (by decide +kernel) (l2_number), lk_ne (by decide +kernel) (l2_term), lk_eq, lk_ne (by decide +kernel) (l2_head), lk_ne (by decide +kernel) (l2_way), lk_ne (by decide +kernel) (l2_pack), lk_ne (by decide +kernel) (l2_row), lk_ne (by decide +kernel) (l2_store), lk_ne (by decide +kernel) (l2_nexts), lk_ne (by decide +kernel) (l2_held), lk_ne (by decide +kernel) (l2_agreed), lk_ne (by decide +kernel) (l2_voices), lk_ne (by decide +kernel) (l2_waits), k3, hpk2.offT sT, rwo_sameT hrw2 en2 sT, hs2.offT sT, sT _ _ hv2, sT _ _ hw2, en2⟩
    refine ⟨_, rfl, a, C, dx2, _, _, rfl, upd_same, Y.cl, Y.n_number, lk_ne (by decide +kernel) (l2_number), _, rfl, _, rfl, a, C, dx2, _, _, rfl, upd_same, Y.cl, Y.n_term, lk_ne (by decide +kernel) (l2_term), _, rfl, tiny (by show 5 ≤ 1000; decide), fun h hh => ⟨tiny (by show 1 ≤ 1000; decide), fun r hr1 => ?_⟩⟩
    have s4 := same_upd (o := HO.tup [V.str "voice", V.int 4, V.int one, V.int (termF tm term), V.bl true]) hh
    have s5 := same_upd (o := HO.lst [V.ref h]) hr1
    have s45 := s4.trans s5
    exact q r h _ upd_same (s5 _ _ upd_same) ((k4_law C).frame hk3 (sameT_of s45) fun o e => s45 _ _ e) fun b o n e => s45 _ _ (o3 b o n (o2 b o n e))
  | false =>
    rw [hb] at q
    have hk3 : K4V C H2 a (termF tm term) (vc1F tm vc term) es := ⟨dx2, fs2, vp2, vr2, vs2, vh2, vn2, vl2, av2, aw2, ha2, l2_number, l2_term, l2_voice, l2_head, l2_way, l2_pack, l2_row, l2_store, l2_nexts, l2_held, l2_agreed, l2_voices, l2_waits, l2_ok, hpk2, hrw2, hs2, hv2, hw2, en2⟩
    refine ⟨_, rfl, _, rfl, iteF ?_⟩
    refine ⟨_, rfl, a, C, dx2, fs2, _, rfl, ha2, Y.cl, Y.n_number, l2_number, _, rfl, _, rfl, a, C, dx2, fs2, _, rfl, ha2, Y.cl, Y.n_term, l2_term, _, rfl, tiny (by show 5 ≤ 1000; decide), fun h hh => ⟨tiny (by show 1 ≤ 1000; decide), fun r hr1 => ?_⟩⟩
    have s4 := same_upd (o := HO.tup [V.str "voice", V.int 4, V.int one, V.int (termF tm term), V.bl false]) hh
    have s5 := same_upd (o := HO.lst [V.ref h]) hr1
    have s45 := s4.trans s5
    exact q r h _ upd_same (s5 _ _ upd_same) ((k4_law C).frame hk3 (sameT_of s45) fun o e => s45 _ _ e) fun b o n e => s45 _ _ (o2 b o n e)
end
end K1
set_option Elab.async false
set_option linter.all false
set_option maxRecDepth 100000
set_option maxHeartbeats 4000000
namespace K1
open PySem L2 Kp
section
variable {P : Program} {w : World} {K : PySem.W.Frag} {mg : Str → Option Value} {base : Heap}
theorem scEa : FnScope ["row", "place", "base"] ["row", "place"] (defScope s_entry_at) := ⟨rfl, rfl, rfl, by decide +kernel, rfl, by decide +kernel, by decide +kernel⟩
theorem ok_entry_at {f : Addr} {fd : FuncData} (F : Fun K "entry_at" "entry_at" s_entry_at f fd) (CE : Cal P w K mg base "end_of" 1 ["row"] (spEndOf K)) : FnOk P w K mg base CX0 2 f fd ["row", "place"] (spEntIn K) := by
  refine F.ok scEa (fun vs H Q E ⟨_, _, _, _, _, _, e, _⟩ => by subst e; rfl) (fun cdv A outer s H vs Q E hr h => ?_)
  obtain ⟨v, b, l, es, ts, p, rfl, hX, hlt, hle, q⟩ := h
  have hX' := hX
  obtain ⟨⟨rb, c, rfl, hb, hc⟩, hen, hfew⟩ := hX'
  replace hb := SqT.of (K := K) hb
  replace hc := SqT.of (K := K) hc
  obtain ⟨gE, dE, GE, mE, kE, bE⟩ := CE.ex
  refine ⟨_, @pss_p _ _ _ _ _ (ps_set (i := 2) scEa.nd (by rfl) (by exact Or.inl rfl) (pe_ix ix_tup (pv 0) (pe_int) px_i))
    (@pss_p _ _ _ _ _ (ps_if (PW.pt (pw_or (pt_cmpR op_le (pv 1) (pv 2) (nomark _)) (pw_or1 (pt_cmpR op_gt (pv 1) (pe_call GE hr (by rfl) mE kE bE .nil pass0 (pa_n (pv 0) pa_nil)) (nomark _))))) (@pss_o _ _ _ ps_never) pss_nil)
    (@pss_o _ _ _ (ps_ret (pe_ix ix_tup (pe_ix ix_tup (pv 0) (pe_int) px_i) (pe_op op_sub (pe_op op_sub (pv 1) (pv 2)) (pe_int)) px_b)))), ?_⟩
  have hlen := hen.length
  have hle' := hle
  unfold endP at hle'
  obtain ⟨j, ej⟩ := Int.eq_ofNat_of_zero_le (show 0 ≤ p - b - 1 by omega)
  have hj : j < es.length := by omega
  refine ⟨_, rfl, rb, _, _, .int b, rfl, rfl, hb, atI_nat (j := 0) rfl, ?_⟩
  refine ⟨_, rfl, _, rfl, _, _, rfl, rfl, _, rfl, ite2 (fun h => absurd (of_decide_eq_true h) (by omega)) (fun _ => ?_)⟩
  refine ⟨_, rfl, _, rfl, _, b, l, ts, rfl, ⟨es, hX⟩, _, _, rfl, rfl, _, rfl, ite2 (fun h => absurd (of_decide_eq_true h) (by omega)) (fun _ => ?_)⟩
  refine ⟨_, rfl, rb, _, _, .ref c, rfl, rfl, hb, atI_nat (j := 2) rfl, _, rfl, _, rfl, _, _, rfl, rfl, _, _, rfl, rfl, c, es, _, es[j], rfl, rfl, hc, ?_, q es[j] ?_⟩
  · show atI es (p - b - 1) = _
    rw [ej]; exact atI_nat (by simp [hj])
  · rw [ej]; simp [hj]
theorem scTa : FnScope ["row", "place", "base"] ["row", "place"] (defScope s_term_at) := ⟨rfl, rfl, rfl, by decide +kernel, rfl, by decide +kernel, by decide +kernel⟩
theorem ok_term_at {f : Addr} {fd : FuncData} (F : Fun K "term_at" "term_at" s_term_at f fd) (CA : Cal P w K mg base "entry_at" 2 ["row", "place"] (spEntIn K)) : FnOk P w K mg base CX0 3 f fd ["row", "place"] (spTermIn K) := by
  refine F.ok scTa (fun vs H Q E ⟨_, _, _, _, _, e, _⟩ => by subst e; rfl) (fun cdv A outer s H vs Q E hr h => ?_)
  obtain ⟨v, b, l, ts, p, rfl, ⟨es, hX⟩, hlt, hle, q⟩ := h
  have hX' := hX
  obtain ⟨⟨rb, c, rfl, hb, hc⟩, hen, hfew⟩ := hX'
  replace hb := SqT.of (K := K) hb
  replace hc := SqT.of (K := K) hc
  obtain ⟨gA, dA, GA, mA, kA, bA⟩ := CA.ex
  refine ⟨_, @pss_p _ _ _ _ _ (ps_set (i := 2) scTa.nd (by rfl) (by exact Or.inl rfl) (pe_ix ix_tup (pv 0) (pe_int) px_i))
    (@pss_p _ _ _ _ _ (ps_if (pt_cmpR op_eq (pv 1) (pv 2) (nomark _)) (@pss_o _ _ _ (ps_ret (pe_ix ix_tup (pv 0) (pe_int) px_i))) pss_nil)
    (@pss_o _ _ _ (ps_ret (pe_ix ix_tup (pe_call GA hr (by rfl) mA kA bA .nil pass0 (pa_n (pv 0) (pa_n (pv 1) pa_nil))) (pe_int) px_i)))), ?_⟩
  unfold termAt at q
  refine ⟨_, rfl, rb, _, _, .int b, rfl, rfl, hb, atI_nat (j := 0) rfl, ?_⟩
  refine ⟨_, rfl, _, rfl, rfl, _, rfl, ite2 (fun h => ?_) (fun h => ?_)⟩
  · have e : p = b := by have := of_decide_eq_true h; simpa using this
    rw [if_pos e] at q
    exact ⟨_, rfl, rb, _, _, .int l, rfl, rfl, hb, atI_nat (j := 1) rfl, q⟩
  · have e : ¬ p = b := fun e => h (by rw [e]; exact decide_eq_true rfl)
    rw [if_neg e] at q
    have hle' := hle
    unfold endP at hle'
    have hj : (p - b - 1).toNat < ts.length := by omega
    obtain ⟨pe, x, hg, hpe, _⟩ := hen.get hj
    refine ⟨_, rfl, _, rfl, _, b, l, es, ts, p, rfl, hX, by omega, hle, fun e he => ?_⟩
    rw [hg] at he
    cases he
    refine ⟨pe, _, _, .int (ts[(p - b - 1).toNat]), rfl, rfl, SqT.of hpe, atI_nat (j := 0) rfl, ?_⟩
    have eg : ts.getD (p - b - 1).toNat 0 = ts[(p - b - 1).toNat] := getD_at hj
    rw [← eg]; exact q
end
end K1
set_option Elab.async false
set_option linter.all false
set_option maxRecDepth 100000
set_option maxHeartbeats 4000000
namespace K1
open PySem L2 Kp
section
variable {P : Program} {w : World} {K : PySem.W.Frag} {mg : Str → Option Value} {base : Heap}
theorem scAg : FnScope ["row", "place", "last"] ["row", "place", "last"] (defScope s_agrees) := ⟨rfl, rfl, rfl, by decide +kernel, rfl, by decide +kernel, by decide +kernel⟩
theorem ok_agrees {f : Addr} {fd : FuncData} (F : Fun K "agrees" "agrees" s_agrees f fd) (CE : Cal P w K mg base "end_of" 1 ["row"] (spEndOf K)) (CT : Cal P w K mg base "term_at" 3 ["row", "place"] (spTermIn K)) : FnOk P w K mg base CX0 4 f fd ["row", "place", "last"] (spAgrees K) := by
  refine F.ok scAg (fun vs H Q E ⟨_, _, _, _, _, _, e, _⟩ => by subst e; rfl) (fun cdv A outer s H vs Q E hr h => ?_)
  obtain ⟨v, t, p, b, l, ts, rfl, ⟨es, hX⟩, q⟩ := h
  have hR : RowV K H v b l ts := ⟨es, hX⟩
  obtain ⟨⟨rb, c, rfl, hb, hc⟩, hen, hfew⟩ := hX
  replace hb := SqT.of (K := K) hb
  replace hc := SqT.of (K := K) hc
  obtain ⟨gE, dE, GE, mE, kE, bE⟩ := CE.ex
  obtain ⟨gT, dT, GT, mT, kT, bT⟩ := CT.ex
  have r1 := hr.mono (show 1 ≤ 3 by omega)
  refine ⟨_, @pss_p _ _ _ _ _ (ps_if (pt_cmpR op_lt (pv 1) (pe_ix ix_tup (pv 0) (pe_int) px_i) (nomark _)) (@pss_o _ _ _ (ps_ret pe_bl)) pss_nil)
    (@pss_o _ _ _ (ps_ret (pe_and (pe_cmpR op_le (pv 1) (pe_call GE r1 (by rfl) mE kE bE .nil pass0 (pa_n (pv 0) pa_nil)) (nomark _)) (pe_one (pe_cmpR op_eq (pe_call GT hr (by rfl) mT kT bT .nil pass0 (pa_n (pv 0) (pa_n (pv 1) pa_nil))) (pv 2) (nomark _)))))), ?_⟩
  unfold agreesB at q
  refine ⟨_, rfl, _, rfl, rb, _, _, .int b, rfl, rfl, hb, atI_nat (j := 0) rfl, _, _, rfl, rfl, _, rfl, ite2 (fun h => ?_) (fun h => ?_)⟩
  · rw [decide_eq_true (of_decide_eq_true h)] at q
    exact q
  · have hnb : ¬ p < b := fun g => h (decide_eq_true g)
    rw [decide_eq_false hnb] at q
    refine ⟨_, rfl, _, rfl, _, b, l, ts, rfl, hR, _, _, rfl, rfl, _, rfl, ite2 (fun h2 => ?_) (fun h2 => ?_)⟩
    · have hle : p ≤ endP b ts := of_decide_eq_true h2
      rw [decide_eq_true hle] at q
      refine ⟨_, rfl, _, rfl, _, b, l, ts, p, rfl, hR, by omega, hle, _, rfl, rfl, ?_⟩
      have e : decide (V.int (termAt b l ts p) = V.int t) = (false || (true && decide (termAt b l ts p = t))) := by rw [Bool.eq_iff_iff]; simp
      show Q (.bl (decide (V.int (termAt b l ts p) = V.int t))) H
      rw [e]; exact q
    · rw [decide_eq_false (fun g => h2 (decide_eq_true g))] at q
      exact q
end
end K1
set_option Elab.async false
set_option linter.all false
set_option maxRecDepth 100000
set_option maxHeartbeats 4000000
namespace K1
open PySem L2 Kp
section
variable {P : Program} {w : World} {K : PySem.W.Frag} {mg : Str → Option Value} {base : Heap}
theorem scAw : FnScope ["last", "place", "row", "end", "term"] ["last", "place", "row"] (defScope s_as_new) := ⟨rfl, rfl, rfl, by decide +kernel, rfl, by decide +kernel, by decide +kernel⟩
theorem ok_as_new0 {f : Addr} {fd : FuncData} (F : Fun K "as_new" "as_new" s_as_new f fd) (CE : Cal P w K mg base "end_of" 1 ["row"] (spEndOf K)) (CT : Cal P w K mg base "term_at" 3 ["row", "place"] (spTermIn K)) : FnOk P w K mg base CX0 4 f fd ["last", "place", "row"] (spAsNew K) := by
  refine F.ok scAw (fun vs H Q E ⟨_, _, _, _, _, _, e, _⟩ => by subst e; rfl) (fun cdv A outer s H vs Q E hr h => ?_)
  obtain ⟨v, t, p, b, l, ts, rfl, hR, q⟩ := h
  obtain ⟨gE, dE, GE, mE, kE, bE⟩ := CE.ex
  obtain ⟨gT, dT, GT, mT, kT, bT⟩ := CT.ex
  have r1 := hr.mono (show 1 ≤ 3 by omega)
  refine ⟨_, @pss_p _ _ _ _ _ (ps_set (i := 3) scAw.nd (by rfl) (by exact Or.inl rfl) (pe_call GE r1 (by rfl) mE kE bE .nil pass0 (pa_n (pv 2) pa_nil)))
    (@pss_p _ _ _ _ _ (ps_set (i := 4) scAw.nd (by rfl) (by exact Or.inl rfl) (pe_call GT hr (by rfl) mT kT bT .nil pass0 (pa_n (pv 2) (pa_n (pv 3) pa_nil))))
    (@pss_o _ _ _ (ps_ret (pe_or (pe_cmpR op_gt (pv 0) (pv 4) (nomark _)) (pe_one (pe_and (pe_cmpR op_eq (pv 0) (pv 4) (nomark _)) (pe_one (pe_cmpR op_ge (pv 1) (pv 3) (nomark _))))))))), ?_⟩
  refine ⟨_, rfl, v, b, l, ts, rfl, hR, ?_⟩
  refine ⟨_, rfl, _, rfl, v, b, l, ts, _, rfl, hR, (by unfold endP; omega), Int.le_refl _, ?_⟩
  rw [termAt_end]
  have fin := q H (Same.refl _)
  unfold asNewB at fin
  refine ⟨_, rfl, _, rfl, _, _, rfl, rfl, _, rfl, ite2 (fun hc => ?_) (fun hc => ?_)⟩
  · rw [decide_eq_true (of_decide_eq_true hc)] at fin
    exact fin
  · rw [decide_eq_false (fun h => hc (decide_eq_true h))] at fin
    refine ⟨_, rfl, _, rfl, rfl, _, rfl, ite2 (fun hc2 => ?_) (fun hc2 => ?_)⟩
    · have e2 : t = endT l ts := by
        have := of_decide_eq_true hc2
        simpa using this
      rw [decide_eq_true e2] at fin
      exact ⟨_, rfl, _, rfl, _, _, rfl, rfl, fin⟩
    · have e2 : ¬ t = endT l ts := fun e => hc2 (decide_eq_true (by rw [e]))
      rw [decide_eq_false e2] at fin
      exact fin
end
end K1
set_option Elab.async false
set_option linter.all false
set_option maxRecDepth 100000
set_option maxHeartbeats 4000000
namespace K1
open PySem L2 Kp
section
variable {P : Program} {w : World} {K : PySem.W.Frag} {mg : Str → Option Value} {base : Heap}
theorem scFr : FnScope [] [] (defScope s_fresh) := ⟨rfl, rfl, rfl, by decide +kernel, rfl, by decide +kernel, by decide +kernel⟩
theorem ok_fresh {f : Addr} {fd : FuncData} (F : Fun K "fresh" "fresh" s_fresh f fd) : FnOk P w K mg base CX0 1 f fd [] (spFreshP K) := by
  refine F.ok scFr (fun vs H Q E ⟨e, _⟩ => by subst e; rfl) (fun cdv A outer s H vs Q E hr h => ?_)
  obtain ⟨rfl, q⟩ := h
  refine ⟨_, @pss_o _ _ _ (ps_ret (QE.h (qx_tup (qa_tup qa_nil (qa_tup qa_nil qa_nil))))), ?_⟩
  refine ⟨tiny (by show 0 ≤ 1000; decide), fun e1 he1 => ⟨tiny (by show 0 ≤ 1000; decide), fun e2 he2 => ⟨tiny (by show 2 ≤ 1000; decide), fun e3 he3 => ?_⟩⟩⟩
  have t1 := same_upd (o := HO.tup []) he1
  have t2 := same_upd (o := HO.tup []) he2
  have t3 := same_upd (o := HO.tup [V.ref e1, V.ref e2]) he3
  exact q (.ref e3) _ ⟨e3, e1, e2, rfl, upd_same, ⟨[], t3 _ _ (t2 _ _ upd_same), .nil⟩, ⟨[], t3 _ _ upd_same, .nil⟩⟩ (t1.trans (t2.trans t3))
end
end K1
set_option Elab.async false
set_option linter.all false
set_option maxRecDepth 100000
set_option maxHeartbeats 4000000
namespace K1
open PySem L2 Kp
section
variable {P : Program} {w : World} {K : PySem.W.Frag} {mg : Str → Option Value} {base : Heap}
theorem scFp : FnScope ["seats"] ["seats"] (defScope s_first_pack) := ⟨rfl, rfl, rfl, by decide +kernel, rfl, by decide +kernel, by decide +kernel⟩
theorem ok_first_pack {f : Addr} {fd : FuncData} (F : Fun K "first_pack" "first_pack" s_first_pack f fd) (CH : Cal P w K mg base "fresh" 1 [] (spFreshP K)) : FnOk P w K mg base CX0 2 f fd ["seats"] spFp := by
  refine F.ok scFp (fun vs H Q E ⟨_, _, e, _⟩ => by subst e; rfl) (fun cdv A outer s H vs Q E hr h => ?_)
  obtain ⟨q0, ms, rfl, hq, k⟩ := h
  obtain ⟨gH, dH, GH, mH, kH, bH⟩ := CH.ex
  refine ⟨_, @pss_o _ _ _ (ps_ret (QE.h (qx_tup (qa_int (qa_int (qa_n (pv 0) (qa_k (pe_call0 GH hr (by rfl) mH kH bH .nil pass0) qa_nil))))))), ?_⟩
  refine ⟨_, rfl, rfl, fun vf H1 hf s1 => ⟨tiny (by show 4 ≤ 1000; decide), fun p hp => ?_⟩⟩
  have s2 := same_upd (o := HO.tup [V.int 0, V.int 0, V.ref q0, vf]) hp
  exact k (.ref p) _ ⟨p, q0, vf, rfl, upd_same, s2 _ _ (s1 _ _ hq), hf.same s2⟩ (s1.trans s2)
end
end K1
set_option Elab.async false
set_option linter.all false
set_option maxRecDepth 100000
set_option maxHeartbeats 4000000
namespace K1
open PySem L2 Kp
section
variable {P : Program} {w : World} {K : PySem.W.Frag} {mg : Str → Option Value} {base : Heap}
theorem scBg : FnScope [] [] (defScope s_begun) := ⟨rfl, rfl, rfl, by decide +kernel, rfl, by decide +kernel, by decide +kernel⟩
theorem ok_begunP {f : Addr} {fd : FuncData} (F : Fun K "begun" "begun" s_begun f fd) : FnOk P w K mg base CX0 1 f fd [] spBegP := by
  refine F.ok scBg (fun vs H Q E ⟨e, _⟩ => by subst e; rfl) (fun cdv A outer s H vs Q E hr h => ?_)
  obtain ⟨rfl, q⟩ := h
  refine ⟨_, @pss_o _ _ _ (ps_ret (QE.h (qx_tup (qa_int (qa_int (qa_tup qa_nil qa_nil)))))), ?_⟩
  refine ⟨tiny (by show 0 ≤ 1000; decide), fun e1 he1 => ⟨tiny (by show 3 ≤ 1000; decide), fun e2 he2 => ?_⟩⟩
  have t1 := same_upd (o := HO.tup []) he1
  have t2 := same_upd (o := HO.tup [V.int 0, V.int 0, V.ref e1]) he2
  exact q (.ref e2) _ ⟨e2, e1, [], rfl, upd_same, t2 _ _ upd_same, .nil⟩ (t1.trans t2)
end
end K1
set_option Elab.async false
set_option linter.all false
set_option maxRecDepth 100000
set_option maxHeartbeats 4000000
namespace K1
open PySem L2 Kp
theorem cal {P : Program} {w : World} {K : PySem.W.Frag} {mg : Str → Option Value} {base : Heap} {x : Str} {st : Stmt} {f : Addr} {fd : FuncData} {ps : List Str} {k : Nat} {sp : Sp} (F : Fun K x x st f fd) (hm : mg x = some (.ref f)) (b : Binds K fd ps []) (ok : FnOk P w K mg base CX0 k f fd ps sp) : Cal P w K mg base x k ps sp := ⟨f, fd, ok, hm, F.kp, b⟩
theorem all_mk {l : PySem.W.OpenLaw} {w : World} {K : PySem.W.Frag} {h : Heap} {mg : Str → Option Value} {fa f0 f1 f2 f3 f5 f6 f7 f8 f9 f19 f20 f21 f23 f24 f25 f26 f27 f28 f29 f30 f31 : Addr} (X : K.In h) (G : h.Ns mainGlobals mg) (hfa : mg "law" = some (.ref fa))
    {od0 an0 od1 an1 od2 an2 od3 an3 od5 an5 od6 an6 od7 an7 od8 an8 od9 an9 od19 an19 od20 an20 od21 an21 od23 an23 od24 an24 od25 an25 od26 an26 od27 an27 od28 an28 od29 an29 od30 an30 od31 an31 : Option Addr} {sl0 sl1 sl2 sl3 sl5 sl6 sl7 sl8 sl9 sl19 sl20 sl21 sl23 sl24 sl25 sl26 sl27 sl28 sl29 sl30 sl31 : Array (Option Value)} {oc0 kV0 dc0 pm0 cd0 ct0 oc1 kV1 dc1 pm1 cd1 ct1 oc2 kV2 dc2 pm2 cd2 ct2 oc3 kV3 dc3 pm3 cd3 ct3 oc5 kV5 dc5 pm5 cd5 ct5 oc6 kV6 dc6 pm6 cd6 ct6 oc7 kV7 dc7 pm7 cd7 ct7 oc8 kV8 dc8 pm8 cd8 ct8 oc9 kV9 dc9 pm9 cd9 ct9 oc19 kV19 dc19 pm19 cd19 ct19 oc20 kV20 dc20 pm20 cd20 ct20 oc21 kV21 dc21 pm21 cd21 ct21 oc23 kV23 dc23 pm23 cd23 ct23 oc24 kV24 dc24 pm24 cd24 ct24 oc25 kV25 dc25 pm25 cd25 ct25 oc26 kV26 dc26 pm26 cd26 ct26 oc27 kV27 dc27 pm27 cd27 ct27 oc28 kV28 dc28 pm28 cd28 ct28 oc29 kV29 dc29 pm29 cd29 ct29 oc30 kV30 dc30 pm30 cd30 ct30 oc31 kV31 dc31 pm31 cd31 ct31 : Value}
    (a0 : PySem.W.nsIn K mainGlobals "begun" = some (some (.ref f0))) (l0 : K.lookup f0 = some ⟨oc0, od0, .func (PySem.W.fnOf "begun" "begun" (defArgs s_begun) (defBody s_begun) (defScope s_begun) .none kV0 dc0 pm0 an0 cd0 ct0), sl0⟩) (c0 : PySem.W.codeIn K cd0 "begun" = true) (k0 : PySem.W.keepIn K (.ref f0) = true)
    (a1 : PySem.W.nsIn K mainGlobals "end_of" = some (some (.ref f1))) (l1 : K.lookup f1 = some ⟨oc1, od1, .func (PySem.W.fnOf "end_of" "end_of" (defArgs s_end_of) (defBody s_end_of) (defScope s_end_of) .none kV1 dc1 pm1 an1 cd1 ct1), sl1⟩) (c1 : PySem.W.codeIn K cd1 "end_of" = true) (k1 : PySem.W.keepIn K (.ref f1) = true)
    (a2 : PySem.W.nsIn K mainGlobals "entry_at" = some (some (.ref f2))) (l2 : K.lookup f2 = some ⟨oc2, od2, .func (PySem.W.fnOf "entry_at" "entry_at" (defArgs s_entry_at) (defBody s_entry_at) (defScope s_entry_at) .none kV2 dc2 pm2 an2 cd2 ct2), sl2⟩) (c2 : PySem.W.codeIn K cd2 "entry_at" = true) (k2 : PySem.W.keepIn K (.ref f2) = true)
    (a3 : PySem.W.nsIn K mainGlobals "term_at" = some (some (.ref f3))) (l3 : K.lookup f3 = some ⟨oc3, od3, .func (PySem.W.fnOf "term_at" "term_at" (defArgs s_term_at) (defBody s_term_at) (defScope s_term_at) .none kV3 dc3 pm3 an3 cd3 ct3), sl3⟩) (c3 : PySem.W.codeIn K cd3 "term_at" = true) (k3 : PySem.W.keepIn K (.ref f3) = true)
    (a5 : PySem.W.nsIn K mainGlobals "as_new" = some (some (.ref f5))) (l5 : K.lookup f5 = some ⟨oc5, od5, .func (PySem.W.fnOf "as_new" "as_new" (defArgs s_as_new) (defBody s_as_new) (defScope s_as_new) .none kV5 dc5 pm5 an5 cd5 ct5), sl5⟩) (c5 : PySem.W.codeIn K cd5 "as_new" = true) (k5 : PySem.W.keepIn K (.ref f5) = true)
    (a6 : PySem.W.nsIn K mainGlobals "agrees" = some (some (.ref f6))) (l6 : K.lookup f6 = some ⟨oc6, od6, .func (PySem.W.fnOf "agrees" "agrees" (defArgs s_agrees) (defBody s_agrees) (defScope s_agrees) .none kV6 dc6 pm6 an6 cd6 ct6), sl6⟩) (c6 : PySem.W.codeIn K cd6 "agrees" = true) (k6 : PySem.W.keepIn K (.ref f6) = true)
    (a7 : PySem.W.nsIn K mainGlobals "same_ahead" = some (some (.ref f7))) (l7 : K.lookup f7 = some ⟨oc7, od7, .func (PySem.W.fnOf "same_ahead" "same_ahead" (defArgs s_same_ahead) (defBody s_same_ahead) (defScope s_same_ahead) .none kV7 dc7 pm7 an7 cd7 ct7), sl7⟩) (c7 : PySem.W.codeIn K cd7 "same_ahead" = true) (k7 : PySem.W.keepIn K (.ref f7) = true)
    (a8 : PySem.W.nsIn K mainGlobals "filled" = some (some (.ref f8))) (l8 : K.lookup f8 = some ⟨oc8, od8, .func (PySem.W.fnOf "filled" "filled" (defArgs s_filled) (defBody s_filled) (defScope s_filled) .none kV8 dc8 pm8 an8 cd8 ct8), sl8⟩) (c8 : PySem.W.codeIn K cd8 "filled" = true) (k8 : PySem.W.keepIn K (.ref f8) = true)
    (a9 : PySem.W.nsIn K mainGlobals "fresh" = some (some (.ref f9))) (l9 : K.lookup f9 = some ⟨oc9, od9, .func (PySem.W.fnOf "fresh" "fresh" (defArgs s_fresh) (defBody s_fresh) (defScope s_fresh) .none kV9 dc9 pm9 an9 cd9 ct9), sl9⟩) (c9 : PySem.W.codeIn K cd9 "fresh" = true) (k9 : PySem.W.keepIn K (.ref f9) = true)
    (a19 : PySem.W.nsIn K mainGlobals "first_pack" = some (some (.ref f19))) (l19 : K.lookup f19 = some ⟨oc19, od19, .func (PySem.W.fnOf "first_pack" "first_pack" (defArgs s_first_pack) (defBody s_first_pack) (defScope s_first_pack) .none kV19 dc19 pm19 an19 cd19 ct19), sl19⟩) (c19 : PySem.W.codeIn K cd19 "first_pack" = true) (k19 : PySem.W.keepIn K (.ref f19) = true)
    (a20 : PySem.W.nsIn K mainGlobals "took_for_head" = some (some (.ref f20))) (l20 : K.lookup f20 = some ⟨oc20, od20, .func (PySem.W.fnOf "took_for_head" "took_for_head" (defArgs s_took_for_head) (defBody s_took_for_head) (defScope s_took_for_head) .none kV20 dc20 pm20 an20 cd20 ct20), sl20⟩) (c20 : PySem.W.codeIn K cd20 "took_for_head" = true) (k20 : PySem.W.keepIn K (.ref f20) = true)
    (a21 : PySem.W.nsIn K mainGlobals "held_letter" = some (some (.ref f21))) (l21 : K.lookup f21 = some ⟨oc21, od21, .func (PySem.W.fnOf "held_letter" "held_letter" (defArgs s_held_letter) (defBody s_held_letter) (defScope s_held_letter) .none kV21 dc21 pm21 an21 cd21 ct21), sl21⟩) (c21 : PySem.W.codeIn K cd21 "held_letter" = true) (k21 : PySem.W.keepIn K (.ref f21) = true)
    (a23 : PySem.W.nsIn K mainGlobals "know_agreed" = some (some (.ref f23))) (l23 : K.lookup f23 = some ⟨oc23, od23, .func (PySem.W.fnOf "know_agreed" "know_agreed" (defArgs s_know_agreed) (defBody s_know_agreed) (defScope s_know_agreed) .none kV23 dc23 pm23 an23 cd23 ct23), sl23⟩) (c23 : PySem.W.codeIn K cd23 "know_agreed" = true) (k23 : PySem.W.keepIn K (.ref f23) = true)
    (a24 : PySem.W.nsIn K mainGlobals "take_hand" = some (some (.ref f24))) (l24 : K.lookup f24 = some ⟨oc24, od24, .func (PySem.W.fnOf "take_hand" "take_hand" (defArgs s_take_hand) (defBody s_take_hand) (defScope s_take_hand) .none kV24 dc24 pm24 an24 cd24 ct24), sl24⟩) (c24 : PySem.W.codeIn K cd24 "take_hand" = true) (k24 : PySem.W.keepIn K (.ref f24) = true)
    (a25 : PySem.W.nsIn K mainGlobals "may_give" = some (some (.ref f25))) (l25 : K.lookup f25 = some ⟨oc25, od25, .func (PySem.W.fnOf "may_give" "may_give" (defArgs s_may_give) (defBody s_may_give) (defScope s_may_give) .none kV25 dc25 pm25 an25 cd25 ct25), sl25⟩) (c25 : PySem.W.codeIn K cd25 "may_give" = true) (k25 : PySem.W.keepIn K (.ref f25) = true)
    (a26 : PySem.W.nsIn K mainGlobals "take_ask" = some (some (.ref f26))) (l26 : K.lookup f26 = some ⟨oc26, od26, .func (PySem.W.fnOf "take_ask" "take_ask" (defArgs s_take_ask) (defBody s_take_ask) (defScope s_take_ask) .none kV26 dc26 pm26 an26 cd26 ct26), sl26⟩) (c26 : PySem.W.codeIn K cd26 "take_ask" = true) (k26 : PySem.W.keepIn K (.ref f26) = true)
    (a27 : PySem.W.nsIn K mainGlobals "_law_cell_at" = some (some (.ref f27))) (l27 : K.lookup f27 = some ⟨oc27, od27, .func (PySem.W.fnOf "_law_cell_at" "_law_cell_at" (defArgs sCell) (defBody sCell) (defScope sCell) .none kV27 dc27 pm27 an27 cd27 ct27), sl27⟩) (c27 : PySem.W.codeIn K cd27 "_law_cell_at" = true) (k27 : PySem.W.keepIn K (.ref f27) = true)
    (a28 : PySem.W.nsIn K mainGlobals "_law_mixed" = some (some (.ref f28))) (l28 : K.lookup f28 = some ⟨oc28, od28, .func (PySem.W.fnOf "_law_mixed" "_law_mixed" (defArgs sMixed) (defBody sMixed) (defScope sMixed) .none kV28 dc28 pm28 an28 cd28 ct28), sl28⟩) (c28 : PySem.W.codeIn K cd28 "_law_mixed" = true) (k28 : PySem.W.keepIn K (.ref f28) = true)
    (a29 : PySem.W.nsIn K mainGlobals "_law_drawn" = some (some (.ref f29))) (l29 : K.lookup f29 = some ⟨oc29, od29, .func (PySem.W.fnOf "_law_drawn" "_law_drawn" (defArgs s__law_drawn) (defBody s__law_drawn) (defScope s__law_drawn) .none kV29 dc29 pm29 an29 cd29 ct29), sl29⟩) (c29 : PySem.W.codeIn K cd29 "_law_drawn" = true) (k29 : PySem.W.keepIn K (.ref f29) = true)
    (a30 : PySem.W.nsIn K mainGlobals "_law_given" = some (some (.ref f30))) (l30 : K.lookup f30 = some ⟨oc30, od30, .func (PySem.W.fnOf "_law_given" "_law_given" (defArgs s__law_given) (defBody s__law_given) (defScope s__law_given) .none kV30 dc30 pm30 an30 cd30 ct30), sl30⟩) (c30 : PySem.W.codeIn K cd30 "_law_given" = true) (k30 : PySem.W.keepIn K (.ref f30) = true)
    (a31 : PySem.W.nsIn K mainGlobals "law" = some (some (.ref f31))) (l31 : K.lookup f31 = some ⟨oc31, od31, .func (PySem.W.fnOf "law" "law" (defArgs sLaw) (defBody sLaw) (defScope sLaw) .none kV31 dc31 pm31 an31 cd31 ct31), sl31⟩) (c31 : PySem.W.codeIn K cd31 "law" = true) (k31 : PySem.W.keepIn K (.ref f31) = true)
    {C0 : Addr} (aC0 : PySem.W.nsIn K mainGlobals "Keeper" = some (some (.ref C0)))
    {g0 : Addr} {god0 gan0 : Option Addr} {gsl0 : Array (Option Value)} {goc0 gkV0 gdc0 gpm0 gcd0 gct0 : Value}
    (ga0 : PySem.W.findIn K (.ref C0) "__init__" = some (some (.ref g0))) (gi0 : PySem.W.isFn K (.ref g0) = true) (gl0 : K.lookup g0 = some ⟨goc0, god0, .func (PySem.W.fnOf "__init__" "Keeper.__init__" (defArgs s_Keeper___init__) (defBody s_Keeper___init__) (defScope s_Keeper___init__) .none gkV0 gdc0 gpm0 gan0 gcd0 gct0), gsl0⟩) (gc0 : PySem.W.codeIn K gcd0 "Keeper.__init__" = true) (gk0 : PySem.W.keepIn K (.ref g0) = true)
    {g1 : Addr} {god1 gan1 : Option Addr} {gsl1 : Array (Option Value)} {goc1 gkV1 gdc1 gpm1 gcd1 gct1 : Value}
    (ga1 : PySem.W.findIn K (.ref C0) "wake" = some (some (.ref g1))) (gi1 : PySem.W.isFn K (.ref g1) = true) (gl1 : K.lookup g1 = some ⟨goc1, god1, .func (PySem.W.fnOf "wake" "Keeper.wake" (defArgs s_Keeper_wake) (defBody s_Keeper_wake) (defScope s_Keeper_wake) .none gkV1 gdc1 gpm1 gan1 gcd1 gct1), gsl1⟩) (gc1 : PySem.W.codeIn K gcd1 "Keeper.wake" = true) (gk1 : PySem.W.keepIn K (.ref g1) = true)
    {g2 : Addr} {god2 gan2 : Option Addr} {gsl2 : Array (Option Value)} {goc2 gkV2 gdc2 gpm2 gcd2 gct2 : Value}
    (ga2 : PySem.W.findIn K (.ref C0) "hear" = some (some (.ref g2))) (gi2 : PySem.W.isFn K (.ref g2) = true) (gl2 : K.lookup g2 = some ⟨goc2, god2, .func (PySem.W.fnOf "hear" "Keeper.hear" (defArgs s_Keeper_hear) (defBody s_Keeper_hear) (defScope s_Keeper_hear) .none gkV2 gdc2 gpm2 gan2 gcd2 gct2), gsl2⟩) (gc2 : PySem.W.codeIn K gcd2 "Keeper.hear" = true) (gk2 : PySem.W.keepIn K (.ref g2) = true)
    {g3 : Addr} {god3 gan3 : Option Addr} {gsl3 : Array (Option Value)} {goc3 gkV3 gdc3 gpm3 gcd3 gct3 : Value}
    (ga3 : PySem.W.findIn K (.ref C0) "be_plain" = some (some (.ref g3))) (gi3 : PySem.W.isFn K (.ref g3) = true) (gl3 : K.lookup g3 = some ⟨goc3, god3, .func (PySem.W.fnOf "be_plain" "Keeper.be_plain" (defArgs s_Keeper_be_plain) (defBody s_Keeper_be_plain) (defScope s_Keeper_be_plain) .none gkV3 gdc3 gpm3 gan3 gcd3 gct3), gsl3⟩) (gc3 : PySem.W.codeIn K gcd3 "Keeper.be_plain" = true) (gk3 : PySem.W.keepIn K (.ref g3) = true)
    {g4 : Addr} {god4 gan4 : Option Addr} {gsl4 : Array (Option Value)} {goc4 gkV4 gdc4 gpm4 gcd4 gct4 : Value}
    (ga4 : PySem.W.findIn K (.ref C0) "know_no_places" = some (some (.ref g4))) (gi4 : PySem.W.isFn K (.ref g4) = true) (gl4 : K.lookup g4 = some ⟨goc4, god4, .func (PySem.W.fnOf "know_no_places" "Keeper.know_no_places" (defArgs s_Keeper_know_no_places) (defBody s_Keeper_know_no_places) (defScope s_Keeper_know_no_places) .none gkV4 gdc4 gpm4 gan4 gcd4 gct4), gsl4⟩) (gc4 : PySem.W.codeIn K gcd4 "Keeper.know_no_places" = true) (gk4 : PySem.W.keepIn K (.ref g4) = true)
    (pg0 : PySem.W.plainGet K C0 Str.empty = true) (hd0 : PySem.W.hasDictIn K C0 = true) (po0 : PySem.W.plainOver K C0 = true) (sa0 : PySem.W.findIn K (.ref C0) "__setattr__" = some (some (.builtin "object.__setattr__"))) (mk0 : PySem.W.makesIn K C0 = true) (kc0 : PySem.W.keepIn K (.ref C0) = true)
    (n0_number : PySem.W.findIn K (.ref C0) "number" = some none) (n0_term : PySem.W.findIn K (.ref C0) "term" = some none) (n0_voice : PySem.W.findIn K (.ref C0) "voice" = some none) (n0_head : PySem.W.findIn K (.ref C0) "head" = some none) (n0_way : PySem.W.findIn K (.ref C0) "way" = some none) (n0_pack : PySem.W.findIn K (.ref C0) "pack" = some none) (n0_row : PySem.W.findIn K (.ref C0) "row" = some none) (n0_store : PySem.W.findIn K (.ref C0) "store" = some none) (n0_nexts : PySem.W.findIn K (.ref C0) "nexts" = some none) (n0_held : PySem.W.findIn K (.ref C0) "held" = some none) (n0_agreed : PySem.W.findIn K (.ref C0) "agreed" = some none) (n0_voices : PySem.W.findIn K (.ref C0) "voices" = some none) (n0_waits : PySem.W.findIn K (.ref C0) "waits" = some none)
    (z0 : PySem.W.nsIn K mainGlobals "isinstance" = some none) (z1 : PySem.W.nsIn K mainGlobals "int" = some none) (z2 : PySem.W.nsIn K mainGlobals "bool" = some none) (z3 : PySem.W.nsIn K mainGlobals "str" = some none) (z4 : PySem.W.nsIn K mainGlobals "tuple" = some none) (z5 : PySem.W.nsIn K mainGlobals "list" = some none) (z6 : PySem.W.nsIn K mainGlobals "all" = some none) (z7 : PySem.W.nsIn K mainGlobals "zip" = some none) (z8 : PySem.W.nsIn K mainGlobals "len" = some none) (z9 : PySem.W.nsIn K mainGlobals "range" = some none) (z10 : PySem.W.nsIn K mainGlobals "max" = some none) (z11 : PySem.W.nsIn K mainGlobals "min" = some none) (z12 : PySem.W.nsIn K mainGlobals "sorted" = some none) (z13 : PySem.W.nsIn K mainGlobals "any" = some none) (z14 : PySem.W.nsIn K mainGlobals "sum" = some none) :
    ∃ fd : FuncData, (∀ (s : Shared) (v : Value), BindsTo s fd ⟨[v], []⟩ [("_law_script", v)]) ∧ ∀ base : Heap, K.In base → base.Ns mainGlobals mg → FnOk l.prog w K mg base CX0 7 fa fd ["_law_script"] (spLaw K) := by
  have e := hfa.symm.trans (PySem.W.mg_of X G a31)
  cases e
  have T : Txt mg := ⟨PySem.W.mg_none_of X G z0, PySem.W.mg_none_of X G z1, PySem.W.mg_none_of X G z2, PySem.W.mg_none_of X G z3, PySem.W.mg_none_of X G z4, PySem.W.mg_none_of X G z5, PySem.W.mg_none_of X G z6, PySem.W.mg_none_of X G z7, PySem.W.mg_none_of X G z8, PySem.W.mg_none_of X G z9, PySem.W.mg_none_of X G z10, PySem.W.mg_none_of X G z11, PySem.W.mg_none_of X G z12, PySem.W.mg_none_of X G z13, PySem.W.mg_none_of X G z14⟩
  have hmx := PySem.W.mg_none_of X G z10
  have hso := PySem.W.mg_none_of X G z12
  have Y0 : KpC K C0 := ⟨⟨pg0, hd0, po0, sa0⟩, n0_number, n0_term, n0_voice, n0_head, n0_way, n0_pack, n0_row, n0_store, n0_nexts, n0_held, n0_agreed, n0_voices, n0_waits⟩
  have mC0 := PySem.W.mg_of X G aC0
  have G0 := fun_mk (st := s_Keeper___init__) gl0 gc0 gk0
  have gb0 := G0.binds (ps := ["self", "number", "seats"]) fun _ _ _ _ _ _ us hl => match us, hl with | [_, _, _], _ => rfl
  have G1 := fun_mk (st := s_Keeper_wake) gl1 gc1 gk1
  have gb1 := G1.binds (ps := ["self"]) fun _ _ _ _ _ _ us hl => match us, hl with | [_], _ => rfl
  have G2 := fun_mk (st := s_Keeper_hear) gl2 gc2 gk2
  have gb2 := G2.binds (ps := ["self", "term"]) fun _ _ _ _ _ _ us hl => match us, hl with | [_, _], _ => rfl
  have G3 := fun_mk (st := s_Keeper_be_plain) gl3 gc3 gk3
  have gb3 := G3.binds (ps := ["self"]) fun _ _ _ _ _ _ us hl => match us, hl with | [_], _ => rfl
  have G4 := fun_mk (st := s_Keeper_know_no_places) gl4 gc4 gk4
  have gb4 := G4.binds (ps := ["self"]) fun _ _ _ _ _ _ us hl => match us, hl with | [_], _ => rfl
  have F0 := fun_mk (st := s_begun) l0 c0 k0
  have m0 := PySem.W.mg_of X G a0
  have b0 := F0.binds (ps := []) fun _ _ _ _ _ _ us hl => match us, hl with | [], _ => rfl
  have F1 := fun_mk (st := s_end_of) l1 c1 k1
  have m1 := PySem.W.mg_of X G a1
  have b1 := F1.binds (ps := ["row"]) fun _ _ _ _ _ _ us hl => match us, hl with | [_], _ => rfl
  have F2 := fun_mk (st := s_entry_at) l2 c2 k2
  have m2 := PySem.W.mg_of X G a2
  have b2 := F2.binds (ps := ["row", "place"]) fun _ _ _ _ _ _ us hl => match us, hl with | [_, _], _ => rfl
  have F3 := fun_mk (st := s_term_at) l3 c3 k3
  have m3 := PySem.W.mg_of X G a3
  have b3 := F3.binds (ps := ["row", "place"]) fun _ _ _ _ _ _ us hl => match us, hl with | [_, _], _ => rfl
  have F5 := fun_mk (st := s_as_new) l5 c5 k5
  have m5 := PySem.W.mg_of X G a5
  have b5 := F5.binds (ps := ["last", "place", "row"]) fun _ _ _ _ _ _ us hl => match us, hl with | [_, _, _], _ => rfl
  have F6 := fun_mk (st := s_agrees) l6 c6 k6
  have m6 := PySem.W.mg_of X G a6
  have b6 := F6.binds (ps := ["row", "place", "last"]) fun _ _ _ _ _ _ us hl => match us, hl with | [_, _, _], _ => rfl
  have F7 := fun_mk (st := s_same_ahead) l7 c7 k7
  have m7 := PySem.W.mg_of X G a7
  have b7 := F7.binds (ps := ["own", "others"]) fun _ _ _ _ _ _ us hl => match us, hl with | [_, _], _ => rfl
  have F8 := fun_mk (st := s_filled) l8 c8 k8
  have m8 := PySem.W.mg_of X G a8
  have b8 := F8.binds (ps := ["row", "place", "entries"]) fun _ _ _ _ _ _ us hl => match us, hl with | [_, _, _], _ => rfl
  have F9 := fun_mk (st := s_fresh) l9 c9 k9
  have m9 := PySem.W.mg_of X G a9
  have b9 := F9.binds (ps := []) fun _ _ _ _ _ _ us hl => match us, hl with | [], _ => rfl
  have F19 := fun_mk (st := s_first_pack) l19 c19 k19
  have m19 := PySem.W.mg_of X G a19
  have b19 := F19.binds (ps := ["seats"]) fun _ _ _ _ _ _ us hl => match us, hl with | [_], _ => rfl
  have F20 := fun_mk (st := s_took_for_head) l20 c20 k20
  have m20 := PySem.W.mg_of X G a20
  have b20 := F20.binds (ps := ["keeper", "letter"]) fun _ _ _ _ _ _ us hl => match us, hl with | [_, _], _ => rfl
  have F21 := fun_mk (st := s_held_letter) l21 c21 k21
  have m21 := PySem.W.mg_of X G a21
  have b21 := F21.binds (ps := ["keeper", "other", "good", "place"]) fun _ _ _ _ _ _ us hl => match us, hl with | [_, _, _, _], _ => rfl
  have F23 := fun_mk (st := s_know_agreed) l23 c23 k23
  have m23 := PySem.W.mg_of X G a23
  have b23 := F23.binds (ps := ["keeper", "place"]) fun _ _ _ _ _ _ us hl => match us, hl with | [_, _], _ => rfl
  have F24 := fun_mk (st := s_take_hand) l24 c24 k24
  have m24 := PySem.W.mg_of X G a24
  have b24 := F24.binds (ps := ["keeper", "letter"]) fun _ _ _ _ _ _ us hl => match us, hl with | [_, _], _ => rfl
  have F25 := fun_mk (st := s_may_give) l25 c25 k25
  have m25 := PySem.W.mg_of X G a25
  have b25 := F25.binds (ps := ["keeper", "letter"]) fun _ _ _ _ _ _ us hl => match us, hl with | [_, _], _ => rfl
  have F26 := fun_mk (st := s_take_ask) l26 c26 k26
  have m26 := PySem.W.mg_of X G a26
  have b26 := F26.binds (ps := ["keeper", "letter"]) fun _ _ _ _ _ _ us hl => match us, hl with | [_, _], _ => rfl
  have F27 := fun_mk (st := sCell) l27 c27 k27
  have m27 := PySem.W.mg_of X G a27
  have b27 := F27.binds (ps := ["_law_script", "_law_k"]) fun _ _ _ _ _ _ us hl => match us, hl with | [_, _], _ => rfl
  have F28 := fun_mk (st := sMixed) l28 c28 k28
  have m28 := PySem.W.mg_of X G a28
  have b28 := F28.binds (ps := ["_law_script", "_law_k"]) fun _ _ _ _ _ _ us hl => match us, hl with | [_, _], _ => rfl
  have F29 := fun_mk (st := s__law_drawn) l29 c29 k29
  have m29 := PySem.W.mg_of X G a29
  have b29 := F29.binds (ps := ["_law_number", "_law_sizes"]) fun _ _ _ _ _ _ us hl => match us, hl with | [_, _], _ => rfl
  have F30 := fun_mk (st := s__law_given) l30 c30 k30
  have m30 := PySem.W.mg_of X G a30
  have b30 := F30.binds (ps := ["_law_held", "_law_one", "_law_term", "_law_place", "_law_last", "_law_end"]) fun _ _ _ _ _ _ us hl => match us, hl with | [_, _, _, _, _, _], _ => rfl
  have F31 := fun_mk (st := sLaw) l31 c31 k31
  have m31 := PySem.W.mg_of X G a31
  have b31 := F31.binds (ps := ["_law_script"]) fun _ _ _ _ _ _ us hl => match us, hl with | [_], _ => rfl
  refine ⟨PySem.W.fnOf "law" "law" (defArgs sLaw) (defBody sLaw) (defScope sLaw) .none kV31 dc31 pm31 an31 cd31 ct31, fun s v => .of_eq rfl, fun base _ _ => ?_⟩
  have CC : Cal l.prog w K mg base "_law_cell_at" 1 ["_law_script", "_law_k"] (spCellF K) := cal F27 m27 b27 (ok_cellF F27 T)
  have CM : Cal l.prog w K mg base "_law_mixed" 2 ["_law_script", "_law_k"] (spMixG K) := cal F28 m28 b28 (ok_mixG F28 CC)
  have CDr : Cal l.prog w K mg base "_law_drawn" 1 ["_law_number", "_law_sizes"] (spDraw) := cal F29 m29 b29 (ok_draw F29)
  have CGi : Cal l.prog w K mg base "_law_given" 1 ["_law_held", "_law_one", "_law_term", "_law_place", "_law_last", "_law_end"] (spGiv) := cal F30 m30 b30 (ok_giv F30)
  have CEo : Cal l.prog w K mg base "end_of" 1 ["row"] (spEndOf K) := cal F1 m1 b1 (ok_end_of F1 T)
  have CEa : Cal l.prog w K mg base "entry_at" 2 ["row", "place"] (spEntIn K) := cal F2 m2 b2 (ok_entry_at F2 CEo)
  have CTa : Cal l.prog w K mg base "term_at" 3 ["row", "place"] (spTermIn K) := cal F3 m3 b3 (ok_term_at F3 CEa)
  have CEp : Cal l.prog w K mg base "end_of" 1 ["row"] (spEndP) := cal F1 m1 b1 (ok_end_ofP F1 T)
  have CAg : Cal l.prog w K mg base "agrees" 4 ["row", "place", "last"] (spAg4) := cal F6 m6 b6 (ok_ag4 (ok_agrees F6 CEo CTa))
  have CAn : Cal l.prog w K mg base "as_new" 4 ["last", "place", "row"] (spAn4) := cal F5 m5 b5 (ok_an4 (ok_as_new0 F5 CEo CTa))
  have CSa : Cal l.prog w K mg base "same_ahead" 1 ["own", "others"] (spSameA) := cal F7 m7 b7 (ok_same_ahead F7 T)
  have CFi : Cal l.prog w K mg base "filled" 2 ["row", "place", "entries"] (spFil4) := cal F8 m8 b8 (ok_fil4 (ok_filledN F8 T CEo CSa))
  have CFr : Cal l.prog w K mg base "fresh" 1 [] (spFreshP K) := cal F9 m9 b9 (ok_fresh F9)
  have CFp : Cal l.prog w K mg base "first_pack" 2 ["seats"] (spFp) := cal F19 m19 b19 (ok_first_pack F19 CFr)
  have CBg : Cal l.prog w K mg base "begun" 1 [] (spBegP) := cal F0 m0 b0 (ok_begunP F0)
  have OB : FnOk l.prog w K mg base CX0 1 g3 _ ["self"] (spPlainK C0) := ok_be_plain Y0 G3
  have ON : FnOk l.prog w K mg base CX0 2 g4 _ ["self"] (spKnp C0) := ok_knp Y0 G4 CEp
  have OW : FnOk l.prog w K mg base CX0 3 g1 _ ["self"] (spWakeR C0) := ok_wakeR Y0 G1 ⟨ga3, gi3, gk3⟩ OB gb3 ⟨ga4, gi4, gk4⟩ ON gb4
  have OH : FnOk l.prog w K mg base CX0 2 g2 _ ["self", "term"] (spHear4 C0) := ok_hear4 Y0 G2 ⟨ga3, gi3, gk3⟩ OB gb3
  have OI : FnOk l.prog w K mg base CX0 4 g0 _ ["self", "number", "seats"] (spI41 (fun H a => K4V C0 H a 0 none []) C0) := ok_init4 Y0 G0 ⟨ga1, gi1, gk1⟩ OW gb1 CFp CBg
  have M : K41M l.prog w K mg base (K4V C0) (fun H a => K4V C0 H a 0 none []) C0 4 3 := ⟨Y0.cl, mC0, Y0.n_term, Y0.n_voice, Y0.n_row, Y0.n_way, ⟨_, _, _, _, ⟨mk0, ga0, gi0, kc0⟩, OI, gb0⟩, ⟨_, _, ⟨ga1, gi1, gk1⟩, ok_wake4 OW, gb1⟩⟩
  have CTo : Cal l.prog w K mg base "took_for_head" 3 ["keeper", "letter"] (spTook C0) := cal F20 m20 b20 (ok_took Y0 F20 ⟨ga2, gi2, gk2⟩ OH gb2)
  have CHl : Cal l.prog w K mg base "held_letter" 1 ["keeper", "other", "good", "place"] (spHl C0) := cal F21 m21 b21 (ok_hl Y0 F21)
  have CKa : Cal l.prog w K mg base "know_agreed" 1 ["keeper", "place"] (spKa C0) := cal F23 m23 b23 (ok_ka Y0 F23)
  have CTh : Cal l.prog w K mg base "take_hand" 5 ["keeper", "letter"] (spH41 (K4V C0) (fun H a => K4V C0 H a 0 none [])) := cal F24 m24 b24 (ok_take_hand Y0 F24 T CTo CAg CFi CKa CHl)
  have CMg : Cal l.prog w K mg base "may_give" 5 ["keeper", "letter"] (spMay C0) := cal F25 m25 b25 (ok_may Y0 F25 CAn)
  have CTk : Cal l.prog w K mg base "take_ask" 6 ["keeper", "letter"] (spA41 (K4V C0)) := cal F26 m26 b26 (ok_take_ask Y0 F26 ⟨ga2, gi2, gk2⟩ OH gb2 CMg)
  exact ok_law (LV := 6) (by decide) (k4_law C0) M F31 T CM CDr CGi CTh CTk
theorem walk {l : PySem.W.OpenLaw} {q : Program} {loose : List Str} {XP : (Str → Option Value) → Heap → Prop} {YP : World → Heap → Prop} {d : DefRec} {K : Params → PySem.W.Frag} (hn : l.most = some 63) (hdf : d.params.defaults = [])
    (hY : ∀ (w : World) (h : Heap), YP w h → (K w.params).In h)
    (F : ∀ (w : World) (mg : Str → Option Value) (fa : Addr) (h : Heap), (K w.params).In h → h.Ns mainGlobals mg → mg d.name = some (.ref fa) →
      ∃ fd : FuncData, (∀ (s : Shared) (u : Value), BindsTo s fd ⟨[u], []⟩ [("_law_script", u)]) ∧ ∀ base : Heap, (K w.params).In base → base.Ns mainGlobals mg → FnOk l.prog w (K w.params) mg base CX0 7 fa fd ["_law_script"] (spLaw (K w.params))) :
    PySem.W.WalkO q loose XP YP l.row.toRowW d [] (fun f vs => PySem.call f vs) :=
  L2.walk_of (n := 63) (k := 7) (x := "_law_script") (CX := fun _ => CX0) (sp := fun w => spLaw (K w.params)) hn (by decide) hdf ⟨rfl, by decide, by decide⟩ hY F (fun _ _ a ns hl _ hS => ⟨a, ns, rfl, hS, hl, fun _ => rfl⟩) fun _ _ _ _ _ z => z
end K1
open PySem PySem.W PyProof.Rows
set_option maxRecDepth 100000 in
set_option maxHeartbeats 0 in
theorem PySem.Challenge.cw_keeplog_k41_voices_given_holds : PySem.Challenge.rw_keeplog_k41_voices_given.Holds := by
  w_on; o_law; k_head; (case hw => w_witness2)
  k_fill
  refine K1.walk (l := PySem.Challenge.rw_keeplog_k41_voices_given) rfl rfl (fun w h Y => PySem.W.kIn_of Y) ?F
  case F =>
    intro w mg fa h KX G hmg
    refine' K1.all_mk KX G hmg ?a0 ?l0 ?c0 ?k0 ?a1 ?l1 ?c1 ?k1 ?a2 ?l2 ?c2 ?k2 ?a3 ?l3 ?c3 ?k3 ?a5 ?l5 ?c5 ?k5 ?a6 ?l6 ?c6 ?k6 ?a7 ?l7 ?c7 ?k7 ?a8 ?l8 ?c8 ?k8 ?a9 ?l9 ?c9 ?k9 ?a19 ?l19 ?c19 ?k19 ?a20 ?l20 ?c20 ?k20 ?a21 ?l21 ?c21 ?k21 ?a23 ?l23 ?c23 ?k23 ?a24 ?l24 ?c24 ?k24 ?a25 ?l25 ?c25 ?k25 ?a26 ?l26 ?c26 ?k26 ?a27 ?l27 ?c27 ?k27 ?a28 ?l28 ?c28 ?k28 ?a29 ?l29 ?c29 ?k29 ?a30 ?l30 ?c30 ?k30 ?a31 ?l31 ?c31 ?k31 ?aC0 ?ga0 ?gi0 ?gl0 ?gc0 ?gk0 ?ga1 ?gi1 ?gl1 ?gc1 ?gk1 ?ga2 ?gi2 ?gl2 ?gc2 ?gk2 ?ga3 ?gi3 ?gl3 ?gc3 ?gk3 ?ga4 ?gi4 ?gl4 ?gc4 ?gk4 ?pg0 ?hd0 ?po0 ?sa0 ?mk0 ?kc0 ?n0_number ?n0_term ?n0_voice ?n0_head ?n0_way ?n0_pack ?n0_row ?n0_store ?n0_nexts ?n0_held ?n0_agreed ?n0_voices ?n0_waits ?z0 ?z1 ?z2 ?z3 ?z4 ?z5 ?z6 ?z7 ?z8 ?z9 ?z10 ?z11 ?z12 ?z13 ?z14
    (case a0 => k_is)
    (case l0 => k_is)
    (case c0 => k_is)
    (case k0 => k_is)
    (case a1 => k_is)
    (case l1 => k_is)
    (case c1 => k_is)
    (case k1 => k_is)
    (case a2 => k_is)
    (case l2 => k_is)
    (case c2 => k_is)
    (case k2 => k_is)
    (case a3 => k_is)
    (case l3 => k_is)
    (case c3 => k_is)
    (case k3 => k_is)
    (case a5 => k_is)
    (case l5 => k_is)
    (case c5 => k_is)
    (case k5 => k_is)
    (case a6 => k_is)
    (case l6 => k_is)
    (case c6 => k_is)
    (case k6 => k_is)
    (case a7 => k_is)
    (case l7 => k_is)
    (case c7 => k_is)
    (case k7 => k_is)
    (case a8 => k_is)
    (case l8 => k_is)
    (case c8 => k_is)
    (case k8 => k_is)
    (case a9 => k_is)
    (case l9 => k_is)
    (case c9 => k_is)
    (case k9 => k_is)
    (case a19 => k_is)
    (case l19 => k_is)
    (case c19 => k_is)
    (case k19 => k_is)
    (case a20 => k_is)
    (case l20 => k_is)
    (case c20 => k_is)
    (case k20 => k_is)
    (case a21 => k_is)
    (case l21 => k_is)
    (case c21 => k_is)
    (case k21 => k_is)
    (case a23 => k_is)
    (case l23 => k_is)
    (case c23 => k_is)
    (case k23 => k_is)
    (case a24 => k_is)
    (case l24 => k_is)
    (case c24 => k_is)
    (case k24 => k_is)
    (case a25 => k_is)
    (case l25 => k_is)
    (case c25 => k_is)
    (case k25 => k_is)
    (case a26 => k_is)
    (case l26 => k_is)
    (case c26 => k_is)
    (case k26 => k_is)
    (case a27 => k_is)
    (case l27 => k_is)
    (case c27 => k_is)
    (case k27 => k_is)
    (case a28 => k_is)
    (case l28 => k_is)
    (case c28 => k_is)
    (case k28 => k_is)
    (case a29 => k_is)
    (case l29 => k_is)
    (case c29 => k_is)
    (case k29 => k_is)
    (case a30 => k_is)
    (case l30 => k_is)
    (case c30 => k_is)
    (case k30 => k_is)
    (case a31 => k_is)
    (case l31 => k_is)
    (case c31 => k_is)
    (case k31 => k_is)
    (case aC0 => k_is)
    (case ga0 => k_is)
    (case gi0 => k_is)
    (case gl0 => k_is)
    (case gc0 => k_is)
    (case gk0 => k_is)
    (case ga1 => k_is)
    (case gi1 => k_is)
    (case gl1 => k_is)
    (case gc1 => k_is)
    (case gk1 => k_is)
    (case ga2 => k_is)
    (case gi2 => k_is)
    (case gl2 => k_is)
    (case gc2 => k_is)
    (case gk2 => k_is)
    (case ga3 => k_is)
    (case gi3 => k_is)
    (case gl3 => k_is)
    (case gc3 => k_is)
    (case gk3 => k_is)
    (case ga4 => k_is)
    (case gi4 => k_is)
    (case gl4 => k_is)
    (case gc4 => k_is)
    (case gk4 => k_is)
    (case pg0 => k_is)
    (case hd0 => k_is)
    (case po0 => k_is)
    (case sa0 => k_is)
    (case mk0 => k_is)
    (case kc0 => k_is)
    (case n0_number => k_is)
    (case n0_term => k_is)
    (case n0_voice => k_is)
    (case n0_head => k_is)
    (case n0_way => k_is)
    (case n0_pack => k_is)
    (case n0_row => k_is)
    (case n0_store => k_is)
    (case n0_nexts => k_is)
    (case n0_held => k_is)
    (case n0_agreed => k_is)
    (case n0_voices => k_is)
    (case n0_waits => k_is)
    (case z0 => k_is)
    (case z1 => k_is)
    (case z2 => k_is)
    (case z3 => k_is)
    (case z4 => k_is)
    (case z5 => k_is)
    (case z6 => k_is)
    (case z7 => k_is)
    (case z8 => k_is)
    (case z9 => k_is)
    (case z10 => k_is)
    (case z11 => k_is)
    (case z12 => k_is)
    (case z13 => k_is)
    (case z14 => k_is)
