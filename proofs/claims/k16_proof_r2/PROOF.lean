import PyProof.Rows.All
import Wide.All
import OpenK.AllK
import Wide.FinOn
import Lean
import PyProof.EqAt
import PyProof.EqKinds
import PyProof.TupleCall
import PySem.Challenge.RW_keeplog_k16_whole_handed_on
set_option Elab.async false
set_option linter.all false
set_option maxRecDepth 100000
/-! THE HAND LAYER, for ints, bools, texts, own classes, LISTS and tuples (index, slices, in, append, pop ..), calls, loops. Paste it whole ahead of your own text; what your proof does not reach may be deleted. -/
namespace L2
open PySem PySem.Spec PyProof.Rows

/-- a key: an int or a str -/
abbrev Key := Sum Int Str
def keyIs : Key → Value → Bool
  | .inl k, v => Value.isInt k v
  | .inr x, v => Value.isStrOf x v
def keyH (w : World) : Key → Int
  | .inl k => hashInt k
  | .inr x => hashStr w x
theorem keyIs_shape : ∀ {k : Key} {v : Value}, keyIs k v = true → (∃ i t, k = Sum.inl i ∧ v = Value.int i t) ∨ (∃ x t, k = Sum.inr x ∧ v = Value.str x t)
  | .inl i, v, h => by
    obtain ⟨t, e⟩ := Value.isInt_shape (k := i) (v := v) h
    exact .inl ⟨i, t, rfl, e⟩
  | .inr x, v, h => by
    obtain ⟨t, e⟩ := Value.isStrOf_shape (x := x) (v := v) h
    exact .inr ⟨x, t, rfl, e⟩
theorem key_ll (a b : Int) : decide ((Sum.inl a : Key) = Sum.inl b) = (a == b) := by
  by_cases e : a = b
  · subst e; simp
  · have h : ¬ (Sum.inl a : Key) = Sum.inl b := fun q => e (Sum.inl.inj q)
    rw [decide_eq_false h]
    exact (beq_eq_false_iff_ne.mpr e).symm
theorem key_rr (a b : Str) : decide ((Sum.inr a : Key) = Sum.inr b) = decide (a = b) := by
  by_cases e : a = b
  · subst e; simp
  · have h : ¬ (Sum.inr a : Key) = Sum.inr b := fun q => e (Sum.inr.inj q)
    rw [decide_eq_false h, decide_eq_false e]
theorem key_lr (a : Int) (b : Str) : decide ((Sum.inl a : Key) = Sum.inr b) = false := decide_eq_false (fun q => nomatch q)
theorem key_rl (a : Str) (b : Int) : decide ((Sum.inr a : Key) = Sum.inl b) = false := decide_eq_false (fun q => nomatch q)

def mixKind (prog : Program) (w : World) : PySem.KeyKind prog w Key where
  is := keyIs
  hash := keyH w
  inj := fun v a b ha hb => by
    rcases keyIs_shape ha with ⟨i, t, rfl, rfl⟩ | ⟨x, t, rfl, rfl⟩
    · rcases keyIs_shape hb with ⟨j, u, rfl, e⟩ | ⟨y, u, rfl, e⟩
      · injection e with e1 _; rw [e1]
      · exact nomatch e
    · rcases keyIs_shape hb with ⟨j, u, rfl, e⟩ | ⟨y, u, rfl, e⟩
      · exact nomatch e
      · injection e with e1 _; rw [e1]
  byValue := fun k v h => by
    rcases keyIs_shape h with ⟨i, t, rfl, rfl⟩ | ⟨x, t, rfl, rfl⟩ <;> rfl
  pyHash := fun hv h => by
    rcases keyIs_shape hv with ⟨i, t, rfl, rfl⟩ | ⟨x, t, rfl, rfl⟩
    · exact wpAny_pyHash_int h
    · exact wpAny_pyHash_str h
  eqBool := fun hu hv h => by
    rcases keyIs_shape hu with ⟨i, t, rfl, rfl⟩ | ⟨x, t, rfl, rfl⟩
    · rcases keyIs_shape hv with ⟨j, u, rfl, rfl⟩ | ⟨y, u, rfl, rfl⟩
      · rw [key_ll] at h; exact wpAny_eqBool_int h
      · rw [key_lr] at h; exact SeqAt.EqAt.int_str i t y u _ _ _ _ h
    · rcases keyIs_shape hv with ⟨j, u, rfl, rfl⟩ | ⟨y, u, rfl, rfl⟩
      · rw [key_rl] at h; exact SeqAt.EqAt.str_int x t j u _ _ _ _ h
      · rw [key_rr] at h; exact wpAny_eqBool_str h
  «strs» := fun k x t v h => by
    rcases keyIs_shape h with ⟨i, u, rfl, e⟩ | ⟨y, u, rfl, e⟩
    · exact nomatch e
    · injection e with e1 _
      subst e1
      cases v <;> rfl

end L2

namespace L2
open PySem PySem.Spec PyProof.Rows

/-- a value, without the heap -/
inductive V where
  | non | bl (b : Bool) | int (i : Int) | str (x : Str) | byt (b : Array UInt8) | flt (b : UInt64) | ref (a : Addr) | ty (n : String)
  deriving DecidableEq

def RelV : V → Value → Prop
  | .non, u => u = Value.none
  | .bl b, u => u = Value.bool b
  | .int i, u => ∃ t, u = Value.int i t
  | .str x, u => ∃ t, u = Value.str x t
  | .byt b, u => ∃ t, u = Value.bytes b t
  | .flt b, u => ∃ t, u = Value.float b t
  | .ref a, u => u = Value.ref a
  | .ty n, u => u = Value.type n

abbrev Vals : List V → List Value → Prop := Paired RelV
theorem Vals.length {xs : List V} {us : List Value} (r : Vals xs us) : xs.length = us.length := Paired.length r
theorem Vals.get : ∀ {xs : List V} {us : List Value} {i : Nat} {x : V}, Vals xs us → xs[i]? = some x → ∃ u, us[i]? = some u ∧ RelV x u
  | _, _, _, _, .nil, e => by simp at e
  | _, _, 0, _, .cons r _, e => by simp at e; subst e; exact ⟨_, rfl, r⟩
  | _, _, i + 1, x, .cons _ t, e => by
    obtain ⟨u, h1, h2⟩ := Vals.get (i := i) (x := x) t (by simpa using e)
    exact ⟨u, by simpa using h1, h2⟩
theorem Vals.set {x : V} {u : Value} (r : RelV x u) : ∀ {xs : List V} {us : List Value} (i : Nat), Vals xs us → Vals (xs.set i x) (us.set i u)
  | _, _, _, .nil => .nil
  | _, _, 0, .cons _ t => .cons r t
  | _, _, i + 1, .cons q t => .cons q (Vals.set r i t)
theorem Vals.append : ∀ {xs ys : List V} {us ws : List Value}, Vals xs us → Vals ys ws → Vals (xs ++ ys) (us ++ ws)
  | _, _, _, _, .nil, s => s
  | _, _, _, _, .cons r t, s => .cons r (Vals.append t s)
theorem Vals.take : ∀ {xs : List V} {us : List Value} (n : Nat), Vals xs us → Vals (xs.take n) (us.take n)
  | _, _, 0, _ => .nil
  | _, _, _ + 1, .nil => .nil
  | _, _, n + 1, .cons r t => .cons r (Vals.take n t)
theorem Vals.drop : ∀ {xs : List V} {us : List Value} (n : Nat), Vals xs us → Vals (xs.drop n) (us.drop n)
  | _, _, 0, r => r
  | _, _, _ + 1, .nil => .nil
  | _, _, n + 1, .cons _ t => Vals.drop n t
theorem Vals.none_of : ∀ {xs : List V} {us : List Value} {i : Nat}, Vals xs us → xs[i]? = none → us[i]? = none := fun {xs us i} r e => by
  have h1 := r.length
  have h2 : xs.length ≤ i := List.getElem?_eq_none_iff.mp e
  exact List.getElem?_eq_none_iff.mpr (by omega)

def RelO : Option V → Option Value → Prop
  | some v, some u => RelV v u
  | none, none => True
  | _, _ => False
def KV {κ : Type} : List (κ × V) → List (κ × Value) → Prop := Paired fun (p : κ × V) (q : κ × Value) => p.1 = q.1 ∧ RelV p.2 q.2

/-- a key of a dict (00_mix): an int or a text -/
def kV : Key → V
  | .inl i => .int i
  | .inr x => .str x

/-- what stands at a tracked address -/
inductive HO where
  /-- a list -/
  | lst (xs : List V)
  /-- a tuple (never changes) -/
  | tup (xs : List V)
  /-- a dict whose keys are ints and texts; one whose keys are tuples of ints and texts (the empty one is both) -/
  | dK (kvs : List (Key × V)) | dT (kvs : List (List Key × V))
  /-- a set of ints: its members, its size -/
  | set (S : Int → Bool) (n : Nat)
  /-- an instance of the class at C, its dict at dx, its attributes -/
  | ins (C dx : Addr) (fs : List (Str × V))
  /-- the dict of the instance at x -/
  | own (x : Addr)
  /-- the dict of an exception -/
  | xd (fs : List (Str × V))
  /-- a bound method, f of x -/
  | met (f x : Addr)
  /-- a range object lo, lo + 1, .. below hi -/
  | rng (lo hi : Int)
  /-- a thing that is known to the object (the script; a dict while a loop walks it): read, never written while it is so -/
  | frz (o : Obj) (u : HO)
  /-- a code object's table -/
  | tbl (ps : Array Value)
  /-- any other thing, by what is true of its one object (a def of one's own: SetO a S n := HO.ext fun h => ..) -/
  | ext (φ : Heap → Prop)

abbrev Hp := Addr → Option HO
def upd (H : Hp) (a : Addr) (o : HO) : Hp := fun b => if b = a then some o else H b
theorem upd_same {H : Hp} {a : Addr} {o : HO} : upd H a o a = some o := by unfold upd; rw [if_pos rfl]
theorem upd_ne {H : Hp} {a b : Addr} {o : HO} (h : b ≠ a) : upd H a o b = H b := by unfold upd; rw [if_neg h]
/-- two objects of different content stand apart -/
theorem ne_of {H : Hp} {a b : Addr} {o u : HO} (h : H a = some o) (h' : H b = some u) (d : o ≠ u) : a ≠ b := by
  intro e; subst e; rw [h] at h'; exact d (Option.some.inj h')
theorem ne_of_none {H : Hp} {a b : Addr} {o : HO} (h : H a = some o) (h' : H b = none) : a ≠ b := by
  intro e; subst e; rw [h] at h'; cases h'

section
variable (P : Program) (w : World)
def ObjOk (H : Hp) (h : Heap) (a : Addr) : HO → Prop
  | .lst xs => xs.length ≤ sizeLine ∧ ∃ (its : List Value) (n : Nat), Vals xs its ∧ h.get? a = some { cls := .type "list", data := .seq its.toArray n }
  | .tup xs => xs.length ≤ sizeLine ∧ ∃ its : List Value, Vals xs its ∧ IsTup h a its.toArray
  | .dK kvs => kvs.length ≤ sizeLine ∧ (a == sysModules) = false ∧ ∃ vs, KV kvs vs ∧ h.DictOf (mixKind P w) a vs
  | .dT kvs => kvs.length ≤ sizeLine ∧ (a == sysModules) = false ∧ ∃ xs : List (List Key × Addr × Value),
      Paired (fun (p : List Key × V) (q : List Key × Addr × Value) => p.1 = q.1 ∧ H q.2.1 = some (.tup (p.1.map kV)) ∧ RelV p.2 q.2.2) kvs xs ∧
      ∃ o es ep, h.get? a = some o ∧ o.ExactDict ∧ o.data = .dict es ep ∧ es.toList = xs.map (entryOfKey (tupleKind (mixKind P w))) ∧ (xs.map (·.1)).Nodup
  | .set S n => h.SetOf (intKind P w) a S n
  | .ins C dx fs => H dx = some (.own a) ∧ fs.length ≤ 1000 ∧ dx ≠ a ∧ h.get? a = some (PySem.W.instObj C dx) ∧
      ∃ mA, h.Ns1 dx mA ∧ (∀ f, RelO (fs.lookup f) (mA f)) ∧ PySem.Within mA (fs.map (·.1))
  | .own _ => ∃ o, h.get? a = some o
  | .xd fs => ∃ mA, h.Ns1 a mA ∧ ∀ f, RelO (fs.lookup f) (mA f)
  | .rng lo hi => ∃ t u v, h.get? a = some { cls := .type "range", data := .fields #[.int lo t, .int hi u, .int 1 v] }
  | .frz o u => h.get? a = some o ∧ ObjOk H h a u
  | .tbl ps => h.get? a = some { cls := .none, data := .fields ps }
  | .met f x => h.get? a = some (PySem.W.methodObj (.ref f) (.ref x))
  | .ext φ => φ h ∧ (∃ o, h.get? a = some o) ∧ ∀ h1 h2 : Heap, φ h1 → (∀ o, h1.get? a = some o → h2.get? a = some o) → φ h2
/-- the abstract heap is held -/
def HOk (H : Hp) (h : Heap) : Prop := ∀ a o, H a = some o → ObjOk P w H h a o
end

section
variable {P : Program} {w : World} {H H' : Hp} {h h' : Heap} {a : Addr} {o : HO}
theorem ObjOk.lt (x : ObjOk P w H h a o) : a < h.objs.size := by
  cases o with
  | lst xs => obtain ⟨_, _, _, _, e⟩ := x; exact Heap.lt_size e
  | tup xs => obtain ⟨_, _, _, p⟩ := x; exact p.lt
  | dK kvs => obtain ⟨_, _, _, _, o, _, _, e, _⟩ := x; exact Heap.lt_size e
  | dT kvs => obtain ⟨_, _, _, _, o, _, _, e, _⟩ := x; exact Heap.lt_size e
  | set S n => obtain ⟨o, _, _, _, e, _⟩ := x; exact Heap.lt_size e
  | ins C dx fs => obtain ⟨_, _, _, e, _⟩ := x; exact Heap.lt_size e
  | own y => obtain ⟨_, e⟩ := x; exact Heap.lt_size e
  | xd fs => obtain ⟨_, ⟨_, _, _, e, _⟩, _⟩ := x; exact Heap.lt_size e
  | rng lo hi => obtain ⟨_, _, _, e⟩ := x; exact Heap.lt_size e
  | frz ob u => obtain ⟨e, _⟩ := x; exact Heap.lt_size e
  | tbl ps => exact Heap.lt_size (show h.get? a = some _ from x)
  | met f y => exact Heap.lt_size (show h.get? a = some _ from x)
  | ext φ => obtain ⟨_, ⟨_, e⟩, _⟩ := x; exact Heap.lt_size e
theorem Paired.mapP {α β : Type} {F G : α → β → Prop} : ∀ {l₁ : List α} {l₂ : List β}, Paired F l₁ l₂ → (∀ a b, F a b → G a b) → Paired G l₁ l₂
  | _, _, .nil, _ => .nil
  | _, _, .cons r t, f => .cons (f _ _ r) (Paired.mapP t f)
/-- what an object's description leans on: its own object, its own dict, the tuples -/
theorem ObjOk.stay (x : ObjOk P w H h a o) (k : ∀ b u, (b = a ∨ H b = some (.own a)) → h.get? b = some u → h'.get? b = some u)
    (ho : ∀ b, H b = some (.own a) → H' b = some (.own a)) (ht : ∀ b xs, H b = some (.tup xs) → H' b = some (.tup xs)) : ObjOk P w H' h' a o := by
  induction o with
  | lst xs => obtain ⟨z, its, n, r, e⟩ := x; exact ⟨z, its, n, r, k _ _ (.inl rfl) e⟩
  | tup xs => obtain ⟨z, its, r, ob, e, c⟩ := x; exact ⟨z, its, r, ob, k _ _ (.inl rfl) e, c⟩
  | dK kvs => obtain ⟨z, y, vs, r, ob, es, ep, e, c⟩ := x; exact ⟨z, y, vs, r, ob, es, ep, k _ _ (.inl rfl) e, c⟩
  | dT kvs =>
    obtain ⟨z, y, xs, r, ob, es, ep, e, c⟩ := x
    exact ⟨z, y, xs, Paired.mapP r fun p q z => ⟨z.1, ht _ _ z.2.1, z.2.2⟩, ob, es, ep, k _ _ (.inl rfl) e, c⟩
  | set S n => obtain ⟨ob, es, ep, t, e, c⟩ := x; exact ⟨ob, es, ep, t, k _ _ (.inl rfl) e, c⟩
  | ins C dx fs =>
    obtain ⟨d, z, ne, e, mA, ⟨od, es, ep, e2, c⟩, r⟩ := x
    exact ⟨ho _ d, z, ne, k _ _ (.inl rfl) e, mA, ⟨od, es, ep, k _ _ (.inr d) e2, c⟩, r⟩
  | own y => obtain ⟨ob, e⟩ := x; exact ⟨ob, k _ _ (.inl rfl) e⟩
  | xd fs => obtain ⟨mA, ⟨od, es, ep, e, c⟩, r⟩ := x; exact ⟨mA, ⟨od, es, ep, k _ _ (.inl rfl) e, c⟩, r⟩
  | rng lo hi => obtain ⟨t, u, v, e⟩ := x; exact ⟨t, u, v, k _ _ (.inl rfl) e⟩
  | frz ob u ih => obtain ⟨e, q⟩ := x; exact ⟨k _ _ (.inl rfl) e, ih q⟩
  | tbl ps =>
    have e : h.get? a = some { cls := .none, data := .fields ps } := x
    show h'.get? a = some { cls := .none, data := .fields ps }
    exact k a _ (.inl rfl) e
  | met f y =>
    have e : h.get? a = some (PySem.W.methodObj (.ref f) (.ref y)) := x
    show h'.get? a = some (PySem.W.methodObj (.ref f) (.ref y))
    exact k a _ (.inl rfl) e
  | ext φ => obtain ⟨p, ⟨o, e⟩, st⟩ := x; exact ⟨st _ _ p fun o q => k _ _ (.inl rfl) q, ⟨o, k _ _ (.inl rfl) e⟩, st⟩
theorem HOk.lt (x : HOk P w H h) (e : H a = some o) : a < h.objs.size := (x a o e).lt
theorem HOk.fresh (x : HOk P w H h) (e : h.objs.size ≤ a) : H a = none := by
  cases q : H a with
  | none => rfl
  | some u => exact absurd (Nat.lt_of_lt_of_le (x.lt q) e) (Nat.lt_irrefl _)
/-- every object of the heap is kept -/
theorem HOk.kept (x : HOk P w H h) (k : ∀ b u, h.get? b = some u → h'.get? b = some u) : HOk P w H h' := fun a o e =>
  (x a o e).stay (fun b u _ q => k b u q) (fun _ q => q) fun _ _ q => q
/-- a new object is laid and tracked -/
theorem HOk.laid (x : HOk P w H h) (k : ∀ b u, h.get? b = some u → h'.get? b = some u) (hp : h.objs.size ≤ a) (new : ObjOk P w (upd H a o) h' a o) : HOk P w (upd H a o) h' := fun b u e => by
  have hn := x.fresh hp
  by_cases hb : b = a
  · subst hb; rw [upd_same] at e; cases e; exact new
  · rw [upd_ne hb] at e
    exact (x b u e).stay (fun c v _ q => k c v q) (fun c q => by rw [upd_ne (ne_of_none q hn)]; exact q) fun c xs q => by rw [upd_ne (ne_of_none q hn)]; exact q
end

/-- what may be read as u: it is u, or a known u -/
def Rd (H : Hp) (a : Addr) (u : HO) : Prop := H a = some u ∨ ∃ o, H a = some (.frz o u)
theorem Rd.of {H : Hp} {a : Addr} {u : HO} (h : H a = some u) : Rd H a u := .inl h
theorem Rd.ok {P : Program} {w : World} {H : Hp} {h : Heap} {a : Addr} {u : HO} (r : Rd H a u) (x : HOk P w H h) : ObjOk P w H h a u := by
  rcases r with r | ⟨o, r⟩
  · exact x a u r
  · obtain ⟨_, q⟩ := x a _ r
    exact q
/-- what may be written -/
def Mut : Option HO → Prop
  | some (.lst _) => True
  | some (.dK _) => True
  | some (.dT _) => True
  | some (.set _ _) => True
  | some (.ins _ _ _) => True
  | some (.ext _) => True
  | _ => False
section
variable {P : Program} {w : World} {H : Hp} {h h' : Heap} {x e : Addr} {o' : HO}
/-- the object at e is changed: x itself, or the dict of the instance x -/
theorem HOk.write (ok : HOk P w H h) (mu : Mut (H x)) (he : e = x ∨ H e = some (.own x)) (k : ∀ b u, b ≠ e → h.get? b = some u → h'.get? b = some u) (heo : ∃ u, h'.get? e = some u)
    (new : ObjOk P w (upd H x o') h' x o') : HOk P w (upd H x o') h' := fun b u q => by
  have nown : ∀ c y, H c = some (.own y) → c ≠ x := fun c y r z => by subst z; rw [r] at mu; exact mu
  have ntup : ∀ c xs, H c = some (.tup xs) → c ≠ x := fun c xs r z => by subst z; rw [r] at mu; exact mu
  by_cases hb : b = x
  · subst hb; rw [upd_same] at q; cases q; exact new
  · rw [upd_ne hb] at q
    by_cases hbe : b = e
    · have q' : H b = some (.own x) := by
        rcases he with z | z
        · exact absurd (hbe.trans z) hb
        · rw [hbe]; exact z
      rw [q] at q'; cases q'
      obtain ⟨v, hv⟩ := heo
      exact ⟨v, by rw [hbe]; exact hv⟩
    · refine (ok b u q).stay (fun c v hc r => k c v ?_ r) (fun c r => by rw [upd_ne (nown c b r)]; exact r) fun c xs r => by rw [upd_ne (ntup c xs r)]; exact r
      rcases hc with rfl | hc
      · exact hbe
      · rintro rfl
        rcases he with z | z
        · exact nown c b hc z
        · rw [hc] at z; cases z; exact hb rfl
end

/-! ### kept unless tracked; of the frames at fs (the callers') the slots may change (an exception that passes writes there); of the records at ex (iterators) nothing is said -/
structure Un (fs ex : List Addr) (H H' : Hp) (h h' : Heap) : Prop where
  keep : ∀ b o, h.get? b = some o → H b = none → b ∉ fs → b ∉ ex → h'.get? b = some o
  slot : ∀ b o, h.get? b = some o → H b = none → b ∈ fs → b ∉ ex → ∃ sl, h'.get? b = some { o with slots := sl }
  free : ∀ b o, h.get? b = some o → H b = none → b ∉ ex → H' b = none
  there : ∀ b o, h.get? b = some o → b ∉ ex → ∃ o', h'.get? b = some o'
  tups : ∀ b xs, H b = some (.tup xs) → H' b = some (.tup xs)
  frzs : ∀ b o u, H b = some (.frz o u) → H' b = some (.frz o u)
  tbls : ∀ b ps, H b = some (.tbl ps) → ∃ more, H' b = some (.tbl (ps ++ more))
section
variable {fs fs' ex ex' : List Addr} {H H1 H2 : Hp} {h h1 h2 h' : Heap} {a x e : Addr} {o : HO}
theorem Un.any (u : Un fs ex H H1 h h1) {b : Addr} {ob : Obj} (q : h.get? b = some ob) (n : H b = none) (hx : b ∉ ex) : ∃ sl, h1.get? b = some { ob with slots := sl } := by
  by_cases hb : b ∈ fs
  · exact u.slot b ob q n hb hx
  · exact ⟨ob.slots, u.keep b ob q n hb hx⟩
theorem Un.trans (a : Un fs ex H H1 h h1) (b : Un fs ex H1 H2 h1 h2) : Un fs ex H H2 h h2 where
  keep := fun c ob q n hc hx => b.keep c ob (a.keep c ob q n hc hx) (a.free c ob q n hx) hc hx
  slot := fun c ob q n hc hx => by
    obtain ⟨sl, e1⟩ := a.slot c ob q n hc hx
    obtain ⟨sl', e2⟩ := b.slot c _ e1 (a.free c ob q n hx) hc hx
    exact ⟨sl', e2⟩
  free := fun c ob q n hx => by
    obtain ⟨o', e1⟩ := a.there c ob q hx
    exact b.free c o' e1 (a.free c ob q n hx) hx
  there := fun c ob q hx => by
    obtain ⟨o', e1⟩ := a.there c ob q hx
    exact b.there c o' e1 hx
  tups := fun c xs q => b.tups c xs (a.tups c xs q)
  frzs := fun c ob xs q => b.frzs c ob xs (a.frzs c ob xs q)
  tbls := fun c ps q => by
    obtain ⟨m1, e1⟩ := a.tbls c ps q
    obtain ⟨m2, e2⟩ := b.tbls c _ e1
    exact ⟨m1 ++ m2, by rw [e2, Array.append_assoc]⟩
theorem Un.kept (k : ∀ b u, h.get? b = some u → h'.get? b = some u) : Un fs ex H H h h' :=
  ⟨fun b ob q _ _ _ => k b ob q, fun b ob q _ _ _ => ⟨ob.slots, k b ob q⟩, fun _ _ _ n _ => n, fun b ob q _ => ⟨ob, k b ob q⟩, fun _ _ q => q, fun _ _ _ q => q, fun _ ps q => ⟨#[], by rw [q]; simp⟩⟩
theorem Un.refl : Un fs ex H H h h := Un.kept fun _ _ q => q
theorem Un.laid (k : ∀ b u, h.get? b = some u → h'.get? b = some u) (hp : h.objs.size ≤ a) (hn : H a = none) : Un fs ex H (upd H a o) h h' where
  keep := fun b u q _ _ _ => k b u q
  slot := fun b u q _ _ _ => ⟨u.slots, k b u q⟩
  free := fun b u q n _ => by rw [upd_ne (Nat.ne_of_lt (Nat.lt_of_lt_of_le (Heap.lt_size q) hp))]; exact n
  there := fun b u q _ => ⟨u, k b u q⟩
  tups := fun b xs q => by rw [upd_ne (ne_of_none q hn)]; exact q
  frzs := fun b u xs q => by rw [upd_ne (ne_of_none q hn)]; exact q
  tbls := fun b ps q => ⟨#[], by rw [upd_ne (ne_of_none q hn), q]; simp⟩
theorem Un.write (mu : Mut (H x)) (he : e = x ∨ H e = some (.own x)) (k : ∀ b u, b ≠ e → h.get? b = some u → h'.get? b = some u) (heo : ∃ u, h'.get? e = some u) : Un fs ex H (upd H x o) h h' := by
  have hx : ∀ b, H b = none → b ≠ x := fun b n z => by subst z; rw [n] at mu; exact mu
  have hb : ∀ b, H b = none → b ≠ e := fun b n z => by
    subst z
    rcases he with r | r
    · exact hx b n r
    · rw [n] at r; cases r
  have hm : ∀ b u, H b = some u → ¬ Mut (some u) → b ≠ x := fun b u q nm z => by subst z; rw [q] at mu; exact nm mu
  refine ⟨fun b u q n _ _ => k b u (hb b n) q, fun b u q n _ _ => ⟨u.slots, k b u (hb b n) q⟩, fun b u q n _ => by rw [upd_ne (hx b n)]; exact n, fun b u q _ => ?_,
    fun b xs q => by rw [upd_ne (hm b _ q fun z => z)]; exact q, fun b u xs q => by rw [upd_ne (hm b _ q fun z => z)]; exact q, fun b ps q => ⟨#[], by rw [upd_ne (hm b _ q fun z => z), q]; simp⟩⟩
  by_cases hbe : b = e
  · subst hbe; exact heo
  · exact ⟨u, k b u hbe q⟩
theorem Un.mono (u : Un fs ex H H1 h h1) (hs : ∀ b ∈ fs, b ∈ fs') (hx : ∀ b ∈ ex, b ∈ ex') : Un fs' ex' H H1 h h1 :=
  ⟨fun b ob q n hb he => u.keep b ob q n (fun z => hb (hs b z)) fun z => he (hx b z), fun _ _ q n _ he => u.any q n fun z => he (hx _ z), fun b ob q n he => u.free b ob q n fun z => he (hx b z), fun b ob q he => u.there b ob q fun z => he (hx b z), u.tups, u.frzs, u.tbls⟩
end

/-! ### the heap without what is tracked -/
def trk (h : Heap) (H : Hp) : List Addr := (List.range h.objs.size).filter fun a => (H a).isSome
def hidT (h : Heap) (H : Hp) : Heap := PySem.W.hideAll h (trk h H)
theorem hidT_size (h : Heap) (H : Hp) : (hidT h H).objs.size = h.objs.size := PySem.W.hideAll_size _ _
theorem hidT_get {h : Heap} {H : Hp} {b : Addr} {o : Obj} (e : h.get? b = some o) (n : H b = none) : (hidT h H).get? b = some o :=
  PySem.W.hideAll_get _ e fun hm => by
    have q : (H b).isSome = true := (List.mem_filter.mp hm).2
    rw [n] at q; simp at q
theorem of_hidT {h : Heap} {H : Hp} {b : Addr} {o : Obj} (e : (hidT h H).get? b = some o) : h.get? b = some o ∧ H b = none := by
  have e' : h.get? b = some o := PySem.W.of_hideAll (trk h H) e
  refine ⟨e', ?_⟩
  cases q : H b with
  | none => rfl
  | some x =>
    have hm : b ∈ trk h H := List.mem_filter.mpr ⟨List.mem_range.mpr (Heap.lt_size e'), by simp [q]⟩
    have z : (hidT h H).get? b = none := PySem.W.hideAll_none (trk h H) hm
    rw [z] at e; cases e

/-! ### OpenK's ledger, filled with every new object but one -/
def allNews (g h : Heap) (L : Addr) : List (Addr × Obj) := (List.range h.objs.size).filterMap fun a => if a = L ∨ (g.get? a).isSome = true then none else (h.get? a).map fun o => (a, o)
def rest (g h : Heap) (L d : Addr) : List (Addr × Obj) := (allNews g h L).filter fun p => decide (p.1 ≠ d)
end L2

namespace L2
open PySem PySem.Spec PyProof.Rows

/-- the module's facts, over the base: the heap at the law's entry without what is tracked there -/
structure Mod (K : PySem.W.Frag) (mg : Str → Option Value) (base : Heap) : Prop where
  kin : K.In base
  glob : base.Ns mainGlobals mg
  blt : ∃ mb, base.Ns builtinsNs mb ∧ ∀ x : Str, x ≠ "__name__" → mb x = bootBuiltins x
  nolimit : base.NoLimit

/-- the context: a def's body (or a comprehension's block) running. base: fixed through the whole law; s₀, H₀: the entry; outer: the frames whose slots others may change (a def's callers); stack: all frames that run;
   ex: iterators that were made ahead of the entry and are walked here (a comprehension's); fn: the names whose cells were made at the entry (a def: all; a comprehension's block: its own); calm: not within an except suite; pn: pins that every state bears; xe: what is wanted of an exception that leaves the code -/
structure Cx where
  prog : Program
  w : World
  K : PySem.W.Frag
  mg : Str → Option Value
  base : Heap
  A : Around
  N : List Str
  s₀ : Shared
  H₀ : Hp
  env : Env
  outer : List Env
  stack : List Env
  ex : List Addr
  fn : Str → Bool
  calm : Bool
  pn : List (Addr × Obj)
  xe : Value → Shared → Prop
/-- the callers' frames -/
def frs (l : List Env) : List Addr := l.filterMap (·.frame)
abbrev Cx.fs (X : Cx) : List Addr := frs X.outer

def Vis (sc : Scope) (x : Str) : Prop := sc.names.lookup x = some .local ∨ sc.names.lookup x = some .cell ∨ sc.names.lookup x = some .free
def Loc (sc : Scope) (x : Str) : Prop := sc.names.lookup x = some .local ∨ sc.names.lookup x = some .cell
def Look (env : Env) (h : Heap) (m : Str → Option Value) (x : Str) (u : Value) : Prop :=
  (env.kindOf x = some .local ∧ m x = some u) ∨ ((env.kindOf x = some .cell ∨ env.kindOf x = some .free) ∧ ∃ c, env.cells.lookup x = some c ∧ h.IsCell c (some u))

structure Cx.Ok (X : Cx) : Prop where
  mod : Mod X.K X.mg X.base
  kind : X.env.scope.kind = .function
  glob : X.env.globals = mainGlobals
  blt : X.env.builtins = builtinsNs
  above : X.s₀.heap.objs.size ≤ X.env.locals
  inj : ∀ x y c, X.env.cells.lookup x = some c → X.env.cells.lookup y = some c → x = y
  has : ∀ x, (X.env.kindOf x = some .cell ∨ X.env.kindOf x = some .free) → ∃ c, X.env.cells.lookup x = some c
  cab : ∀ x c, X.fn x = true → X.env.cells.lookup x = some c → X.s₀.heap.objs.size ≤ c
  hd : X.calm = true → X.A.handled = none
  frames : X.A.frames = some X.stack
  stk : X.stack = X.outer ∨ (X.stack = X.env :: X.outer ∧ X.env.frame = some X.env.locals)
  exf : ∀ b ∈ X.ex, b ≠ X.env.locals ∧ ∀ x c, X.env.cells.lookup x = some c → c ≠ b
  bs : ∀ b o, X.base.get? b = some o → X.s₀.heap.get? b = some o ∧ X.H₀ b = none
  bsz : X.base.objs.size ≤ X.s₀.heap.objs.size
  noex : ∀ b o, X.base.get? b = some o → b ∉ X.ex
  exfs : ∀ b ∈ X.ex, b ∉ X.fs
  funs : X.s₀.heap.FunFrames X.base X.outer
  frf : ∀ b ∈ X.fs, X.H₀ b = none

structure Inv (X : Cx) (pins : List (Addr × Obj)) (σ : List (Option V)) (H : Hp) (s : Shared) : Prop where
  ok : X.Ok
  os : s.os = X.s₀.os
  bare : AllBare s.gens
  base : Un X.fs X.ex X.H₀ H X.s₀.heap s.heap
  loc : ∃ m, s.heap.Ns X.env.locals m ∧ ∀ (i : Nat) (x : Str) (v : V), X.N[i]? = some x → σ[i]? = some (some v) → Vis X.env.scope x → ∃ u, RelV v u ∧ Look X.env s.heap m x u
  cell : ∀ x c, X.env.cells.lookup x = some c → ∃ v, s.heap.IsCell c v
  free : H X.env.locals = none
  freeC : ∀ x c, X.env.cells.lookup x = some c → H c = none
  pin : ∀ p ∈ X.pn ++ pins, s.heap.get? p.1 = some p.2 ∧ H p.1 = none ∧ p.1 ≠ X.env.locals ∧ p.1 ∉ X.fs ∧ ∀ v, p.2.data ≠ .cell v
  hok : HOk X.prog X.w H s.heap
  len : σ.length = X.N.length

section
variable {X : Cx} {pins : List (Addr × Obj)} {σ : List (Option V)} {H H' : Hp} {s : Shared} {h' : Heap}

theorem Cx.Ok.nofr (ok : X.Ok) {b : Addr} {o : Obj} (e : X.base.get? b = some o) : b ∉ X.fs := fun hb => by
  have := (ok.funs.mem hb).1
  rw [e] at this; cases this
theorem Inv.bs (I : Inv X pins σ H s) : ∀ b o, X.base.get? b = some o → s.heap.get? b = some o ∧ H b = none := fun b o e =>
  ⟨I.base.keep b o (I.ok.bs b o e).1 (I.ok.bs b o e).2 (I.ok.nofr e) (I.ok.noex b o e), I.base.free b o (I.ok.bs b o e).1 (I.ok.bs b o e).2 (I.ok.noex b o e)⟩
theorem Inv.bk (I : Inv X pins σ H s) : ∀ b o, X.base.get? b = some o → s.heap.get? b = some o := fun b o e => (I.bs b o e).1
theorem Inv.mod (I : Inv X pins σ H s) : Mod X.K X.mg X.base := I.ok.mod
theorem Inv.kIn (I : Inv X pins σ H s) : X.K.In s.heap := I.ok.mod.kin.keeps I.bk
theorem Inv.nolimit (I : Inv X pins σ H s) : s.heap.NoLimit := I.ok.mod.nolimit.keeps I.bk
/-- the frame over the base: for OpenK's rules (K.In X.base is I.mod.kin) -/
theorem Inv.fr (I : Inv X pins σ H s) : ∃ m, Fr X.base X.env.locals s.heap m :=
  let ⟨m, hn, _⟩ := I.loc
  ⟨m, hn, I.bk, Nat.le_trans I.ok.bsz I.ok.above⟩
theorem Inv.lt (I : Inv X pins σ H s) : X.env.locals < s.heap.objs.size := let ⟨_, hn, _⟩ := I.loc; hn.lt
theorem Inv.sz (I : Inv X pins σ H s) : X.s₀.heap.objs.size ≤ s.heap.objs.size := Nat.le_trans I.ok.above (Nat.le_of_lt I.lt)
theorem Inv.nofs (I : Inv X pins σ H s) {a : Addr} (h : s.heap.objs.size ≤ a) : a ∉ X.fs := fun hb => by
  obtain ⟨_, o, ho, _⟩ := I.ok.funs.mem hb
  exact absurd (Nat.lt_of_lt_of_le (Heap.lt_size ho) (Nat.le_trans I.sz h)) (Nat.lt_irrefl _)
theorem Inv.cne (I : Inv X pins σ H s) : ∀ x c, X.env.cells.lookup x = some c → c ≠ X.env.locals := fun x c e z => by
  obtain ⟨v, o, ho, hd⟩ := I.cell x c e
  obtain ⟨m, ⟨o', es, ep, ho', hd', _⟩, _⟩ := I.loc
  rw [z, ho'] at ho; cases ho; rw [hd'] at hd; cases hd
theorem Inv.funs (I : Inv X pins σ H s) : s.heap.FunFrames X.base X.outer := by
  have all : ∀ (l : List Env), (∀ b ∈ frs l, b ∈ X.fs) → X.s₀.heap.FunFrames X.base l → s.heap.FunFrames X.base l := by
    intro l
    induction l with
    | nil => intro _ _; trivial
    | cons env r ih =>
      intro hs hl
      obtain ⟨hk, ⟨L, o, hf, hn, ho, hd⟩, hr⟩ := hl
      have hL : L ∈ X.fs := hs L (by unfold frs; rw [List.filterMap_cons, hf]; exact List.mem_cons_self)
      obtain ⟨sl, e⟩ := I.base.slot L o ho (I.ok.frf L hL) hL fun z => I.ok.exfs L z hL
      exact ⟨hk, ⟨L, _, hf, hn, e, hd⟩, ih (fun b hb => hs b (by unfold frs; rw [List.filterMap_cons, hf]; exact List.mem_cons_of_mem _ hb)) hr⟩
  exact all X.outer (fun _ hb => hb) I.ok.funs

/-- the frames that run, for a call -/
theorem Inv.stack (I : Inv X pins σ H s) : s.heap.FunFrames X.base X.stack := by
  rcases I.ok.stk with e | ⟨e, hf⟩
  · rw [e]; exact I.funs
  · rw [e]
    obtain ⟨m, hn, _⟩ := I.loc
    refine .cons (by rw [I.ok.kind]; decide) hf hn ?_ I.funs
    exact Heap.get?_none_of_le (Nat.le_trans I.ok.bsz I.ok.above)
theorem Inv.stkSub (I : Inv X pins σ H s) : ∀ b ∈ frs X.stack, b ∈ X.env.locals :: X.fs := fun b hb => by
  rcases I.ok.stk with e | ⟨e, hf⟩
  · rw [e] at hb; exact List.mem_cons_of_mem _ hb
  · rw [e] at hb
    unfold frs at hb
    rw [List.filterMap_cons, hf] at hb
    exact hb
theorem Inv.stkFree (I : Inv X pins σ H s) : ∀ b ∈ frs X.stack, H b = none := fun b hb => by
  rcases List.mem_cons.mp (I.stkSub b hb) with e | hb
  · rw [e]; exact I.free
  · obtain ⟨_, o, ho, _⟩ := I.ok.funs.mem hb
    exact I.base.free b o ho (I.ok.frf b hb) fun z => I.ok.exfs b z hb

/-- THE STEP: the untracked objects but the frame and the records at ch are kept (the callers' frames up to slots), the frame's map is kept, the new abstract heap is held -/
theorem Inv.step {g' : Array GenState} {t' : Nat} {d' : Drawn} {ch : List Addr} (I : Inv X pins σ H s)
    (hch : ∀ b ∈ ch, (b ∈ X.ex ∨ X.s₀.heap.objs.size ≤ b) ∧ b ≠ X.env.locals ∧ (∀ x c, X.env.cells.lookup x = some c → c ≠ b) ∧ ∀ p ∈ X.pn ++ pins, p.1 ≠ b)
    (keep : ∀ b o, b ≠ X.env.locals → b ∉ X.fs → b ∉ ch → s.heap.get? b = some o → H b = none → h'.get? b = some o)
    (slot : ∀ b o, b ≠ X.env.locals → b ∈ X.fs → b ∉ ch → s.heap.get? b = some o → H b = none → ∃ sl, h'.get? b = some { o with slots := sl }) (free : ∀ b o, b ∉ ch → s.heap.get? b = some o → H b = none → H' b = none)
    (there : ∀ b o, b ∉ ch → s.heap.get? b = some o → ∃ o', h'.get? b = some o')
    (tups : ∀ b xs, H b = some (.tup xs) → H' b = some (.tup xs)) (frzs : ∀ b o u, H b = some (.frz o u) → H' b = some (.frz o u)) (tbls : ∀ b ps, H b = some (.tbl ps) → ∃ more, H' b = some (.tbl (ps ++ more)))
    (ns : ∀ m, s.heap.Ns X.env.locals m → h'.Ns X.env.locals m) (hok : HOk X.prog X.w H' h') (hg : AllBare g') :
    Inv X pins σ H' { s with heap := h', gens := g', drawn := d', toks := t' } := by
  have neL : ∀ b o, X.s₀.heap.get? b = some o → b ≠ X.env.locals := fun b o e => Nat.ne_of_lt (Nat.lt_of_lt_of_le (Heap.lt_size e) I.ok.above)
  have neC : ∀ b o, X.s₀.heap.get? b = some o → b ∉ X.ex → b ∉ ch := fun b o e hx hb => by
    rcases (hch b hb).1 with z | z
    · exact hx z
    · exact absurd (Nat.lt_of_lt_of_le (Heap.lt_size e) z) (Nat.lt_irrefl _)
  have cellK : ∀ x c, X.env.cells.lookup x = some c → ∀ v, s.heap.IsCell c v → h'.IsCell c v := fun x c e v ⟨o, ho, hd⟩ => by
    have nch : c ∉ ch := fun z => (hch c z).2.2.1 x c e rfl
    by_cases hc : c ∈ X.fs
    · obtain ⟨sl, q⟩ := slot c o (I.cne x c e) hc nch ho (I.freeC x c e)
      exact ⟨_, q, hd⟩
    · exact ⟨o, keep c o (I.cne x c e) hc nch ho (I.freeC x c e), hd⟩
  refine ⟨I.ok, I.os, hg, ⟨fun b o e n hb hx => ?_, fun b o e n hb hx => ?_, fun b o e n hx => ?_, fun b o e hx => ?_, fun b xs e => tups b xs (I.base.tups b xs e), fun b o xs e => frzs b o xs (I.base.frzs b o xs e), fun b ps e => ?_⟩, ?_, fun x c e => ?_, ?_, fun x c e => ?_, fun p hp => ?_, hok, I.len⟩
  · exact keep b o (neL b o e) hb (neC b o e hx) (I.base.keep b o e n hb hx) (I.base.free b o e n hx)
  · obtain ⟨sl, e1⟩ := I.base.slot b o e n hb hx
    obtain ⟨sl', e2⟩ := slot b _ (neL b o e) hb (neC b o e hx) e1 (I.base.free b o e n hx)
    exact ⟨sl', e2⟩
  · obtain ⟨o', e1⟩ := I.base.there b o e hx
    exact free b o' (neC b o e hx) e1 (I.base.free b o e n hx)
  · obtain ⟨o', e1⟩ := I.base.there b o e hx
    exact there b o' (neC b o e hx) e1
  · obtain ⟨m1, e1⟩ := I.base.tbls b ps e
    obtain ⟨m2, e2⟩ := tbls b _ e1
    exact ⟨m1 ++ m2, by rw [e2, Array.append_assoc]⟩
  · obtain ⟨m, hn, hl⟩ := I.loc
    refine ⟨m, ns m hn, fun i x v e1 e2 e3 => ?_⟩
    obtain ⟨u, r, l⟩ := hl i x v e1 e2 e3
    refine ⟨u, r, ?_⟩
    rcases l with l | ⟨k, c, e, z⟩
    · exact .inl l
    · exact .inr ⟨k, c, e, cellK x c e _ z⟩
  · obtain ⟨v, z⟩ := I.cell x c e
    exact ⟨v, cellK x c e v z⟩
  · obtain ⟨m, ⟨o, _, _, ho, _⟩, _⟩ := I.loc
    exact free _ o (fun z => (hch _ z).2.1 rfl) ho I.free
  · obtain ⟨v, o, ho, hd⟩ := I.cell x c e
    exact free c o (fun z => (hch c z).2.2.1 x c e rfl) ho (I.freeC x c e)
  · obtain ⟨e, n, ne, nf, d⟩ := I.pin p hp
    have nch : p.1 ∉ ch := fun z => (hch p.1 z).2.2.2 p hp rfl
    exact ⟨keep p.1 p.2 ne nf nch e n, free p.1 p.2 nch e n, ne, nf, d⟩
/-- .. where the frame's own object is kept too -/
theorem Inv.un {t' : Nat} (I : Inv X pins σ H s) (u : Un X.fs [] H H' s.heap h') (hok : HOk X.prog X.w H' h') : Inv X pins σ H' { s with heap := h', toks := t' } := by
  obtain ⟨m, ⟨o, es, ep, ho, r⟩, _⟩ := id I.loc
  obtain ⟨sl, hL⟩ := u.any ho I.free (by simp)
  exact I.step (g' := s.gens) (d' := s.drawn) (ch := []) (fun _ z => nomatch z) (fun b o _ hb _ e n => u.keep b o e n hb (by simp)) (fun b o _ hb _ e n => u.slot b o e n hb (by simp)) (fun b o _ e n => u.free b o e n (by simp)) (fun b o _ e => u.there b o e (by simp)) u.tups u.frzs u.tbls (fun m' hm => by
    obtain ⟨o', es', ep', ho', r'⟩ := hm
    rw [ho] at ho'; cases ho'
    exact ⟨_, es', ep', hL, r'⟩) hok I.bare
/-- behind a call (or a comprehension's block): the slots of this frame may have changed too, the records at ch may have turned -/
theorem Inv.call {g' : Array GenState} {t' : Nat} {d' : Drawn} {ch : List Addr} (I : Inv X pins σ H s) (u : Un (frs X.stack) ch H H' s.heap h') (hok : HOk X.prog X.w H' h') (hg : AllBare g')
    (hch : ∀ b ∈ ch, (b ∈ X.ex ∨ X.s₀.heap.objs.size ≤ b) ∧ b ≠ X.env.locals ∧ (∀ x c, X.env.cells.lookup x = some c → c ≠ b) ∧ ∀ p ∈ X.pn ++ pins, p.1 ≠ b) :
    Inv X pins σ H' { s with heap := h', gens := g', drawn := d', toks := t' } := by
  obtain ⟨m, ⟨o, es, ep, ho, r⟩, _⟩ := id I.loc
  obtain ⟨sl, hL⟩ := u.any ho I.free fun z => (hch _ z).2.1 rfl
  exact I.step (ch := ch) hch (fun b o hL hb hc e n => u.keep b o e n (fun z => (List.mem_cons.mp (I.stkSub b z)).elim hL hb) hc) (fun b o _ _ hc e n => u.any e n hc) (fun b o hc e n => u.free b o e n hc) (fun b o hc e => u.there b o e hc) u.tups u.frzs u.tbls (fun m' hm => by
    obtain ⟨o', es', ep', ho', r'⟩ := hm
    rw [ho] at ho'; cases ho'
    exact ⟨_, es', ep', hL, r'⟩) hok hg
/-- an untracked record of ours (an iterator) has turned -/
theorem Inv.turned {t' : Nat} {it : Addr} (I : Inv X pins σ H s) (k : ∀ b o, b ≠ it → s.heap.get? b = some o → h'.get? b = some o) (hn : H it = none) (hL : it ≠ X.env.locals)
    (h1 : it ∈ X.ex ∨ X.s₀.heap.objs.size ≤ it) (h2 : ∀ x c, X.env.cells.lookup x = some c → c ≠ it) (h3 : ∀ p ∈ X.pn ++ pins, p.1 ≠ it) : Inv X pins σ H { s with heap := h', toks := t' } := by
  have nit : ∀ b u, H b = some u → b ≠ it := fun b u e z => by rw [z, hn] at e; cases e
  refine I.step (g' := s.gens) (d' := s.drawn) (ch := [it]) (fun b hb => ?_) (fun b o _ _ hc e _ => k b o (fun z => hc (by simp [z])) e) (fun b o _ _ hc e _ => ⟨o.slots, k b o (fun z => hc (by simp [z])) e⟩) (fun _ _ _ _ n => n)
    (fun b o hc e => ⟨o, k b o (fun z => hc (by simp [z])) e⟩) (fun _ _ e => e) (fun _ _ _ e => e) (fun b ps e => ⟨#[], by rw [e]; simp⟩) (fun m hm => ?_) (fun b u e => ?_) I.bare
  · have e : b = it := by simpa using hb
    subst e
    exact ⟨h1, hL, h2, h3⟩
  · obtain ⟨o, es, ep, ho, r⟩ := hm
    exact ⟨o, es, ep, k _ o (Ne.symm hL) ho, r⟩
  · refine (I.hok b u e).stay (fun c v hc q => k c v ?_ q) (fun _ q => q) fun _ _ q => q
    rcases hc with z | z
    · rw [z]; exact nit b u e
    · exact nit c _ z
theorem Inv.tok (I : Inv X pins σ H s) (t : Nat) : Inv X pins σ H { s with toks := t } := I.un (h' := s.heap) (t' := t) Un.refl I.hok
/-- all objects kept -/
theorem Inv.kept {t' : Nat} (I : Inv X pins σ H s) (k : ∀ b u, s.heap.get? b = some u → h'.get? b = some u) : Inv X pins σ H { s with heap := h', toks := t' } := I.un (Un.kept k) (I.hok.kept k)
/-- a new object laid and tracked -/
theorem Inv.laid {a : Addr} {o : HO} {t' : Nat} (I : Inv X pins σ H s) (k : ∀ b u, s.heap.get? b = some u → h'.get? b = some u) (hp : s.heap.objs.size ≤ a) (new : ObjOk X.prog X.w (upd H a o) h' a o) :
    Inv X pins σ (upd H a o) { s with heap := h', toks := t' } := I.un (Un.laid k hp (I.hok.fresh hp)) (I.hok.laid k hp new)
/-- an object written -/
theorem Inv.write {x e : Addr} {o : HO} {t' : Nat} (I : Inv X pins σ H s) (mu : Mut (H x)) (he : e = x ∨ H e = some (.own x)) (k : ∀ b u, b ≠ e → s.heap.get? b = some u → h'.get? b = some u) (heo : ∃ u, h'.get? e = some u)
    (new : ObjOk X.prog X.w (upd H x o) h' x o) : Inv X pins σ (upd H x o) { s with heap := h', toks := t' } := I.un (Un.write mu he k heo) (I.hok.write mu he k heo new)
/-- forgetting slots, pins -/
theorem Inv.weak {σ' : List (Option V)} (I : Inv X pins σ H s) (hl : σ'.length = σ.length) (w : ∀ (i : Nat) v, σ'[i]? = some (some v) → σ[i]? = some (some v)) : Inv X pins σ' H s :=
  ⟨I.ok, I.os, I.bare, I.base, let ⟨m, hn, hl'⟩ := I.loc; ⟨m, hn, fun i x v e1 e2 e3 => hl' i x v e1 (w i v e2) e3⟩, I.cell, I.free, I.freeC, I.pin, I.hok, hl.trans I.len⟩
theorem Inv.pins_of {pins' : List (Addr × Obj)} (I : Inv X pins σ H s) (h : ∀ p ∈ pins', s.heap.get? p.1 = some p.2 ∧ H p.1 = none ∧ p.1 ≠ X.env.locals ∧ p.1 ∉ X.fs ∧ ∀ v, p.2.data ≠ .cell v) : Inv X pins' σ H s :=
  ⟨I.ok, I.os, I.bare, I.base, I.loc, I.cell, I.free, I.freeC, fun p hp => (List.mem_append.mp hp).elim (fun z => I.pin p (List.mem_append_left _ z)) (h p), I.hok, I.len⟩

theorem nodup_ix {N : List Str} (hN : N.Nodup) {i j : Nat} {x : Str} (a : N[i]? = some x) (b : N[j]? = some x) : i = j := by
  obtain ⟨h1, e1⟩ := List.getElem?_eq_some_iff.mp a
  obtain ⟨h2, e2⟩ := List.getElem?_eq_some_iff.mp b
  exact (List.getElem_inj hN).mp (e1.trans e2.symm)

/-- a name is stored; what changed -/
theorem store_ok2 {M : Model} {A : Around} {E : Value → Shared → Prop} {i : Nat} {x : Str} {v : V} {u : Value} {Q : Unit → Shared → Prop} (I : Inv X pins σ H s) (hN : X.N.Nodup) (hi : X.N[i]? = some x) (hx : Loc X.env.scope x) (r : RelV v u)
    (h : ∀ s', Inv X pins (σ.set i (some v)) H s' → (∃ a, Heap.SameBut a s.heap s'.heap ∧ (a = X.env.locals ∨ X.env.cells.lookup x = some a)) → Q () s') (hf : X.fn x = true ∨ X.env.scope.names.lookup x = some .local := by first | exact .inl rfl | exact .inr rfl | assumption) : wpAny M A (storeName X.env x u) Q E s := by
  obtain ⟨m, hn, hl⟩ := id I.loc
  have hcls : (X.env.scope.kind == .class || (X.env.scope.kind == .module && X.env.locals != X.env.globals)) = false := by rw [I.ok.kind]; rfl
  have hiσ : i < σ.length := by rw [I.len]; exact (List.getElem?_eq_some_iff.mp hi).1
  have cne := I.cne
  have tracked : ∀ {a : Addr} {h' : Heap}, (∃ o, s.heap.get? a = some o ∧ H a = none) → Heap.SameBut a s.heap h' → HOk X.prog X.w H h' := fun {a h'} ha hs b ob e => by
    obtain ⟨_, _, hfree⟩ := ha
    refine (I.hok b ob e).stay (fun c w' hc q => (hs.2 c ?_).trans q) (fun _ q => q) fun _ _ q => q
    rintro rfl
    rcases hc with rfl | hc
    · rw [hfree] at e; cases e
    · rw [hfree] at hc; cases hc
  rcases hx with hk | hk
  · refine wpAny_storeName_local hk hn (fun h' hn' hs => ?_) hcls
    obtain ⟨oL, _, _, hoL, _⟩ := id hn
    refine h _ ⟨I.ok, I.os, I.bare, ⟨fun b o e n hb hx => ?_, fun b o e n hb hx => ?_, I.base.free, fun b o e hx => ?_, I.base.tups, I.base.frzs, I.base.tbls⟩, ⟨_, hn', fun j y v' e1 e2 e3 => ?_⟩, fun y c e => ?_, I.free, I.freeC, fun p hp => ?_, tracked ⟨oL, hoL, I.free⟩ hs, by simpa using I.len⟩ ⟨_, hs, .inl rfl⟩
    · exact (hs.2 b (Nat.ne_of_lt (Nat.lt_of_lt_of_le (Heap.lt_size e) I.ok.above))).trans (I.base.keep b o e n hb hx)
    · obtain ⟨sl, e1⟩ := I.base.slot b o e n hb hx
      exact ⟨sl, (hs.2 b (Nat.ne_of_lt (Nat.lt_of_lt_of_le (Heap.lt_size e) I.ok.above))).trans e1⟩
    · obtain ⟨o', e1⟩ := I.base.there b o e hx
      exact ⟨o', (hs.2 b (Nat.ne_of_lt (Nat.lt_of_lt_of_le (Heap.lt_size e) I.ok.above))).trans e1⟩
    · by_cases hj : j = i
      · subst hj
        rw [hi] at e1; cases e1
        rw [List.getElem?_set_self hiσ] at e2
        cases e2
        exact ⟨u, r, .inl ⟨hk, by simp⟩⟩
      · rw [List.getElem?_set_ne (Ne.symm hj)] at e2
        obtain ⟨u', r', q⟩ := hl j y v' e1 e2 e3
        refine ⟨u', r', ?_⟩
        rcases q with ⟨k, e⟩ | ⟨k, c, e, z⟩
        · refine .inl ⟨k, ?_⟩
          have : y ≠ x := fun e => hj (nodup_ix hN e1 (e ▸ hi))
          simp [this, e]
        · exact .inr ⟨k, c, e, z.sameBut hs (cne y c e)⟩
    · obtain ⟨w', z⟩ := I.cell y c e
      exact ⟨w', z.sameBut hs (cne y c e)⟩
    · obtain ⟨e, n, ne, nf, d⟩ := I.pin p hp
      exact ⟨(hs.2 p.1 ne).trans e, n, ne, nf, d⟩
  · have hfn : X.fn x = true := by
      rcases hf with z | z
      · exact z
      · rw [z] at hk; cases hk
    obtain ⟨c, hc⟩ := I.ok.has x (.inl hk)
    obtain ⟨w', z⟩ := I.cell x c hc
    refine wpAny_storeName_cell I.ok.kind hk hc z (fun h' hc' hs => ?_)
    obtain ⟨oc, hoc, hocd⟩ := id z
    refine h { s with heap := h' } ⟨I.ok, I.os, I.bare, ⟨fun b o e n hb hx => ?_, fun b o e n hb hx => ?_, I.base.free, fun b o e hx => ?_, I.base.tups, I.base.frzs, I.base.tbls⟩, ⟨m, hn.sameBut hs (Ne.symm (cne x c hc)), fun j y v' e1 e2 e3 => ?_⟩, fun y c' e => ?_, I.free, I.freeC, fun p hp => ?_, tracked ⟨oc, hoc, I.freeC x c hc⟩ hs, by simpa using I.len⟩ ⟨c, hs, .inr hc⟩
    · exact (hs.2 b (Nat.ne_of_lt (Nat.lt_of_lt_of_le (Heap.lt_size e) (I.ok.cab x c hfn hc)))).trans (I.base.keep b o e n hb hx)
    · obtain ⟨sl, e1⟩ := I.base.slot b o e n hb hx
      exact ⟨sl, (hs.2 b (Nat.ne_of_lt (Nat.lt_of_lt_of_le (Heap.lt_size e) (I.ok.cab x c hfn hc)))).trans e1⟩
    · obtain ⟨o', e1⟩ := I.base.there b o e hx
      exact ⟨o', (hs.2 b (Nat.ne_of_lt (Nat.lt_of_lt_of_le (Heap.lt_size e) (I.ok.cab x c hfn hc)))).trans e1⟩
    · by_cases hj : j = i
      · subst hj
        rw [hi] at e1; cases e1
        rw [List.getElem?_set_self hiσ] at e2
        cases e2
        exact ⟨u, r, .inr ⟨.inl hk, c, hc, hc'⟩⟩
      · rw [List.getElem?_set_ne (Ne.symm hj)] at e2
        obtain ⟨u', r', q⟩ := hl j y v' e1 e2 e3
        refine ⟨u', r', ?_⟩
        rcases q with q | ⟨k, c', e, z'⟩
        · exact .inl q
        · refine .inr ⟨k, c', e, z'.sameBut hs ?_⟩
          rintro rfl
          exact hj (nodup_ix hN e1 (I.ok.inj _ _ _ e hc ▸ hi))
    · by_cases hcc : c' = c
      · subst hcc; exact ⟨_, hc'⟩
      · obtain ⟨w2, z2⟩ := I.cell y c' e
        exact ⟨w2, z2.sameBut hs hcc⟩
    · obtain ⟨e, n, ne, nf, d⟩ := I.pin p hp
      refine ⟨(hs.2 p.1 ?_).trans e, n, ne, nf, d⟩
      intro q
      rw [q, hoc] at e
      have q' : oc = p.2 := Option.some.inj e
      exact d w' (by rw [← q']; exact hocd)
theorem store_ok {M : Model} {A : Around} {E : Value → Shared → Prop} {i : Nat} {x : Str} {v : V} {u : Value} {Q : Unit → Shared → Prop} (I : Inv X pins σ H s) (hN : X.N.Nodup) (hi : X.N[i]? = some x) (hx : Loc X.env.scope x) (r : RelV v u)
    (h : ∀ s', Inv X pins (σ.set i (some v)) H s' → Q () s') (hf : X.fn x = true ∨ X.env.scope.names.lookup x = some .local := by first | exact .inl rfl | exact .inr rfl | assumption) : wpAny M A (storeName X.env x u) Q E s :=
  store_ok2 I hN hi hx r (fun s' I' _ => h s' I') hf
/-- behind a call or a block, the state as it is -/
theorem Inv.call' {s' : Shared} {ch : List Addr} (I : Inv X pins σ H s) (ho : s'.os = s.os) (u : Un (frs X.stack) ch H H' s.heap s'.heap) (hok : HOk X.prog X.w H' s'.heap) (hg : AllBare s'.gens)
    (hch : ∀ b ∈ ch, (b ∈ X.ex ∨ X.s₀.heap.objs.size ≤ b) ∧ b ≠ X.env.locals ∧ (∀ x c, X.env.cells.lookup x = some c → c ≠ b) ∧ ∀ p ∈ X.pn ++ pins, p.1 ≠ b) : Inv X pins σ H' s' := by
  obtain ⟨h', g', d', t', o'⟩ := s'
  have e : o' = s.os := ho
  subst e
  exact I.call (g' := g') (t' := t') (d' := d') u hok hg hch
end

/-! ### the judgements -/
/-- an exception: its class, its own dict's address (where it has one), the abstract heap behind it -/
abbrev XK := Value → Option Addr → Hp → Prop
abbrev St := List (Option V)
abbrev VK := V → Hp → Prop
/-- an expression's reading; a test's; an argument list's -/
abbrev TE := St → Hp → VK → Prop
abbrev TT := St → Hp → (Bool → Hp → Prop) → Prop
abbrev TA := St → Hp → (List V → Hp → Prop) → Prop
/-- what is wanted behind a statement -/
structure Ends where
  nx : St → Hp → Prop
  rt : VK
  bk : St → Hp → Prop := fun _ _ => False
  ct : St → Hp → Prop := fun _ _ => False
abbrev TS := Ends → St → Hp → Prop

def EP (X : Cx) (pins : List (Addr × Obj)) (σ : St) (Q : VK) (u : Value) (s' : Shared) : Prop := ∃ v H', Inv X pins σ H' s' ∧ RelV v u ∧ Q v H'
def TP (X : Cx) (pins : List (Addr × Obj)) (σ : St) (Q : Bool → Hp → Prop) (b : Bool) (s' : Shared) : Prop := ∃ H', Inv X pins σ H' s' ∧ Q b H'
def AP (X : Cx) (pins : List (Addr × Obj)) (σ : St) (Q : List V → Hp → Prop) (us : List Value) (s' : Shared) : Prop := ∃ vs H', Inv X pins σ H' s' ∧ Vals vs us ∧ Q vs H'
def SP (X : Cx) (pins : List (Addr × Obj)) (D : Ends) (f : Flow) (s' : Shared) : Prop :=
  match f with
  | .next => ∃ σ' H', Inv X pins σ' H' s' ∧ D.nx σ' H'
  | .brk => ∃ σ' H', Inv X pins σ' H' s' ∧ D.bk σ' H'
  | .cont => ∃ σ' H', Inv X pins σ' H' s' ∧ D.ct σ' H'
  | .ret u => ∃ v σ' H', Inv X pins σ' H' s' ∧ RelV v u ∧ D.rt v H'

def PE (X : Cx) (e : Expr) (t : TE) : Prop :=
  ∀ (pins : List (Addr × Obj)) (s : Shared) (σ : St) (H : Hp) (Q : VK), Inv X pins σ H s → t σ H Q → wpAny (model X.prog X.w) X.A (eval e X.env) (EP X pins σ Q) X.xe s
def PT (X : Cx) (e : Expr) (t : TT) : Prop :=
  ∀ (pins : List (Addr × Obj)) (s : Shared) (σ : St) (H : Hp) (Q : Bool → Hp → Prop), Inv X pins σ H s → t σ H Q → wpAny (model X.prog X.w) X.A (isTrue e X.env (eval e X.env)) (TP X pins σ Q) X.xe s
/-- a test whatever its 'whole' is (and, or) -/
def PW (X : Cx) (e : Expr) (t : TT) : Prop :=
  ∀ (whole : Sem Value) (pins : List (Addr × Obj)) (s : Shared) (σ : St) (H : Hp) (Q : Bool → Hp → Prop), Inv X pins σ H s → t σ H Q → wpAny (model X.prog X.w) X.A (isTrue e X.env whole) (TP X pins σ Q) X.xe s
theorem PW.pt {X : Cx} {e : Expr} {t : TT} (h : PW X e t) : PT X e t := h _
/-- an argument list (no star), from the left -/
def PA (X : Cx) (es : List Expr) (t : TA) : Prop :=
  ∀ (pos : Pos) (pins : List (Addr × Obj)) (s : Shared) (σ : St) (H : Hp) (Q : List V → Hp → Prop), Inv X pins σ H s → t σ H Q → wpAny (model X.prog X.w) X.A (spliced (backTo pos (starEach es X.env))) (AP X pins σ Q) X.xe s
def PS (X : Cx) (st : Stmt) (t : TS) : Prop :=
  ∀ (pins : List (Addr × Obj)) (s : Shared) (σ : St) (H : Hp) (D : Ends), Inv X pins σ H s → t D σ H → wpAny (model X.prog X.w) X.A (exec st X.env) (SP X pins D) X.xe s
def PSs (X : Cx) (st : List Stmt) (t : TS) : Prop :=
  ∀ (pins : List (Addr × Obj)) (s : Shared) (σ : St) (H : Hp) (D : Ends), Inv X pins σ H s → t D σ H → wpAny (model X.prog X.w) X.A (execs st X.env) (SP X pins D) X.xe s
/-- weaken the end -/
theorem thn {α : Type} {t : Sem α} {Q Q' : α → Shared → Prop} {M : Model} {A : Around} {E : Value → Shared → Prop} {s : Shared} (h : wpAny M A t Q E s) (hQ : ∀ a s, Q a s → Q' a s) : wpAny M A t Q' E s := wpAny_mono h hQ fun _ _ x => x
end L2

namespace L2
open PySem PySem.Spec PyProof.Rows
section
variable {X : Cx}

/-! ### names and constants -/
def tVar (i : Nat) : TE := fun σ H Q => ∃ v, σ[i]? = some (some v) ∧ Q v H
def tC (v : V) : TE := fun _ H Q => Q v H
theorem pe_var {i : Nat} {x : Str} {pos : Pos} (hN : X.N[i]? = some x) (hv : Vis X.env.scope x) (hd : (x == ("__debug__" : Str)) = false := by decide) (hcd : (x == ("__classdict__" : Str)) = false := by decide) : PE X (.Name x pos) (tVar i) := by
  intro pins s σ H Q I h
  obtain ⟨v, e, h⟩ := h
  obtain ⟨m, hn, hl⟩ := I.loc
  obtain ⟨u, r, l⟩ := hl i x v hN e hv
  have fin : EP X pins σ Q u s := ⟨v, H, I, r, h⟩
  rcases l with ⟨hk, hm⟩ | ⟨hk, c, hc, hcell⟩
  · exact wpAny_Name (wpAny_loadName_local I.ok.kind hk hn hm fin) hd
  · rcases hk with hk | hk
    · exact wpAny_Name (wpAny_loadName_cell I.ok.kind hk hc hcell fin) hd
    · exact wpAny_Name (wpAny_loadName_free I.ok.kind hk hc hcell fin hcd) hd
theorem pe_int {i j pos} : PE X (.Constant (.int i) j pos) (tC (.int i)) := fun _ _ _ H _ I h => wpAny_Constant_int ⟨.int i, H, I.tok _, ⟨_, rfl⟩, h⟩
theorem pe_bl {b j pos} : PE X (.Constant (.bool b) j pos) (tC (.bl b)) := fun _ _ _ H _ I h => Constant_bool ⟨.bl b, H, I, rfl, h⟩
theorem pe_non {j pos} : PE X (.Constant .none j pos) (tC .non) := fun _ _ _ H _ I h => Constant_none ⟨.non, H, I, rfl, h⟩
theorem pe_str {x j pos} : PE X (.Constant (.str x) j pos) (tC (.str x)) := fun _ _ _ H _ I h => Calls.Constant_str ⟨.str x, H, I.tok _, ⟨_, rfl⟩, h⟩

/-- a global name of the def -/
def Gl (X : Cx) (x : Str) : Prop := X.env.kindOf x = some .globalImplicit
theorem ld_glob {E : Value → Shared → Prop} {pins : List (Addr × Obj)} {s : Shared} {σ : St} {H : Hp} {x : Str} {u : Value} {pos : Pos} {Q : Value → Shared → Prop} (I : Inv X pins σ H s) (hg : Gl X x) (hm : X.mg x = some u) (h : Q u s)
    (hd : (x == ("__debug__" : Str)) = false := by decide) : wpAny (model X.prog X.w) X.A (eval (.Name x pos) X.env) Q E s :=
  Calls.Name_function_global I.ok.kind hg (Calls.loadGlobal_global (by rw [I.ok.glob]; exact I.mod.glob.keeps I.bk) hm h) hd
theorem ld_blt {E : Value → Shared → Prop} {pins : List (Addr × Obj)} {s : Shared} {σ : St} {H : Hp} {x : Str} {u : Value} {pos : Pos} {Q : Value → Shared → Prop} (I : Inv X pins σ H s) (hg : Gl X x) (hm : X.mg x = none) (hv : bootBuiltins x = some u) (h : Q u s)
    (hn : x ≠ "__name__" := by decide) (hd : (x == ("__debug__" : Str)) = false := by decide) : wpAny (model X.prog X.w) X.A (eval (.Name x pos) X.env) Q E s := by
  obtain ⟨mb, h1, h2⟩ := I.mod.blt
  exact Calls.Name_function_global I.ok.kind hg (Calls.loadGlobal_builtin (by rw [I.ok.glob]; exact I.mod.glob.keeps I.bk) hm (by rw [I.ok.blt]; exact h1.keeps I.bk) ((h2 x hn).trans hv) h) hd
theorem pe_bltn {x : Str} {v : V} {u : Value} {pos : Pos} (hg : Gl X x) (hm : X.mg x = none) (hv : bootBuiltins x = some u) (r : RelV v u) (hn : x ≠ "__name__" := by decide) (hd : (x == ("__debug__" : Str)) = false := by decide) : PE X (.Name x pos) (tC v) :=
  fun _ _ _ H _ I h => ld_blt I hg hm hv ⟨v, H, I, r, h⟩ hn hd

/-! ### arithmetic -/
variable {a b : Expr} {ta tb : TE} {pos : Pos}
/-! ### comparisons -/
/-- a comparison as a value, as a test -/
def tB (t : TE) : TT := fun σ H Q => t σ H fun x H1 => ∃ c, x = .bl c ∧ Q c H1
/-- an expression whose value is a bool, as a test -/
theorem pt_val {e : Expr} {t : TE} (h : PE X e t) (he : ∀ whole, isTrue e X.env whole = (do let v ← whole; standAt e.pos; holding [v] (truthy v)) := by intro _; rfl) : PT X e (tB t) := by
  intro pins s σ H Q I hw
  refine isTrue_plain (thn (h pins s σ H _ I hw) fun v s1 ⟨x, H1, I1, r1, q1⟩ => ?_) (he _)
  obtain ⟨d, rfl, q⟩ := q1
  cases r1
  exact wpAny_truthy_bool ⟨H1, I1, q⟩

/-! ### and, or, not -/
variable {tA tB' : TT} {rest : List Expr}
def tAnd (t u : TT) : TT := fun σ H Q => t σ H fun c H1 => if c = true then u σ H1 Q else Q false H1
def tOr (t u : TT) : TT := fun σ H Q => t σ H fun c H1 => if c = true then Q true H1 else u σ H1 Q
def tNot (t : TT) : TT := fun σ H Q => t σ H fun c H1 => Q (!c) H1
theorem pw_and1 (ha : PT X a tA) : PW X (.BoolOp .And [a] pos) tA := by
  intro wh pins s σ H Q I h
  refine isTrue_and (thn (ha pins s σ H Q I h) fun c s1 e => ?_)
  cases c with
  | true => exact isTrue_and_nil e
  | false => exact e
theorem pw_or1 (ha : PT X a tA) : PW X (.BoolOp .Or [a] pos) tA := by
  intro wh pins s σ H Q I h
  refine isTrue_or (thn (ha pins s σ H Q I h) fun c s1 e => ?_)
  cases c with
  | false => exact isTrue_or_nil e
  | true => exact e
theorem pw_and (ha : PT X a tA) (hb : PW X (.BoolOp .And (b :: rest) pos) tB') : PW X (.BoolOp .And (a :: b :: rest) pos) (tAnd tA tB') := by
  intro wh pins s σ H Q I h
  refine isTrue_and (thn (ha pins s σ H _ I h) fun c s1 ⟨H1, I1, q1⟩ => ?_)
  cases c with
  | true => exact hb wh pins s1 σ H1 Q I1 q1
  | false => exact ⟨H1, I1, q1⟩
theorem pw_or (ha : PT X a tA) (hb : PW X (.BoolOp .Or (b :: rest) pos) tB') : PW X (.BoolOp .Or (a :: b :: rest) pos) (tOr tA tB') := by
  intro wh pins s σ H Q I h
  refine isTrue_or (thn (ha pins s σ H _ I h) fun c s1 ⟨H1, I1, q1⟩ => ?_)
  cases c with
  | true => exact ⟨H1, I1, q1⟩
  | false => exact hb wh pins s1 σ H1 Q I1 q1
theorem pt_not (ha : PT X a tA) : PT X (.UnaryOp .Not a pos) (tNot tA) := by
  intro pins s σ H Q I h
  exact isTrue_not (ha pins s σ H (fun c H1 => Q (!c) H1) I h)
/-- .. as values (bools) -/
def tAndV (ta tb : TE) : TE := fun σ H Q => ta σ H fun x H1 => ∃ c, x = .bl c ∧ if c = true then tb σ H1 Q else Q (.bl false) H1
def tOrV (ta tb : TE) : TE := fun σ H Q => ta σ H fun x H1 => ∃ c, x = .bl c ∧ if c = true then Q (.bl true) H1 else tb σ H1 Q
def tNotV (ta : TE) : TE := fun σ H Q => ta σ H fun x H1 => ∃ c, x = .bl c ∧ Q (.bl (!c)) H1
theorem pe_one {op} {t : TE} (h : PE X a t) : PE X (.BoolOp op [a] pos) t := fun pins s σ H Q I hw => BoolOp_one (h pins s σ H Q I hw)
theorem pe_and (ha : PE X a ta) (hb : PE X (.BoolOp .And (b :: rest) pos) tb) : PE X (.BoolOp .And (a :: b :: rest) pos) (tAndV ta tb) := by
  intro pins s σ H Q I h
  refine BoolOp_and (thn (ha pins s σ H _ I h) fun v s1 ⟨x, H1, I1, r1, q1⟩ => ?_)
  obtain ⟨c, rfl, q1⟩ := q1
  cases r1
  refine wpAny_truthy_bool ?_
  cases c with
  | true => exact hb pins s1 σ H1 Q I1 q1
  | false => exact ⟨.bl false, H1, I1, rfl, q1⟩
theorem pe_or (ha : PE X a ta) (hb : PE X (.BoolOp .Or (b :: rest) pos) tb) : PE X (.BoolOp .Or (a :: b :: rest) pos) (tOrV ta tb) := by
  intro pins s σ H Q I h
  refine BoolOp_or (thn (ha pins s σ H _ I h) fun v s1 ⟨x, H1, I1, r1, q1⟩ => ?_)
  obtain ⟨c, rfl, q1⟩ := q1
  cases r1
  refine wpAny_truthy_bool ?_
  cases c with
  | false => exact hb pins s1 σ H1 Q I1 q1
  | true => exact ⟨.bl true, H1, I1, rfl, q1⟩
theorem pe_not (ha : PE X a ta) : PE X (.UnaryOp .Not a pos) (tNotV ta) := by
  intro pins s σ H Q I h
  refine UnaryOp_ (thn (ha pins s σ H _ I h) fun v s1 ⟨x, H1, I1, r1, q1⟩ => ?_)
  obtain ⟨c, rfl, q1⟩ := q1
  cases r1
  exact not_of (wpAny_truthy_bool ⟨.bl (!c), H1, I1, rfl, q1⟩)
end
end L2

namespace L2
open PySem PySem.Spec PyProof.Rows

/-! ### a list, a tuple that is read: tracked, frozen, or an object of the module -/
def SqL (K : PySem.W.Frag) (H : Hp) (a : Addr) (xs : List V) : Prop :=
  Rd H a (.lst xs) ∨
    ∃ (o : Obj) (its : Array Value) (n : Nat), K.lookup a = some o ∧ o.cls = .type "list" ∧ o.dict = none ∧ o.data = .seq its n ∧ its.size ≤ sizeLine ∧ Vals xs its.toList
def SqT (K : PySem.W.Frag) (H : Hp) (a : Addr) (xs : List V) : Prop :=
  Rd H a (.tup xs) ∨
    ∃ (o : Obj) (its : Array Value) (n : Nat), K.lookup a = some o ∧ o.cls = .type "tuple" ∧ o.data = .seq its n ∧ its.size ≤ sizeLine ∧ Vals xs its.toList
def absV : Value → Option V
  | .none => some .non
  | .bool b => some (.bl b)
  | .int i _ => some (.int i)
  | .str x _ => some (.str x)
  | .bytes b _ => some (.byt b)
  | .float b _ => some (.flt b)
  | .ref a => some (.ref a)
  | .type n => some (.ty n)
  | _ => none
theorem RelV.abs {x : V} {u : Value} (r : RelV x u) : absV u = some x := by
  cases x with
  | non => cases r; rfl
  | bl _ => cases r; rfl
  | int _ => obtain ⟨t, rfl⟩ := r; rfl
  | str _ => obtain ⟨t, rfl⟩ := r; rfl
  | byt _ => obtain ⟨t, rfl⟩ := r; rfl
  | flt _ => obtain ⟨t, rfl⟩ := r; rfl
  | ref _ => cases r; rfl
  | ty _ => cases r; rfl
theorem RelV.inj {x y : V} {u : Value} (r : RelV x u) (q : RelV y u) : x = y := Option.some.inj (r.abs.symm.trans q.abs)
theorem Vals.inj : ∀ {xs ys : List V} {us : List Value}, Vals xs us → Vals ys us → xs = ys
  | _, _, _, .nil, .nil => rfl
  | _, _, _, .cons r t, .cons r' t' => by rw [r.inj r', Vals.inj t t']
section
variable {X : Cx} {pins : List (Addr × Obj)} {σ : St} {H : Hp} {s : Shared} {a : Addr} {xs ys : List V}
theorem SqL.of {K : PySem.W.Frag} (h : H a = some (.lst xs)) : SqL K H a xs := .inl (.inl h)
theorem SqT.of {K : PySem.W.Frag} (h : H a = some (.tup xs)) : SqT K H a xs := .inl (.inl h)
theorem Inv.list (I : Inv X pins σ H s) (h : SqL X.K H a xs) : ∃ its : List Value, Vals xs its ∧ PlainL s.heap a its.toArray ∧ xs.length ≤ sizeLine := by
  rcases h with h | ⟨o, its, n, hk, hc, hd, hs, hz, r⟩
  · obtain ⟨z, its, n, r, e⟩ := h.ok I.hok
    exact ⟨its, r, ⟨_, n, e, rfl, rfl, rfl⟩, z⟩
  · refine ⟨its.toList, r, ⟨o, n, I.kIn a o hk, hc, hd, by simpa using hs⟩, ?_⟩
    have e := r.length
    simp only [Array.length_toList] at e
    omega
theorem Inv.tuple (I : Inv X pins σ H s) (h : SqT X.K H a xs) : ∃ its : List Value, Vals xs its ∧ IsTup s.heap a its.toArray ∧ xs.length ≤ sizeLine := by
  rcases h with h | ⟨o, its, n, hk, hc, hs, hz, r⟩
  · obtain ⟨z, its, r, p⟩ := h.ok I.hok
    exact ⟨its, r, p, z⟩
  · refine ⟨its.toList, r, ⟨o, I.kIn a o hk, hc, n, by simpa using hs⟩, ?_⟩
    have e := r.length
    simp only [Array.length_toList] at e
    omega
theorem Inv.list_inj (I : Inv X pins σ H s) (h : SqL X.K H a xs) (h' : SqL X.K H a ys) : xs = ys := by
  obtain ⟨its, r, ⟨o, n, e, _, _, d⟩, _⟩ := I.list h
  obtain ⟨its', r', ⟨o', n', e', _, _, d'⟩, _⟩ := I.list h'
  rw [e] at e'; cases e'
  rw [d] at d'
  injection d' with d1 _
  have : its = its' := by simpa using congrArg Array.toList d1
  subst this
  exact r.inj r'
theorem Inv.tuple_inj (I : Inv X pins σ H s) (h : SqT X.K H a xs) (h' : SqT X.K H a ys) : xs = ys := by
  obtain ⟨its, r, ⟨o, e, _, n, d⟩, _⟩ := I.tuple h
  obtain ⟨its', r', ⟨o', e', _, n', d'⟩, _⟩ := I.tuple h'
  rw [e] at e'; cases e'
  rw [d] at d'
  injection d' with d1 _
  have : its = its' := by simpa using congrArg Array.toList d1
  subst this
  exact r.inj r'
end

/-! ### another wish about exceptions -/
abbrev Cx.wish (X : Cx) (E : Value → Shared → Prop) : Cx := { X with xe := E }
/-- no exception leaves -/
abbrev Cx.nox (X : Cx) : Cx := X.wish fun _ _ => False
theorem Cx.Ok.wish {X : Cx} (ok : X.Ok) (E : Value → Shared → Prop) : (X.wish E).Ok :=
  ⟨ok.mod, ok.kind, ok.glob, ok.blt, ok.above, ok.inj, ok.has, ok.cab, ok.hd, ok.frames, ok.stk, ok.exf, ok.bs, ok.bsz, ok.noex, ok.exfs, ok.funs, ok.frf⟩
theorem Cx.Ok.unwish {X : Cx} {E : Value → Shared → Prop} (ok : (X.wish E).Ok) : X.Ok :=
  ⟨ok.mod, ok.kind, ok.glob, ok.blt, ok.above, ok.inj, ok.has, ok.cab, ok.hd, ok.frames, ok.stk, ok.exf, ok.bs, ok.bsz, ok.noex, ok.exfs, ok.funs, ok.frf⟩
section
variable {X : Cx} {pins : List (Addr × Obj)} {σ : St} {H : Hp} {s : Shared} {E : Value → Shared → Prop}
theorem Inv.wish (I : Inv X pins σ H s) (E : Value → Shared → Prop) : Inv (X.wish E) pins σ H s := ⟨I.ok.wish E, I.os, I.bare, I.base, I.loc, I.cell, I.free, I.freeC, I.pin, I.hok, I.len⟩
theorem Inv.unwish (I : Inv (X.wish E) pins σ H s) : Inv X pins σ H s := ⟨I.ok.unwish, I.os, I.bare, I.base, I.loc, I.cell, I.free, I.freeC, I.pin, I.hok, I.len⟩
theorem SP.unwish {D : Ends} {f : Flow} {s' : Shared} (h : SP (X.wish E) pins D f s') : SP X pins D f s' := by
  cases f with
  | next => obtain ⟨σ', H', I, q⟩ := h; exact ⟨σ', H', I.unwish, q⟩
  | brk => obtain ⟨σ', H', I, q⟩ := h; exact ⟨σ', H', I.unwish, q⟩
  | cont => obtain ⟨σ', H', I, q⟩ := h; exact ⟨σ', H', I.unwish, q⟩
  | ret u => obtain ⟨v, σ', H', I, r, q⟩ := h; exact ⟨v, σ', H', I.unwish, r, q⟩
theorem PE.nox {e : Expr} {t : TE} (h : PE X.nox e t) : PE X e t := fun pins s σ H Q I hw =>
  wpAny_mono (h pins s σ H Q (I.wish _) hw) (fun _ _ ⟨v, H', I', r, q⟩ => ⟨v, H', I'.unwish, r, q⟩) fun _ _ z => False.elim z
theorem PT.nox {e : Expr} {t : TT} (h : PT X.nox e t) : PT X e t := fun pins s σ H Q I hw =>
  wpAny_mono (h pins s σ H Q (I.wish _) hw) (fun _ _ ⟨H', I', q⟩ => ⟨H', I'.unwish, q⟩) fun _ _ z => False.elim z
theorem PSs.nox {st : List Stmt} {t : TS} (h : PSs X.nox st t) : PSs X st t := fun pins s σ H D I hw =>
  wpAny_mono (h pins s σ H D (I.wish _) hw) (fun _ _ q => q.unwish) fun _ _ z => False.elim z
end

/-! ### blocks and small statements -/
section
variable {X : Cx} {st : Stmt} {rest : List Stmt} {t u : TS} {e : Expr} {te : TE} {pos : Pos}
def tNext : TS := fun D σ H => D.nx σ H
def tSeq (t u : TS) : TS := fun D σ H => t { D with nx := u D } σ H
theorem pss_nil : PSs X [] tNext := fun _ _ σ H _ I h => wpAny_execs_nil ⟨σ, H, I, h⟩
theorem pss_cons (h1 : PS X st t) (h2 : PSs X rest u) : PSs X (st :: rest) (tSeq t u) := by
  intro pins s σ H D I h
  refine wpAny_execs_cons (thn (h1 pins s σ H { D with nx := u D } I h) fun f s1 q => ?_)
  cases f with
  | next =>
    obtain ⟨σ', H', I', q⟩ := q
    exact h2 pins s1 σ' H' D I' q
  | ret v => exact q
  | brk => exact q
  | cont => exact q
theorem pss_one (h1 : PS X st t) : PSs X [st] t := by
  intro pins s σ H D I h
  refine wpAny_execs_cons (thn (h1 pins s σ H D I h) fun f s1 q => ?_)
  cases f with
  | next => exact wpAny_execs_nil q
  | ret v => exact q
  | brk => exact q
  | cont => exact q
/-- in a def's body nothing is shown -/
theorem Inv.quiet {pins : List (Addr × Obj)} {σ : St} {H : Hp} {s : Shared} (I : Inv X pins σ H s) : interactive X.env = false := by simp [interactive, I.ok.kind]
/-- an expression whose value is dropped -/
def tDrop (te : TE) : TS := fun D σ H => te σ H fun _ H1 => D.nx σ H1
theorem ps_expr (he : PE X e te) (hs : swapsWith e none pos.line X.env = pure false := by rfl) : PS X (.Expr e pos) (tDrop te) := by
  intro pins s σ H D I h
  exact wpAny_Expr_any (thn (he pins s σ H _ I h) fun v s1 ⟨x, H1, I1, r1, q1⟩ => ⟨σ, H1, I1, q1⟩) I.quiet hs
def tRet (te : TE) : TS := fun D σ H => te σ H D.rt
theorem ps_ret (he : PE X e te) : PS X (.Return (some e) pos) (tRet te) := by
  intro pins s σ H D I h
  exact wpAny_Return_some (thn (he pins s σ H _ I h) fun v s1 ⟨x, H1, I1, r1, q1⟩ => ⟨x, σ, H1, I1, r1, q1⟩)
def tIfS (c : TT) (t u : TS) : TS := fun D σ H => c σ H fun b H1 => if b = true then t D σ H1 else u D σ H1
theorem ps_if {c : Expr} {a b : List Stmt} {tc : TT} (hc : PT X c tc) (ha : PSs X a t) (hb : PSs X b u) : PS X (.If c a b pos) (tIfS tc t u) := by
  intro pins s σ H D I h
  refine wpAny_If (thn (hc pins s σ H _ I h) fun d s1 ⟨H1, I1, q1⟩ => ?_)
  cases d with
  | true => exact ha pins s1 σ H1 D I1 q1
  | false => exact hb pins s1 σ H1 D I1 q1
/-- code that the proof never comes to -/
def tNever : TS := fun _ _ _ => False
theorem ps_never : PS X st tNever := fun _ _ _ _ _ _ h => h.elim
end

/-! ### targets -/
abbrev TG := V → St → Hp → (St → Hp → Prop) → Prop
abbrev TGs := List V → St → Hp → (St → Hp → Prop) → Prop
def PG (X : Cx) (target : Expr) (t : TG) : Prop :=
  ∀ (pins : List (Addr × Obj)) (s : Shared) (σ : St) (H : Hp) (v : V) (u : Value) (Q : St → Hp → Prop), Inv X pins σ H s → RelV v u → t v σ H Q →
    wpAny (model X.prog X.w) X.A (assign target X.env u) (fun _ s' => ∃ σ' H', Inv X pins σ' H' s' ∧ Q σ' H') X.xe s
/-- several targets, one after another -/
def PGs (X : Cx) (ts : List Expr) (t : TGs) : Prop :=
  ∀ (pins : List (Addr × Obj)) (s : Shared) (σ : St) (H : Hp) (vs : List V) (us : List Value) (Q : St → Hp → Prop), Inv X pins σ H s → Vals vs us → t vs σ H Q →
    wpAny (model X.prog X.w) X.A (assignInOrder ((assignEach ts X.env).map (·.2)) us) (fun _ s' => ∃ σ' H', Inv X pins σ' H' s' ∧ Q σ' H') X.xe s
section
variable {X : Cx} {pos : Pos}
def gName (i : Nat) : TG := fun v σ H Q => Q (σ.set i (some v)) H
theorem pg_name {i : Nat} {x : Str} (hN : X.N.Nodup) (hi : X.N[i]? = some x) (hx : Loc X.env.scope x) (hf : X.fn x = true ∨ X.env.scope.names.lookup x = some .local := by first | exact .inl rfl | exact .inr rfl | assumption) : PG X (.Name x pos) (gName i) := by
  intro pins s σ H v u Q I r h
  exact wpAny_assign_Name (store_ok I hN hi hx r (fun s' I' => ⟨_, H, I', h⟩) hf)
def gNil : TGs := fun vs σ H Q => vs = [] ∧ Q σ H
def gCons (t : TG) (u : TGs) : TGs := fun vs σ H Q => ∃ v r, vs = v :: r ∧ t v σ H fun σ' H' => u r σ' H' Q
theorem pgs_nil : PGs X [] gNil := by
  intro pins s σ H vs us Q I r h
  obtain ⟨e, h⟩ := h
  subst e
  cases r
  exact assignInOrder_nil ⟨σ, H, I, h⟩
theorem pgs_cons {e : Expr} {es : List Expr} {t : TG} {u : TGs} (h1 : PG X e t) (h2 : PGs X es u)
    (hs : (assignEach (e :: es) X.env).map (·.2) = assign e X.env :: (assignEach es X.env).map (·.2) := by rfl) : PGs X (e :: es) (gCons t u) := by
  intro pins s σ H vs us Q I r h
  obtain ⟨v, vr, e1, h⟩ := h
  subst e1
  cases r with
  | cons r rr =>
    rw [hs]
    refine assignInOrder_cons (thn (h1 pins s σ H _ _ _ I r h) fun _ s1 ⟨σ1, H1, I1, q1⟩ => ?_)
    exact h2 pins s1 σ1 H1 _ _ Q I1 rr q1
/-- (a, b, ..) = a tuple of that length -/
def gTup (K : PySem.W.Frag) (n : Nat) (t : TGs) : TG := fun v σ H Q => ∃ a xs, v = .ref a ∧ SqT K H a xs ∧ xs.length = n ∧ t xs σ H Q
theorem pg_tup {es : List Expr} {k : Nat} {t : TGs} {n : Nat} (hc : X.calm = true) (h : PGs X es t)
    (hn : (assignEach es X.env).length = n := by rfl) (hst : (assignEach es X.env).findIdx? (·.1) = none := by rfl) : PG X (.Tuple es k pos) (gTup X.K n t) := by
  intro pins s σ H v u Q I r hw
  obtain ⟨a, xs, e1, hq, hl, hw⟩ := hw
  subst e1
  cases r
  obtain ⟨its, rv, ht, hz⟩ := I.tuple hq
  refine assign_Tuple_tuple (I.ok.hd hc) ht (by simp [hn, ← hl, rv.length]) hst fun h' hx => ?_
  have I1 : Inv X pins σ H { s with heap := h' } := I.kept (t' := s.toks) fun b o e => hx b o (Nat.ne_of_lt (Heap.lt_size e)) e
  exact h pins _ σ H xs _ Q I1 (by simpa using rv) hw
/-- target = value -/
def tAsg (te : TE) (g : TG) : TS := fun D σ H => te σ H fun x H1 => g x σ H1 D.nx
/-- name = value -/
theorem ps_set {i : Nat} {x : Str} {e : Expr} {te : TE} {pos' : Pos} (hN : X.N.Nodup) (hi : X.N[i]? = some x) (hx : Loc X.env.scope x) (he : PE X e te) (hs : swapsWith e (some (.Name x pos')) pos.line X.env = pure false := by rfl) (hf : X.fn x = true ∨ X.env.scope.names.lookup x = some .local := by first | exact .inl rfl | exact .inr rfl | assumption) :
    PS X (.Assign [.Name x pos'] e pos) (tAsg te (gName i)) := by
  intro pins s σ H D I h
  refine wpAny_Assign_Name (thn (he pins s σ H _ I h) fun v s1 ⟨y, H1, I1, r1, q1⟩ => ?_) hs
  exact store_ok I1 hN hi hx r1 (fun s2 I2 => ⟨_, H1, I2, q1⟩) hf
end

/-! ### while -/
section
variable {X : Cx} {pos : Pos}
/-- the invariant W with its measure -/
def tWhile (c : TT) (tb : TS) : TS := fun D σ H => ∃ W : Nat → St → Hp → Prop, (∃ m, W m σ H) ∧ ∀ m σ H, W m σ H →
  c σ H fun b H1 => if b = true then ∃ N : St → Hp → Prop, (∀ σ' H', N σ' H' → ∃ m', m' < m ∧ W m' σ' H') ∧ tb { D with nx := N, ct := N, bk := D.nx } σ H1 else D.nx σ H1
theorem ps_while {c : Expr} {body : List Stmt} {tc : TT} {tb : TS} (hp : PassesOwn (model X.prog X.w) X.A X.env X.xe) (hc : PT X c tc) (hb : PSs X body tb) : PS X (.While c body [] pos) (tWhile tc tb) := by
  intro pins s σ H D I h
  obtain ⟨W, ⟨m0, w0⟩, turn⟩ := h
  refine wpAny_While (codeAny_whileLoop (fun n s' => ∃ σ' H', Inv X pins σ' H' s' ∧ W n σ' H') ?_ m0 ⟨σ, H, I, w0⟩)
  rintro n s1 ⟨σ1, H1, I1, w1⟩
  refine wpAny_passesOwn hp (thn (hc pins s1 σ1 H1 _ I1 (turn n σ1 H1 w1)) fun b s2 ⟨H2, I2, q2⟩ => ?_)
  cases b with
  | true =>
    obtain ⟨N, hN, q2⟩ := q2
    rw [if_pos rfl]
    refine wpAny_passesOwn hp (thn (hb pins s2 σ1 H2 _ I2 q2) fun f s3 q3 => ?_)
    cases f with
    | next =>
      obtain ⟨σ3, H3, I3, n3⟩ := q3
      obtain ⟨m', hm, w3⟩ := hN σ3 H3 n3
      exact ⟨m', hm, σ3, H3, I3, w3⟩
    | cont =>
      obtain ⟨σ3, H3, I3, n3⟩ := q3
      obtain ⟨m', hm, w3⟩ := hN σ3 H3 n3
      exact ⟨m', hm, σ3, H3, I3, w3⟩
    | brk => exact q3
    | ret v => exact q3
  | false =>
    rw [if_neg Bool.false_ne_true]
    exact wpAny_execs_nil ⟨σ1, H2, I2, q2⟩
end

/-! ### what a loop or a comprehension walks -/
/-- at turn i: it yields x (the heap may grow), or it stops -/
structure It where
  go : Nat → Hp → Prop
  yld : Nat → Hp → V → Hp → Prop
  stop : Nat → Hp → Prop
/-- the iterator's own objects may turn: they are not the frame's, not pinned, younger than the entry (or a comprehension's own) -/
def FpOk (X : Cx) (pins : List (Addr × Obj)) (H : Hp) (b : Addr) : Prop :=
  H b = none ∧ b ≠ X.env.locals ∧ b ∉ X.fs ∧ (b ∈ X.ex ∨ X.s₀.heap.objs.size ≤ b) ∧ (∀ x c, X.env.cells.lookup x = some c → c ≠ b) ∧ ∀ p ∈ X.pn ++ pins, p.1 ≠ b
theorem Inv.fpOk {X : Cx} {pins : List (Addr × Obj)} {σ : St} {H H' : Hp} {s : Shared} {b : Addr} (I : Inv X pins σ H s) (hb : s.heap.objs.size ≤ b) (hn : H' b = none) : FpOk X pins H' b := by
  refine ⟨hn, Nat.ne_of_gt (Nat.lt_of_lt_of_le I.lt hb), I.nofs hb, .inr (Nat.le_trans I.sz hb), fun x c e z => ?_, fun p hp z => ?_⟩
  · obtain ⟨v, q⟩ := I.cell x c e
    exact absurd (Nat.lt_of_lt_of_le q.lt (by rw [z]; exact hb)) (Nat.lt_irrefl _)
  · exact absurd (Nat.lt_of_lt_of_le (Heap.lt_size (I.pin p hp).1) (by rw [z]; exact hb)) (Nat.lt_irrefl _)
structure Turn (P : Program) (w : World) (K : PySem.W.Frag) (tg : Expr) (J : It) (fp : List Addr) (it : Addr) (tn : Nat → Heap → Prop) : Prop where
  mem : it ∈ fp
  obj : ∀ i h, tn i h → ∀ b ∈ fp, ∃ o, h.get? b = some o ∧ ∀ v, o.data ≠ .cell v
  keep : ∀ i h h', tn i h → (∀ b ∈ fp, ∀ o, h.get? b = some o → h'.get? b = some o) → tn i h'
  item : ∀ (X : Cx), X.prog = P → X.w = w → X.K = K → X.calm = true → ∀ (i : Nat) (pins : List (Addr × Obj)) (s : Shared) (σ : St) (H : Hp) (E : Value → Shared → Prop), Inv X pins σ H s → (∀ b ∈ fp, FpOk X pins H b) → tn i s.heap → J.go i H →
    wpAny (model P w) X.A (pyNext (.ref it)) (fun r s1 => ∃ u, r = some u ∧
      wpAny (model P w) X.A (letOwnedTupleGo tg (.ref it) u) (fun _ s2 => ∃ x H', Inv X pins σ H' s2 ∧ RelV x u ∧ J.yld i H x H' ∧ tn (i + 1) s2.heap ∧ ∀ b ∈ fp, H' b = none) E s1) E s
  done : ∀ (X : Cx), X.prog = P → X.w = w → X.K = K → X.calm = true → ∀ (i : Nat) (pins : List (Addr × Obj)) (s : Shared) (σ : St) (H : Hp) (E : Value → Shared → Prop), Inv X pins σ H s → (∀ b ∈ fp, FpOk X pins H b) → tn i s.heap → J.stop i H →
    wpAny (model P w) X.A (pyNext (.ref it)) (fun r s1 => r = none ∧ Inv X pins σ H s1) E s
  self : ∀ (A : Around) (i : Nat) (s : Shared) (Q : Value → Shared → Prop) (E : Value → Shared → Prop), tn i s.heap → Q (.ref it) s → wpAny (model P w) A (pyIter (.ref it)) Q E s
abbrev TI := St → Hp → (It → Hp → Prop) → Prop
/-- an iterator has come -/
def PIE (X : Cx) (pins : List (Addr × Obj)) (σ : St) (tg : Expr) (R : It → Hp → Prop) (itv : Value) (s2 : Shared) : Prop :=
  ∃ (it : Addr) (fp : List Addr) (tn : Nat → Heap → Prop) (J : It) (H' : Hp), itv = .ref it ∧ Inv X pins σ H' s2 ∧ Turn X.prog X.w X.K tg J fp it tn ∧ tn 0 s2.heap ∧ (∀ b ∈ fp, FpOk X pins H' b) ∧ R J H'
def PI (X : Cx) (tg iter : Expr) (wi : TI) : Prop :=
  ∀ (pins : List (Addr × Obj)) (s : Shared) (σ : St) (H : Hp) (R : It → Hp → Prop), Inv X pins σ H s → wi σ H R →
    wpAny (model X.prog X.w) X.A (eval iter X.env) (fun v s1 => wpAny (model X.prog X.w) X.A (pyIter v) (PIE X pins σ tg R) X.xe s1) X.xe s

/-- the step ahead of the store is nothing for an iterator that keeps no tuple -/
theorem go_of {M : Model} {A : Around} {E : Value → Shared → Prop} {s : Shared} {tg : Expr} {it : Addr} {u : Value} {o : Obj} {n : String} {vs : Array Value} {Q : Unit → Shared → Prop} (ho : s.heap.get? it = some o) (hc : o.cls = .type n) (hd : o.data = .fields vs)
    (hn : ["enumerate", "zip", "dict_itemiterator", "dict_reverseitemiterator", "odict_iterator", "itertools.zip_longest", "itertools.pairwise"].contains n = false) (hQ : Q () s) : wpAny M A (letOwnedTupleGo tg (.ref it) u) Q E s := by
  unfold letOwnedTupleGo
  cases tg <;> first
    | exact wpAny_pure hQ
    | (cases u <;> first
        | exact wpAny_pure hQ
        | (refine wpAny_bind (wpAny_load ho ?_)
           rw [hc, hd]
           show wpAny M A (if (["enumerate", "zip", "dict_itemiterator", "dict_reverseitemiterator", "odict_iterator", "itertools.zip_longest", "itertools.pairwise"].contains n && vs[0]? == some (rawInt _)) = true then _ else _) Q E s
           rw [if_neg (by intro h; rw [hn, Bool.false_and] at h; cases h)]
           exact wpAny_pure hQ))

def Itt (K : PySem.W.Frag) (a : Addr) : It :=
  ⟨fun i H => ∃ xs x, SqT K H a xs ∧ xs[i]? = some x, fun i H x H' => H' = H ∧ ∀ xs, SqT K H a xs → xs[i]? = some x, fun i H => ∃ xs, SqT K H a xs ∧ xs.length ≤ i⟩
/-- lo, lo + 1, .. (n of them) -/
def Itr (lo : Int) (n : Nat) : It := ⟨fun i _ => i < n, fun i H x H' => H' = H ∧ x = .int (lo + i), fun i _ => n ≤ i⟩
theorem turn_tuple {P : Program} {w : World} {K : PySem.W.Frag} {tg : Expr} (a it : Addr) : Turn P w K tg (Itt K a) [it] it (fun i h => h.IsTupleIter it a i) where
  mem := by simp
  obj := fun i h st b hb => by
    have e : b = it := by simpa using hb
    subst e
    obtain ⟨o, e, c, d⟩ := st
    exact ⟨o, e, fun v z => by rw [d] at z; cases z⟩
  keep := fun i h h' st k => st.at fun o e => k it (by simp) o e
  item := by
    intro X hP hw hK hc i pins s σ H E I hf st hg
    subst hP hw hK
    obtain ⟨xs, x, hq, hx⟩ := hg
    obtain ⟨its, rv, p, hz⟩ := I.tuple hq
    obtain ⟨u, hu, ru⟩ := rv.get hx
    obtain ⟨f0, f1, f2, f3, f4, f5⟩ := hf it (by simp)
    refine wpAny_pyNext_tuple_item st (show s.heap.IsTuple a its.toArray from p) (x := u) (by simpa using hu) fun h' st' sb => ?_
    have I1 : Inv X pins σ H { s with heap := h' } := I.turned (t' := s.toks) (fun b o hb e => (sb.2 b hb).trans e) f0 f1 f3 f4 f5
    obtain ⟨o, e, c, d⟩ := id st'
    exact ⟨u, rfl, go_of (s := { s with heap := h' }) e c d (by decide) ⟨x, H, I1, ru, ⟨rfl, fun ys hy => by rw [I.tuple_inj hy hq]; exact hx⟩, st', fun b hb => (hf b hb).1⟩⟩
  done := by
    intro X hP hw hK hc i pins s σ H E I hf st hg
    subst hP hw hK
    obtain ⟨xs, hq, hx⟩ := hg
    obtain ⟨its, rv, p, hz⟩ := I.tuple hq
    obtain ⟨f0, f1, f2, f3, f4, f5⟩ := hf it (by simp)
    have hl := rv.length
    exact wpAny_pyNext_tuple_end (I.ok.hd hc) st (show s.heap.IsTuple a its.toArray from p) (by simp; omega) fun h' eb => ⟨rfl, I.turned (t' := s.toks) (fun b o hb e => eb b o hb e) f0 f1 f3 f4 f5⟩
  self := fun _ _ _ _ _ st h => wpAny_pyIter_tupleiter st h
theorem turn_range {P : Program} {w : World} {K : PySem.W.Frag} {tg : Expr} (it : Addr) (lo : Int) (n : Nat) : Turn P w K tg (Itr lo n) [it] it (fun i h => IsRangeIter h it (lo + (i : Nat) * 1) ((n : Int) - (i : Nat)) 1) where
  mem := by simp
  obj := fun i h st b hb => by
    have e : b = it := by simpa using hb
    subst e
    exact ⟨_, st, fun v z => by
      have z' : Data.fields _ = Data.cell v := z
      cases z'⟩
  keep := fun i h h' st k => k it (by simp) _ st
  item := by
    intro X hP hw hK hc i pins s σ H E I hf st hg
    subst hP hw hK
    obtain ⟨f0, f1, f2, f3, f4, f5⟩ := hf it (by simp)
    have W := Walks.range (prog := X.prog) (w := X.w) (I.ok.hd hc) it lo 1 n
    refine W.item i s _ _ hg st fun v h' tk hv st' kk => ?_
    obtain ⟨t, rfl⟩ := hv
    have I1 : Inv X pins σ H { s with heap := h', toks := tk } := I.turned (fun b o hb e => kk b o (by simpa using hb) e) f0 f1 f3 f4 f5
    refine ⟨_, rfl, go_of (s := { s with heap := h', toks := tk }) (n := "range_iterator") st' rfl rfl (by decide) ⟨.int (lo + i), H, I1, ⟨t, ?_⟩, ⟨rfl, rfl⟩, st', fun b hb => (hf b hb).1⟩⟩
    rw [Int.mul_one]
  done := by
    intro X hP hw hK hc i pins s σ H E I hf st hg
    subst hP hw hK
    obtain ⟨f0, f1, f2, f3, f4, f5⟩ := hf it (by simp)
    exact wpAny_pyNext_range_end (I.ok.hd hc) st (by have : n ≤ i := hg; omega) fun h' eb => ⟨rfl, I.turned (t' := s.toks) (fun b o hb e => eb b o hb e) f0 f1 f3 f4 f5⟩
  self := fun _ _ _ _ _ st h => wpAny_pyIter_rangeiter st h
end L2

namespace L2
open PySem PySem.Spec PyProof.Rows
section
variable {X : Cx} {tg : Expr}
def iTup (K : PySem.W.Frag) (tl : TE) : TI := fun σ H R => tl σ H fun x H1 => ∃ a, x = .ref a ∧ (∃ xs, SqT K H1 a xs) ∧ R (Itt K a) H1
theorem pi_tup {l : Expr} {tl : TE} (hl : PE X l tl) : PI X tg l (iTup X.K tl) := by
  intro pins s σ H R I h
  refine thn (hl pins s σ H _ I h) fun v s1 ⟨x, H1, I1, r1, q1⟩ => ?_
  obtain ⟨a, e, ⟨xs, hq⟩, q⟩ := q1
  subst e
  cases r1
  obtain ⟨its, rv, p, hz⟩ := I1.tuple hq
  refine wpAny_pyIter_tuple (show s1.heap.IsTuple a its.toArray from p) ?_
  refine ⟨s1.heap.objs.size, [s1.heap.objs.size], _, _, H1, rfl, I1.kept (t' := s1.toks) fun b o e => Heap.get?_push_of_some _ e, turn_tuple a _, ⟨_, Heap.get?_push_size _ rfl, rfl, rfl⟩, fun b hb => ?_, q⟩
  have e : b = s1.heap.objs.size := by simpa using hb
  subst e
  exact I1.fpOk (Nat.le_refl _) (I1.hok.fresh (Nat.le_refl _))
/-- a range object just made, walked -/
theorem range_it {pins : List (Addr × Obj)} {σ : St} {H : Hp} {s : Shared} {R : It → Hp → Prop} {E : Value → Shared → Prop} {lo hi : Int} {t u v : Tok} {tk : Nat} (I : Inv X pins σ H s) (h1 : -(2 ^ 62) ≤ lo) (h2 : lo < 2 ^ 62) (h3 : -(2 ^ 62) ≤ hi) (h4 : hi < 2 ^ 62)
    (q : R (Itr lo (hi - lo).toNat) H) : wpAny (model X.prog X.w) X.A (pyIter (.ref s.heap.objs.size)) (PIE X pins σ tg R) E { s with heap := s.heap.push { cls := .type "range", data := .fields #[.int lo t, .int hi u, .int 1 v] }, toks := tk } := by
  refine wpAny_pyIter_range (IsRange.new ..) (small_one h1 h2 h3 h4) ?_
  have I1 : Inv X pins σ H { s with heap := s.heap.push { cls := .type "range", data := .fields #[.int lo t, .int hi u, .int 1 v] }, toks := tk } := I.kept fun b o e => Heap.get?_push_of_some _ e
  refine ⟨(s.heap.push { cls := .type "range", data := .fields #[.int lo t, .int hi u, .int 1 v] }).objs.size, [(s.heap.push { cls := .type "range", data := .fields #[.int lo t, .int hi u, .int 1 v] }).objs.size], _, _, H, rfl,
    I1.kept (t' := tk) fun b o e => Heap.get?_push_of_some _ e, turn_range _ lo (hi - lo).toNat, ?_, fun b hb => ?_, q⟩
  · have e1 : lo + ((0 : Nat) : Int) * 1 = lo := by simp
    have e2 : (((hi - lo).toNat : Nat) : Int) - ((0 : Nat) : Int) = Builtin.Range.rangeSize lo hi 1 := by rw [rangeSize_one]; split <;> omega
    show IsRangeIter _ _ (lo + ((0 : Nat) : Int) * 1) ((((hi - lo).toNat : Nat) : Int) - ((0 : Nat) : Int)) 1
    rw [e1, e2]
    exact Heap.get?_push_size _ rfl
  · have e : b = (s.heap.push { cls := .type "range", data := .fields #[.int lo t, .int hi u, .int 1 v] }).objs.size := by simpa using hb
    subst e
    exact I1.fpOk (Nat.le_refl _) (I1.hok.fresh (Nat.le_refl _))
def iRng1 (ta : TA) : TI := fun σ H R => ta σ H fun vs H1 => ∃ j : Int, vs = [.int j] ∧ -(2 ^ 62) ≤ j ∧ j < 2 ^ 62 ∧ R (Itr 0 j.toNat) H1
theorem pi_range1 {a : Expr} {ta : TA} {p pos : Pos} (hg : Gl X "range") (hm : X.mg "range" = none) (ha : PA X [a] ta) (hs : starEach [a] X.env = [(false, eval a X.env)] := by rfl) : PI X tg (.Call (.Name "range" p) [a] [] pos) (iRng1 ta) := by
  intro pins s σ H R I h
  refine Call_ (ld_blt I hg hm boot_range (PyProof.Rows.callWith_type1 (thn (ha pos pins s σ H _ I h) fun us s1 ⟨vs, H1, I1, r1, q1⟩ => ?_) hs rfl))
  obtain ⟨j, e, q1, q2, q⟩ := q1
  subst e
  cases r1 with
  | cons r rr =>
    cases rr
    obtain ⟨t, rfl⟩ := r
    exact call_range_1 (range_it I1 (by omega) (by omega) q1 q2 (by simpa using q))
/-! ### for -/
/-- W: the invariant by the turn and a measure; N: what the body is to reach -/
def tFor (wi : TI) (g : TG) (tb : TS) : TS := fun D σ H => wi σ H fun J H1 => ∃ W : Nat → Nat → St → Hp → Prop, (∃ m, W 0 m σ H1) ∧ ∀ i m σ H, W i m σ H →
  (J.stop i H ∧ D.nx σ H) ∨ (J.go i H ∧ ∃ N : St → Hp → Prop, (∀ σ' H', N σ' H' → ∃ m', m' < m ∧ W (i + 1) m' σ' H') ∧ ∀ x H', J.yld i H x H' → g x σ H' fun σ2 H2 => tb { D with nx := N, ct := N, bk := D.nx } σ2 H2)
/-- the records at fp as they stand -/
def pinsAt (fp : List Addr) (h : Heap) : List (Addr × Obj) := fp.filterMap fun b => (h.get? b).map fun o => (b, o)
theorem mem_pinsAt {fp : List Addr} {h : Heap} {b : Addr} {o : Obj} (hb : b ∈ fp) (e : h.get? b = some o) : (b, o) ∈ pinsAt fp h := List.mem_filterMap.mpr ⟨b, hb, by rw [e]; rfl⟩
theorem of_pinsAt {fp : List Addr} {h : Heap} {p : Addr × Obj} (hp : p ∈ pinsAt fp h) : p.1 ∈ fp ∧ h.get? p.1 = some p.2 := by
  obtain ⟨b, hb, e⟩ := List.mem_filterMap.mp hp
  cases q : h.get? b with
  | none => rw [q] at e; cases e
  | some o =>
    rw [q] at e
    have e' : (b, o) = p := Option.some.inj e
    subst e'
    exact ⟨hb, q⟩
theorem Inv.pinned {pins : List (Addr × Obj)} {σ : St} {H : Hp} {s : Shared} {fp : List Addr} (I : Inv X pins σ H s) (hf : ∀ b ∈ fp, FpOk X pins H b) (ho : ∀ b ∈ fp, ∃ o, s.heap.get? b = some o ∧ ∀ v, o.data ≠ .cell v) : Inv X (pins ++ pinsAt fp s.heap) σ H s :=
  I.pins_of fun p hp => (List.mem_append.mp hp).elim (fun z => I.pin p (List.mem_append_right _ z)) fun z => by
    obtain ⟨hb, e⟩ := of_pinsAt z
    obtain ⟨f0, f1, f2, _⟩ := hf p.1 hb
    obtain ⟨o, e', d⟩ := ho p.1 hb
    rw [e] at e'; cases e'
    exact ⟨e, f0, f1, f2, d⟩
theorem Inv.unpinned {pins pl : List (Addr × Obj)} {σ : St} {H : Hp} {s : Shared} (I : Inv X (pins ++ pl) σ H s) : Inv X pins σ H s := I.pins_of fun p hp => I.pin p (List.mem_append_right _ (List.mem_append_left _ hp))
theorem ps_for {iter : Expr} {body : List Stmt} {wi : TI} {g : TG} {tb : TS} {pos : Pos} (hp : PassesOwn (model X.prog X.w) X.A X.env X.xe) (hc : X.calm = true) (hi : PI X tg iter wi) (hg : PG X tg g) (hb : PSs X body tb)
    (hs : ∀ x, foldedSetIterable iter X.env x = pure x := by intro _; rfl) : PS X (.For tg iter body [] pos) (tFor wi g tb) := by
  intro pins s σ H D I h
  refine wpAny_For (thn (hi pins s σ H _ I h) fun v s1 h1 => thn h1 fun itv s2 h2 => ?_) hs
  obtain ⟨it, fp, tn, J, H2, e, I2, T, st2, f2, W, ⟨m0, w0⟩, turn⟩ := h2
  subst e
  -- what stays true of the iterator's objects through the loop
  have stat : ∀ {H' : Hp}, (∀ b ∈ fp, H' b = none) → ∀ b ∈ fp, FpOk X pins H' b := fun hn b hb => ⟨hn b hb, (f2 b hb).2⟩
  refine codeAny_forLoop_any (fun n s' => ∃ i σ' H', Inv X pins σ' H' s' ∧ tn i s'.heap ∧ (∀ b ∈ fp, H' b = none) ∧ W i n σ' H') ?_ m0 ⟨0, σ, H2, I2, st2, fun b hb => (f2 b hb).1, w0⟩
  rintro n s3 ⟨i, σ3, H3, I3, st3, fr3, w3⟩
  rcases turn i n σ3 H3 w3 with ⟨stop, qn⟩ | ⟨go, N, hN, step⟩
  · refine wpAny_passesOwn hp (thn (T.done X rfl rfl rfl hc i pins s3 σ3 H3 X.xe I3 (stat fr3) st3 stop) fun r s4 ⟨hr, I4⟩ => ?_)
    subst hr
    exact wpAny_execs_nil ⟨σ3, H3, I4, qn⟩
  · refine wpAny_passesOwn hp (thn (T.item X rfl rfl rfl hc i pins s3 σ3 H3 X.xe I3 (stat fr3) st3 go) fun r s4 ⟨u, hr, h4⟩ => ?_)
    subst hr
    refine wpAny_passesOwn hp (thn h4 fun _ s5 ⟨x, H5, I5, r5, y5, st5, fr5⟩ => ?_)
    have I5' := I5.pinned (stat fr5) (T.obj _ _ st5)
    refine wpAny_passesOwn hp (thn (hg _ s5 σ3 H5 x u _ I5' r5 (step x H5 y5)) fun _ s6 ⟨σ6, H6, I6, q6⟩ => ?_)
    refine wpAny_passesOwn hp (thn (hb _ s6 σ6 H6 _ I6 q6) fun f s7 q7 => ?_)
    have again : ∀ {σ7 : St} {H7 : Hp}, Inv X (pins ++ pinsAt fp s5.heap) σ7 H7 s7 → N σ7 H7 → ∃ m, m < n ∧ ∃ i σ' H', Inv X pins σ' H' s7 ∧ tn i s7.heap ∧ (∀ b ∈ fp, H' b = none) ∧ W i m σ' H' := fun {σ7 H7} I7 n7 => by
      obtain ⟨m', hm, w7⟩ := hN σ7 H7 n7
      refine ⟨m', hm, i + 1, σ7, H7, I7.unpinned, T.keep _ _ _ st5 fun b hb o e => (I7.pin (b, o) (List.mem_append_right _ (List.mem_append_right _ (mem_pinsAt hb e)))).1, fun b hb => ?_, w7⟩
      obtain ⟨o, e, d⟩ := T.obj _ _ st5 b hb
      exact (I7.pin (b, o) (List.mem_append_right _ (List.mem_append_right _ (mem_pinsAt hb e)))).2.1
    cases f with
    | next => obtain ⟨σ7, H7, I7, n7⟩ := q7; exact again I7 n7
    | cont => obtain ⟨σ7, H7, I7, n7⟩ := q7; exact again I7 n7
    | brk => obtain ⟨σ7, H7, I7, q7⟩ := q7; exact ⟨σ7, H7, I7.unpinned, q7⟩
    | ret v => obtain ⟨x7, σ7, H7, I7, r7, q7⟩ := q7; exact ⟨x7, σ7, H7, I7.unpinned, r7, q7⟩
end

/-! ### the forms one uses -/
theorem for_tup {K : PySem.W.Frag} {a : Addr} {xs : List V} {g : TG} {tb : TS} {D : Ends} {σ : St} {H : Hp} (Pv : Nat → St → Hp → Prop) (h0 : Pv 0 σ H) (hl : ∀ i σ H, i ≤ xs.length → Pv i σ H → SqT K H a xs)
    (hs : ∀ i x σ H, xs[i]? = some x → Pv i σ H → g x σ H fun σ2 H2 => tb { D with nx := Pv (i + 1), ct := Pv (i + 1), bk := D.nx } σ2 H2) (hd : ∀ σ H, Pv xs.length σ H → D.nx σ H) :
    ∃ W : Nat → Nat → St → Hp → Prop, (∃ m, W 0 m σ H) ∧ ∀ i m σ H, W i m σ H →
      ((Itt K a).stop i H ∧ D.nx σ H) ∨ ((Itt K a).go i H ∧ ∃ N : St → Hp → Prop, (∀ σ' H', N σ' H' → ∃ m', m' < m ∧ W (i + 1) m' σ' H') ∧ ∀ x H', (Itt K a).yld i H x H' → g x σ H' fun σ2 H2 => tb { D with nx := N, ct := N, bk := D.nx } σ2 H2) := by
  refine ⟨fun i m σ H => m = xs.length - i ∧ i ≤ xs.length ∧ Pv i σ H, ⟨xs.length, by simp, Nat.zero_le _, h0⟩, ?_⟩
  rintro i m σ H ⟨rfl, hi, p⟩
  have q := hl i σ H hi p
  by_cases hlt : i < xs.length
  · refine .inr ⟨⟨xs, xs[i], q, by simp [hlt]⟩, Pv (i + 1), fun σ' H' p' => ⟨xs.length - (i + 1), by omega, rfl, hlt, p'⟩, fun x H' y => ?_⟩
    obtain ⟨e, y⟩ := y
    subst e
    exact hs i x σ _ (y xs q) p
  · have e : i = xs.length := by omega
    subst e
    exact .inl ⟨⟨xs, q, Nat.le_refl _⟩, hd σ H p⟩
theorem for_range {lo : Int} {n : Nat} {g : TG} {tb : TS} {D : Ends} {σ : St} {H : Hp} (Pv : Nat → St → Hp → Prop) (h0 : Pv 0 σ H)
    (hs : ∀ i σ H, i < n → Pv i σ H → g (.int (lo + i)) σ H fun σ2 H2 => tb { D with nx := Pv (i + 1), ct := Pv (i + 1), bk := D.nx } σ2 H2) (hd : ∀ σ H, Pv n σ H → D.nx σ H) :
    ∃ W : Nat → Nat → St → Hp → Prop, (∃ m, W 0 m σ H) ∧ ∀ i m σ H, W i m σ H →
      ((Itr lo n).stop i H ∧ D.nx σ H) ∨ ((Itr lo n).go i H ∧ ∃ N : St → Hp → Prop, (∀ σ' H', N σ' H' → ∃ m', m' < m ∧ W (i + 1) m' σ' H') ∧ ∀ x H', (Itr lo n).yld i H x H' → g x σ H' fun σ2 H2 => tb { D with nx := N, ct := N, bk := D.nx } σ2 H2) := by
  refine ⟨fun i m σ H => m = n - i ∧ i ≤ n ∧ Pv i σ H, ⟨n, by simp, Nat.zero_le _, h0⟩, ?_⟩
  rintro i m σ H ⟨rfl, hi, p⟩
  by_cases hlt : i < n
  · refine .inr ⟨hlt, Pv (i + 1), fun σ' H' p' => ⟨n - (i + 1), by omega, rfl, hlt, p'⟩, fun x H' y => ?_⟩
    obtain ⟨e, y⟩ := y
    subst e y
    exact hs i σ _ hlt p
  · have e : i = n := by omega
    subst e
    exact .inl ⟨Nat.le_refl _, hd σ H p⟩
end L2

namespace L2
open PySem PySem.Spec PyProof.Rows

abbrev R2 := V → V → Hp → VK → Prop
/-- a two-place operation on values: f is binaryOp op, inplaceOp op or compareOp op -/
def OpR (X : Cx) (f : Value → Value → Sem Value) (r : R2) : Prop :=
  ∀ (pins : List (Addr × Obj)) (s : Shared) (σ : St) (H : Hp) (x y : V) (v u : Value) (Q : VK), Inv X pins σ H s → RelV x v → RelV y u → r x y H Q →
    wpAny (model X.prog X.w) X.A (f v u) (EP X pins σ Q) X.xe s
/-- a call of a value that is known (a builtin, a type) with values -/
def CallR (X : Cx) (f : Value) (r : List V → Hp → VK → Prop) : Prop :=
  ∀ (pins : List (Addr × Obj)) (s : Shared) (σ : St) (H : Hp) (xs : List V) (us : List Value) (Q : VK), Inv X pins σ H s → Vals xs us → r xs H Q →
    wpAny (model X.prog X.w) X.A (call f us) (EP X pins σ Q) X.xe s
def tOp (r : R2) (ta tb : TE) : TE := fun σ H Q => ta σ H fun x H1 => tb σ H1 fun y H2 => r x y H2 Q
/-- ints in, under C, and a value out -/
def rI (C : Int → Int → Prop) (g : Int → Int → V) : R2 := fun x y H Q => ∃ i j, x = .int i ∧ y = .int j ∧ C i j ∧ Q (g i j) H
def rI0 (g : Int → Int → V) : R2 := fun x y H Q => ∃ i j, x = .int i ∧ y = .int j ∧ Q (g i j) H
section
variable {X : Cx} {a b c : Expr} {ta tb tc : TE} {pos : Pos}

theorem binT (ha : PE X a ta) (hb : PE X b tb) {pins : List (Addr × Obj)} {s : Shared} {σ : St} {H : Hp} {R : V → V → Hp → Prop} (I : Inv X pins σ H s)
    (h : ta σ H fun x H1 => tb σ H1 fun y H2 => R x y H2) {Q : Value → Shared → Prop} {f : Value → Value → Sem Value}
    (hf : ∀ v u s2 x y H2, Inv X pins σ H2 s2 → RelV x v → RelV y u → R x y H2 → wpAny (model X.prog X.w) X.A (f v u) Q X.xe s2) :
    wpAny (model X.prog X.w) X.A (eval a X.env) (fun v s₁ => wpAny (model X.prog X.w) X.A (eval b X.env) (fun u s₂ => wpAny (model X.prog X.w) X.A (f v u) Q X.xe s₂) X.xe s₁) X.xe s := by
  refine thn (ha pins s σ H _ I h) fun v s1 ⟨x, H1, I1, r1, q1⟩ => ?_
  refine thn (hb pins s1 σ H1 _ I1 q1) fun u s2 ⟨y, H2, I2, r2, q2⟩ => ?_
  exact hf v u s2 x y H2 I2 r1 r2 q2

theorem pe_op {op : Operator} {r : R2} (ho : OpR X (binaryOp op) r) (ha : PE X a ta) (hb : PE X b tb) : PE X (.BinOp a op b pos) (tOp r ta tb) := by
  intro pins s σ H Q I h
  exact wpAny_BinOp (binT ha hb I h fun v u s2 x y H2 I2 rx ry q => ho pins s2 σ H2 x y v u Q I2 rx ry q)
/-! ### ints -/
theorem opI {f : Value → Value → Sem Value} {C : Int → Int → Prop} {g : Int → Int → Int}
    (rule : ∀ (i j : Int) (t u : Tok) (s : Shared) (Q : Value → Shared → Prop) (E : Value → Shared → Prop), C i j → Q (.int (g i j) s.toks) { s with toks := s.toks + 1 } → wpAny (model X.prog X.w) X.A (f (.int i t) (.int j u)) Q E s) :
    OpR X f (rI C fun i j => .int (g i j)) := by
  intro pins s σ H x y v u Q I rx ry h
  obtain ⟨i, j, rfl, rfl, hc, q⟩ := h
  obtain ⟨t, rfl⟩ := rx
  obtain ⟨t', rfl⟩ := ry
  exact rule i j t t' s _ _ hc ⟨.int (g i j), H, I.tok _, ⟨_, rfl⟩, q⟩
theorem opI0 {f : Value → Value → Sem Value} {g : Int → Int → Int}
    (rule : ∀ (i j : Int) (t u : Tok) (s : Shared) (Q : Value → Shared → Prop) (E : Value → Shared → Prop), Q (.int (g i j) s.toks) { s with toks := s.toks + 1 } → wpAny (model X.prog X.w) X.A (f (.int i t) (.int j u)) Q E s) :
    OpR X f (rI0 fun i j => .int (g i j)) := by
  intro pins s σ H x y v u Q I rx ry h
  obtain ⟨i, j, rfl, rfl, q⟩ := h
  obtain ⟨t, rfl⟩ := rx
  obtain ⟨t', rfl⟩ := ry
  exact rule i j t t' s _ _ ⟨.int (g i j), H, I.tok _, ⟨_, rfl⟩, q⟩
theorem opB0 {f : Value → Value → Sem Value} {g : Int → Int → Bool}
    (rule : ∀ (i j : Int) (t u : Tok) (s : Shared) (Q : Value → Shared → Prop) (E : Value → Shared → Prop), Q (.bool (g i j)) s → wpAny (model X.prog X.w) X.A (f (.int i t) (.int j u)) Q E s) :
    OpR X f (rI0 fun i j => .bl (g i j)) := by
  intro pins s σ H x y v u Q I rx ry h
  obtain ⟨i, j, rfl, rfl, q⟩ := h
  obtain ⟨t, rfl⟩ := rx
  obtain ⟨t', rfl⟩ := ry
  exact rule i j t t' s _ _ ⟨.bl (g i j), H, I, rfl, q⟩

def CDiv (i j : Int) : Prop := 0 < j ∧ j < 1073741824
def CPow (i j : Int) : Prop := 0 ≤ j ∧ j ≤ 1000000 ∧ i.natAbs < 2 ^ 64
def CMul (i j : Int) : Prop := (-(2 ^ 64) < i ∧ i < 2 ^ 64) ∨ (-(2 ^ 64) < j ∧ j < 2 ^ 64)
theorem CMul.ok {i j : Int} (h : CMul i j) : IntMulOk i j := by
  rcases h with ⟨h1, h2⟩ | ⟨h1, h2⟩
  · exact .of_left (intBits_le_64 h1 h2)
  · exact .of_right (intBits_le_64 h1 h2)
theorem op_add : OpR X (binaryOp .Add) (rI0 fun i j => .int (i + j)) := opI0 fun _ _ _ _ _ _ _ q => add_int q
theorem op_sub : OpR X (binaryOp .Sub) (rI0 fun i j => .int (i - j)) := opI0 fun _ _ _ _ _ _ _ q => sub_int q
theorem op_mul : OpR X (binaryOp .Mult) (rI CMul fun i j => .int (i * j)) := opI fun _ _ _ _ _ _ _ hc q => mul_int q hc.ok
/-- // by a positive divisor -/
theorem op_fdiv : OpR X (binaryOp .FloorDiv) (rI CDiv fun i j => .int (i / j)) := opI fun i j _ _ _ _ _ hc q => by
  have h1 : (0 : Int) < j := hc.1
  have h2 : j < 1073741824 := hc.2
  exact floordiv_int (by omega) (by rw [Int.fdiv_eq_ediv_of_nonneg i (by omega)]; exact q) (.inl (PyProof.noPylong_small (by omega)))
/-- % by a positive divisor of any size -/
theorem op_mod : OpR X (binaryOp .Mod) (rI (fun _ j => 0 < j) fun i j => .int (i % j)) := opI fun i j _ _ _ _ _ hc q => by
  have h1 : (0 : Int) < j := hc
  exact mod_int' (by omega) (by rw [Int.fmod_eq_emod_of_nonneg i (by omega)]; exact q)
theorem op_pow : OpR X (binaryOp .Pow) (rI CPow fun i j => .int (i ^ j.toNat)) := opI fun _ _ _ _ _ _ _ hc q => pow_int_small hc.1 hc.2.1 hc.2.2 q
/-! ### bools among ints: n += (a < b) -/
end

/-! ### comparisons -/
/-- the scalars that == tells apart as data does -/
def scal : V → V → Bool
  | .non, .non => true | .non, .int _ => true | .int _, .non => true | .non, .bl _ => true | .bl _, .non => true | .non, .str _ => true | .str _, .non => true
  | .int _, .int _ => true | .bl _, .bl _ => true | .str _, .str _ => true | .byt _, .byt _ => true
  | .int _, .str _ => true | .str _, .int _ => true | .bl _, .str _ => true | .str _, .bl _ => true
  | _, _ => false
def rEq : R2 := fun x y H Q => scal x y = true ∧ Q (.bl (decide (x = y))) H
def rNe : R2 := fun x y H Q => scal x y = true ∧ Q (.bl (!decide (x = y))) H

theorem dec_int {i j : Int} : decide (V.int i = V.int j) = (i == j) := by
  rw [Bool.eq_iff_iff]
  simp
theorem dec_bl {i j : Bool} : decide (V.bl i = V.bl j) = (i == j) := by
  rw [Bool.eq_iff_iff]
  simp
theorem dec_str {i j : Str} : decide (V.str i = V.str j) = (i == j) := by
  rw [Bool.eq_iff_iff]
  simp
theorem dec_byt {i j : Array UInt8} : decide (V.byt i = V.byt j) = (i.toList == j.toList) := by
  rw [Bool.eq_iff_iff]
  cases i
  cases j
  simp

section
variable {X : Cx} {a b c : Expr} {ta tb tc : TE} {pos : Pos}
theorem fin_bl {pins : List (Addr × Obj)} {σ : St} {H : Hp} {s : Shared} {Q : VK} {k k' : Bool} (I : Inv X pins σ H s) (q : Q (.bl k) H) (e : k = k') : EP X pins σ Q (.bool k') s := by
  subst e
  exact ⟨.bl k, H, I, rfl, q⟩
theorem op_eq : OpR X (compareOp .Eq) rEq := by
  intro pins s σ H x y v u Q I rx ry h
  obtain ⟨hs, q⟩ := h
  cases x with
  | non =>
    cases rx
    cases y with
    | non => cases ry; exact PySem.EqNone.eq_none_none (fin_bl I q (by simp))
    | bl j => cases ry; exact PySem.EqNone.eq_none_bool (fin_bl I q (by simp))
    | int j => obtain ⟨t', rfl⟩ := ry; exact PySem.EqNone.eq_none_int (fin_bl I q (by simp))
    | str j => obtain ⟨t', rfl⟩ := ry; exact PySem.EqNone.eq_none_str (fin_bl I q (by simp))
    | _ => exact absurd (show false = true from hs) Bool.false_ne_true
  | bl i =>
    cases rx
    cases y with
    | non => cases ry; exact PySem.EqNone.eq_bool_none (fin_bl I q (by simp))
    | bl j => cases ry; exact eq_bool (fin_bl I q dec_bl)
    | str j => obtain ⟨t', rfl⟩ := ry; exact PySem.EqMixed.eq_bool_str (fin_bl I q (by simp))
    | _ => exact absurd (show false = true from hs) Bool.false_ne_true
  | int i =>
    obtain ⟨t, rfl⟩ := rx
    cases y with
    | non => cases ry; exact PySem.EqNone.eq_int_none (fin_bl I q (by simp))
    | int j => obtain ⟨t', rfl⟩ := ry; exact eq_int (fin_bl I q dec_int)
    | str j => obtain ⟨t', rfl⟩ := ry; exact PySem.EqMixed.eq_int_str (fin_bl I q (by simp))
    | _ => exact absurd (show false = true from hs) Bool.false_ne_true
  | str i =>
    obtain ⟨t, rfl⟩ := rx
    cases y with
    | non => cases ry; exact PySem.EqNone.eq_str_none (fin_bl I q (by simp))
    | bl j => cases ry; exact PySem.EqMixed.eq_str_bool (fin_bl I q (by simp))
    | int j => obtain ⟨t', rfl⟩ := ry; exact PySem.EqMixed.eq_str_int (fin_bl I q (by simp))
    | str j => obtain ⟨t', rfl⟩ := ry; exact eq_str (fin_bl I q dec_str)
    | _ => exact absurd (show false = true from hs) Bool.false_ne_true
  | byt i =>
    obtain ⟨t, rfl⟩ := rx
    cases y with
    | byt j => obtain ⟨t', rfl⟩ := ry; exact PySem.W.eq_bytes (fin_bl I q dec_byt)
    | _ => exact absurd (show false = true from hs) Bool.false_ne_true
  | _ => cases y <;> exact absurd (show false = true from hs) Bool.false_ne_true
theorem op_ne : OpR X (compareOp .NotEq) rNe := by
  intro pins s σ H x y v u Q I rx ry h
  obtain ⟨hs, q⟩ := h
  cases x with
  | non =>
    cases rx
    cases y with
    | non => cases ry; exact PySem.EqNone.ne_none_none (fin_bl I q (by simp))
    | bl j => cases ry; exact PySem.EqNone.ne_none_bool (fin_bl I q (by simp))
    | int j => obtain ⟨t', rfl⟩ := ry; exact PySem.EqNone.ne_none_int (fin_bl I q (by simp))
    | str j => obtain ⟨t', rfl⟩ := ry; exact PySem.EqNone.ne_none_str (fin_bl I q (by simp))
    | _ => exact absurd (show false = true from hs) Bool.false_ne_true
  | bl i =>
    cases rx
    cases y with
    | non => cases ry; exact PySem.EqNone.ne_bool_none (fin_bl I q (by simp))
    | bl j => cases ry; exact ne_bool (fin_bl I q (congrArg not dec_bl))
    | str j => obtain ⟨t', rfl⟩ := ry; exact PySem.EqMixed.ne_bool_str (fin_bl I q (by simp))
    | _ => exact absurd (show false = true from hs) Bool.false_ne_true
  | int i =>
    obtain ⟨t, rfl⟩ := rx
    cases y with
    | non => cases ry; exact PySem.EqNone.ne_int_none (fin_bl I q (by simp))
    | int j => obtain ⟨t', rfl⟩ := ry; exact ne_int (fin_bl I q (congrArg not dec_int))
    | str j => obtain ⟨t', rfl⟩ := ry; exact PySem.EqMixed.ne_int_str (fin_bl I q (by simp))
    | _ => exact absurd (show false = true from hs) Bool.false_ne_true
  | str i =>
    obtain ⟨t, rfl⟩ := rx
    cases y with
    | non => cases ry; exact PySem.EqNone.ne_str_none (fin_bl I q (by simp))
    | bl j => cases ry; exact PySem.EqMixed.ne_str_bool (fin_bl I q (by simp))
    | int j => obtain ⟨t', rfl⟩ := ry; exact PySem.EqMixed.ne_str_int (fin_bl I q (by simp))
    | str j => obtain ⟨t', rfl⟩ := ry; exact ne_str (fin_bl I q (congrArg not dec_str))
    | _ => exact absurd (show false = true from hs) Bool.false_ne_true
  | byt i =>
    obtain ⟨t, rfl⟩ := rx
    cases y with
    | byt j => obtain ⟨t', rfl⟩ := ry; exact PySem.W.ne_bytes (fin_bl I q (congrArg not dec_byt))
    | _ => exact absurd (show false = true from hs) Bool.false_ne_true
  | _ => cases y <;> exact absurd (show false = true from hs) Bool.false_ne_true

theorem op_lt : OpR X (compareOp .Lt) (rI0 fun i j => .bl (decide (i < j))) := opB0 fun _ _ _ _ _ _ _ q => lt_int q
theorem op_le : OpR X (compareOp .LtE) (rI0 fun i j => .bl (decide (i ≤ j))) := opB0 fun _ _ _ _ _ _ _ q => le_int q
theorem op_gt : OpR X (compareOp .Gt) (rI0 fun i j => .bl (decide (j < i))) := opB0 fun _ _ _ _ _ _ _ q => gt_int q
theorem op_ge : OpR X (compareOp .GtE) (rI0 fun i j => .bl (decide (j ≤ i))) := opB0 fun _ _ _ _ _ _ _ q => ge_int q
/-- is None, is not None: the right side a value none -/
theorem op_isN : OpR X (compareOp .Is) (fun x y H Q => y = .non ∧ Q (.bl (decide (x = .non))) H) := by
  intro pins s σ H x y v u Q I rx ry h
  obtain ⟨rfl, q⟩ := h
  cases ry
  refine is_none_gen (fin_bl I q ?_)
  cases x <;> first
    | (cases rx; rfl)
    | (obtain ⟨t, rfl⟩ := rx; rfl)
/-- two rules for one operation: by cases -/
theorem OpR.or {f : Value → Value → Sem Value} {r r' : R2} (h : OpR X f r) (h' : OpR X f r') : OpR X f (fun x y H Q => r x y H Q ∨ r' x y H Q) := by
  intro pins s σ H x y v u Q I rx ry q
  rcases q with q | q
  · exact h pins s σ H x y v u Q I rx ry q
  · exact h' pins s σ H x y v u Q I rx ry q

theorem nomark (b : Expr) {op : CmpOp} (h : op ≠ .In := by decide) (h2 : op ≠ .NotIn := by decide) : behindInMarks op b = false := by
  have e1 : (op == CmpOp.In) = false := by cases op <;> first | rfl | exact absurd rfl h
  have e2 : (op == CmpOp.NotIn) = false := by cases op <;> first | rfl | exact absurd rfl h2
  cases b <;> simp [behindInMarks, e1, e2]
/-- a comparison as a value; hm: nomark b, or (for in, not in) by with_unfolding_all rfl -/
theorem pe_cmpR {op : CmpOp} {r : R2} (ho : OpR X (compareOp op) r) (ha : PE X a ta) (hb : PE X b tb) (hm : behindInMarks op b = false) : PE X (.Compare a [op] [b] pos) (tOp r ta tb) := by
  intro pins s σ H Q I h
  exact wpAny_Compare1 (binT ha hb I h fun v u s2 x y H2 I2 rx ry q => ho pins s2 σ H2 x y v u Q I2 rx ry q) hm
/-- a reading of a value as a test -/
def tTest (t : TE) : TT := fun σ H Q => t σ H fun x H' => ∃ k, x = .bl k ∧ Q k H'
theorem pt_cmpR {op : CmpOp} {r : R2} (ho : OpR X (compareOp op) r) (ha : PE X a ta) (hb : PE X b tb) (hm : behindInMarks op b = false) : PT X (.Compare a [op] [b] pos) (tTest (tOp r ta tb)) := by
  intro pins s σ H Q I h
  refine wpAny_isTrue_Compare1 (thn (ha pins s σ H _ I h) fun v s1 ⟨x, H1, I1, r1, q1⟩ => thn (hb pins s1 σ H1 _ I1 q1) fun u s2 ⟨y, H2, I2, r2, q2⟩ =>
    thn (ho pins s2 σ H2 x y v u _ I2 r1 r2 q2) fun c s3 ⟨z, H3, I3, r3, k, e, q3⟩ => ?_) hm
  subst e
  cases r3
  exact wpAny_truthy_bool ⟨H3, I3, q3⟩
/-! ### truth -/
theorem line63 : (sizeLine : Nat) < 2 ^ 63 := by rw [sizeLine_eq]; decide
/-! ### strs and bytes -/
theorem op_add_str : OpR X (binaryOp .Add) (fun x y H Q => ∃ i j, x = .str i ∧ y = .str j ∧ i.length + j.length ≤ sizeLine ∧ Q (.str (i ++ j)) H) := by
  intro pins s σ H x y v u Q I rx ry h
  obtain ⟨i, j, rfl, rfl, hz, q⟩ := h
  obtain ⟨t, rfl⟩ := rx
  obtain ⟨t', rfl⟩ := ry
  exact add_str (fun t' tk => ⟨.str (i ++ j), H, I.tok _, ⟨_, rfl⟩, q⟩) hz
/-! ### scalar builtins, by CallR -/
theorem vals1 {x : V} {us : List Value} (r : Vals [x] us) : ∃ u, us = [u] ∧ RelV x u := by
  cases r with
  | cons r1 r2 => cases r2; exact ⟨_, rfl, r1⟩
theorem vals2 {x y : V} {us : List Value} (r : Vals [x, y] us) : ∃ u w', us = [u, w'] ∧ RelV x u ∧ RelV y w' := by
  cases r with
  | cons r1 r2 =>
    cases r2 with
    | cons r3 r4 => cases r4; exact ⟨_, _, rfl, r1, r3⟩
theorem call_max2 (hc : X.calm = true) : CallR X (.builtin "max") (fun xs H Q => ∃ i j, xs = [.int i, .int j] ∧ Q (.int (if j > i then j else i)) H) := by
  intro pins s σ H xs us Q I r h
  obtain ⟨i, j, rfl, q⟩ := h
  obtain ⟨u, w', rfl, ⟨t, rfl⟩, ⟨t', rfl⟩⟩ := vals2 r
  refine max_two_ints (I.ok.hd hc) fun h' tk k => ⟨_, H, I.kept k, ?_, q⟩
  by_cases hj : j > i
  · rw [if_pos hj, if_pos hj]; exact ⟨_, rfl⟩
  · rw [if_neg hj, if_neg hj]; exact ⟨_, rfl⟩
theorem call_min2 (hc : X.calm = true) : CallR X (.builtin "min") (fun xs H Q => ∃ i j, xs = [.int i, .int j] ∧ Q (.int (if j < i then j else i)) H) := by
  intro pins s σ H xs us Q I r h
  obtain ⟨i, j, rfl, q⟩ := h
  obtain ⟨u, w', rfl, ⟨t, rfl⟩, ⟨t', rfl⟩⟩ := vals2 r
  refine min_two_ints (I.ok.hd hc) fun h' tk k => ⟨_, H, I.kept k, ?_, q⟩
  by_cases hj : j < i
  · rw [if_pos hj, if_pos hj]; exact ⟨_, rfl⟩
  · rw [if_neg hj, if_neg hj]; exact ⟨_, rfl⟩
end
end L2

namespace L2
open PySem PySem.Spec PyProof.Rows

/-! ### an instance, its attributes a map -/
structure ObjM (h : Heap) (x dx C : Addr) (mA : Str → Option Value) : Prop where
  obj : h.get? x = some (PySem.W.instObj C dx)
  ns : h.Ns1 dx mA
  ne : dx ≠ x

theorem lookIn_ns {h : Heap} {dx : Addr} {mA : Str → Option Value} (n : h.Ns1 dx mA) : ∃ od, h.get? dx = some od ∧ ∀ name, PySem.W.lookIn name od = some (mA name) := by
  obtain ⟨o, es, ep, ho, hd, hk, _, hm⟩ := n
  refine ⟨o, ho, fun name => ?_⟩
  have e := hm name
  unfold nsFind findBy at e
  rw [← Array.find?_toList] at e
  unfold PySem.W.lookIn
  rw [hd]
  dsimp only
  split
  · rename_i y q
    rw [q] at e
    exact congrArg some e
  · rename_i q
    rw [q] at e
    have a : es.toList.any (·.refKey) = false := by
      rw [List.any_eq_false]
      intro y hy
      obtain ⟨z, t, hkey⟩ := hk y (Array.mem_toList_iff.mp hy)
      simp [DictEntry.refKey, hkey]
    have a' : ¬ es.toList.any (·.refKey) = true := by rw [a]; exact Bool.false_ne_true
    rw [if_neg a']
    exact congrArg some e

theorem ObjM.look {h : Heap} {x dx C : Addr} {mA : Str → Option Value} (I : ObjM h x dx C mA) : ∃ od, PySem.W.InstAt h x (PySem.W.instObj C dx) C (some od) ∧ ∀ name, PySem.W.lookIn name od = some (mA name) :=
  let ⟨od, ho, hl⟩ := lookIn_ns I.ns
  ⟨od, ⟨I.obj, rfl, rfl, ho⟩, hl⟩

section
variable {prog : Program} {w : World} {A : Around} {E : Value → Shared → Prop} {s : Shared} {K : PySem.W.Frag} {x dx C f : Addr} {mA : Str → Option Value} {name : Str} {v : Value}

end

/-! ### the attributes as a list of pairs -/
theorem RelO.none_of {o : Option Value} (r : RelO none o) : o = none := by
  cases o with
  | none => rfl
  | some u => exact (show False from r).elim
section
variable {P : Program} {w : World} {H H' : Hp} {h h' : Heap} {a C dx : Addr} {fs fs' : List (Str × V)}
theorem ins_get (hok : HOk P w H h) (e : H a = some (.ins C dx fs)) : ∃ mA, ObjM h a dx C mA ∧ (∀ f, RelO (fs.lookup f) (mA f)) ∧ PySem.Within mA (fs.map (·.1)) ∧ fs.length ≤ 1000 ∧ H dx = some (.own a) := by
  obtain ⟨d, z, ne, ob, mA, n, r, q⟩ := (show ObjOk P w H h a (.ins C dx fs) from hok a _ e)
  exact ⟨mA, ⟨ob, n, ne⟩, r, q, z, d⟩
end

/-! ### what of the text a class must have -/
structure Cls (K : PySem.W.Frag) (C : Addr) : Prop where
  pg : PySem.W.plainGet K C Str.empty = true
  hd : PySem.W.hasDictIn K C = true
  po : PySem.W.plainOver K C = true
  sa : PySem.W.findIn K (.ref C) "__setattr__" = some (some (.builtin "object.__setattr__"))
theorem Cls.get {K : PySem.W.Frag} {C : Addr} (c : Cls K C) (f : Str) : PySem.W.plainGet K C f = true := c.pg
/-- a constant of the class -/
structure Con (K : PySem.W.Frag) (C : Addr) (f : Str) (v : V) (u : Value) : Prop where
  at_ : PySem.W.findIn K (.ref C) f = some (some u)
  rel : RelV v u
  get : PySem.W.specialIn K u "__get__" = some none
  cp : PySem.W.copiedNames.contains f = false
/-- a method: a plain def of the class or of one above it -/
structure Meth (K : PySem.W.Frag) (C : Addr) (m : Str) (f : Addr) : Prop where
  at_ : PySem.W.findIn K (.ref C) m = some (some (.ref f))
  fn : PySem.W.isFn K (.ref f) = true
  kp : PySem.W.keepIn K (.ref f) = true

section
variable {X : Cx} {pins : List (Addr × Obj)} {σ : St} {H : Hp} {s : Shared} {a C dx : Addr} {fs : List (Str × V)} {f : Str} {v : V} {A : Around} {E : Value → Shared → Prop}

/-- a new instance, tracked, without attributes -/
theorem Inv.made (I : Inv X pins σ H s) : Inv X pins σ (upd (upd H s.heap.objs.size (.own (s.heap.objs.size + 1))) (s.heap.objs.size + 1) (.ins C s.heap.objs.size []))
    { s with heap := (s.heap.push PySem.W.emptyDict).push (PySem.W.instObj C s.heap.objs.size) } := by
  have e1 : (s.heap.push PySem.W.emptyDict).get? s.heap.objs.size = some PySem.W.emptyDict := Heap.get?_push_size s.heap rfl
  have e2 : ((s.heap.push PySem.W.emptyDict).push (PySem.W.instObj C s.heap.objs.size)).get? (s.heap.objs.size + 1) = some (PySem.W.instObj C s.heap.objs.size) := by
    have := Heap.get?_push_size (s.heap.push PySem.W.emptyDict) (o := PySem.W.instObj C s.heap.objs.size) rfl
    rwa [Heap.size_push] at this
  have e3 : (s.heap.push PySem.W.emptyDict).Ns s.heap.objs.size (fun _ => none) := ⟨PySem.W.emptyDict, #[], _, e1, rfl, (fun e he => absurd he (by simp)), fun _ => rfl⟩
  have I1 := I.laid (a := s.heap.objs.size) (o := .own (s.heap.objs.size + 1)) (h' := s.heap.push PySem.W.emptyDict) (t' := s.toks) (fun b u q => Heap.get?_push_of_some _ q) (Nat.le_refl _) ⟨_, e1⟩
  refine I1.laid (a := s.heap.objs.size + 1) (o := .ins C s.heap.objs.size []) (t' := s.toks) (fun b u q => Heap.get?_push_of_some _ q) (Nat.le_of_eq (Heap.size_push _ _)) ?_
  have ne : s.heap.objs.size ≠ s.heap.objs.size + 1 := Nat.ne_of_lt (Nat.lt_succ_self _)
  refine ⟨by rw [upd_ne ne, upd_same], Nat.zero_le _, ne, e2, fun _ => none, (Heap.Ns1.of_empty e3).at fun o q => Heap.get?_push_of_some _ q, fun _ => True.intro, fun y hy => absurd rfl hy⟩

end

/-! ### readings and rules -/
section
variable {X : Cx} {o e value : Expr} {f : Str} {pos pos' tpos : Pos} {ta tv : TE}
end

/-! ### isinstance -/
section
variable {X : Cx} {pins : List (Addr × Obj)} {σ : St} {H : Hp} {s : Shared} {A : Around} {E : Value → Shared → Prop} {Q : Value → Shared → Prop} {c : Value} {b : Bool}
/-- the type of a value, as the fragment's deciders take it; for an instance its class -/
inductive TyOf (K : PySem.W.Frag) (H : Hp) : V → Value → Prop where
  | non : TyOf K H .non (.type "NoneType")
  | bl (x : Bool) : TyOf K H (.bl x) (.type "bool")
  | int (i : Int) : TyOf K H (.int i) (.type "int")
  | str (x : Str) : TyOf K H (.str x) (.type "str")
  | flt (x : UInt64) : TyOf K H (.flt x) (.type "float")
  | lst {a : Addr} {xs : List V} (e : H a = some (.lst xs)) : TyOf K H (.ref a) (.type "list")
  | frz {a : Addr} {o : Obj} {xs : List V} (e : H a = some (.frz o (.lst xs))) : TyOf K H (.ref a) (.type "list")
  | tup {a : Addr} {xs : List V} (e : H a = some (.tup xs)) : TyOf K H (.ref a) (.type "tuple")
  | dK {a : Addr} {kvs : List (Key × V)} (e : H a = some (.dK kvs)) : TyOf K H (.ref a) (.type "dict")
  | dT {a : Addr} {kvs : List (List Key × V)} (e : H a = some (.dT kvs)) : TyOf K H (.ref a) (.type "dict")
  | ins {a C dx : Addr} {fs : List (Str × V)} (e : H a = some (.ins C dx fs)) (cl : Cls K C) (ha : PySem.W.findIn K (.ref C) "__class__" = some (some (.builtin "object.__class__")))
      (hn : PySem.W.specialIn K (.builtin "object.__class__") "__get__" = some (some (.builtin "getset_descriptor.__get__"))) (htk : PySem.W.takesIn K (.builtin "object.__class__") = some true)
      (hm : PySem.W.mroIn K C (.type "object") = some true) : TyOf K H (.ref a) (.ref C)
/-- isinstance(x, c) for one class c, a built-in or an own one: kitOne's answer -/
theorem isinst_ok {x : V} {u t : Value} (I : Inv X pins σ H s) (rx : RelV x u) (ty : TyOf X.K H x t) (e : PySem.W.kitOne X.K t c = some b) (h : ∀ tk, Q (.bool b) { s with toks := tk }) :
    wpAny (model X.prog X.w) A (call (.builtin "isinstance") [u, c]) Q E s := by
  cases ty with
  | non => cases (show u = Value.none from rx); exact PySem.W.kia_one PySem.W.kitx_none I.kIn True.intro e (fun z => nomatch z) h
  | bl y => cases (show u = Value.bool y from rx); exact PySem.W.kia_one PySem.W.kitx_bool I.kIn True.intro e (fun z => nomatch z) h
  | int i => obtain ⟨t, q⟩ := (show ∃ t, u = Value.int i t from rx); cases q; exact PySem.W.kia_one PySem.W.kitx_int I.kIn True.intro e (fun z => nomatch z) h
  | str y => obtain ⟨t, q⟩ := (show ∃ t, u = Value.str y t from rx); cases q; exact PySem.W.kia_one PySem.W.kitx_str I.kIn True.intro e (fun z => nomatch z) h
  | flt y => obtain ⟨t, q⟩ := (show ∃ t, u = Value.float y t from rx); cases q; exact PySem.W.kia_one PySem.W.kitx_float I.kIn True.intro e (fun z => nomatch z) h
  | @lst a xs ea =>
    cases (show u = Value.ref a from rx)
    obtain ⟨_, _, n, _, h1⟩ := (show ObjOk X.prog X.w H s.heap a (.lst xs) from I.hok a _ ea)
    exact PySem.W.kia_one PySem.W.kitx_list I.kIn ⟨_, h1, rfl⟩ e (fun z => nomatch z) h
  | @frz a ob xs ea =>
    cases (show u = Value.ref a from rx)
    obtain ⟨_, _, _, n, _, h1⟩ := (show ObjOk X.prog X.w H s.heap a (.frz ob (.lst xs)) from I.hok a _ ea)
    exact PySem.W.kia_one PySem.W.kitx_list I.kIn ⟨_, h1, rfl⟩ e (fun z => nomatch z) h
  | @tup a xs ea =>
    cases (show u = Value.ref a from rx)
    obtain ⟨_, _, _, p⟩ := (show ObjOk X.prog X.w H s.heap a (.tup xs) from I.hok a _ ea)
    obtain ⟨o, h1, h2, _⟩ := p
    exact PySem.W.kia_one PySem.W.kitx_tuple I.kIn ⟨o, h1, h2⟩ e (fun z => nomatch z) h
  | @dK a kvs ea =>
    cases (show u = Value.ref a from rx)
    obtain ⟨_, _, vs, _, p⟩ := (show ObjOk X.prog X.w H s.heap a (.dK kvs) from I.hok a _ ea)
    obtain ⟨o, es, ep, h1, h2, _⟩ := p
    exact PySem.W.kia_one PySem.W.kitx_dict I.kIn ⟨o, h1, h2.1⟩ e (fun z => nomatch z) h
  | @dT a kvs ea =>
    cases (show u = Value.ref a from rx)
    obtain ⟨_, _, xs, _, o, es, ep, h1, h2, _⟩ := (show ObjOk X.prog X.w H s.heap a (.dT kvs) from I.hok a _ ea)
    exact PySem.W.kia_one PySem.W.kitx_dict I.kIn ⟨o, h1, h2.1⟩ e (fun z => nomatch z) h
  | @ins a C dx fs ea cl ha hn htk hm =>
    cases (show u = Value.ref a from rx)
    obtain ⟨mA, O, _⟩ := ins_get I.hok ea
    obtain ⟨od, J, _⟩ := O.look
    exact PySem.W.kia_one (PySem.W.kitx_own (cl.get _) cl.hd ha hn htk hm) I.kIn J e (fun z => nomatch z) h
end
end L2

namespace L2
open PySem PySem.Spec PyProof.Rows

/-! ### room -/
structure Room (k : Nat) (A : Around) : Prop where
  hd : A.handled = none
  dp : A.depth + 3 * k + 5 < recursionLimit
  un : A.units + 16 * k + 200 < cLine
theorem Room.mono {j k : Nat} {A : Around} (r : Room k A) (h : j ≤ k) : Room j A := ⟨r.hd, by have := r.dp; omega, by have := r.un; omega⟩
theorem Room.deeper {k : Nat} {A : Around} (r : Room (k + 1) A) (env : Env) : Room k (A.deeper env) :=
  ⟨r.hd, by have := r.dp; show A.depth + 1 + 3 * k + 5 < _; omega, by have := r.un; show A.units + 3 + 16 * k + 200 < _; omega⟩
theorem Room.in1 {k : Nat} {A : Around} (r : Room (k + 1) A) : Room k A.in1 :=
  ⟨r.hd, by have := r.dp; show A.depth + 3 * k + 5 < _; omega, by have := r.un; show A.units + 1 + 16 * k + 200 < _; omega⟩
theorem make_depth {A : Around} {C : Addr} {us : List Value} {kw : List (Str × Value)} : (A.under (.builtin "type.__call__" ⟨.ref C :: us, kw⟩)).depth = A.depth + 1 := by
  first | rfl | simp [Around.under, Code.weight, Code.isCreation, Code.isGuard, Code.isCaller, Code.frames, Code.isFrame, guardIds]
theorem make_units {A : Around} {C : Addr} {us : List Value} {kw : List (Str × Value)} : (A.under (.builtin "type.__call__" ⟨.ref C :: us, kw⟩)).units = A.units + 1 := by
  first | rfl | simp [Around.under, Code.cUnits, Code.frames, Code.isFrame]
theorem Room.make {k : Nat} {A : Around} (r : Room (k + 1) A) (C : Addr) (us : List Value) (kw : List (Str × Value)) : Room k (A.under (.builtin "type.__call__" ⟨.ref C :: us, kw⟩)) :=
  ⟨r.hd, by have := r.dp; rw [make_depth]; omega, by have := r.un; rw [make_units]; omega⟩
theorem Room.depth {k : Nat} {A : Around} (r : Room k A) : A.depth < recursionLimit := by have := r.dp; omega
theorem Room.units {k : Nat} {A : Around} (r : Room k A) : A.units + 64 < cLine := by have := r.un; omega
theorem Room.units0 {k : Nat} {A : Around} (r : Room k A) : A.units < cLine := by have := r.un; omega

/-! ### argument lists and displays -/
def tNil : TA := fun _ H Q => Q [] H
def tCons (ta : TE) (tr : TA) : TA := fun σ H Q => ta σ H fun x H1 => tr σ H1 fun xs H2 => Q (x :: xs) H2
section
variable {X : Cx} {e : Expr} {es : List Expr} {te : TE} {t : TA} {pos : Pos}
theorem pa_nil : PA X [] tNil := fun _ _ _ _ H Q I h => Calls.spliced_nil ⟨[], H, I, .nil, h⟩
theorem pa_cons (ha : PE X e te) (hr : PA X es t) (hs : starEach (e :: es) X.env = (false, eval e X.env) :: starEach es X.env := by rfl) : PA X (e :: es) (tCons te t) := by
  intro pos pins s σ H Q I h
  rw [hs]
  show wpAny _ _ (spliced ((false, eval e X.env) :: backTo pos (starEach es X.env))) _ _ s
  refine Calls.spliced_cons (thn (ha pins s σ H _ I h) fun u s1 ⟨x, H1, I1, r1, q1⟩ => ?_)
  exact thn (hr pos pins s1 σ H1 _ I1 q1) fun us s2 ⟨xs, H2, I2, r2, q2⟩ => ⟨x :: xs, H2, I2, .cons r1 r2, q2⟩

/-- a tuple, a list of written items -/
def tTup (t : TA) : TE := fun σ H Q => t σ H fun xs H1 => xs.length ≤ sizeLine ∧ ∀ p, H1 p = none → Q (.ref p) (upd H1 p (.tup xs))
def tLst (t : TA) : TE := fun σ H Q => t σ H fun xs H1 => xs.length ≤ sizeLine ∧ ∀ p, H1 p = none → Q (.ref p) (upd H1 p (.lst xs))
theorem pe_tup {x1} (h : PA X es t) : PE X (.Tuple es x1 pos) (tTup t) := by
  intro pins s σ H Q I hq
  refine wpAny_Tuple_spliced (thn (h pos pins s σ H _ I hq) fun us s1 ⟨xs, H1, I1, r, z, q⟩ => ⟨by rw [← r.length]; exact z, ?_⟩)
  have hf : H1 s1.heap.objs.size = none := I1.hok.fresh (Nat.le_refl _)
  refine ⟨.ref s1.heap.objs.size, upd H1 s1.heap.objs.size (.tup xs), I1.laid (t' := s1.toks) (fun b u e => Heap.get?_push_of_some _ e) (Nat.le_refl _) ?_, rfl, q _ hf⟩
  exact ⟨z, us, r, ⟨_, Heap.get?_push_size _ rfl, rfl, _, rfl⟩⟩
theorem pe_lst (h : PA X es t) : PE X (.List es pos) (tLst t) := by
  intro pins s σ H Q I hq
  refine wpAny_List_spliced (thn (h pos pins s σ H _ I hq) fun us s1 ⟨xs, H1, I1, r, z, q⟩ => ⟨by rw [← r.length]; exact z, ?_⟩)
  have hf : H1 s1.heap.objs.size = none := I1.hok.fresh (Nat.le_refl _)
  refine ⟨.ref s1.heap.objs.size, upd H1 s1.heap.objs.size (.lst xs), I1.laid (t' := s1.toks) (fun b u e => Heap.get?_push_of_some _ e) (Nat.le_refl _) ?_, rfl, q _ hf⟩
  exact ⟨z, us, 0, r, Heap.get?_push_size _ rfl⟩
end

/-! ### what a def promises -/
/-- a def's promise: the bound arguments in the parameters' order, the heap, the wanted end, the wanted exception -/
abbrev Sp := List V → Hp → VK → XK → Prop
/-- how an exception lies behind a call (file 08 gives it): the callers' frames, abstract heap and state ahead of the call, the wish, the exception, the state -/
abbrev CXT := List Env → Hp → Shared → XK → Value → Shared → Prop

/-- the state at a call -/
structure Env0 (P : Program) (w : World) (K : PySem.W.Frag) (mg : Str → Option Value) (base : Heap) (A : Around) (outer : List Env) (s : Shared) (H : Hp) : Prop where
  frames : A.frames = some outer
  mod : Mod K mg base
  bs : ∀ b o, base.get? b = some o → s.heap.get? b = some o ∧ H b = none
  bsz : base.objs.size ≤ s.heap.objs.size
  funs : s.heap.FunFrames base outer
  frf : ∀ b ∈ frs outer, H b = none
  hok : HOk P w H s.heap
  bare : AllBare s.gens
/-- a call's end -/
def CE (outer : List Env) (P : Program) (w : World) (H : Hp) (s : Shared) (Q : VK) (u : Value) (s' : Shared) : Prop :=
  ∃ v H', s'.os = s.os ∧ AllBare s'.gens ∧ Un (frs outer) [] H H' s.heap s'.heap ∧ HOk P w H' s'.heap ∧ RelV v u ∧ Q v H'
def CR (CX : CXT) (outer : List Env) (P : Program) (w : World) (H : Hp) (s : Shared) (Q : VK) (E : XK) (r : Result) (s' : Shared) : Prop :=
  match r with
  | .ok (.ret u) => CE outer P w H s Q u s'
  | .ok _ => False
  | .error e => CX outer H s E e s'
structure FnOk (P : Program) (w : World) (K : PySem.W.Frag) (mg : Str → Option Value) (base : Heap) (CX : CXT) (k : Nat) (f : Addr) (fd : FuncData) (ps : List Str) (sp : Sp) : Prop where
  len : ∀ vs H Q E, sp vs H Q E → vs.length = ps.length
  run : ∀ (A : Around) (outer : List Env) (s : Shared) (H : Hp) (args : Args) (us : List Value) (vs : List V) (Q : VK) (E : XK), Room k A → Env0 P w K mg base A outer s H → BindsTo s fd args (ps.zip us) → Vals vs us → sp vs H Q E →
    codeAny (model P w) A (.call (.ref f) args) (CR CX outer P w H s Q E) s
theorem FnOk.mono {P : Program} {w : World} {K : PySem.W.Frag} {mg : Str → Option Value} {base : Heap} {CX : CXT} {j k : Nat} {f : Addr} {fd : FuncData} {ps : List Str} {sp : Sp} (F : FnOk P w K mg base CX j f fd ps sp) (h : j ≤ k) :
    FnOk P w K mg base CX k f fd ps sp := ⟨F.len, fun A outer s H args us vs Q E hr => F.run A outer s H args us vs Q E (hr.mono h)⟩
theorem Env0.make {P : Program} {w : World} {K : PySem.W.Frag} {mg : Str → Option Value} {base : Heap} {A : Around} {outer : List Env} {s : Shared} {H : Hp} (e : Env0 P w K mg base A outer s H) (C : Addr) (us : List Value) (kw : List (Str × Value)) :
    Env0 P w K mg base (A.under (.builtin "type.__call__" ⟨.ref C :: us, kw⟩)) outer s H := ⟨by first | exact e.frames | (simpa [Around.under, Code.envs, Code.isFrame, pushEnvs] using e.frames), e.mod, e.bs, e.bsz, e.funs, e.frf, e.hok, e.bare⟩
theorem Env0.in1 {P : Program} {w : World} {K : PySem.W.Frag} {mg : Str → Option Value} {base : Heap} {A : Around} {outer : List Env} {s : Shared} {H : Hp} (e : Env0 P w K mg base A outer s H) :
    Env0 P w K mg base A.in1 outer s H := ⟨e.frames, e.mod, e.bs, e.bsz, e.funs, e.frf, e.hok, e.bare⟩

section
variable {X : Cx} {pins : List (Addr × Obj)} {σ : St} {H : Hp} {s s' : Shared}
/-- from a body: what a callee wants -/
theorem Inv.env0 (I : Inv X pins σ H s) : Env0 X.prog X.w X.K X.mg X.base X.A X.stack s H :=
  ⟨I.ok.frames, I.ok.mod, I.bs, Nat.le_trans I.ok.bsz I.sz, I.stack, I.stkFree, I.hok, I.bare⟩
/-- behind a call -/
theorem Inv.after {Q : VK} {u : Value} (I : Inv X pins σ H s) (h : CE X.stack X.prog X.w H s Q u s') : EP X pins σ Q u s' := by
  obtain ⟨v, H', os, bare, un, hok, r, q⟩ := h
  obtain ⟨hh, g, d, t, os'⟩ := s'
  obtain rfl : os' = s.os := os
  exact ⟨v, H', I.call (h' := hh) (g' := g) (d' := d) (t' := t) (ch := []) un hok bare (fun b z => absurd z (by simp)), r, q⟩
end

/-! ### calls -/
/-- f(..): the written arguments, then the defaults dvs; E: what is wanted of an exception -/
def tCall (sp : Sp) (dvs : List V) (E : XK) (t : TA) : TE := fun σ H Q => t σ H fun vs H1 => sp (vs ++ dvs) H1 Q E
/-- how the parameters are bound: us the positional arguments, kw the keywords' values by name, ds the defaults that fill up -/
def Binds (K : PySem.W.Frag) (fd : FuncData) (ps : List Str) (ds : List Value) : Prop :=
  ∀ (s : Shared) (us : List Value), K.In s.heap → (us ++ ds).length = ps.length → BindsTo s fd ⟨us, []⟩ (ps.zip (us ++ ds))
/-- every parameter is given -/
theorem Binds.all {K : PySem.W.Frag} {fd : FuncData} {ps : List Str} (h : ∀ us : List Value, us.length = ps.length → bindArgs fd ⟨us, []⟩ = pure (ps.zip us)) : Binds K fd ps [] := fun s us _ hl => by
  rw [List.append_nil] at hl ⊢
  exact .of_eq (h us hl)

/-- an exception of a callee reaches what this body wants of exceptions -/
def Passes (CX : CXT) (X : Cx) (E : XK) : Prop := ∀ (pins : List (Addr × Obj)) (σ : St) (H : Hp) (s : Shared) (e : Value) (s' : Shared), Inv X pins σ H s → CX X.stack H s E e s' → X.xe e s'

section
variable {X : Cx} {CX : CXT} {k : Nat} {f C : Addr} {fd : FuncData} {ps : List Str} {sp : Sp} {dvs : List V} {ds : List Value} {E : XK} {x m : Str} {p pos apos : Pos} {e o : Expr} {es : List Expr} {ta : TE} {t : TA}

/-- the callee runs -/
theorem run_fn {pins : List (Addr × Obj)} {σ : St} {H : Hp} {s : Shared} {Q : VK} {us : List Value} {vs : List V} (F : FnOk X.prog X.w X.K X.mg X.base CX k f fd ps sp) (hr : Room k X.A) (hb : Binds X.K fd ps ds) (hd : Vals dvs ds) (hx : Passes CX X E)
    (I : Inv X pins σ H s) (r : Vals vs us) (h : sp (vs ++ dvs) H Q E) : wpAny (model X.prog X.w) X.A (call (.ref f) us) (EP X pins σ Q) X.xe s := by
  have r2 : Vals (vs ++ dvs) (us ++ ds) := r.append hd
  have hl : (us ++ ds).length = ps.length := by rw [← r2.length]; exact F.len _ _ _ _ h
  refine wpAny_call (codeAny_mono (F.run X.A X.stack s H ⟨us, []⟩ (us ++ ds) (vs ++ dvs) Q E hr I.env0 (hb s us I.kIn hl) r2 h) fun r s' hq => ?_)
  cases r with
  | error e => exact hx pins σ H s e s' I hq
  | ok fl =>
    cases fl with
    | ret u => exact I.after hq
    | next => exact False.elim hq
    | brk => exact False.elim hq
    | cont => exact False.elim hq

theorem pe_call (F : FnOk X.prog X.w X.K X.mg X.base CX k f fd ps sp) (hr : Room k X.A) (hg : Gl X x) (hm : X.mg x = some (.ref f)) (hk : PySem.W.keepIn X.K (.ref f) = true) (hb : Binds X.K fd ps ds) (hd : Vals dvs ds) (hx : Passes CX X E)
    (ha : PA X (e :: es) t) (hdb : (x == ("__debug__" : Str)) = false := by decide) (he : starEach (e :: es) X.env = (false, eval e X.env) :: starEach es X.env := by rfl) (hpl : (backTo pos (starEach es X.env)).any (·.1) = false := by rfl) :
    PE X (.Call (.Name x p) (e :: es) [] pos) (tCall sp dvs E t) := by
  intro pins s σ H Q I h
  refine wpAny_Call_Name_kw (ld_glob I hg hm ?_ hdb)
  refine PySem.W.callWith_K (h₀ := X.base) I.ok.mod.kin hk (thn (ha pos pins s σ H _ I h) fun us s1 ⟨vs, H1, I1, r, q⟩ => ⟨I1.kIn, ?_⟩) he hpl
  exact run_fn F hr hb hd hx I1 r q
/-- what a class must have to be made -/
structure Mk (K : PySem.W.Frag) (C f : Addr) : Prop where
  makes : PySem.W.makesIn K C = true
  init : PySem.W.findIn K (.ref C) "__init__" = some (some (.ref f))
  fn : PySem.W.isFn K (.ref f) = true
  kp : PySem.W.keepIn K (.ref C) = true

end

/-! ### keywords -/
section
variable {X : Cx} {CX : CXT} {k : Nat} {f C : Addr} {fd : FuncData} {ps ks : List Str} {sp : Sp} {E : XK} {x m : Str} {p pos apos kpos : Pos} {e o : Expr} {es : List Expr} {kws : List Keyword} {te ta : TE} {t tk : TA} {nm : Option Str}
/-- how a call with keywords binds: g puts the positional values us and the keywords' values ws (names ks) in the parameters' order, defaults among them -/
structure KBinds (K : PySem.W.Frag) (fd : FuncData) (ps ks : List Str) (g : List Value → List Value → List Value) (gV : List V → List V → List V) : Prop where
  to : ∀ (s : Shared) (us ws : List Value), K.In s.heap → (g us ws).length = ps.length → BindsTo s fd ⟨us, ks.zip ws⟩ (ps.zip (g us ws))
  rel : ∀ {vs : List V} {us : List Value} {zs : List V} {ws : List Value}, Vals vs us → Vals zs ws → Vals (gV vs zs) (g us ws)
variable {g : List Value → List Value → List Value} {gV : List V → List V → List V}
end

/-! ### a def's body keeps its promise -/
/-- names: the parameters first -/
structure FnScope (N P : List Str) (sc : Scope) : Prop where
  kind : sc.kind = .function
  co : sc.isCoroutine = false
  gen : sc.isGenerator = false
  nd : N.Nodup
  pre : N.take P.length = P
  par : ∀ x ∈ P, sc.names.lookup x = some .local ∨ sc.names.lookup x = some .cell
  nofree : ∀ y ∈ sc.names, y.2 ≠ .free

theorem bindL_out {kindOf : Str → Option NameKind} {x : Str} : ∀ {binds : List (Str × Value)} {m : Str → Option Value}, (∀ v, (x, v) ∉ binds) → bindL kindOf binds m x = m x
  | [], _, _ => rfl
  | (n, v) :: r, m, h => by
    unfold bindL
    rw [bindL_out fun w hw => h w (List.mem_cons_of_mem _ hw)]
    split
    · have : x ≠ n := by rintro rfl; exact h v List.mem_cons_self
      simp [this]
    · rfl
theorem bindC_out {kindOf : Str → Option NameKind} {x : Str} : ∀ {binds : List (Str × Value)} {m : Str → Option Value}, (∀ v, (x, v) ∉ binds) → bindC kindOf binds m x = m x
  | [], _, _ => rfl
  | (n, v) :: r, m, h => by
    unfold bindC
    rw [bindC_out fun w hw => h w (List.mem_cons_of_mem _ hw)]
    split
    · rfl
    · have : x ≠ n := by rintro rfl; exact h v List.mem_cons_self
      simp [this]
theorem bindL_get {kindOf : Str → Option NameKind} {x : Str} {v : Value} : ∀ {P : List Str} {vs : List Value} {i : Nat} {m : Str → Option Value}, P.Nodup → P[i]? = some x → vs[i]? = some v → kindOf x = some .local →
    bindL kindOf (P.zip vs) m x = some v
  | [], _, _, _, _, h, _, _ => by simp at h
  | _ :: _, [], _, _, _, _, h, _ => by simp at h
  | p :: P, w :: vs, 0, m, nd, h1, h2, hk => by
    simp at h1 h2; subst h1; subst h2
    show bindL kindOf ((p, w) :: P.zip vs) m p = _
    unfold bindL
    rw [bindL_out fun v hv => (List.nodup_cons.mp nd).1 (List.of_mem_zip hv).1, if_pos hk]
    simp
  | p :: P, w :: vs, i + 1, m, nd, h1, h2, hk => by
    show bindL kindOf ((p, w) :: P.zip vs) m x = _
    unfold bindL
    exact bindL_get (i := i) (List.nodup_cons.mp nd).2 (by simpa using h1) (by simpa using h2) hk
theorem bindC_get {kindOf : Str → Option NameKind} {x : Str} {v : Value} : ∀ {P : List Str} {vs : List Value} {i : Nat} {m : Str → Option Value}, P.Nodup → P[i]? = some x → vs[i]? = some v → kindOf x ≠ some .local →
    bindC kindOf (P.zip vs) m x = some v
  | [], _, _, _, _, h, _, _ => by simp at h
  | _ :: _, [], _, _, _, _, h, _ => by simp at h
  | p :: P, w :: vs, 0, m, nd, h1, h2, hk => by
    simp at h1 h2; subst h1; subst h2
    show bindC kindOf ((p, w) :: P.zip vs) m p = _
    unfold bindC
    rw [bindC_out fun v hv => (List.nodup_cons.mp nd).1 (List.of_mem_zip hv).1, if_neg hk]
    simp
  | p :: P, w :: vs, i + 1, m, nd, h1, h2, hk => by
    show bindC kindOf ((p, w) :: P.zip vs) m x = _
    unfold bindC
    exact bindC_get (i := i) (List.nodup_cons.mp nd).2 (by simpa using h1) (by simpa using h2) hk

/-- the names' values at the entry -/
def start (N : List Str) (vs : List V) : St := vs.map some ++ List.replicate (N.length - vs.length) none

/-- the context of a def's body, at its entry; an exception leaves the frame, then lies as CX says -/
def cxOf (CX : CXT) (P : Program) (w : World) (K : PySem.W.Frag) (mg : Str → Option Value) (base : Heap) (N : List Str) (qual : Str) (scope : Scope) (f : Addr) (cd : Value) (A : Around) (outer : List Env) (s : Shared) (H : Hp) (E : XK) : Cx where
  prog := P
  w := w
  K := K
  mg := mg
  base := base
  A := A.deeper (envOfC qual scope s.heap.objs.size f cd)
  N := N
  s₀ := s
  H₀ := H
  env := envOfC qual scope s.heap.objs.size f cd
  outer := outer
  stack := envOfC qual scope s.heap.objs.size f cd :: outer
  ex := []
  calm := true
  fn := fun _ => true
  pn := []
  xe := fun e s' => wpAny (model P w) (A.deeper (envOfC qual scope s.heap.objs.size f cd)) (leaving (envOfC qual scope s.heap.objs.size f cd) e) (fun _ s'' => CX outer H s E e s'') (fun e' s'' => CX outer H s E e' s'') s'

theorem cell_has {sc : Scope} {n : Nat} {x : Str} (h : sc.names.lookup x = some .cell) : ∃ c, (cellsFrom n sc.names []).lookup x = some c := by
  have q := PySem.W.cellsFrom_some sc.names n [] (.inl h)
  exact Option.isSome_iff_exists.mp q

theorem inv_start {CX : CXT} {P : Program} {w : World} {K : PySem.W.Frag} {mg : Str → Option Value} {base : Heap} {N ps : List Str} {qual : Str} {scope : Scope} {f : Addr} {cd : Value} {A : Around} {outer : List Env} {s s1 : Shared} {H : Hp} {E : XK} {us : List Value} {vs : List V}
    (S : FnScope N ps scope) (hd : A.handled = none) (e0 : Env0 P w K mg base A outer s H) (hl : vs.length = ps.length) (r : Vals vs us)
    (x : InCallC s s.heap.objs.size (bindL (envOfC qual scope s.heap.objs.size f cd).kindOf (ps.zip us) fun _ => none) (cellsFrom (s.heap.objs.size + 1) scope.names []) (bindC (envOfC qual scope s.heap.objs.size f cd).kindOf (ps.zip us) fun _ => none) s1) :
    Inv (cxOf CX P w K mg base N qual scope f cd A outer s H E) [] (start N vs) H s1 := by
  have hpl : ps.length ≤ N.length := by have := congrArg List.length S.pre; rw [List.length_take] at this; omega
  obtain ⟨h1, tk, rfl, hk⟩ := x.done
  have noA : ∀ b : Addr, b ∉ (cxOf CX P w K mg base N qual scope f cd A outer s H E).ex := fun b z => absurd (show b ∈ ([] : List Addr) from z) (by simp)
  refine ⟨⟨e0.mod, S.kind, rfl, rfl, Nat.le_refl _, fun y z c h1 h2 => ?_, fun y hy => ?_, fun y c _ h => ?_, fun _ => hd, Around.frames_deeper e0.frames, .inr ⟨rfl, rfl⟩, fun b z => absurd z (noA b), e0.bs, e0.bsz, fun b _ _ => noA b, fun b z => absurd z (noA b), e0.funs, e0.frf⟩,
    rfl, e0.bare, Un.kept hk, ⟨_, x.toInCall.ns, fun i y v h1 h2 h3 => ?_⟩, fun y c h => ⟨_, x.cell y c h⟩, e0.hok.fresh (Nat.le_refl _), fun y c h => ?_, fun p hp => absurd (show p ∈ ([] : List (Addr × Obj)) from hp) (by simp), e0.hok.kept hk, ?_⟩
  · exact name_of_addr x.apart (PySem.mem_of_lookup h1) (PySem.mem_of_lookup h2)
  · have hy : scope.names.lookup y = some .cell ∨ scope.names.lookup y = some .free := hy
    rcases hy with hy | hy
    · exact cell_has hy
    · exact absurd rfl (S.nofree _ (PySem.mem_of_lookup hy))
  · exact Nat.le_of_lt (x.above y c (PySem.mem_of_lookup h))
  · have hi : i < vs.length := by
      unfold start at h2
      by_cases hi : i < vs.length
      · exact hi
      · rw [List.getElem?_append_right (by simpa using hi)] at h2
        rw [List.getElem?_replicate] at h2
        split at h2 <;> cases h2
    have ha : vs[i]? = some v := by
      unfold start at h2
      rw [List.getElem?_append_left (by simpa using hi), List.getElem?_map] at h2
      cases e : vs[i]? with
      | none => rw [e] at h2; cases h2
      | some a => rw [e] at h2; cases h2; rfl
    obtain ⟨u, hu, rv⟩ := r.get ha
    have hp : ps[i]? = some y := by
      rw [← S.pre, List.getElem?_take_of_lt (by omega)]; exact h1
    have ndP : ps.Nodup := by rw [← S.pre]; exact S.nd.sublist (List.take_sublist _ _)
    refine ⟨u, rv, ?_⟩
    rcases S.par y (List.mem_of_getElem? hp) with k | k
    · exact .inl ⟨k, bindL_get ndP hp hu k⟩
    · obtain ⟨c, e⟩ := cell_has (n := s.heap.objs.size + 1) k
      refine .inr ⟨.inl k, c, e, ?_⟩
      have q := x.cell y c e
      rw [bindC_get ndP hp hu (by show scope.names.lookup y ≠ _; rw [k]; decide)] at q
      exact q
  · exact e0.hok.fresh (Nat.le_of_lt (x.above y c (PySem.mem_of_lookup h)))
  · unfold start
    show _ = N.length
    rw [List.length_append, List.length_map, List.length_replicate]
    omega

/-- THE RULE: a def (or a method) of the text, by its body. The body's reading t is chosen for each entry; it is run at the parameters' values -/
theorem fn_of {CX : CXT} {P : Program} {w : World} {K : PySem.W.Frag} {mg : Str → Option Value} {base : Heap} {k : Nat} {f : Addr} {name qual : Str} {params : Arguments} {body : List Stmt} {scope : Scope} {dV kV doc pm cdv ct oc : Value} {an od : Option Addr}
    {osl : Array (Option Value)} {N ps : List Str} {sp : Sp} (lk : K.lookup f = some ⟨oc, od, .func (PySem.W.fnOf name qual params body scope dV kV doc pm an cdv ct), osl⟩) (hcd : PySem.W.codeIn K cdv qual = true) (S : FnScope N ps scope)
    (len : ∀ vs H Q E, sp vs H Q E → vs.length = ps.length)
    (hbody : ∀ (A : Around) (outer : List Env) (s : Shared) (H : Hp) (vs : List V) (Q : VK) (E : XK), Room k (A.deeper (envOfC qual scope s.heap.objs.size f cdv)) → sp vs H Q E →
      ∃ t, PSs (cxOf CX P w K mg base N qual scope f cdv A outer s H E) body t ∧ t { nx := fun _ H' => Q .non H', rt := Q } (start N vs) H) :
    FnOk P w K mg base CX (k + 1) f (PySem.W.fnOf name qual params body scope dV kV doc pm an cdv ct) ps sp := by
  refine ⟨len, fun A outer s H args us vs Q E hr e0 hb r hsp => ?_⟩
  have hl := len _ _ _ _ hsp
  have KX : K.In s.heap := e0.mod.kin.keeps fun b o e => (e0.bs b o e).1
  have lim : s.heap.NoLimit := e0.mod.nolimit.keeps fun b o e => (e0.bs b o e).1
  have hkind : ∀ y ∈ ps.zip us, scope.names.lookup y.1 = some .local ∨ (scope.names.lookup y.1 = some .cell ∧ ((cellsFrom (s.heap.objs.size + 1) scope.names []).lookup y.1).isSome = true) := fun ⟨n, v⟩ hy => by
    rcases S.par n (List.of_mem_zip hy).1 with q | q
    · exact .inl q
    · exact .inr ⟨q, PySem.W.cellsFrom_some _ _ _ (.inl q)⟩
  refine codeAny_call_function hr.depth (KX _ _ lk) rfl S.co S.gen rfl (PySem.W.codeRec_of KX hcd) (hb _ _ _ _ ?_)
  refine wpAny_newFunctionEnv_cells S.kind hkind fun env he s1 x => ?_
  subst he
  refine ⟨lim.keeps x.toInCall.keep, codeAny_func ?_⟩
  obtain ⟨t, ht, hq⟩ := hbody A outer s H vs Q E (hr.deeper _) hsp
  have I : Inv (cxOf CX P w K mg base N qual scope f cdv A outer s H E) [] (start N vs) H s1 := inv_start S hr.hd e0 hl r x
  refine wpAny_mono (ht [] s1 (start N vs) H _ I hq) (fun fl s' hs => ?_) fun e s' hs => hs
  have fin : ∀ {σ' : St} {H' : Hp} {v : V} {u : Value}, Inv (cxOf CX P w K mg base N qual scope f cdv A outer s H E) [] σ' H' s' → RelV v u → Q v H' → CE outer P w H s Q u s' :=
    fun {σ' H' v u} J rv q => ⟨v, H', J.os, J.bare, J.base, J.hok, rv, q⟩
  cases fl with
  | ret u =>
    obtain ⟨v, σ', H', J, rv, q⟩ := hs
    exact fin J rv q
  | next =>
    obtain ⟨σ', H', J, q⟩ := hs
    exact fin (v := V.non) (u := Value.none) J rfl q
  | brk =>
    obtain ⟨_, _, _, q⟩ := hs
    exact False.elim q
  | cont =>
    obtain ⟨_, _, _, q⟩ := hs
    exact False.elim q
end L2

namespace L2
open PySem PySem.Spec PyProof.Rows
section
variable {X : Cx} {x : Str} {p pos : Pos} {e : Expr} {es : List Expr} {t : TA} {id T : String} {r : List V → Hp → VK → Prop}

def tCB (r : List V → Hp → VK → Prop) (t : TA) : TE := fun σ H Q => t σ H fun vs H1 => r vs H1 Q
/-- f(e, ..), f a built-in function -/
theorem pe_callB (hc : CallR X (.builtin id) r) (hg : Gl X x) (hm : X.mg x = none) (hv : bootBuiltins x = some (.builtin id)) (ha : PA X (e :: es) t) (hn : x ≠ "__name__" := by decide) (hdb : (x == ("__debug__" : Str)) = false := by decide)
    (he : starEach (e :: es) X.env = (false, eval e X.env) :: starEach es X.env := by rfl) (hpl : (backTo pos (starEach es X.env)).any (·.1) = false := by rfl) : PE X (.Call (.Name x p) (e :: es) [] pos) (tCB r t) := by
  intro pins s σ H Q I h
  refine wpAny_Call_Name_kw (ld_blt I hg hm hv ?_ hn hdb)
  exact PyProof.Rows.callWith_builtin1 (thn (ha pos pins s σ H _ I h) fun us s1 ⟨vs, H1, I1, r1, q1⟩ => hc pins s1 σ H1 vs us Q I1 r1 q1) he hpl
end
end L2

namespace HT
open PySem PyProof.Rows

section
open PySem.SeqAt
open PySem.AutoSeq1 (wpAny_loadPart')
open PySem.MeetsSeq PySem.MeetsSeq2 PySem.MeetsSeq3

end

section
variable {prog : Program} {w : World} {A : Around} {E : Value → Shared → Prop} {s : Shared}

/-- t + u, t not empty -/
theorem cat_tup {t b : Addr} {vs ws : List Value} {Q : Value → Shared → Prop} (ht : IsTup s.heap t vs.toArray) (hb : IsTup s.heap b ws.toArray) (hv : vs ≠ [])
    (h1 : ws = [] → Q (.ref t) s) (h2 : ws ≠ [] → Q (.ref s.heap.objs.size) { s with heap := s.heap.push { cls := .type "tuple", data := .seq (vs ++ ws).toArray } })
    (hsz : vs.length + ws.length ≤ sizeLine) : wpAny (model prog w) A (binaryOp .Add (.ref t) (.ref b)) Q E s := by
  obtain ⟨⟨cls, dd, data, sl⟩, ho, hc, n, hd⟩ := id ht
  obtain ⟨⟨cls2, dd2, data2, sl2⟩, ho2, hc2, n2, hd2⟩ := id hb
  simp only at hc hd hc2 hd2
  subst hc hd hc2 hd2
  have e : vs.toArray ++ ws.toArray = (vs ++ ws).toArray := by simp
  by_cases hw : ws = []
  · exact concat_meets ⟨_, ho, rfl⟩ ⟨_, ho2, rfl⟩ noFill_tuple_add seq_tuple_add PySem.F.slot_tuple_add PySem.F.entry_tuple_add (PySem.F.args_tuple_add_2 _ _)
      (tuple_addW1 t b vs.toArray ws.toArray n n2 dd dd2 sl sl2 (by simpa using hv) (by simp [hw])) ⟨ho, ho2, h1 hw⟩
  · refine concat_meets ⟨_, ho, rfl⟩ ⟨_, ho2, rfl⟩ noFill_tuple_add seq_tuple_add PySem.F.slot_tuple_add PySem.F.entry_tuple_add (PySem.F.args_tuple_add_2 _ _)
      (tuple_addW2 t b vs.toArray ws.toArray n n2 dd dd2 sl sl2 (by simpa using hv) (by simpa using hw) (by rw [List.size_toArray, List.size_toArray]; exact hsz)) ⟨ho, ho2, ?_⟩
    rw [e]
    exact h2 hw

/-! ### t[a:b], not the whole -/
/-- a slice's bound as a place among n (d where it is left out) -/
def sIx (n d : Nat) : Option Int → Nat
  | none => d
  | some v => if v < 0 then (v + (n : Int)).toNat else min v.toNat n
theorem sIx_none (n d : Nat) : sIx n d none = d := rfl
theorem sIx_nat (n d k : Nat) : sIx n d (some (k : Int)) = min k n := by
  show (if (k : Int) < 0 then ((k : Int) + (n : Int)).toNat else min (k : Int).toNat n) = min k n
  rw [if_neg (by omega), Int.toNat_natCast]
theorem sIx_le (n d : Nat) (hd : d ≤ n) (o : Option Int) : sIx n d o ≤ n := by
  cases o with
  | none => exact hd
  | some v =>
    show (if v < 0 then (v + (n : Int)).toNat else min v.toNat n) ≤ n
    by_cases hv : v < 0
    · rw [if_pos hv]; omega
    · rw [if_neg hv]; exact Nat.min_le_right _ _
theorem clip_eq (v : Int) (n d : Nat) : (if v < 0 then max (v + (n : Int)) 0 else min v (n : Int)) = ((sIx n d (some v) : Nat) : Int) := by
  show (if v < 0 then max (v + (n : Int)) 0 else min v (n : Int)) = (((if v < 0 then (v + (n : Int)).toNat else min v.toNat n) : Nat) : Int)
  by_cases hv : v < 0
  · simp only [if_pos hv]; omega
  · simp only [if_neg hv]; omega
theorem adjust_gen (lo hi : Option Int) (n : Nat) : Builtin.Slice.sliceAdjust lo hi 1 (n : Int) = (((sIx n 0 lo : Nat) : Int), ((sIx n n hi : Nat) : Int)) := by
  have h1 : ¬ ((1 : Int) < 0) := by omega
  unfold Builtin.Slice.sliceAdjust
  simp only [h1, if_false]
  refine Prod.ext ?_ ?_
  · cases lo with
    | none => rfl
    | some v => exact clip_eq v n 0
  · cases hi with
    | none => rfl
    | some v => exact clip_eq v n n
theorem places_gen (i j : Nat) : Builtin.Slice.slicePlaces (i : Int) (j : Int) 1 = j - i := by
  unfold Builtin.Slice.slicePlaces
  have h1 : (1 : Int) > 0 := by omega
  simp only [h1, if_true, Int.ediv_one]
  split <;> omega
theorem slicePart_ {v : Value} {o : Option Int} {Q : Option Int → Shared → Prop} (p : IsPart v o) (h : Q o s) : wpAny (model prog w) A (Builtin.Slice.slicePartIndex v) Q E s := by
  cases p with
  | none => exact slicePart_none h
  | int i t => exact slicePart_int h
theorem sliceApplied_gen {sl : Addr} {vl vu : Value} {lo hi : Option Int} {n : Nat} {Q : Int × Int × Nat → Shared → Prop} (hs : s.heap.IsSliceOf sl vl vu .none) (pl : IsPart vl lo) (pu : IsPart vu hi)
    (h : Q (((sIx n 0 lo : Nat) : Int), 1, sIx n n hi - sIx n 0 lo) s) : wpAny (model prog w) A (Builtin.Slice.sliceApplied (.ref sl) (pure (n : Int))) Q E s := by
  obtain ⟨os, hos, hcs, hds⟩ := id hs
  unfold Builtin.Slice.sliceApplied Builtin.Slice.sliceFields
  refine wpAny_bind (wpAny_bind (wpAny_field hos hds (x := vl) rfl (wpAny_bind (wpAny_field hos hds (x := vu) rfl (wpAny_bind (wpAny_field hos hds (x := .none) rfl (wpAny_pure ?_)))))))
  refine wpAny_bind (slicePart_none ?_)
  show wpAny _ _ (if ((1 : Int) == 0) = true then _ else _) _ _ s
  rw [if_neg (by decide)]
  refine wpAny_bind (slicePart_ pl (wpAny_bind (slicePart_ pu (wpAny_bind (wpAny_pure ?_)))))
  show wpAny _ _ (match Builtin.Slice.sliceAdjust lo hi 1 (n : Int) with | (lo, hi) => pure (lo, (1 : Int), Builtin.Slice.slicePlaces lo hi 1)) _ _ s
  rw [adjust_gen lo hi n]
  show wpAny _ _ (pure (((sIx n 0 lo : Nat) : Int), (1 : Int), Builtin.Slice.slicePlaces ((sIx n 0 lo : Nat) : Int) ((sIx n n hi : Nat) : Int) 1)) _ _ s
  rw [places_gen]
  exact wpAny_pure h
theorem pick_gen (xs : Array Value) (i k : Nat) : ((List.range k).filterMap fun (m : Nat) => xs[((i : Int) + (m : Int) * 1).toNat]?).toArray = ((xs.toList.drop i).take k).toArray := by
  have e : (fun (m : Nat) => xs[((i : Int) + (m : Int) * 1).toNat]?) = fun m => xs[i + m]? := by
    funext m
    have : ((i : Int) + (m : Int) * 1).toNat = i + m := by omega
    rw [this]
  rw [e]
  have := pick_run xs i k
  rw [List.filterMap_map] at this
  have e2 : ((fun x => xs[x]?) ∘ fun x => i + x) = fun m => xs[i + m]? := rfl
  rw [e2] at this
  rw [this]

theorem getItem_tuple_cut {t sl : Addr} {items : Array Value} {vl vu : Value} {lo hi : Option Int} {Q : Value → Shared → Prop} (ht : IsTup s.heap t items) (hs : s.heap.IsSliceOf sl vl vu .none) (pl : IsPart vl lo) (pu : IsPart vu hi)
    (hw : ¬ (sIx items.size 0 lo = 0 ∧ sIx items.size items.size hi = items.size))
    (h : Q (.ref s.heap.objs.size) { s with heap := s.heap.push { cls := .type "tuple", data := .seq ((items.toList.drop (sIx items.size 0 lo)).take (sIx items.size items.size hi - sIx items.size 0 lo)).toArray } })
    (hsz : items.size ≤ sizeLine) : wpAny (model prog w) A (getItem (.ref t) (.ref sl)) Q E s := by
  have htake : sizeOk (.seq ((items.toList.drop (sIx items.size 0 lo)).take (sIx items.size items.size hi - sIx items.size 0 lo)).toArray) := by
    show ((items.toList.drop (sIx items.size 0 lo)).take (sIx items.size items.size hi - sIx items.size 0 lo)).toArray.size ≤ sizeLine
    rw [List.size_toArray, List.length_take, List.length_drop, Array.length_toList]
    omega
  have hj : sIx items.size items.size hi ≤ items.size := sIx_le _ _ (Nat.le_refl _) hi
  obtain ⟨os, hos, hcs, hds⟩ := id hs
  have hTs : s.TypeIs (.ref sl) "slice" := ⟨os, hos, hcs⟩
  unfold getItem
  try with_reducible refine wpAny_holding ?_
  first | refine wpAny_bind (wpAny_pure ?_) | skip
  refine wpAny_bind (wpAny_sequenceKey ht.typeIs (by decide) ?_)
  refine wpAny_bind (wpAny_callSpecial?_slot (name := Str.ofString "__getitem__") ht.typeIs PyProof.Rows.slot_tuple_getitem
    (wpAny_call_entry PyProof.Rows.slot_tuple_getitem ht.typeIs entry_tuple_getitem ?_ (args_tuple_getitem _ _)))
  show wpAny _ _ (Builtin.Tuple.tupleItemsOf (.ref t) >>= _) _ _ s
  refine wpAny_bind (tupleItemsOf_ ht ?_)
  refine wpAny_bind (wpAny_typeOf hTs ?_)
  rw [if_pos (by decide)]
  refine wpAny_bind (sliceApplied_gen hs pl pu ?_)
  have hno : ¬ ((((sIx items.size 0 lo : Nat) : Int) == 0 && (1 : Int) == 1 && (sIx items.size items.size hi - sIx items.size 0 lo) == items.size) = true) := by
    intro q
    rw [Bool.and_eq_true, Bool.and_eq_true] at q
    have q1 : ((sIx items.size 0 lo : Nat) : Int) = 0 := eq_of_beq q.1.1
    have q2 : sIx items.size items.size hi - sIx items.size 0 lo = items.size := eq_of_beq q.2
    exact hw ⟨by omega, by omega⟩
  show wpAny _ _ (if (((sIx items.size 0 lo : Nat) : Int) == 0 && (1 : Int) == 1 && (sIx items.size items.size hi - sIx items.size 0 lo) == items.size) = true then _ else _) _ _ s
  rw [if_neg hno, pick_gen]
  first
    | exact wpAny_bind (m := Builtin.Tuple.tupleExact _) (wpAny_newObj_type (wpAny_pure ⟨_, rfl, wpAny_pure h⟩) htake)
    | exact wpAny_bind (m := Builtin.Tuple.tupleExact _) (wpAny_newObj_type (wpAny_bind (wpAny_pure (wpAny_pure ⟨_, rfl, wpAny_pure h⟩))) htake)
    | exact wpAny_bind (wpAny_bind (m := Builtin.Tuple.tupleExact _) (wpAny_newObj_type (wpAny_pure (wpAny_pure ⟨_, rfl, wpAny_pure h⟩)) htake))
    | exact wpAny_bind (wpAny_bind (m := Builtin.Tuple.tupleExact _) (wpAny_newObj_type (wpAny_pure ⟨_, rfl, wpAny_pure h⟩) htake))
end
end HT

namespace L2
open PySem PySem.Spec PyProof.Rows

/-! ### the parts of a slice -/
abbrev TO := St → Hp → (Option Int → Hp → Prop) → Prop
/-- a slice's part (left out, or an int) -/
def PO (X : Cx) (e : Option Expr) (t : TO) : Prop :=
  ∀ (pins : List (Addr × Obj)) (s : Shared) (σ : St) (H : Hp) (Q : Option Int → Hp → Prop), Inv X pins σ H s → t σ H Q →
    wpAny (model X.prog X.w) X.A (evalPart e X.env) (fun u s' => ∃ o H', Inv X pins σ H' s' ∧ IsPart u o ∧ Q o H') X.xe s
def tNoPart : TO := fun _ H Q => Q none H
def tPart (t : TE) : TO := fun σ H Q => t σ H fun x H1 => ∃ i, x = .int i ∧ Q (some i) H1

section
variable {X : Cx} {e : Expr} {te : TE} {lo hi : Option Expr} {tl th : TO} {pos p2 : Pos}

theorem po_none : PO X none tNoPart := by
  intro pins s σ H Q I h
  rw [evalPart_none]
  exact wpAny_pure ⟨none, H, I, .none, h⟩
theorem po_some (h : PE X e te) : PO X (some e) (tPart te) := by
  intro pins s σ H Q I hw
  rw [evalPart_some]
  refine thn (h pins s σ H _ I hw) fun u s1 ⟨x, H1, I1, r1, q1⟩ => ?_
  obtain ⟨i, rfl, q⟩ := q1
  obtain ⟨t, rfl⟩ := r1
  exact ⟨some i, H1, I1, .int i t, q⟩

/-- what a slice of a value is, by values: the slice object stands at sl -/
def SlR (X : Cx) (r : V → Option Int → Option Int → Hp → VK → Prop) : Prop :=
  ∀ (pins : List (Addr × Obj)) (s : Shared) (σ : St) (H : Hp) (x : V) (v vl vu : Value) (lo hi : Option Int) (sl : Addr) (Q : VK), Inv X pins σ H s → RelV x v → s.heap.IsSliceOf sl vl vu .none → IsPart vl lo → IsPart vu hi → r x lo hi H Q →
    ∃ T id, typeLookup (.type T) "__getitem__" = pure (some (.builtin id)) ∧ s.TypeIs v T ∧ wpAny (model X.prog X.w) X.A (getItem v (.ref sl)) (EP X pins σ Q) X.xe s
theorem SlR.or {r r' : V → Option Int → Option Int → Hp → VK → Prop} (h : SlR X r) (h' : SlR X r') : SlR X (fun x lo hi H Q => r x lo hi H Q ∨ r' x lo hi H Q) := by
  intro pins s σ H x v vl vu lo hi sl Q I rx hs pl pu q
  rcases q with q | q
  · exact h pins s σ H x v vl vu lo hi sl Q I rx hs pl pu q
  · exact h' pins s σ H x v vl vu lo hi sl Q I rx hs pl pu q
def tSl (r : V → Option Int → Option Int → Hp → VK → Prop) (te : TE) (tl th : TO) : TE := fun σ H Q => te σ H fun x H1 => tl σ H1 fun l H2 => th σ H2 fun u H3 => r x l u H3 Q
/-- a[lo:hi], any a -/
theorem pe_slice {r : V → Option Int → Option Int → Hp → VK → Prop} (hr : SlR X r) (he : PE X e te) (hl : PO X lo tl) (hu : PO X hi th) : PE X (.Subscript e (.Slice lo hi none p2) pos) (tSl r te tl th) := by
  intro pins s σ H Q I h
  refine Subscript_ (thn (he pins s σ H _ I h) fun v s1 ⟨x, H1, I1, r1, q1⟩ => ?_)
  refine wpAny_Slice (thn (hl pins s1 σ H1 _ I1 q1) fun vl s2 ⟨l, H2, I2, pl, q2⟩ => thn (hu pins s2 σ H2 _ I2 q2) fun vu s3 ⟨u, H3, I3, pu, q3⟩ => ?_)
  rw [evalPart_none]
  refine wpAny_pure ?_
  have I4 : Inv X pins σ H3 { s3 with heap := s3.heap.push { cls := .type "slice", data := .fields #[vl, vu, .none] } } := I3.kept (t' := s3.toks) fun b ob q => Heap.get?_push_of_some _ q
  obtain ⟨T, id, hT, ht, hg⟩ := hr pins { s3 with heap := s3.heap.push { cls := .type "slice", data := .fields #[vl, vu, .none] } } σ H3 x v vl vu l u s3.heap.objs.size Q I4 r1 (Heap.IsSliceOf.new ..) pl pu q3
  show wpAny (model X.prog X.w) X.A (subscriptTail e (.Slice lo hi none p2) v (.ref s3.heap.objs.size)) (EP X pins σ Q) X.xe { s3 with heap := s3.heap.push { cls := .type "slice", data := .fields #[vl, vu, .none] } }
  exact tail_any (ops := [.ref s3.heap.objs.size, v]) ht hT hg (by with_unfolding_all rfl)

/-- the items of xs[lo:hi] -/
def cutV (xs : List V) (lo hi : Option Int) : List V := (xs.drop (HT.sIx xs.length 0 lo)).take (HT.sIx xs.length xs.length hi - HT.sIx xs.length 0 lo)
theorem cutV_length (xs : List V) (lo hi : Option Int) : (cutV xs lo hi).length ≤ xs.length := by
  unfold cutV
  rw [List.length_take, List.length_drop]
  omega
/-- t[lo:hi], not the whole of it (the whole would be t itself) -/
def rSlT (K : PySem.W.Frag) : V → Option Int → Option Int → Hp → VK → Prop := fun x lo hi H Q => ∃ a xs, x = .ref a ∧ SqT K H a xs ∧
  ¬ (HT.sIx xs.length 0 lo = 0 ∧ HT.sIx xs.length xs.length hi = xs.length) ∧ ∀ p, H p = none → Q (.ref p) (upd H p (.tup (cutV xs lo hi)))
theorem sl_tup : SlR X (rSlT X.K) := by
  intro pins s σ H x v vl vu lo hi sl Q I rx hs pl pu h
  obtain ⟨a, xs, rfl, hx, hw, q⟩ := h
  cases rx
  obtain ⟨its, r, ht, hz⟩ := I.tuple hx
  have hlen : its.toArray.size = xs.length := by rw [List.size_toArray]; exact r.length.symm
  refine ⟨"tuple", _, PyProof.Rows.slot_tuple_getitem.lookup, ht.typeIs, ?_⟩
  refine HT.getItem_tuple_cut ht hs pl pu (by rw [hlen]; exact hw) ?_ (by rw [hlen]; exact hz)
  rw [hlen]
  refine ⟨.ref s.heap.objs.size, _, I.laid (t' := s.toks) (o := .tup (cutV xs lo hi)) (fun b ob q => Heap.get?_push_of_some _ q) (Nat.le_refl _) ?_, rfl, q _ (I.hok.fresh (Nat.le_refl _))⟩
  exact ⟨Nat.le_trans (cutV_length xs lo hi) hz, _, (r.drop (HT.sIx xs.length 0 lo)).take (HT.sIx xs.length xs.length hi - HT.sIx xs.length 0 lo), IsTup.new _ _⟩

/-! ### t < u, t + u -/
/-- t + u, t not empty: u empty gives t itself -/
def rCatT (K : PySem.W.Frag) : R2 := fun x y H Q => ∃ a b xs ys, x = .ref a ∧ y = .ref b ∧ SqT K H a xs ∧ SqT K H b ys ∧ xs ≠ [] ∧ xs.length + ys.length ≤ sizeLine ∧
  (ys = [] → Q (.ref a) H) ∧ (ys ≠ [] → ∀ p, H p = none → Q (.ref p) (upd H p (.tup (xs ++ ys))))
theorem Vals.nil_iff {xs : List V} {us : List Value} (r : Vals xs us) : us = [] ↔ xs = [] := by
  cases r with
  | nil => simp
  | cons _ _ => simp
theorem op_catT : OpR X (binaryOp .Add) (rCatT X.K) := by
  intro pins s σ H x y v u Q I rx ry h
  obtain ⟨a, b, xs, ys, rfl, rfl, ha, hb, hx, hz, q1, q2⟩ := h
  cases rx
  cases ry
  obtain ⟨its, r1, p1, _⟩ := I.tuple ha
  obtain ⟨its2, r2, p2, _⟩ := I.tuple hb
  refine HT.cat_tup p1 p2 (fun z => hx (r1.nil_iff.mp z)) (fun z => ⟨.ref a, H, I, rfl, q1 (r2.nil_iff.mp z)⟩) (fun z => ?_) (by rw [← r1.length, ← r2.length]; exact hz)
  refine ⟨.ref s.heap.objs.size, _, I.laid (t' := s.toks) (o := .tup (xs ++ ys)) (fun b ob q => Heap.get?_push_of_some _ q) (Nat.le_refl _) ?_, rfl, q2 (fun w => z (r2.nil_iff.mpr w)) _ (I.hok.fresh (Nat.le_refl _))⟩
  exact ⟨by rw [List.length_append]; exact hz, _, r1.append r2, IsTup.new _ _⟩
end
end L2

namespace L2
open PySem PySem.Spec PyProof.Rows

/-! ### places -/
/-- the place that an index of any sign means -/
def ixN (n : Nat) (i : Int) : Option Nat := if 0 ≤ i then (if i < n then some i.toNat else none) else if -(n : Int) ≤ i then some (i + n).toNat else none
def atI {α : Type} (xs : List α) (i : Int) : Option α := (ixN xs.length i).bind fun j => xs[j]?
theorem ixN_seq {n : Nat} {i : Int} {j : Nat} (h : ixN n i = some j) : seqIndex? i n = some j ∧ j < n ∧ -(n : Int) ≤ i ∧ i < n := by
  unfold ixN at h
  by_cases h0 : 0 ≤ i
  · rw [if_pos h0] at h
    by_cases h1 : i < n
    · rw [if_pos h1] at h
      have e : i.toNat = j := Option.some.inj h
      exact ⟨by rw [seqIndex_of h0 h1, e], by omega, by omega, h1⟩
    · rw [if_neg h1] at h; cases h
  · rw [if_neg h0] at h
    by_cases h1 : -(n : Int) ≤ i
    · rw [if_pos h1] at h
      have e : (i + n).toNat = j := Option.some.inj h
      exact ⟨by rw [seqIndex_neg (by omega) h1, e], by omega, h1, by omega⟩
    · rw [if_neg h1] at h; cases h
theorem atI_get {α : Type} {xs : List α} {i : Int} {v : α} (h : atI xs i = some v) : ∃ j, seqIndex? i xs.length = some j ∧ xs[j]? = some v ∧ j < xs.length ∧ -(xs.length : Int) ≤ i ∧ i < xs.length := by
  unfold atI at h
  cases e : ixN xs.length i with
  | none => rw [e] at h; cases h
  | some j =>
    rw [e] at h
    obtain ⟨h1, h2, h3, h4⟩ := ixN_seq e
    exact ⟨j, h1, h, h2, h3, h4⟩
theorem atI_nat {α : Type} {xs : List α} {j : Nat} {v : α} (h : xs[j]? = some v) : atI xs (j : Int) = some v := by
  have hj : j < xs.length := (List.getElem?_eq_some_iff.mp h).1
  have e : ixN xs.length (j : Int) = some j := by
    unfold ixN
    rw [if_pos (by omega), if_pos (by omega)]; simp
  unfold atI; rw [e]; exact h
/-! ### what may be subscripted -/
/-- what stands as an index of a plain subscript -/
def PlainIx (b : Expr) : Prop := ∀ o i, subscripted b false o i = operate [o, i] (getItem o i)
/-- a subscript by values -/
def IxR (X : Cx) (r : R2) : Prop :=
  ∀ (value slice : Expr) (pins : List (Addr × Obj)) (s : Shared) (σ : St) (H : Hp) (x y : V) (v u : Value) (Q : VK), Inv X pins σ H s → RelV x v → RelV y u → r x y H Q →
    subscripted slice false v u = operate [v, u] (getItem v u) → wpAny (model X.prog X.w) X.A (subscriptTail value slice v u) (EP X pins σ Q) X.xe s
/-- a call of a builtin's method by values: the receiver, the arguments -/
def MtR (X : Cx) (id : String) (r : V → List V → Hp → VK → Prop) : Prop :=
  ∀ (pins : List (Addr × Obj)) (s : Shared) (σ : St) (H : Hp) (x : V) (xs : List V) (v : Value) (us : List Value) (Q : VK), Inv X pins σ H s → RelV x v → Vals xs us → r x xs H Q →
    wpAny (model X.prog X.w) X.A (call (.builtin id) (v :: us)) (EP X pins σ Q) X.xe s
section
variable {X : Cx} {a b : Expr} {ta tb : TE} {pos : Pos}
theorem IxR.or {r r' : R2} (h : IxR X r) (h' : IxR X r') : IxR X (fun x y H Q => r x y H Q ∨ r' x y H Q) := by
  intro value slice pins s σ H x y v u Q I rx ry q hs
  rcases q with q | q
  · exact h value slice pins s σ H x y v u Q I rx ry q hs
  · exact h' value slice pins s σ H x y v u Q I rx ry q hs
theorem MtR.or {id : String} {r r' : V → List V → Hp → VK → Prop} (h : MtR X id r) (h' : MtR X id r') : MtR X id (fun x xs H Q => r x xs H Q ∨ r' x xs H Q) := by
  intro pins s σ H x xs v us Q I rx rs q
  rcases q with q | q
  · exact h pins s σ H x xs v us Q I rx rs q
  · exact h' pins s σ H x xs v us Q I rx rs q
/-- a[b] -/
theorem pe_ix {r : R2} (hr : IxR X r) (ha : PE X a ta) (hb : PE X b tb) (hs : PlainIx b) : PE X (.Subscript a b pos) (tOp r ta tb) := by
  intro pins s σ H Q I h
  exact Subscript_ (binT ha hb I h fun v u s2 x y H2 I2 rx ry q => hr a b pins s2 σ H2 x y v u Q I2 rx ry q (hs _ _))

def rIxL (K : PySem.W.Frag) : R2 := fun x y H Q => ∃ p xs i v, x = .ref p ∧ y = .int i ∧ SqL K H p xs ∧ atI xs i = some v ∧ Q v H
def rIxT (K : PySem.W.Frag) : R2 := fun x y H Q => ∃ p xs i v, x = .ref p ∧ y = .int i ∧ SqT K H p xs ∧ atI xs i = some v ∧ Q v H
def rIxS : R2 := fun x y H Q => ∃ z i c, x = .str z ∧ y = .int i ∧ z.length ≤ sizeLine ∧ atI z.cps.toList i = some c ∧ Q (.str ⟨#[c]⟩) H
theorem ix_list : IxR X (rIxL X.K) := by
  intro value slice pins s σ H x y v u Q I rx ry h hs
  obtain ⟨p, xs, i, z, rfl, rfl, hq, he, q⟩ := h
  cases rx
  obtain ⟨t, rfl⟩ := ry
  obtain ⟨its, r, pl, hz⟩ := I.list hq
  obtain ⟨j, h1, h2, h3, h4, h5⟩ := atI_get he
  obtain ⟨w, ew, rw'⟩ := r.get h2
  have hl := r.length
  have hn := line63
  have fin : EP X pins σ Q w s := ⟨z, H, I, rw', q⟩
  by_cases h0 : 0 ≤ i
  · have hj : i.toNat = j := by
      rw [seqIndex_of h0 h5] at h1
      exact Option.some.inj h1
    exact item_listR pl.isList h0 (by omega) (by rw [hj]; simpa using ew) fin hs
  · have hj : (i + (its.toArray.size : Int)).toNat = j := by
      rw [seqIndex_neg (by omega) h4] at h1
      rw [List.size_toArray, ← hl]
      exact Option.some.inj h1
    exact subscriptTail_builtinR (x := w) pl.isList.typeIs slot_list_getitem.lookup
      (wpAny_getItem_list_neg (Q := fun r s' => r = w ∧ EP X pins σ Q r s') pl.isList (by omega) (by rw [List.size_toArray] <;> omega) (by omega) (by rw [hj]; simpa using ew) ⟨rfl, fin⟩) hs
theorem ix_tup : IxR X (rIxT X.K) := by
  intro value slice pins s σ H x y v u Q I rx ry h hs
  obtain ⟨p, xs, i, z, rfl, rfl, hq, he, q⟩ := h
  cases rx
  obtain ⟨t, rfl⟩ := ry
  obtain ⟨its, r, pl, hz⟩ := I.tuple hq
  obtain ⟨j, h1, h2, h3, h4, h5⟩ := atI_get he
  obtain ⟨w, ew, rw'⟩ := r.get h2
  have hl := r.length
  have hn := line63
  have fin : EP X pins σ Q w s := ⟨z, H, I, rw', q⟩
  exact subscriptTail_builtinR (x := w) pl.typeIs slot_tuple_getitem.lookup
    (getItem_tuple (j := j) (Q := fun r s' => r = w ∧ EP X pins σ Q r s') pl (by omega) (by omega) (by rw [List.size_toArray, ← hl]; exact h1) (by simpa using ew) ⟨rfl, fin⟩) hs
theorem ix_str : IxR X rIxS := by
  intro value slice pins s σ H x y v u Q I rx ry h hs
  obtain ⟨z, i, c, rfl, rfl, hz, he, q⟩ := h
  obtain ⟨t, rfl⟩ := rx
  obtain ⟨t', rfl⟩ := ry
  obtain ⟨j, h1, h2, h3, h4, h5⟩ := atI_get he
  have hl : z.cps.toList.length = z.length := by simp [Str.length]
  rw [hl] at h1 h4 h5
  have hn := line63
  exact tail_any (typeIs_str s z t) slot_str_getitem.lookup (getItem_str (c := c) (by
    have e1 : decide (i < -(2 ^ 63 : Int)) = false := decide_eq_false (by omega)
    have e2 : decide (i ≥ 2 ^ 63) = false := decide_eq_false (by omega)
    rw [e1, e2, Bool.or_false]) (by rw [h1]; simpa using h2) ⟨.str ⟨#[c]⟩, H, I.tok _, ⟨_, rfl⟩, q⟩) hs
/-! ### xs[i] = v, any sign -/
theorem Inv.lst {pins : List (Addr × Obj)} {σ : St} {H : Hp} {s : Shared} {p : Addr} {xs : List V} (I : Inv X pins σ H s) (h : H p = some (.lst xs)) :
    ∃ (its : List Value) (n : Nat), Vals xs its ∧ s.heap.get? p = some { cls := .type "list", data := .seq its.toArray n } ∧ xs.length ≤ sizeLine := by
  obtain ⟨z, its, n, r, e⟩ := I.hok p _ h
  exact ⟨its, n, r, e, z⟩
/-! ### slices -/
/-! ### in, not in: flat items -/
def flatV : V → Bool
  | .non => true
  | .bl _ => true
  | .int _ => true
  | .str _ => true
  | _ => false
/-- == of flat values -/
def eqV : V → V → Bool
  | .non, .non => true
  | .bl a, .bl b => a == b
  | .bl a, .int b => (if a then 1 else 0) == b
  | .int a, .bl b => a == (if b then 1 else 0)
  | .int a, .int b => a == b
  | .str a, .str b => a == b
  | _, _ => false
theorem eqAt_V {A : Around} {s : Shared} {y x : V} {u v : Value} (ry : RelV y u) (rx : RelV x v) (fy : flatV y = true) (fx : flatV x = true) : SeqAt.EqAt A s u v (eqV y x) := by
  cases y with
  | non =>
    cases ry
    cases x with
    | non => cases rx; exact SeqAt.EqAt.same _
    | bl b => cases rx; exact SeqAt.EqAt.none_bool b
    | int b => obtain ⟨t, rfl⟩ := rx; exact SeqAt.EqAt.none_int b t
    | str b => obtain ⟨t, rfl⟩ := rx; exact SeqAt.EqAt.none_str b t
    | _ => exact absurd (show false = true from fx) Bool.false_ne_true
  | bl a =>
    cases ry
    cases x with
    | non => cases rx; exact SeqAt.EqAt.bool_none a
    | bl b => cases rx; exact SeqAt.EqAt.bool_bool a b
    | int b => obtain ⟨t, rfl⟩ := rx; exact SeqAt.EqAt.bool_int a b t
    | str b => obtain ⟨t, rfl⟩ := rx; exact SeqAt.EqAt.bool_str a b t
    | _ => exact absurd (show false = true from fx) Bool.false_ne_true
  | int a =>
    obtain ⟨t', rfl⟩ := ry
    cases x with
    | non => cases rx; exact SeqAt.EqAt.int_none a t'
    | bl b => cases rx; exact SeqAt.EqAt.int_bool a t' b
    | int b => obtain ⟨t, rfl⟩ := rx; exact SeqAt.EqAt.int_int a t' b t
    | str b => obtain ⟨t, rfl⟩ := rx; exact SeqAt.EqAt.int_str a t' b t
    | _ => exact absurd (show false = true from fx) Bool.false_ne_true
  | str a =>
    obtain ⟨t', rfl⟩ := ry
    cases x with
    | non => cases rx; exact SeqAt.EqAt.str_none a t'
    | bl b => cases rx; exact SeqAt.EqAt.str_bool a t' b
    | int b => obtain ⟨t, rfl⟩ := rx; exact SeqAt.EqAt.str_int a t' b t
    | str b => obtain ⟨t, rfl⟩ := rx; exact SeqAt.EqAt.str_str a t' b t
    | _ => exact absurd (show false = true from fx) Bool.false_ne_true
  | _ => exact absurd (show false = true from fy) Bool.false_ne_true
/-- the items' answers, read off the values (a value's own answer does not lean on its token) -/
def eqU (x : V) (u : Value) : Bool := match u with
  | .none => eqV .non x
  | .bool b => eqV (.bl b) x
  | .int i _ => eqV (.int i) x
  | .str z _ => eqV (.str z) x
  | _ => false
theorem eqU_of {x y : V} {u : Value} (r : RelV y u) (f : flatV y = true) : eqU x u = eqV y x := by
  cases y with
  | non => cases r; rfl
  | bl b => cases r; rfl
  | int i => obtain ⟨t, rfl⟩ := r; rfl
  | str z => obtain ⟨t, rfl⟩ := r; rfl
  | _ => exact absurd (show false = true from f) Bool.false_ne_true
theorem any_eqU {x : V} : ∀ {xs : List V} {us : List Value}, Vals xs us → xs.all flatV = true → us.any (eqU x) = xs.any fun y => eqV y x
  | _, _, .nil, _ => rfl
  | y :: xs, u :: us, .cons r t, f => by
    rw [List.all_cons, Bool.and_eq_true] at f
    rw [List.any_cons, List.any_cons, eqU_of r f.1, any_eqU t f.2]
theorem mem_eqAt {A : Around} {s : Shared} {x : V} {v : Value} (rx : RelV x v) (fx : flatV x = true) : ∀ {xs : List V} {us : List Value}, Vals xs us → xs.all flatV = true → ∀ u ∈ us, SeqAt.EqAt A s u v (eqU x u)
  | _, _, .nil, _ => fun u hu => by cases hu
  | y :: xs, u :: us, .cons r t, f => fun u' hu => by
    rw [List.all_cons, Bool.and_eq_true] at f
    rcases List.mem_cons.mp hu with rfl | hu
    · rw [eqU_of r f.1]; exact eqAt_V r rx f.1 fx
    · exact mem_eqAt rx fx t f.2 u' hu
def inV (x : V) (xs : List V) : Bool := xs.any fun y => eqV y x
/-- x in a list or tuple of flat items -/
def rIn (K : PySem.W.Frag) (neg : Bool) : R2 := fun x y H Q => ∃ p xs, y = .ref p ∧ (SqL K H p xs ∨ SqT K H p xs) ∧ flatV x = true ∧ xs.all flatV = true ∧ Q (.bl (if neg then !inV x xs else inV x xs)) H
theorem op_notIn_seq : OpR X (compareOp .NotIn) (rIn X.K true) := by
  intro pins s σ H x y v u Q I rx ry h
  obtain ⟨p, xs, rfl, hq, fx, fs, q⟩ := h
  cases ry
  rcases hq with hq | hq
  · obtain ⟨its, r, pl, hz⟩ := I.list hq
    refine SeqAt.notIn_listAt (eqU x) pl.isList (fun w hw => mem_eqAt rx fx r fs w (by simpa using hw)) ⟨.bl _, H, I, rfl, ?_⟩
    rw [show its.toArray.any (eqU x) = its.any (eqU x) by simp, any_eqU r fs]
    exact q
  · obtain ⟨its, r, pl, hz⟩ := I.tuple hq
    refine SeqAt.notIn_tupleAt (eqU x) pl (fun w hw => mem_eqAt rx fx r fs w (by simpa using hw)) ⟨.bl _, H, I, rfl, ?_⟩
    rw [show its.toArray.any (eqU x) = its.any (eqU x) by simp, any_eqU r fs]
    exact q
/-! ### len, list(x), tuple(x) of any list or tuple that is read -/
theorem call_len_seq : CallR X (.builtin "len") (fun xs H Q => ∃ p ys, xs = [.ref p] ∧ (SqL X.K H p ys ∨ SqT X.K H p ys) ∧ Q (.int ys.length) H) := by
  intro pins s σ H xs us Q I r h
  obtain ⟨p, ys, rfl, hq, q⟩ := h
  obtain ⟨u, rfl, rx⟩ := vals1 r
  cases rx
  have hn := line63
  rcases hq with hq | hq
  · obtain ⟨its, r', pl, hz⟩ := I.list hq
    have hlen := r'.length
    exact Calls.call_len_list pl.isList (by simp only [List.size_toArray] <;> omega) ⟨.int ys.length, H, I.tok _, ⟨s.toks + 1, by rw [List.size_toArray, hlen]⟩, q⟩
  · obtain ⟨its, r', pl, hz⟩ := I.tuple hq
    have hlen := r'.length
    exact len_tuple pl (by simp only [List.size_toArray] <;> omega) ⟨.int ys.length, H, I.tok _, ⟨s.toks + 1, by rw [List.size_toArray, hlen]⟩, q⟩
theorem CallR.or {f : Value} {r r' : List V → Hp → VK → Prop} (h : CallR X f r) (h' : CallR X f r') : CallR X f (fun xs H Q => r xs H Q ∨ r' xs H Q) := by
  intro pins s σ H xs us Q I rs q
  rcases q with q | q
  · exact h pins s σ H xs us Q I rs q
  · exact h' pins s σ H xs us Q I rs q
/-! ### the call of a builtin's method: o.m(..) -/
/-- the value is of that builtin type -/
def tyV (K : PySem.W.Frag) (T : String) (x : V) (H : Hp) : Prop := match x with
  | .str _ => T = "str"
  | .int _ => T = "int"
  | .ref p => (T = "list" ∧ ∃ xs, SqL K H p xs) ∨ (T = "tuple" ∧ ∃ o, K.lookup p = some o ∧ o.cls = .type "tuple" ∧ o.dict = none) ∨
      (T = "dict" ∧ ((∃ kvs, H p = some (.dK kvs)) ∨ ∃ kvs, H p = some (.dT kvs))) ∨ (T = "set" ∧ ∃ S n, H p = some (.set S n))
  | _ => False
theorem tyV_is {pins : List (Addr × Obj)} {σ : St} {H : Hp} {s : Shared} {T : String} {x : V} {v : Value} (I : Inv X pins σ H s) (r : RelV x v) (ty : tyV X.K T x H) :
    s.TypeIs v T ∧ ∀ a, v = .ref a → ∃ ob, s.heap.get? a = some ob ∧ ob.dict = none := by
  cases x with
  | str z =>
    obtain ⟨t, rfl⟩ := r
    cases (show T = "str" from ty)
    exact ⟨typeIs_str s z t, fun _ e => nomatch e⟩
  | int i =>
    obtain ⟨t, rfl⟩ := r
    cases (show T = "int" from ty)
    exact ⟨typeIs_int s i t, fun _ e => nomatch e⟩
  | ref p =>
    cases r
    rcases ty with ⟨rfl, xs, hq⟩ | ⟨rfl, o, hk, hc, hd⟩ | ⟨rfl, hk⟩ | ⟨rfl, S, n, hk⟩
    · obtain ⟨its, _, pl, _⟩ := I.list hq
      refine ⟨pl.isList.typeIs, fun a e => ?_⟩
      cases e
      obtain ⟨o, n, e, c, hd, _⟩ := pl
      exact ⟨o, e, hd⟩
    · refine ⟨⟨o, I.kIn p o hk, hc⟩, fun a e => ?_⟩
      cases e
      exact ⟨o, I.kIn _ o hk, hd⟩
    · have z : ∃ o, s.heap.get? p = some o ∧ o.ExactDict := by
        rcases hk with ⟨kvs, hk⟩ | ⟨kvs, hk⟩
        · obtain ⟨_, _, _, _, o, _, _, e, ex, _⟩ := I.hok p _ hk
          exact ⟨o, e, ex⟩
        · obtain ⟨_, _, _, _, o, _, _, e, ex, _⟩ := I.hok p _ hk
          exact ⟨o, e, ex⟩
      obtain ⟨o, e, ex⟩ := z
      refine ⟨⟨o, e, ex.1⟩, fun a e2 => ?_⟩
      cases e2
      exact ⟨o, e, ex.2.1⟩
    · obtain ⟨o, _, _, _, e, ex, _⟩ := I.hok p _ hk
      refine ⟨⟨o, e, ex.1⟩, fun a e2 => ?_⟩
      cases e2
      exact ⟨o, e, ex.2.1⟩
  | _ => exact False.elim ty
def tBM (K : PySem.W.Frag) (T : String) (r : V → List V → Hp → VK → Prop) (to : TE) (t : TA) : TE := fun σ H Q => to σ H fun x H1 => tyV K T x H1 ∧ t σ H1 fun xs H2 => r x xs H2 Q
variable {o e : Expr} {es : List Expr} {to : TE} {t : TA} {name : Str} {apos cpos : Pos} {T id : String} {r : V → List V → Hp → VK → Prop}
theorem pe_bm (pa : PlainAttrs T) (slot : Slot T name id) (hty : typeOf (.builtin id) = pure (.type "method_descriptor")) (hm : MtR X id r) (ho : PE X o to) (ha : PA X (e :: es) t)
    (hbase : attributeBase o name X.env (eval o X.env) = eval o X.env := by rfl)
    (hfew : ((backTo cpos (starEach (e :: es) X.env)).all (fun x => !x.1) && (backToKw cpos (keywordEach [] X.env)).all (fun x => x.1.isSome)
      && decide ((e :: es).length + ([] : List Keyword).length + (if ([] : List Keyword).isEmpty then 0 else 1) < 30)) = true := by rfl)
    (hline : (apos.endLine == cpos.line) = true := by rfl) (hs : starEach (e :: es) X.env = (false, eval e X.env) :: starEach es X.env := by rfl) (hplain : (backTo cpos (starEach es X.env)).any (·.1) = false := by rfl) :
    PE X (.Call (.Attribute o name apos) (e :: es) [] cpos) (tBM X.K T r to t) := by
  intro pins s σ H Q I h
  refine wpAny_Call_method_late hbase hfew hline rfl (thn (ho pins s σ H _ I h) fun v s1 ⟨x, H1, I1, r1, ty, q1⟩ => ?_)
  obtain ⟨h1, h2⟩ := tyV_is I1 r1 ty
  refine ⟨T, id, pa, slot, hty, h1, h2, ?_⟩
  have hA := ha cpos pins s1 σ H1 _ I1 q1
  rw [hs] at hA ⊢
  refine Calls.callWith_builtin (by show (false || (backTo cpos (starEach es X.env)).any (·.1)) = false; rw [hplain] <;> rfl) (Calls.evalArgs_plain ?_)
  exact thn hA fun us s2 ⟨vs, H2, I2, r2, q2⟩ => hm pins s2 σ H2 x vs v us Q I2 r1 r2 q2
/- xs.append(e), list.index on a module's tuple .. are MtR facts of 06m -/
end
end L2

namespace L2
open PySem PySem.Spec PyProof.Rows

def MtM (X : Cx) (id : String) (r : V → List V → Hp → VK → Prop) : Prop :=
  ∀ (pins : List (Addr × Obj)) (s : Shared) (σ : St) (H : Hp) (x : V) (xs : List V) (v : Value) (us : List Value) (Q : VK), Inv X pins σ H s → RelV x v → Vals xs us → r x xs H Q →
    wpAny (model X.prog X.w) X.A (call (.builtin id) (v :: us)) (EP X pins σ Q) X.xe s

/-! ### lists of values -/
theorem Vals.one : ∀ {x : V} {us : List Value}, Vals [x] us → ∃ u, us = [u] ∧ RelV x u
  | _, _, .cons r .nil => ⟨_, rfl, r⟩
theorem Vals.two : ∀ {x y : V} {us : List Value}, Vals [x, y] us → ∃ u v, us = [u, v] ∧ RelV x u ∧ RelV y v
  | _, _, _, .cons r (.cons q .nil) => ⟨_, _, rfl, r, q⟩
theorem Vals.zero : ∀ {us : List Value}, Vals [] us → us = []
  | _, .nil => rfl
theorem Vals.reverse {xs : List V} {us : List Value} (h : Vals xs us) : Vals xs.reverse us.reverse := by
  induction h with
  | nil => exact .nil
  | cons r t ih => rw [List.reverse_cons, List.reverse_cons]; exact Vals.append ih (.cons r .nil)
section
variable {X : Cx} {pins : List (Addr × Obj)} {σ : St} {H : Hp} {s : Shared} {l b : Addr} {xs ys zs : List V}

/-! ### the two steps: a tracked list is rewritten, a new list is laid -/
theorem Inv.lset {its its' : List Value} {n : Nat} {f : Array Value → Array Value} {t' : Nat} (I : Inv X pins σ H s) (hH : H l = some (.lst xs))
    (e : s.heap.get? l = some { cls := .type "list", data := .seq its.toArray n }) (hf : f its.toArray = its'.toArray) (hv : Vals ys its') (hz : ys.length ≤ sizeLine) :
    Inv X pins σ (upd H l (.lst ys)) { s with heap := s.heap.update l (Obj.mapSeq f), toks := t' } := by
  have q := PySem.IsL.update e f
  rw [hf] at q
  refine I.write (x := l) (e := l) (by rw [hH]; exact trivial) (.inl rfl) (fun b' u hb hu => (Heap.get?_update_other s.heap (Obj.mapSeq f) (Ne.symm hb)).trans hu) ⟨_, q⟩ ?_
  exact ⟨hz, its', _, hv, q⟩
theorem Inv.fresh (I : Inv X pins σ H s) : H s.heap.objs.size = none := I.hok.fresh (Nat.le_refl _)
theorem Inv.lstM (I : Inv X pins σ H s) (hH : H l = some (.lst xs)) : xs.length ≤ sizeLine ∧ ∃ (its : List Value) (n : Nat), Vals xs its ∧ xs.length = its.length ∧ s.heap.get? l = some { cls := .type "list", data := .seq its.toArray n } := by
  obtain ⟨z, its, n, r, e⟩ := I.hok l _ hH
  exact ⟨z, its, n, r, r.length, e⟩

end

section
variable {X : Cx}

/-! ### methods -/
def rAppend : V → List V → Hp → VK → Prop := fun x vs H Q => ∃ l xs y, x = .ref l ∧ vs = [y] ∧ H l = some (.lst xs) ∧ xs.length < sizeLine ∧ Q .non (upd H l (.lst (xs ++ [y])))
theorem mt_append : MtM X "list.append" rAppend := by
  intro pins s σ H x vs v us Q I rx rv h
  obtain ⟨l, xs, y, rfl, rfl, hH, hz, q⟩ := h
  cases rx
  obtain ⟨u, rfl, ru⟩ := rv.one
  obtain ⟨z, its, n, r, hl, e⟩ := I.lstM hH
  refine call_meets F.slot_list_append ⟨_, e, rfl⟩ F.entry_list_append (F.args_list_append_2 _ _) (PySem.list_append l its.toArray n u (by rw [List.size_toArray]; omega)) ⟨e, ?_⟩
  refine ⟨.non, _, I.lset (its' := its ++ [u]) hH e (by simp) (r.append (.cons ru .nil)) ?_, rfl, q⟩
  rw [List.length_append, List.length_singleton]
  omega

/-! ### list + list, list += list, list * int -/
/-! ### del xs[i] -/
end

/-! ### xs[a:b] = ys -/
section
variable {prog : Program} {w : World} {A : Around} {E : Value → Shared → Prop} {s : Shared}
set_option maxRecDepth 100000 in
end

section
variable {X : Cx}
end
end L2

namespace Att
open PySem PySem.W PySem.Calls PyProof.Rows

/-! ### the script -/
theorem ints_of_wellAll {P : Params} {h : Heap} : ∀ (ns : List Int) (vs : List Value), WellAll P h vs (ns.map WData.int) → IntsAre vs ns := by
  intro ns
  induction ns with
  | nil =>
    intro vs w
    rw [List.map_nil] at w
    cases w
    exact .nil
  | cons n ns ih =>
    intro vs w
    rw [List.map_cons] at w
    cases w with
    | cons a b =>
      cases a
      exact .cons _ _ (ih _ b)

theorem script_of {l : OpenLaw} {n : Nat} (hn : l.most = some n) {P : Params} {h : Heap} {args : List WData} {vals : List Value}
    (hpre : l.row.toRowW.claim.pre args = true) (hwl : WellAll P h vals args) :
    ∃ a vs ns, vals = [Value.ref a] ∧ args = [WData.list (ns.map WData.int)] ∧ h.get? a = some { cls := .type "list", data := .seq vs.toArray } ∧ IntsAre vs ns ∧ ns.length ≤ n := by
  have hsh : WShape.hasAll [] args [.list .int] = true := (pre_splitW hpre).1
  have hc : l.pre.holds [] { args := args } = true := (pre_splitW hpre).2
  obtain ⟨d, r, rfl, h1, h2⟩ := hasAllW_cons hsh
  obtain rfl := hasAllW_nil h2
  obtain ⟨xs, rfl, h3⟩ := hasW_list h1
  obtain ⟨ns, rfl⟩ := items_int h3
  have hlen : ns.length ≤ n := by
    unfold OpenLaw.pre at hc
    have h4 : (WTm.not (.lt (.lit (.int (n : Int))) (.len (.arg 0)))).holds [] { args := [.list (ns.map .int)] } = true := by
      have h4 := (holds_andW hc).1
      rw [hn] at h4
      exact h4
    have h5 := condW_of h4 (w_not (w_lt w_lit (w_len_list (w_arg rfl))))
    rw [List.length_map] at h5
    refine Nat.le_of_not_lt fun q => ?_
    have q' : (n : Int) < ((ns.length : Nat) : Int) := by omega
    first
      | (rw [decide_eq_true q'] at h5; exact absurd h5 (by decide))
      | (simp at h5; omega)
  cases hwl with
  | cons w1 w2 =>
    cases w2
    cases w1 with
    | list ho hall => exact ⟨_, _, ns, rfl, rfl, ho, ints_of_wellAll ns _ hall, hlen⟩

theorem post_true (l : OpenLaw) (args : List WData) : l.row.toRowW.claim.post args (.bool true) args = true :=
  postW_of (r := l.row.toRowW) (X := (true == true))
    (show WShape.has [] (.bool true) .bool = true by first | rfl | decide | simp [WShape.has, WShape.arms, WShape.armsAll])
    (show (WTm.eq .res (.lit (.bool true))).value [] { args := args, res := some (.bool true), after := args } = some (.bool (true == true)) from w_eq_bool (w_res rfl) w_lit) rfl

/-! ### the attachment: holds_open's last premise (the goal 'hc' behind k_head) from a wpAny of the law's body -/
/-- the same from a codeAny of the CALL (for a layer whose function contracts speak of calls) -/
theorem attach_call {l : OpenLaw} {n : Nat} {q : Program} {loose : List Str} {XP : (Str → Option Value) → Heap → Prop} {YP : World → Heap → Prop} {d : DefRec}
    (hn : l.most = some n) (hdf : d.params.defaults = [])
    (call : ∀ (w : World) (s₀ s₁ : Shared) (mg mb : Str → Option Value) (fa : Addr) (o : Obj) (pm cd doc : Value) (a : Addr) (vs : List Value) (ns : List Int),
      Ground q loose [] XP w s₀ mg mb s₁.heap → YP w s₁.heap →
      s₁.heap.get? fa = some o → o.data = .func (docDef d.name d.params d.body d.scope pm cd doc) → s₁.heap.CodeRec cd d.name → mg d.name = some (.ref fa) →
      s₁.heap.get? a = some { cls := .type "list", data := .seq vs.toArray } → IntsAre vs ns → ns.length ≤ n → s₁.gens = #[] →
      codeAny (model l.prog w) callerA (.call (.ref fa) ⟨[.ref a], []⟩) (fun r s' => r = .ok (.ret (.bool true)) ∧ OldK s₁.heap s'.heap ∧ s'.os = s₁.os ∧ AllBare s'.gens) s₁) :
    WalkO q loose XP YP l.row.toRowW d [] (fun f vs => PySem.call f vs) := by
  intro w s₀ s₁ mg mb G Y fa o pm cd doc dV kV ho hd hcd hD hmg hg args vals as hpre hlay hrd hwl hlo
  obtain rfl : dV = .none := Dflts.none hD hdf
  obtain rfl : kV = .none := Dflts.noKw hD
  obtain ⟨a, vs, ns, rfl, rfl, hobj, hints, hlen⟩ := script_of hn hpre hwl
  refine enter_call (codeAny_mono (call w s₀ s₁ mg mb fa o pm cd doc a vs ns G Y ho (fd_plain hd) hcd hmg hobj hints hlen hg) fun r s' hq => ?_)
  obtain ⟨rfl, h2, h3, h4⟩ := hq
  exact ⟨.inl ⟨.bool true, .bool true, [], rfl, fun _ => rfl, .bool true, post_true l _, fun _ => ⟨List.Pairwise.nil, fun _ hm => (nomatch hm)⟩⟩, h2, h3, h4⟩

/-! ### rules over ANY heap (no ledger) from facts about the written part K: the library's own take a ledger (News) for what they write -/
section
variable {prog : Program} {w : World} {A : Around} {E : Value → Shared → Prop} {s : Shared} {K : Frag}

/-! the whole heap as the ledger: makes every rule that writes through a ledger a rule over any heap -/
def ledger (h : Heap) (L d : Addr) : List (Addr × Obj) := (List.range h.objs.size).filterMap fun a => if a = L ∨ a = d then none else (h.get? a).map fun o => (a, o)
end
end Att

namespace L2
open PySem PySem.Spec PyProof.Rows

theorem vals_ints : ∀ {vs : List Value} {ns : List Int}, IntsAre vs ns → Vals (ns.map V.int) vs
  | _, _, .nil => .nil
  | _, _, .cons n t h => .cons ⟨t, rfl⟩ (vals_ints h)

/-- nothing is tracked but the script, known to the object (or it is an object of the module) -/
def Only (H : Hp) : Prop := ∀ b, H b = none ∨ ∃ o xs, H b = some (.frz o (.lst xs))

/-- THE HEAD: the law's promise, at the heap behind the top. F, the promise of the law's def, may use that base is part of the heap (so K.In base, base.Ns mainGlobals mg stand in Mod) -/
theorem law_call {P : Program} {w : World} {K : PySem.W.Frag} {mg mb : Str → Option Value} {CX : CXT} {k : Nat} {fa a : Addr} {fd : FuncData} {x : Str} {sp : Sp} {s₁ : Shared} {vs : List Value} {ns : List Int}
    (KX : K.In s₁.heap) (hns : s₁.heap.Ns mainGlobals mg) (hb : s₁.heap.Ns builtinsNs mb) (hbb : ∀ x : Str, x ≠ "__name__" → mb x = bootBuiltins x) (hlim : s₁.heap.NoLimit) (hg : s₁.gens = #[])
    (ha : s₁.heap.get? a = some { cls := .type "list", data := .seq vs.toArray }) (hi : IntsAre vs ns) (hl : ns.length ≤ sizeLine) (hr : Room k callerA)
    (F : ∀ base : Heap, K.In base → base.Ns mainGlobals mg → FnOk P w K mg base CX k fa fd [x] sp) (hbind : ∀ (s : Shared) (u : Value), BindsTo s fd ⟨[u], []⟩ [(x, u)])
    (hsp : ∀ H : Hp, Only H → SqL K H a (ns.map V.int) → sp [.ref a] H (fun v _ => v = .bl true) fun _ _ _ => False)
    (hCX : ∀ H e s', CX [] H s₁ (fun _ _ _ => False) e s' → False) :
    codeAny (model P w) callerA (.call (.ref fa) ⟨[.ref a], []⟩) (fun r s' => r = .ok (.ret (.bool true)) ∧ OldK s₁.heap s'.heap ∧ s'.os = s₁.os ∧ AllBare s'.gens) s₁ := by
  have rv := vals_ints hi
  have lenV := hi.length
  -- from an abstract heap in which nothing but the script may be tracked
  have core : ∀ H : Hp, Only H → SqL K H a (ns.map V.int) → HOk P w H s₁.heap → (∀ b, H b ≠ none → b = a) → (H a ≠ none → K.lookup a = none) →
      codeAny (model P w) callerA (.call (.ref fa) ⟨[.ref a], []⟩) (fun r s' => r = .ok (.ret (.bool true)) ∧ OldK s₁.heap s'.heap ∧ s'.os = s₁.os ∧ AllBare s'.gens) s₁ := by
    intro H hO hS hok hA hK
    have base_of : ∀ {b : Addr} {o : Obj}, s₁.heap.get? b = some o → H b = none → (hidT s₁.heap H).get? b = some o := fun e n => hidT_get e n
    have noA : ∀ {b : Addr} {o : Obj} {es : Array DictEntry} {ep : Nat}, s₁.heap.get? b = some o → o.data = .dict es ep → H b = none := fun {b o es ep} e d => by
      cases q : H b with
      | none => rfl
      | some u =>
        have e' : b = a := hA b (by rw [q]; simp)
        subst e'
        rw [ha] at e; cases e
        have d' : Data.seq vs.toArray _ = Data.dict es ep := d
        cases d'
    have nsK : ∀ {b : Addr} {m : Str → Option Value}, s₁.heap.Ns b m → (hidT s₁.heap H).Ns b m := fun {b m} ⟨o, es, ep, e, d, r⟩ => ⟨o, es, ep, base_of e (noA e d), d, r⟩
    have hKb : K.In (hidT s₁.heap H) := fun b o e => base_of (KX b o e) (by
      cases q : H b with
      | none => rfl
      | some u =>
        have e' : b = a := hA b (by rw [q]; simp)
        subst e'
        rw [hK (by rw [q]; simp)] at e; cases e)
    have hM : Mod K mg (hidT s₁.heap H) := ⟨hKb, nsK hns, ⟨mb, nsK hb, hbb⟩, let ⟨mc, h1, h2⟩ := hlim; ⟨mc, nsK h1, h2⟩⟩
    have e0 : Env0 P w K mg (hidT s₁.heap H) callerA [] s₁ H := ⟨rfl, hM, fun b o e => of_hidT e, Nat.le_of_eq (hidT_size _ _), trivial, fun b hb => absurd (show b ∈ ([] : List Addr) from hb) (by simp), hok, .of_eq hg⟩
    refine codeAny_mono ((F _ hKb (nsK hns)).run callerA [] s₁ H ⟨[.ref a], []⟩ [.ref a] [.ref a] _ _ hr e0 (hbind s₁ (.ref a)) (.cons rfl .nil) (hsp H hO hS)) fun r s' h => ?_
    cases r with
    | error e => exact (hCX H e s' h).elim
    | ok fl =>
      cases fl with
      | next => exact False.elim h
      | brk => exact False.elim h
      | cont => exact False.elim h
      | ret u =>
        obtain ⟨v, H', os, bare, un, hok', r', q⟩ := h
        have q' : v = .bl true := q
        subst q'
        obtain rfl : u = Value.bool true := r'
        refine ⟨rfl, OldK.of_keep fun b o e => ?_, os, bare⟩
        cases q : H b with
        | none => exact un.keep b o e q (by intro z; exact absurd (show b ∈ ([] : List Addr) from z) (by simp)) (by simp)
        | some u =>
          rcases hO b with z | ⟨ob, xs, z⟩
          · rw [q] at z; cases z
          · have z2 := un.frzs b ob _ z
            obtain ⟨e1, _⟩ := hok b _ z
            obtain ⟨e2, _⟩ := hok' b _ z2
            rw [e] at e1; cases e1
            exact e2
  cases hk : K.lookup a with
  | some o =>
    -- the script is one of the module's own objects
    have e := KX a o hk
    rw [ha] at e
    cases e
    refine core (fun _ => none) (fun _ => .inl rfl) (.inr ⟨_, vs.toArray, _, hk, rfl, rfl, rfl, by rw [List.size_toArray, lenV]; exact hl, by simpa using rv⟩) (fun b u z => by have z' : (none : Option HO) = some u := z; cases z') (fun b z => absurd rfl z) fun z => absurd rfl z
  | none =>
    refine core (fun b => if b = a then some (.frz { cls := .type "list", data := .seq vs.toArray } (.lst (ns.map V.int))) else none) (fun b => ?_) (.inl (.inr ⟨{ cls := .type "list", data := .seq vs.toArray }, if_pos rfl⟩)) (fun b u z => ?_) (fun b z => ?_) fun _ => hk
    · by_cases hb : b = a
      · exact .inr ⟨_, _, if_pos hb⟩
      · exact .inl (if_neg hb)
    · by_cases hb : b = a
      · have z' := (if_pos hb).symm.trans z
        cases z'
        subst hb
        exact ⟨ha, by rw [List.length_map]; exact hl, vs, _, rv, ha⟩
      · have z' := (if_neg hb).symm.trans z
        cases z'
    · by_cases hb : b = a
      · exact hb
      · exact absurd (if_neg hb) z
end L2

namespace L2
open PySem PySem.Spec PyProof.Rows

abbrev KOf {K : PySem.W.Frag} {h : Heap} (_ : K.In h) : PySem.W.Frag := K

/-- the goal that k_head leaves (case hc), from the law's promise. F gives the function object fd (K's own) once, then the promise over every base -/
theorem walk_of {l : PySem.W.OpenLaw} {n k : Nat} {q : Program} {loose : List Str} {XP : (Str → Option Value) → Heap → Prop} {YP : World → Heap → Prop} {d : DefRec} {K : Params → PySem.W.Frag} {CX : World → CXT} {sp : World → Sp} {x : Str}
    (hn : l.most = some n) (hn2 : n ≤ sizeLine) (hdf : d.params.defaults = []) (hr : Room k callerA)
    (hY : ∀ (w : World) (h : Heap), YP w h → (K w.params).In h)
    (F : ∀ (w : World) (mg : Str → Option Value) (fa : Addr) (h : Heap), (K w.params).In h → h.Ns mainGlobals mg → mg d.name = some (.ref fa) →
      ∃ fd : FuncData, (∀ (s : Shared) (u : Value), BindsTo s fd ⟨[u], []⟩ [(x, u)]) ∧
        ∀ base : Heap, (K w.params).In base → base.Ns mainGlobals mg → FnOk l.prog w (K w.params) mg base (CX w) k fa fd [x] (sp w))
    (hsp : ∀ (w : World) (H : Hp) (a : Addr) (ns : List Int), ns.length ≤ n → Only H → SqL (K w.params) H a (ns.map V.int) → sp w [.ref a] H (fun v _ => v = .bl true) fun _ _ _ => False)
    (hCX : ∀ (w : World) (H : Hp) (s : Shared) (e : Value) (s' : Shared), CX w [] H s (fun _ _ _ => False) e s' → False) :
    PySem.W.WalkO q loose XP YP l.row.toRowW d [] (fun f vs => PySem.call f vs) := by
  refine Att.attach_call hn hdf fun w s₀ s₁ mg mb fa o pm cd doc a vs ns G Y ho hd hcd hmg hobj hints hlen hg => ?_
  have KX := hY w _ Y
  obtain ⟨fd, hb, hF⟩ := F w mg fa _ KX G.T.g hmg
  exact law_call KX G.T.g G.T.b G.T.builtins G.T.nolimit hg hobj hints (Nat.le_trans hlen hn2) hr hF hb (fun H hO hS => hsp w H a ns hlen hO hS) fun H e s' => hCX w H s₁ e s'
end L2

/- THE LAST THEOREM (shape; LID, My.* are yours):
   My.Adr: a structure of the addresses that your layer names (classes, functions); My.Txt K t: a structure (Prop) of the equations over K;
   My.txt_mk : {K} {implicit addresses ..} (e1 : nsIn K mainGlobals "law" = some (some (.ref f))) (e2 : K.lookup f = some ⟨oc, od, .func (fnOf "law" "law" params body scope dV kV doc pm an cdv ct), sl⟩) (e3 : codeIn K cdv "law" = true) .. : ∃ t, My.Txt K t

set_option maxRecDepth 100000 in
set_option maxHeartbeats 0 in
theorem PySem.Challenge.cw_LID_holds : PySem.Challenge.rw_LID.Holds := by
  w_on; o_law; k_head; (case hw => w_witness2)
  k_fill
  refine L2.walk_of (l := PySem.Challenge.rw_LID) (n := 63) (k := 40) (x := "script") (CX := fun w => ..) (sp := fun _ => My.sp_law) rfl (by decide) rfl ⟨rfl, by decide, by decide⟩ (fun w h Y => PySem.W.kIn_of Y) ?F ?S ?C
  case F =>
    intro w mg fa h KX G hmg
    have T : ∃ t, My.Txt (L2.KOf KX) t := by
      dsimp only [L2.KOf]                          -- K must stand as «<heap const> w.params» for k_is
      refine' My.txt_mk ?e1 ?e2 ?e3 ..
      (case e1 => PySem.W.k_is)                    -- in the order: a name -> its address -> its object -> its parts
      (case e2 => PySem.W.k_is)
      ..
    obtain ⟨t, T⟩ := T
    have e0 := hmg.symm.trans (PySem.W.mg_of KX G T.law)
    cases e0                                       -- fa is the law's own address
    exact ⟨_, fun s u => .of_eq rfl, fun base kb nb => My.law_fn T kb nb⟩     -- if «.of_eq rfl» comes too early: refine' ⟨_, ?b, fun base kb nb => My.law_fn T kb nb⟩; exact fun s u => .of_eq rfl
  case S => exact fun w H a ns hl hO hS => ..
  case C => exact ..
(the tactic k_is has no namespace: write k_is) -/

/-! SHORT WORDS over the layer: a def of the text, its body, what a loop and a test want. -/
namespace L2
open PySem PySem.Spec PyProof.Rows

/-! ### the text by places -/
def defArgs (s : Stmt) : Arguments := match s with
  | .FunctionDef _ a _ _ _ _ _ _ _ _ => a
  | _ => { posonlyargs := [], args := [], vararg := none, kwonlyargs := [], kw_defaults := [], kwarg := none, defaults := [] }
def defBody (s : Stmt) : List Stmt := match s with
  | .FunctionDef _ _ b _ _ _ _ _ _ _ => b
  | _ => []
def defScope (s : Stmt) : Scope := match s with
  | .FunctionDef _ _ _ _ _ _ sc _ _ _ => sc
  | _ => { kind := .function, names := [], isGenerator := false, isCoroutine := false }

/-! ### no exception leaves a def -/
abbrev CX0 : CXT := fun _ _ _ _ _ _ => False
abbrev E0 : XK := fun _ _ _ => False
theorem pass0 {X : Cx} : Passes CX0 X E0 := fun _ _ _ _ _ _ _ h => h.elim

/-! ### a def (or method) of the text as it stands behind the top -/
structure Fun (K : PySem.W.Frag) (x qual : Str) (st : Stmt) (f : Addr) (fd : FuncData) : Prop where
  ex : ∃ (oc : Value) (od : Option Addr) (kV doc pm : Value) (an : Option Addr) (cdv ct : Value) (osl : Array (Option Value)),
    fd = PySem.W.fnOf x qual (defArgs st) (defBody st) (defScope st) .none kV doc pm an cdv ct ∧ K.lookup f = some ⟨oc, od, .func fd, osl⟩ ∧ PySem.W.codeIn K cdv qual = true
  kp : PySem.W.keepIn K (.ref f) = true
section
variable {P : Program} {w : World} {K : PySem.W.Frag} {mg : Str → Option Value} {base : Heap}
/-- THE RULE for a def: its body as a term of rules, and the reading of that term -/
theorem Fun.ok {x qual : Str} {st : Stmt} {f : Addr} {fd : FuncData} {N ps : List Str} {k : Nat} {sp : Sp} (F : Fun K x qual st f fd) (S : FnScope N ps (defScope st)) (len : ∀ vs H Q E, sp vs H Q E → vs.length = ps.length)
    (hbody : ∀ (cdv : Value) (A : Around) (outer : List Env) (s : Shared) (H : Hp) (vs : List V) (Q : VK) (E : XK), Room k (A.deeper (envOfC qual (defScope st) s.heap.objs.size f cdv)) → sp vs H Q E →
      ∃ t, PSs (cxOf CX0 P w K mg base N qual (defScope st) f cdv A outer s H E).nox (defBody st) t ∧ t { nx := fun _ H' => Q .non H', rt := Q } (start N vs) H) : FnOk P w K mg base CX0 (k + 1) f fd ps sp := by
  obtain ⟨oc, od, kV, doc, pm, an, cdv, ct, osl, rfl, lk, hcd⟩ := F.ex
  refine fn_of lk hcd S len fun A outer s H vs Q E hr hsp => ?_
  obtain ⟨t, h, q⟩ := hbody cdv A outer s H vs Q E hr hsp
  exact ⟨t, h.nox, q⟩
/-- how its arguments bind (no defaults): h is «fun _ _ _ _ _ _ us hl => match us, hl with | [_, _], _ => rfl», one _ a parameter -/
theorem Fun.binds {x qual : Str} {st : Stmt} {f : Addr} {fd : FuncData} {ps : List Str} (F : Fun K x qual st f fd)
    (h : ∀ (kV doc pm : Value) (an : Option Addr) (cdv ct : Value) (us : List Value), us.length = ps.length → bindArgs (PySem.W.fnOf x qual (defArgs st) (defBody st) (defScope st) .none kV doc pm an cdv ct) ⟨us, []⟩ = pure (ps.zip us)) : Binds K fd ps [] := by
  obtain ⟨oc, od, kV, doc, pm, an, cdv, ct, osl, rfl, lk, hcd⟩ := F.ex
  exact .all (h kV doc pm an cdv ct)
theorem fun_mk {x qual : Str} {st : Stmt} {f : Addr} {oc : Value} {od an : Option Addr} {osl : Array (Option Value)} {kV doc pm cdv ct : Value} (l : K.lookup f = some ⟨oc, od, .func (PySem.W.fnOf x qual (defArgs st) (defBody st) (defScope st) .none kV doc pm an cdv ct), osl⟩)
    (c : PySem.W.codeIn K cdv qual = true) (k : PySem.W.keepIn K (.ref f) = true) : Fun K x qual st f (PySem.W.fnOf x qual (defArgs st) (defBody st) (defScope st) .none kV doc pm an cdv ct) := ⟨⟨oc, od, kV, doc, pm, an, cdv, ct, osl, rfl, l, c⟩, k⟩
end
/-! ### expressions in short: the name that stands in the i-th slot -/
section
variable {X : Cx}
theorem pv (i : Nat) {x : Str} {pos : Pos} (hN : X.N[i]? = some x := by rfl) (hv : Vis X.env.scope x := by first | exact Or.inl rfl | exact Or.inr (Or.inl rfl) | exact Or.inr (Or.inr rfl)) (hd : (x == ("__debug__" : Str)) = false := by decide)
    (hcd : (x == ("__classdict__" : Str)) = false := by decide) : PE X (.Name x pos) (tVar i) := pe_var hN hv hd hcd
end

/-! ### tests -/
theorem iteF {A B : Prop} (h : B) : if false = true then A else B := by
  rw [if_neg Bool.false_ne_true]
  exact h
theorem iteT {A B : Prop} (h : A) : if true = true then A else B := by
  rw [if_pos rfl]
  exact h
theorem ite2 {c A B : Prop} [Decidable c] (h1 : c → A) (h2 : ¬ c → B) : if c then A else B := by
  by_cases h : c
  · rw [if_pos h]
    exact h1 h
  · rw [if_neg h]
    exact h2 h
/-! ### heaps -/
/-- all that was tracked is as it was -/
def Same (H H' : Hp) : Prop := ∀ b o, H b = some o → H' b = some o
theorem Same.refl (H : Hp) : Same H H := fun _ _ h => h
theorem Same.trans {H H1 H2 : Hp} (a : Same H H1) (b : Same H1 H2) : Same H H2 := fun c o h => b c o (a c o h)
theorem Same.free {H H' : Hp} (e : Same H H') {l : Addr} (h : H' l = Option.none) : H l = Option.none := by
  cases q : H l with
  | none => rfl
  | some o =>
    rw [e l o q] at h
    cases h
theorem Same.seq {K : PySem.W.Frag} {H H' : Hp} {a : Addr} {xs : List V} (e : Same H H') (h : SqL K H a xs) : SqL K H' a xs := by
  rcases h with (h | ⟨o, h⟩) | h
  · exact .inl (.inl (e _ _ h))
  · exact .inl (.inr ⟨o, e _ _ h⟩)
  · exact .inr h

end L2
set_option Elab.async false
set_option linter.all false
set_option maxRecDepth 100000
set_option maxHeartbeats 4000000
namespace L2
open PySem PySem.Spec PyProof.Rows

/-! ### the cells that a comprehension's block takes over -/
/-! ### the block's context -/
section
variable {prog : Program} {w : World} {A : Around} {R : Result → Shared → Prop} {s : Shared}
end

/-- the tracked things stay when an untracked one is changed -/
theorem HOk.but {P : Program} {w : World} {H : Hp} {h h' : Heap} {C : Addr} (x : HOk P w H h) (hC : H C = none) (k : ∀ b o, b ≠ C → h.get? b = some o → h'.get? b = some o) : HOk P w H h' := fun b u e => by
  have nit : ∀ c v, H c = some v → c ≠ C := fun c v q z => by rw [z, hC] at q; cases q
  refine (x b u e).stay (fun c v hc q => k c v ?_ q) (fun _ q => q) fun _ _ q => q
  rcases hc with z | z
  · rw [z]; exact nit b u e
  · exact nit c _ z

section
variable {X : Cx} {elt tg iter : Expr} {ifs : List Expr} {scope : Scope} {pos : Pos} {NB : List Str} {n : Nat} {fr : List Nat} {wi : TI} {g : TG} {tt : TT} {te : TE}

structure CompOk (X : Cx) (scope : Scope) (NB : List Str) (n : Nat) (fr : List Nat) : Prop where
  kind : scope.kind = .function
  nocell : ∀ y ∈ scope.names, y.2 ≠ .cell
  names : ∀ y ∈ scope.names, y.2 = .local → scope.names.lookup y.1 = some .local
  free : ∀ y ∈ scope.names, y.2 = .free → X.env.kindOf y.1 = some .cell ∨ X.env.kindOf y.1 = some .free
  len : NB.length = n + fr.length
  own : ∀ (j k : Nat), fr[j]? = some k → ∃ x, NB[n + j]? = some x ∧ X.N[k]? = some x ∧ scope.names.lookup x = some .free

/-- a state whose block's own names are let go -/
theorem Inv.but {pins : List (Addr × Obj)} {σ : St} {H : Hp} {s : Shared} {C : Addr} {h' : Heap} (I : Inv X pins σ H s) (hC : X.s₀.heap.objs.size ≤ C) (hH : H C = none) (hL : C ≠ X.env.locals) (hcl : ∀ x c, X.env.cells.lookup x = some c → c ≠ C) (hpn : ∀ p ∈ X.pn ++ pins, p.1 ≠ C) (sb : Heap.SameBut C s.heap h') :
    Inv X pins σ H { s with heap := h' } := by
  refine I.call' (s' := { s with heap := h' }) (ch := [C]) rfl ?_ (HOk.but I.hok hH fun b o hb e => sb.extBut b o hb e) I.bare (fun b hb => ?_)
  · have ne : ∀ {b : Addr}, b ∉ [C] → b ≠ C := fun {b} h z => h (by rw [z]; exact List.mem_cons_self)
    exact ⟨fun b o e _ _ hx => sb.extBut b o (ne hx) e, fun b o e _ _ hx => ⟨o.slots, sb.extBut b o (ne hx) e⟩, fun _ _ _ n _ => n, fun b o e hx => ⟨o, sb.extBut b o (ne hx) e⟩, fun _ _ q => q, fun _ _ _ q => q, fun _ ps q => ⟨#[], by rw [q]; simp⟩⟩
  · have e : b = C := by simpa using hb
    subst e
    exact ⟨.inr hC, hL, hcl, hpn⟩
end
end L2
set_option Elab.async false
set_option linter.all false
set_option maxRecDepth 100000
set_option maxHeartbeats 4000000
namespace L2
open PySem PySem.Spec PyProof.Rows

/-! ### an iterator over a list (false) or a tuple (true), at place k -/
def Src (t : Bool) (h : Heap) (it l : Addr) (xs : Array Value) (k : Nat) : Prop := match t with
  | true => h.IsTupleIter it l k ∧ h.IsTuple l xs
  | false => h.IsListIter it l k ∧ h.IsList l xs
theorem Src.keep {t : Bool} {h h' : Heap} {it l : Addr} {xs : Array Value} {k : Nat} (x : Src t h it l xs k) (a : ∀ o, h.get? it = some o → h'.get? it = some o) (b : ∀ o, h.get? l = some o → h'.get? l = some o) : Src t h' it l xs k := by
  cases t with
  | true => obtain ⟨⟨o, h1, r1⟩, ⟨o2, h2, r2⟩⟩ := x; exact ⟨⟨o, a o h1, r1⟩, ⟨o2, b o2 h2, r2⟩⟩
  | false => obtain ⟨⟨o, h1, r1⟩, ⟨o2, h2, r2⟩⟩ := x; exact ⟨⟨o, a o h1, r1⟩, ⟨o2, b o2 h2, r2⟩⟩

section
variable {prog : Program} {w : World} {A : Around} {E : Value → Shared → Prop} {st : Shared}
theorem draw_tup {it l : Addr} {i : Nat} {its : Array Value} {x : Value} {Q : Value → Shared → Prop} (hit : st.heap.IsTupleIter it l i) (hl : st.heap.IsTuple l its) (hx : its[i]? = some x)
    (hQ : ∀ h', h'.IsTupleIter it l (i + 1) → Heap.SameBut it st.heap h' → Q x { st with heap := h' }) : wpAny (model prog w) A (Builtin.SmallTypes.nextOf (.ref it)) Q E st := by
  obtain ⟨o, ho, hc, hd⟩ := id hit
  obtain ⟨o2, ho2, _, n2, hd2⟩ := hl
  unfold Builtin.SmallTypes.nextOf
  refine wpAny_bind (wpAny_callSpecial?_slot (name := Str.ofString "__next__") hit.typeIs F.slot_tuple_iterator_next (wpAny_call_entry F.slot_tuple_iterator_next hit.typeIs F.entry_tuple_iterator_next ?_ (F.args_tuple_iterator_next_1 _)))
  show wpAny _ A.in1 (field (.ref it) 0 >>= _) _ _ st
  refine wpAny_bind (wpAny_field ho hd (x := .ref l) rfl ?_)
  show wpAny _ A.in1 (if (Value.ref l == Value.none) = true then _ else _) _ _ st
  rw [if_neg (fun z : (Value.ref l == Value.none) = true => Bool.false_ne_true z)]
  show wpAny _ A.in1 (field (.ref it) 1 >>= _) _ _ st
  refine wpAny_bind (wpAny_field (x := .int i 0) ho hd rfl ?_)
  show wpAny _ A.in1 (seqItems? (.ref l) >>= _) _ _ st
  refine wpAny_bind (wpAny_seqItems ho2 hd2 ?_)
  simp only [Int.toNat_natCast, hx]
  refine wpAny_bind (wpAny_setField ho hd (by simp) (wpAny_pure ⟨x, rfl, wpAny_pure (hQ _ ⟨_, Heap.get?_update_self _ ho (Obj.isFreed_of_fields (Obj.data_mapFields hd _)), (Obj.cls_mapFields ..).trans hc, ?_⟩ (Heap.SameBut.update ..))⟩))
  rw [Obj.data_mapFields hd]; simp [rawInt]
theorem draw_tup_end {it l : Addr} {i : Nat} {its : Array Value} {Q : Value → Shared → Prop} (hh : A.handled = none) (hit : st.heap.IsTupleIter it l i) (hl : st.heap.IsTuple l its) (hx : its[i]? = none)
    (hE : ∀ h' e, Heap.ExtBut it st.heap h' → (∃ o, h'.get? e = some o ∧ o.cls = .type "StopIteration") → E (.ref e) { st with heap := h' }) : wpAny (model prog w) A (Builtin.SmallTypes.nextOf (.ref it)) Q E st := by
  obtain ⟨o, ho, hc, hd⟩ := id hit
  obtain ⟨o2, ho2, _, n2, hd2⟩ := hl
  unfold Builtin.SmallTypes.nextOf
  refine wpAny_bind (wpAny_callSpecial?_slot (name := Str.ofString "__next__") hit.typeIs F.slot_tuple_iterator_next (wpAny_call_entry F.slot_tuple_iterator_next hit.typeIs F.entry_tuple_iterator_next ?_ (F.args_tuple_iterator_next_1 _)))
  show wpAny _ A.in1 (field (.ref it) 0 >>= _) _ _ st
  refine wpAny_bind (wpAny_field ho hd (x := .ref l) rfl ?_)
  show wpAny _ A.in1 (if (Value.ref l == Value.none) = true then _ else _) _ _ st
  rw [if_neg (fun z : (Value.ref l == Value.none) = true => Bool.false_ne_true z)]
  show wpAny _ A.in1 (field (.ref it) 1 >>= _) _ _ st
  refine wpAny_bind (wpAny_field (x := .int i 0) ho hd rfl ?_)
  show wpAny _ A.in1 (seqItems? (.ref l) >>= _) _ _ st
  refine wpAny_bind (wpAny_seqItems ho2 hd2 ?_)
  simp only [Int.toNat_natCast, hx]
  refine wpAny_bind (wpAny_rule (wpAny_bind (wpAny_setField ho hd (by simp) (wpAny_bind ?_))))
  show wpAny _ A.in1 (newExc (.type "StopIteration") []) _ _ _
  simp only [newTuple, newExc]
  refine wpAny_bind (wpAny_newObj_type (wpAny_bind (m := firstArgMember _ _) (wpAny_of_eq (a := Value.none) (by first | rfl | (simp only [firstArgMember]; rfl)) (wpAny_newObj_type ?_ (by size_fits)))) (by size_fits))
  simp only [raiseNew]
  refine wpAny_bind (wpAny_handled ?_)
  first | rw [hh] | rw [show A.in1.handled = none from hh]
  exact wpAny_bind (wpAny_pure (wpAny_throw (hE _ _ (((Heap.SameBut.update ..).extBut.push _).push _) ⟨_, Heap.get?_push_size _ rfl, rfl⟩)))

theorem Src.draw {t : Bool} {it l : Addr} {i : Nat} {its : Array Value} {x : Value} {Q : Value → Shared → Prop} (S : Src t st.heap it l its i) (hne : l ≠ it) (hx : its[i]? = some x)
    (hQ : ∀ h', Src t h' it l its (i + 1) → Heap.SameBut it st.heap h' → Q x { st with heap := h' }) : wpAny (model prog w) A (Builtin.SmallTypes.nextOf (.ref it)) Q E st := by
  cases t with
  | true => exact draw_tup S.1 S.2 hx fun h' a b => hQ h' ⟨a, S.2.extBut b.extBut hne⟩ b
  | false => exact wpAny_nextOf_list_item S.1 S.2 hx fun h' a b => hQ h' ⟨a, S.2.extBut b.extBut hne⟩ b
theorem Src.none {t : Bool} {it l : Addr} {i : Nat} {its : Array Value} {Q : Value → Shared → Prop} (hh : A.handled = none) (S : Src t st.heap it l its i) (hx : its[i]? = none)
    (hE : ∀ h' e, Heap.ExtBut it st.heap h' → (∃ o, h'.get? e = some o ∧ o.cls = .type "StopIteration") → E (.ref e) { st with heap := h' }) : wpAny (model prog w) A (Builtin.SmallTypes.nextOf (.ref it)) Q E st := by
  cases t with
  | true => exact draw_tup_end hh S.1 S.2 hx hE
  | false => exact wpAny_nextOf_list_end hh S.1 S.2 hx hE

/-- the five own records of a zip stand apart, and from what it walks -/
structure Apart (z TI TO i1 i2 l1 l2 : Addr) : Prop where
  a : TI ≠ z ∧ TO ≠ z ∧ i1 ≠ z ∧ i2 ≠ z
  b : TI ≠ TO ∧ TI ≠ i1 ∧ TI ≠ i2 ∧ TO ≠ i1 ∧ TO ≠ i2 ∧ i1 ≠ i2
  c : l1 ≠ z ∧ l1 ≠ TO ∧ l1 ≠ i1 ∧ l1 ≠ i2
  d : l2 ≠ z ∧ l2 ≠ TO ∧ l2 ≠ i1 ∧ l2 ≠ i2

theorem zip_item {z TI TO i1 i2 l1 l2 : Addr} {t1 t2 : Bool} {k : Nat} {xs ys : Array Value} {x y a b : Value} {Q : Value → Shared → Prop} (D : Apart z TI TO i1 i2 l1 l2)
    (hz : IsZip st.heap z TI TO .none) (hTI : IsPair st.heap TI (.ref i1) (.ref i2)) (hTO : IsPair st.heap TO a b)
    (h1 : Src t1 st.heap i1 l1 xs k) (h2 : Src t2 st.heap i2 l2 ys k) (hx : xs[k]? = some x) (hy : ys[k]? = some y)
    (hQ : ∀ h', IsZip h' z TI TO (rawInt st.heap.objs.size) → IsPair h' TO x y → Src t1 h' i1 l1 xs (k + 1) → Src t2 h' i2 l2 ys (k + 1) → IsPair h' st.heap.objs.size x y →
      (∀ c o, c ≠ z → c ≠ TO → c ≠ i1 → c ≠ i2 → st.heap.get? c = some o → h'.get? c = some o) → Q (.ref st.heap.objs.size) { st with heap := h' }) :
    wpAny (model prog w) A (Builtin.«zip.__next__» ⟨[.ref z], []⟩) (fun fin s' => ∃ v, fin = .done (.ret v) ∧ Q v s') E st := by
  obtain ⟨⟨d1, d2, d3, d4⟩, ⟨d5, d6, d7, d8, d9, d10⟩, ⟨d11, d12, d13, d14⟩, ⟨d15, d16, d17, d18⟩⟩ := D
  show wpAny _ A (field (.ref z) 2 >>= _) _ _ st
  refine wpAny_bind (wpAny_field (x := .bool false) hz rfl rfl ?_)
  show wpAny _ A (field (.ref z) 3 >>= _) _ _ st
  refine wpAny_bind (wpAny_field (x := .ref TI) hz rfl rfl (wpAny_bind (wpAny_seqItems hTI rfl ?_)))
  show wpAny _ A (Builtin.SmallTypes.ownedTupleIsFree (.ref z) >>= _) _ _ st
  refine wpAny_bind ?_
  unfold Builtin.SmallTypes.ownedTupleIsFree
  refine wpAny_bind (wpAny_field (x := .none) hz rfl rfl (wpAny_pure ?_))
  simp only [if_true]
  refine wpAny_bind (wpAny_rule (wpAny_bind (wpAny_field (x := .ref TO) hz rfl rfl (wpAny_bind (wpAny_setField_rec hz (by simp) fun g1 z1 b1 => ?_)))))
  replace z1 : IsZip g1 z TI TO .ellipsis := z1
  refine wpAny_bind ?_
  simp only [List.zipIdx_nil, List.zipIdx_cons, List.forIn_nil, List.forIn_cons]
  refine wpAny_bind (wpAny_bind (wpAny_onRaise ?_))
  show wpAny _ A (Builtin.SmallTypes.nextOf (.ref i1) >>= _) _ _ _
  have s1 : Src t1 g1 i1 l1 xs k := h1.keep (fun o e => b1.extBut _ o d3 e) (fun o e => b1.extBut _ o d11 e)
  refine wpAny_bind (Src.draw (st := { st with heap := g1 }) s1 d13 hx fun g2 s2 b2 => wpAny_pure ?_)
  have p2 : IsPair g2 TO a b := b2.extBut _ _ d8 (b1.extBut _ _ d2 hTO)
  refine wpAny_bind (wpAny_seqItems p2 rfl (wpAny_bind (wpAny_updateSeq_pair p2 fun g3 p3 b3 => ?_)))
  replace p3 : IsPair g3 TO x b := p3
  refine wpAny_bind (wpAny_letGo (wpAny_pure ?_))
  refine wpAny_bind (wpAny_bind (wpAny_onRaise ?_))
  show wpAny _ A (Builtin.SmallTypes.nextOf (.ref i2) >>= _) _ _ _
  have s3 : Src t2 g3 i2 l2 ys k := h2.keep (fun o e => b3.extBut _ o d9.symm (b2.extBut _ o d10.symm (b1.extBut _ o d4 e))) (fun o e => b3.extBut _ o d16 (b2.extBut _ o d17 (b1.extBut _ o d15 e)))
  refine wpAny_bind (Src.draw (st := { st with heap := g3 }) s3 d18 hy fun g4 s4 b4 => wpAny_pure ?_)
  have p4 : IsPair g4 TO x b := b4.extBut _ _ d9 p3
  refine wpAny_bind (wpAny_seqItems p4 rfl (wpAny_bind (wpAny_updateSeq_pair p4 fun g5 p5 b5 => ?_)))
  replace p5 : IsPair g5 TO x y := p5
  refine wpAny_bind (wpAny_letGo (wpAny_pure (wpAny_pure ?_)))
  refine wpAny_bind (wpAny_seqItems p5 rfl (wpAny_bind (wpAny_newTuple ?_)))
  have sz : g5.objs.size = st.heap.objs.size := by rw [b5.1, b4.1, b3.1, b2.1, b1.1]
  have z5 : IsZip g5 z TI TO .ellipsis := b5.extBut _ _ d2.symm (b4.extBut _ _ d4.symm (b3.extBut _ _ d2.symm (b2.extBut _ _ d3.symm z1)))
  have kp : ∀ c o, c ≠ z → c ≠ TO → c ≠ i1 → c ≠ i2 → st.heap.get? c = some o → g5.get? c = some o := fun c o c1 c2 c3 c4 e => b5.extBut _ _ c2 (b4.extBut _ _ c4 (b3.extBut _ _ c2 (b2.extBut _ _ c3 (b1.extBut _ _ c1 e))))
  have s5 : Src t1 g5 i1 l1 xs (k + 1) := s2.keep (fun o e => b5.extBut _ o d8.symm (b4.extBut _ o d10 (b3.extBut _ o d8.symm e))) (fun o e => b5.extBut _ o d12 (b4.extBut _ o d14 (b3.extBut _ o d12 e)))
  have r5 : Src t2 g5 i2 l2 ys (k + 1) := s4.keep (fun o e => b5.extBut _ o d9.symm e) (fun o e => b5.extBut _ o d16 e)
  have zlt : z < g5.objs.size := Heap.lt_size z5
  show wpAny _ A (Builtin.SmallTypes.ownedTupleHandOut (.ref z) (.ref g5.objs.size) >>= _) _ _ _
  refine wpAny_bind ?_
  unfold Builtin.SmallTypes.ownedTupleHandOut
  have z6 : IsZip (g5.push { cls := .type "tuple", data := .seq #[x, y] }) z TI TO .ellipsis := Heap.get?_push_of_some _ z5
  refine wpAny_bind (wpAny_setField_rec z6 (by simp) fun g7 z7 b7 => ?_)
  replace z7 : IsZip g7 z TI TO (rawInt g5.objs.size) := z7
  refine wpAny_setField_rec z7 (by simp) fun g8 z8 b8 => ?_
  replace z8 : IsZip g8 z TI TO (rawInt g5.objs.size) := z8
  have up : ∀ c o, c ≠ z → g5.get? c = some o → g8.get? c = some o := fun c o c1 e => b8.extBut _ _ c1 (b7.extBut _ _ c1 (Heap.get?_push_of_some _ e))
  have t8 : IsPair g8 g5.objs.size x y := b8.extBut _ _ (Nat.ne_of_gt zlt) (b7.extBut _ _ (Nat.ne_of_gt zlt) (Heap.get?_push_size _ rfl))
  rw [sz] at z8 t8
  refine wpAny_pure ⟨_, rfl, ?_⟩
  show Q (.ref g5.objs.size) _
  rw [sz]
  exact hQ g8 z8 (up _ _ d2 p5) (s5.keep (fun o e => up _ o d3 e) fun o e => up _ o d11 e) (r5.keep (fun o e => up _ o d4 e) fun o e => up _ o d15 e) t8 fun c o c1 c2 c3 c4 e => up c o c1 (kp c o c1 c2 c3 c4 e)

theorem zip_end {z TI TO i1 i2 l1 l2 : Addr} {t1 t2 : Bool} {k : Nat} {xs ys : Array Value} {a b : Value} {Q : Fin → Shared → Prop} (hh : A.handled = none) (D : Apart z TI TO i1 i2 l1 l2)
    (hz : IsZip st.heap z TI TO .none) (hTI : IsPair st.heap TI (.ref i1) (.ref i2)) (hTO : IsPair st.heap TO a b)
    (h1 : Src t1 st.heap i1 l1 xs k) (h2 : Src t2 st.heap i2 l2 ys k) (hend : xs[k]? = none ∨ ys[k]? = none)
    (hE : ∀ h' e, (∀ c o, c ≠ z → c ≠ TO → c ≠ i1 → c ≠ i2 → st.heap.get? c = some o → h'.get? c = some o) → (∃ o, h'.get? e = some o ∧ o.cls = .type "StopIteration") → E (.ref e) { st with heap := h' }) :
    wpAny (model prog w) A (Builtin.«zip.__next__» ⟨[.ref z], []⟩) Q E st := by
  obtain ⟨⟨d1, d2, d3, d4⟩, ⟨d5, d6, d7, d8, d9, d10⟩, ⟨d11, d12, d13, d14⟩, ⟨d15, d16, d17, d18⟩⟩ := D
  show wpAny _ A (field (.ref z) 2 >>= _) _ _ st
  refine wpAny_bind (wpAny_field (x := .bool false) hz rfl rfl ?_)
  show wpAny _ A (field (.ref z) 3 >>= _) _ _ st
  refine wpAny_bind (wpAny_field (x := .ref TI) hz rfl rfl (wpAny_bind (wpAny_seqItems hTI rfl ?_)))
  show wpAny _ A (Builtin.SmallTypes.ownedTupleIsFree (.ref z) >>= _) _ _ st
  refine wpAny_bind ?_
  unfold Builtin.SmallTypes.ownedTupleIsFree
  refine wpAny_bind (wpAny_field (x := .none) hz rfl rfl (wpAny_pure ?_))
  simp only [if_true]
  refine wpAny_bind (wpAny_rule (wpAny_bind (wpAny_field (x := .ref TO) hz rfl rfl (wpAny_bind (wpAny_setField_rec hz (by simp) fun g1 z1 b1 => ?_)))))
  replace z1 : IsZip g1 z TI TO .ellipsis := z1
  refine wpAny_bind ?_
  simp only [List.zipIdx_nil, List.zipIdx_cons, List.forIn_nil, List.forIn_cons]
  refine wpAny_bind (wpAny_bind (wpAny_onRaise ?_))
  show wpAny _ A (Builtin.SmallTypes.nextOf (.ref i1) >>= _) _ _ _
  have s1 : Src t1 g1 i1 l1 xs k := h1.keep (fun o e => b1.extBut _ o d3 e) (fun o e => b1.extBut _ o d11 e)
  cases hx : xs[k]? with
  | none =>
    refine wpAny_bind (Src.none (st := { st with heap := g1 }) hh s1 hx fun g2 e b2 he => ?_)
    obtain ⟨oe, hoe, hce⟩ := he
    have z2 : IsZip g2 z TI TO .ellipsis := b2 _ _ d3.symm z1
    have ez : e ≠ z := fun q => by subst q; rw [z2] at hoe; cases hoe; simp at hce
    refine wpAny_setField_rec z2 (by simp) fun g3 _ b3 => hE g3 e (fun c o c1 _ c3 _ q => b3.extBut _ _ c1 (b2 _ _ c3 (b1.extBut _ _ c1 q))) ⟨oe, b3.extBut _ _ ez hoe, hce⟩
  | some x =>
    have hy : ys[k]? = none := by rcases hend with h | h; rw [hx] at h; cases h; exact h
    refine wpAny_bind (Src.draw (st := { st with heap := g1 }) s1 d13 hx fun g2 s2 b2 => wpAny_pure ?_)
    have p2 : IsPair g2 TO a b := b2.extBut _ _ d8 (b1.extBut _ _ d2 hTO)
    refine wpAny_bind (wpAny_seqItems p2 rfl (wpAny_bind (wpAny_updateSeq_pair p2 fun g3 p3 b3 => ?_)))
    refine wpAny_bind (wpAny_letGo (wpAny_pure ?_))
    refine wpAny_bind (wpAny_bind (wpAny_onRaise ?_))
    show wpAny _ A (Builtin.SmallTypes.nextOf (.ref i2) >>= _) _ _ _
    have s3 : Src t2 g3 i2 l2 ys k := h2.keep (fun o e => b3.extBut _ o d9.symm (b2.extBut _ o d10.symm (b1.extBut _ o d4 e))) (fun o e => b3.extBut _ o d16 (b2.extBut _ o d17 (b1.extBut _ o d15 e)))
    refine wpAny_bind (Src.none (st := { st with heap := g3 }) hh s3 hy fun g4 e b4 he => ?_)
    obtain ⟨oe, hoe, hce⟩ := he
    have z4 : IsZip g4 z TI TO .ellipsis := b4 _ _ d4.symm (b3.extBut _ _ d2.symm (b2.extBut _ _ d3.symm z1))
    have ez : e ≠ z := fun q => by subst q; rw [z4] at hoe; cases hoe; simp at hce
    refine wpAny_setField_rec z4 (by simp) fun g5 _ b5 => hE g5 e (fun c o c1 c2 c3 c4 q => b5.extBut _ _ c1 (b4 _ _ c4 (b3.extBut _ _ c2 (b2.extBut _ _ c3 (b1.extBut _ _ c1 q))))) ⟨oe, b5.extBut _ _ ez hoe, hce⟩

end
section
def SqK (t : Bool) (h : Heap) (l : Addr) (xs : Array Value) : Prop := match t with
  | true => h.IsTuple l xs
  | false => h.IsList l xs
def itObj (t : Bool) (l : Addr) : Obj := { cls := .type (if t then "tuple_iterator" else "list_iterator"), data := .fields #[.ref l, .int 0 0] }
theorem SqK.push {t : Bool} {h : Heap} {l : Addr} {xs : Array Value} (x : SqK t h l xs) (o : Obj) : SqK t (h.push o) l xs := by
  cases t with
  | true => exact Heap.IsTuple.push x o
  | false => exact Heap.IsList.push x o
theorem Src.new {t : Bool} {h : Heap} {it l : Addr} {xs : Array Value} (e : h.get? it = some (itObj t l)) (q : SqK t h l xs) : Src t h it l xs 0 := by
  cases t with
  | true => exact ⟨⟨_, e, rfl, rfl⟩, q⟩
  | false => exact ⟨⟨_, e, rfl, rfl⟩, q⟩
variable {prog : Program} {w : World} {A : Around} {E : Value → Shared → Prop} {st : Shared}
theorem iter_sq {t : Bool} {l : Addr} {its : Array Value} {Q : Value → Shared → Prop} (hl : SqK t st.heap l its) (hQ : Q (.ref st.heap.objs.size) { st with heap := st.heap.push (itObj t l) }) : wpAny (model prog w) A (pyIter (.ref l)) Q E st := by
  cases t with
  | true => exact wpAny_pyIter_tuple hl hQ
  | false => exact wpAny_pyIter_list hl hQ
abbrev zp1 (h : Heap) (t1 : Bool) (l1 : Addr) : Heap := h.push (itObj t1 l1)
abbrev zp2 (h : Heap) (t1 t2 : Bool) (l1 l2 : Addr) : Heap := (zp1 h t1 l1).push (itObj t2 l2)
abbrev zp3 (h : Heap) (t1 t2 : Bool) (l1 l2 : Addr) : Heap := (zp2 h t1 t2 l1 l2).push { cls := .type "tuple", data := .seq #[.ref h.objs.size, .ref (zp1 h t1 l1).objs.size] }
abbrev zp4 (h : Heap) (t1 t2 : Bool) (l1 l2 : Addr) : Heap := (zp3 h t1 t2 l1 l2).push { cls := .type "tuple", data := .seq #[.none, .none] }
abbrev zp5 (h : Heap) (t1 t2 : Bool) (l1 l2 : Addr) : Heap := (zp4 h t1 t2 l1 l2).push { cls := .type "zip", data := .fields #[.none, .bool false, .bool false, .ref (zp2 h t1 t2 l1 l2).objs.size, .ref (zp3 h t1 t2 l1 l2).objs.size] }
theorem meets_zipK (t1 t2 : Bool) (l1 l2 : Addr) (xs ys : Array Value) :
    Meets (Builtin.«zip.__new__» ⟨[.type "zip", .ref l1, .ref l2], []⟩) (fun _ R s => SqK t1 s.heap l1 xs ∧ SqK t2 s.heap l2 ys ∧ R (.ok (.ret (.ref (zp4 s.heap t1 t2 l1 l2).objs.size))) { s with heap := zp5 s.heap t1 t2 l1 l2 }) :=
  .of_wp fun prog w A R s h => by
    obtain ⟨hp, g, d, tk, os⟩ := s
    obtain ⟨q1, q2, h⟩ := h
    have hsub := sub_zip
    have r1 : SqK t1 (Shared.heap ⟨hp, g, d, tk, os⟩) l1 xs := q1
    have r2 : SqK t2 (Shared.heap ⟨hp.push (itObj t1 l1), g, d, tk, os⟩) l2 ys := q2.push _
    wp_walk using iter_sq r1, iter_sq r2
    exact ⟨_, rfl, h⟩
theorem call_zipK {t1 t2 : Bool} {l1 l2 : Addr} {xs ys : Array Value} {Q : Value → Shared → Prop} (q1 : SqK t1 st.heap l1 xs) (q2 : SqK t2 st.heap l2 ys)
    (h : ∀ h', IsZip h' (st.heap.objs.size + 4) (st.heap.objs.size + 2) (st.heap.objs.size + 3) .none → IsPair h' (st.heap.objs.size + 2) (.ref st.heap.objs.size) (.ref (st.heap.objs.size + 1)) →
      IsPair h' (st.heap.objs.size + 3) .none .none → Src t1 h' st.heap.objs.size l1 xs 0 → Src t2 h' (st.heap.objs.size + 1) l2 ys 0 →
      (∀ c o, st.heap.get? c = some o → h'.get? c = some o) → Q (.ref (st.heap.objs.size + 4)) { st with heap := h' }) :
    wpAny (model prog w) A (call (.type "zip") [.ref l1, .ref l2]) Q E st := by
  refine callType_new F.called_zip (by decide) (F.typeCall_zip_2 _ _) (F.newCall_zip_2 _ _) (fun obj => F.args_object_init_3 obj _ _) F.entry_zip_new (meets_zipK t1 t2 l1 l2 xs ys) ⟨q1, q2, ?_⟩
  have n1 : (zp1 st.heap t1 l1).objs.size = st.heap.objs.size + 1 := Heap.size_push ..
  have n2 : (zp2 st.heap t1 t2 l1 l2).objs.size = st.heap.objs.size + 2 := by rw [Heap.size_push, n1]
  have n3 : (zp3 st.heap t1 t2 l1 l2).objs.size = st.heap.objs.size + 3 := by rw [Heap.size_push, n2]
  have n4 : (zp4 st.heap t1 t2 l1 l2).objs.size = st.heap.objs.size + 4 := by rw [Heap.size_push, n3]
  have g5 : (zp5 st.heap t1 t2 l1 l2).get? (zp4 st.heap t1 t2 l1 l2).objs.size = some _ := Heap.get?_push_size _ rfl
  have g4 : (zp5 st.heap t1 t2 l1 l2).get? (zp3 st.heap t1 t2 l1 l2).objs.size = some _ := Heap.get?_push_of_some _ (Heap.get?_push_size _ rfl)
  have g3 : (zp5 st.heap t1 t2 l1 l2).get? (zp2 st.heap t1 t2 l1 l2).objs.size = some _ := Heap.get?_push_of_some _ (Heap.get?_push_of_some _ (Heap.get?_push_size _ rfl))
  have g2 : (zp5 st.heap t1 t2 l1 l2).get? (zp1 st.heap t1 l1).objs.size = some _ := Heap.get?_push_of_some _ (Heap.get?_push_of_some _ (Heap.get?_push_of_some _ (Heap.get?_push_size _ rfl)))
  have g1 : (zp5 st.heap t1 t2 l1 l2).get? st.heap.objs.size = some _ := Heap.get?_push_of_some _ (Heap.get?_push_of_some _ (Heap.get?_push_of_some _ (Heap.get?_push_of_some _ (Heap.get?_push_size _ rfl))))
  show _ ∧ _
  rw [n2, n3, n4] at g5
  rw [n1, n2] at g3
  rw [n3] at g4
  rw [n1] at g2
  rw [n4]
  exact ⟨⟨_, g5, rfl⟩, h _ g5 g3 g4 (Src.new g1 ((((q1.push _).push _).push _).push _ |>.push _)) (Src.new g2 ((((q2.push _).push _).push _).push _ |>.push _)) fun c o x =>
    Heap.get?_push_of_some _ (Heap.get?_push_of_some _ (Heap.get?_push_of_some _ (Heap.get?_push_of_some _ (Heap.get?_push_of_some _ x))))⟩
end
end L2
set_option Elab.async false
set_option linter.all false
set_option maxRecDepth 100000
set_option maxHeartbeats 4000000
namespace L2
open PySem PySem.Spec PyProof.Rows

/-! ### for sign in text -/
/-! ### for a, b in zip(x, y) -/
def SqB (t : Bool) (K : PySem.W.Frag) (H : Hp) (a : Addr) (xs : List V) : Prop := match t with
  | true => SqT K H a xs
  | false => SqL K H a xs
section
variable {X : Cx} {pins : List (Addr × Obj)} {σ : St} {H : Hp} {s : Shared}
theorem Inv.sq {t : Bool} {a : Addr} {xs : List V} (I : Inv X pins σ H s) (h : SqB t X.K H a xs) : ∃ its : List Value, Vals xs its ∧ SqK t s.heap a its.toArray ∧ xs.length ≤ sizeLine := by
  cases t with
  | true => obtain ⟨its, r, p, z⟩ := I.tuple h; exact ⟨its, r, p, z⟩
  | false => obtain ⟨its, r, p, z⟩ := I.list h; exact ⟨its, r, p.isList, z⟩
theorem Inv.sq_inj {t : Bool} {a : Addr} {xs ys : List V} (I : Inv X pins σ H s) (h : SqB t X.K H a xs) (h' : SqB t X.K H a ys) : xs = ys := by
  cases t with
  | true => exact I.tuple_inj h h'
  | false => exact I.list_inj h h'
/-- what is read is no record of an iterator -/
theorem Inv.sq_ne {t : Bool} {a b : Addr} {xs : List V} (I : Inv X pins σ H s) (h : SqB t X.K H a xs) (f : FpOk X pins H b) : a ≠ b := by
  intro z
  subst z
  obtain ⟨f0, _, _, f3, _⟩ := f
  have nob : ∀ o, X.base.get? a = some o → False := fun o e => by
    rcases f3 with q | q
    · exact I.ok.noex a o e q
    · exact absurd (Nat.lt_of_lt_of_le (Heap.lt_size e) (Nat.le_trans I.ok.bsz q)) (Nat.lt_irrefl _)
  cases t with
  | true =>
    rcases (show SqT X.K H a xs from h) with (q | ⟨o, q⟩) | q
    · rw [f0] at q; cases q
    · rw [f0] at q; cases q
    · obtain ⟨o, q⟩ := q
      first
        | exact nob _ (I.mod.kin a o q.1)
        | (obtain ⟨_, _, q, _⟩ := q; exact nob _ (I.mod.kin a _ q))
        | (obtain ⟨_, q, _⟩ := q; exact nob _ (I.mod.kin a _ q))
  | false =>
    rcases (show SqL X.K H a xs from h) with (q | ⟨o, q⟩) | q
    · rw [f0] at q; cases q
    · rw [f0] at q; cases q
    · obtain ⟨o, q⟩ := q
      first
        | exact nob _ (I.mod.kin a o q.1)
        | (obtain ⟨_, _, q, _⟩ := q; exact nob _ (I.mod.kin a _ q))
        | (obtain ⟨_, q, _⟩ := q; exact nob _ (I.mod.kin a _ q))
end
def Itz (K : PySem.W.Frag) (t1 t2 : Bool) (a b : Addr) : It :=
  ⟨fun i H => ∃ xs ys x y, SqB t1 K H a xs ∧ SqB t2 K H b ys ∧ xs[i]? = some x ∧ ys[i]? = some y,
   fun i H v H' => ∃ p x y, v = .ref p ∧ H p = none ∧ H' = upd H p (.tup [x, y]) ∧ (∀ xs, SqB t1 K H a xs → xs[i]? = some x) ∧ ∀ ys, SqB t2 K H b ys → ys[i]? = some y,
   fun i H => ∃ xs ys, SqB t1 K H a xs ∧ SqB t2 K H b ys ∧ (xs.length ≤ i ∨ ys.length ≤ i)⟩
def ItB (t : Bool) (h : Heap) (it l : Addr) (k : Nat) : Prop := match t with
  | true => h.IsTupleIter it l k
  | false => h.IsListIter it l k
theorem ItB.src {t : Bool} {h : Heap} {it l : Addr} {k : Nat} {xs : Array Value} (a : ItB t h it l k) (b : SqK t h l xs) : Src t h it l xs k := by cases t <;> exact ⟨a, b⟩
theorem Src.it {t : Bool} {h : Heap} {it l : Addr} {k : Nat} {xs : Array Value} (a : Src t h it l xs k) : ItB t h it l k := by cases t <;> exact a.1
theorem ItB.ob {t : Bool} {h : Heap} {it l : Addr} {k : Nat} (a : ItB t h it l k) : ∃ o, h.get? it = some o ∧ ∀ v, o.data ≠ .cell v := by
  cases t <;> (obtain ⟨o, e, _, d⟩ := a; exact ⟨o, e, fun v z => by rw [d] at z; cases z⟩)
theorem ItB.keep {t : Bool} {h h' : Heap} {it l : Addr} {k : Nat} (a : ItB t h it l k) (e : ∀ o, h.get? it = some o → h'.get? it = some o) : ItB t h' it l k := by
  cases t <;> (obtain ⟨o, q, r⟩ := a; exact ⟨o, e o q, r⟩)

theorem turn_zip {P : Program} {w : World} {K : PySem.W.Frag} {es : List Expr} {k0 : Nat} {tp : Pos} {t1 t2 : Bool} {a b z TI TO i1 i2 : Addr}
    (D : (TI ≠ z ∧ TO ≠ z ∧ i1 ≠ z ∧ i2 ≠ z) ∧ TI ≠ TO ∧ TI ≠ i1 ∧ TI ≠ i2 ∧ TO ≠ i1 ∧ TO ≠ i2 ∧ i1 ≠ i2) :
    Turn P w K (.Tuple es k0 tp) (Itz K t1 t2 a b) [z, TI, TO, i1, i2] z (fun i h => IsZip h z TI TO .none ∧ IsPair h TI (.ref i1) (.ref i2) ∧ (∃ u v, IsPair h TO u v) ∧ ItB t1 h i1 a i ∧ ItB t2 h i2 b i) where
  mem := by simp
  obj := fun i h st c hc => by
    obtain ⟨h1, h2, ⟨u, v, h3⟩, h4, h5⟩ := st
    simp only [List.mem_cons, List.not_mem_nil, or_false] at hc
    rcases hc with rfl | rfl | rfl | rfl | rfl
    · exact ⟨_, h1, fun v z => by cases z⟩
    · exact ⟨_, h2, fun v z => by cases z⟩
    · exact ⟨_, h3, fun v z => by cases z⟩
    · exact h4.ob
    · exact h5.ob
  keep := fun i h h' st k => by
    obtain ⟨h1, h2, ⟨u, v, h3⟩, h4, h5⟩ := st
    exact ⟨k z (by simp) _ h1, k TI (by simp) _ h2, ⟨u, v, k TO (by simp) _ h3⟩, h4.keep fun o e => k i1 (by simp) o e, h5.keep fun o e => k i2 (by simp) o e⟩
  item := by
    intro X hP hw hK hc i pins s σ H E I hf st hg
    subst hP hw hK
    obtain ⟨h1, h2, ⟨u, v, h3⟩, h4, h5⟩ := st
    obtain ⟨xs, ys, x, y, q1, q2, hx, hy⟩ := hg
    obtain ⟨its, r1, p1, _⟩ := I.sq q1
    obtain ⟨jts, r2, p2, _⟩ := I.sq q2
    obtain ⟨ux, ex, rx⟩ := r1.get hx
    obtain ⟨uy, ey, ry⟩ := r2.get hy
    have fz := hf z (by simp)
    have fTI := hf TI (by simp)
    have fTO := hf TO (by simp)
    have f1 := hf i1 (by simp)
    have f2 := hf i2 (by simp)
    have Dd : Apart z TI TO i1 i2 a b := ⟨D.1, D.2, ⟨I.sq_ne q1 fz, I.sq_ne q1 fTO, I.sq_ne q1 f1, I.sq_ne q1 f2⟩, ⟨I.sq_ne q2 fz, I.sq_ne q2 fTO, I.sq_ne q2 f1, I.sq_ne q2 f2⟩⟩
    have hT : s.TypeIs (.ref z) "zip" := ⟨_, h1, rfl⟩
    unfold pyNext
    refine wpAny_bind (wpAny_attempt (wpAny_callSpecial?_slot (name := Str.ofString "__next__") hT F.slot_zip_next (wpAny_call_entry F.slot_zip_next hT F.entry_zip_next (zip_item Dd h1 h2 h3 (h4.src p1) (h5.src p2) (by simpa using ex) (by simpa using ey) fun h' a1 a2 a3 a4 a5 a6 => wpAny_pure ?_) (F.args_zip_next_1 _))))
    refine ⟨_, rfl, wpAny_letOwnedTupleGo_zip a1 fun h2' b1 b2 => ?_⟩
    have lt : ∀ {c o}, s.heap.get? c = some o → s.heap.objs.size ≠ c := fun e => Nat.ne_of_gt (Heap.lt_size e)
    have nz := lt h1
    have hk : ∀ c o, c ∉ [z, TI, TO, i1, i2] → s.heap.get? c = some o → h2'.get? c = some o := fun c o hcn e => by
      simp only [List.mem_cons, List.not_mem_nil, or_false, not_or] at hcn
      exact b2.extBut c o hcn.1 (a6 c o hcn.1 hcn.2.2.1 hcn.2.2.2.1 hcn.2.2.2.2 e)
    have hTI' : h2'.get? TI = s.heap.get? TI := by
      rw [h2]
      exact b2.extBut _ _ D.1.1 (a6 TI _ D.1.1 D.2.1 D.2.2.1 D.2.2.2.1 h2)
    -- the own records have turned
    have I1 : Inv X pins σ H { s with heap := h2' } := by
      refine I.step (g' := s.gens) (d' := s.drawn) (t' := s.toks) (ch := [z, TI, TO, i1, i2]) (fun c hcm => ?_) (fun c o _ _ hcn e _ => hk c o hcn e) (fun c o _ _ hcn e _ => ⟨o.slots, hk c o hcn e⟩) (fun _ _ _ _ n => n)
        (fun c o hcn e => ⟨o, hk c o hcn e⟩) (fun _ _ e => e) (fun _ _ _ e => e) (fun c ps e => ⟨#[], by rw [e]; simp⟩) (fun m hm => ?_) (fun c u' e => ?_) I.bare
      · obtain ⟨_, g1, _, g3, g4, g5⟩ := hf c hcm
        exact ⟨g3, g1, g4, g5⟩
      · obtain ⟨o, es', ep, ho, r⟩ := hm
        exact ⟨o, es', ep, hk _ o (fun hm' => (hf _ hm').2.1 rfl) ho, r⟩
      · have nin : ∀ c' u'', H c' = some u'' → c' ∉ [z, TI, TO, i1, i2] := fun c' u'' e' hm' => by rw [(hf _ hm').1] at e'; cases e'
        refine (I.hok c u' e).stay (fun c' v' hc' q => hk c' v' ?_ q) (fun _ q => q) fun _ _ q => q
        rcases hc' with rfl | hc'
        · exact nin _ _ e
        · exact nin _ _ hc'
    have hp : IsPair h2' s.heap.objs.size ux uy := b2.extBut _ _ nz a5
    have fp0 : H s.heap.objs.size = none := I.hok.fresh (Nat.le_refl _)
    -- the pair is tracked
    have nfp : s.heap.objs.size ∉ [z, TI, TO, i1, i2] := fun hm => by
      obtain ⟨o, e, _⟩ : ∃ o, s.heap.get? s.heap.objs.size = some o ∧ True := by
        simp only [List.mem_cons, List.not_mem_nil, or_false] at hm
        rcases hm with q | q | q | q | q
        · exact ⟨_, by rw [q]; exact h1, trivial⟩
        · exact ⟨_, by rw [q]; exact h2, trivial⟩
        · exact ⟨_, by rw [q]; exact h3, trivial⟩
        · obtain ⟨o, e, _⟩ := h4.ob; exact ⟨o, by rw [q]; exact e, trivial⟩
        · obtain ⟨o, e, _⟩ := h5.ob; exact ⟨o, by rw [q]; exact e, trivial⟩
      exact absurd (Heap.lt_size e) (Nat.lt_irrefl _)
    have I2 : Inv X pins σ (upd H s.heap.objs.size (.tup [x, y])) { s with heap := h2' } := by
      refine I1.step (s := { s with heap := h2' }) (g' := s.gens) (d' := s.drawn) (t' := s.toks) (h' := h2') (ch := [s.heap.objs.size]) (fun c hcm => ?_) (fun c o _ _ _ e _ => e) (fun c o _ _ _ e _ => ⟨o.slots, e⟩) (fun c o hcn e n => ?_)
        (fun c o _ e => ⟨o, e⟩) (fun c xs' e => ?_) (fun c o u' e => ?_) (fun c ps e => ⟨#[], ?_⟩) (fun m hm => hm) (fun c u' e => ?_) I.bare
      · have e : c = s.heap.objs.size := by simpa using hcm
        subst e
        obtain ⟨_, g1, _, g3, g4, g5⟩ := I.fpOk (Nat.le_refl _) fp0
        exact ⟨g3, g1, g4, g5⟩
      · rw [upd_ne (by simpa using hcn)]; exact n
      · rw [upd_ne (ne_of_none e fp0)]; exact e
      · rw [upd_ne (ne_of_none e fp0)]; exact e
      · rw [upd_ne (ne_of_none e fp0), e]; simp
      · by_cases hcs : c = s.heap.objs.size
        · subst hcs
          rw [upd_same] at e
          cases e
          exact ⟨by simp [sizeLine_eq], [ux, uy], .cons rx (.cons ry .nil), ⟨_, hp, rfl, _, rfl⟩⟩
        · rw [upd_ne hcs] at e
          exact (I1.hok c u' e).stay (fun _ _ _ q => q) (fun c' q => by rw [upd_ne (ne_of_none q fp0)]; exact q) fun c' xs' q => by rw [upd_ne (ne_of_none q fp0)]; exact q
    refine ⟨.ref s.heap.objs.size, _, I2, rfl, ⟨s.heap.objs.size, x, y, rfl, fp0, rfl, fun xs' q' => by rw [I.sq_inj q' q1]; exact hx, fun ys' q' => by rw [I.sq_inj q' q2]; exact hy⟩, ?_, fun c hcm => ?_⟩
    · exact ⟨b1, hTI'.trans h2, ⟨ux, uy, b2.extBut _ _ D.1.2.1 a2⟩, (Src.it a3).keep fun o e => b2.extBut _ o D.1.2.2.1 e, (Src.it a4).keep fun o e => b2.extBut _ o D.1.2.2.2 e⟩
    · rw [upd_ne (fun q => nfp (by rw [← q]; exact hcm))]; exact (hf c hcm).1
  done := by
    intro X hP hw hK hc i pins s σ H E I hf st hg
    subst hP hw hK
    obtain ⟨h1, h2, ⟨u, v, h3⟩, h4, h5⟩ := st
    obtain ⟨xs, ys, q1, q2, he⟩ := hg
    obtain ⟨its, r1, p1, _⟩ := I.sq q1
    obtain ⟨jts, r2, p2, _⟩ := I.sq q2
    have Dd : Apart z TI TO i1 i2 a b := ⟨D.1, D.2, ⟨I.sq_ne q1 (hf z (by simp)), I.sq_ne q1 (hf TO (by simp)), I.sq_ne q1 (hf i1 (by simp)), I.sq_ne q1 (hf i2 (by simp))⟩, ⟨I.sq_ne q2 (hf z (by simp)), I.sq_ne q2 (hf TO (by simp)), I.sq_ne q2 (hf i1 (by simp)), I.sq_ne q2 (hf i2 (by simp))⟩⟩
    have l1 := r1.length
    have l2 := r2.length
    have hend : its.toArray[i]? = none ∨ jts.toArray[i]? = none := by
      rcases he with e | e
      · exact .inl (by simp; omega)
      · exact .inr (by simp; omega)
    have hT : s.TypeIs (.ref z) "zip" := ⟨_, h1, rfl⟩
    unfold pyNext
    refine wpAny_bind (wpAny_attempt (wpAny_callSpecial?_slot (name := Str.ofString "__next__") hT F.slot_zip_next (wpAny_call_entry F.slot_zip_next hT F.entry_zip_next (zip_end (I.ok.hd hc) Dd h1 h2 h3 (h4.src p1) (h5.src p2) hend fun h' e kk hx => ?_) (F.args_zip_next_1 _))))
    obtain ⟨o, ho, hcl⟩ := hx
    refine wpAny_bind (wpAny_isInstance (T := "StopIteration") (b := true) ⟨o, ho, hcl⟩ isSubtype_stop (wpAny_pure ⟨rfl, ?_⟩))
    have hk : ∀ c o, c ∉ [z, TI, TO, i1, i2] → s.heap.get? c = some o → h'.get? c = some o := fun c o hcn e => by
      simp only [List.mem_cons, List.not_mem_nil, or_false, not_or] at hcn
      exact kk c o hcn.1 hcn.2.2.1 hcn.2.2.2.1 hcn.2.2.2.2 e
    refine I.step (g' := s.gens) (d' := s.drawn) (t' := s.toks) (ch := [z, TI, TO, i1, i2]) (fun c hcm => ?_) (fun c o _ _ hcn e _ => hk c o hcn e) (fun c o _ _ hcn e _ => ⟨o.slots, hk c o hcn e⟩) (fun _ _ _ _ n => n)
      (fun c o hcn e => ⟨o, hk c o hcn e⟩) (fun _ _ e => e) (fun _ _ _ e => e) (fun c ps e => ⟨#[], by rw [e]; simp⟩) (fun m hm => ?_) (fun c u' e => ?_) I.bare
    · obtain ⟨_, g1, _, g3, g4, g5⟩ := hf c hcm
      exact ⟨g3, g1, g4, g5⟩
    · obtain ⟨o, es', ep, ho, r⟩ := hm
      exact ⟨o, es', ep, hk _ o (fun hm' => (hf _ hm').2.1 rfl) ho, r⟩
    · have nin : ∀ c' u'', H c' = some u'' → c' ∉ [z, TI, TO, i1, i2] := fun c' u'' e' hm' => by rw [(hf _ hm').1] at e'; cases e'
      refine (I.hok c u' e).stay (fun c' v' hc' q => hk c' v' ?_ q) (fun _ q => q) fun _ _ q => q
      rcases hc' with rfl | hc'
      · exact nin _ _ e
      · exact nin _ _ hc'
  self := fun _ _ _ _ _ st h => wpAny_pyIter_zip st.1 h

def iZip (K : PySem.W.Frag) (t1 t2 : Bool) (ta : TA) : TI := fun σ H R => ta σ H fun vs H1 => ∃ a b xs ys, vs = [.ref a, .ref b] ∧ SqB t1 K H1 a xs ∧ SqB t2 K H1 b ys ∧ R (Itz K t1 t2 a b) H1
theorem zip_apart (n : Nat) : (n + 2 ≠ n + 4 ∧ n + 3 ≠ n + 4 ∧ n ≠ n + 4 ∧ n + 1 ≠ n + 4) ∧ n + 2 ≠ n + 3 ∧ n + 2 ≠ n ∧ n + 2 ≠ n + 1 ∧ n + 3 ≠ n ∧ n + 3 ≠ n + 1 ∧ n ≠ n + 1 := by omega
theorem zip_above (n x : Nat) (h : x = n + 4 ∨ x = n + 2 ∨ x = n + 3 ∨ x = n ∨ x = n + 1) : n ≤ x := by omega
theorem boot_zip : bootBuiltins "zip" = some (.type "zip") := by decide +kernel
theorem pi_zip {X : Cx} {es0 : List Expr} {k0 : Nat} {tp : Pos} {a b : Expr} {ta : TA} {p pos : Pos} {t1 t2 : Bool} (hg : Gl X "zip") (hm : X.mg "zip" = none) (ha : PA X [a, b] ta)
    (hs : starEach [a, b] X.env = [(false, eval a X.env), (false, eval b X.env)] := by rfl) (hs2 : starEach [b] X.env = [(false, eval b X.env)] := by rfl) :
    PI X (.Tuple es0 k0 tp) (.Call (.Name "zip" p) [a, b] [] pos) (iZip X.K t1 t2 ta) := by
  intro pins s σ H R I h
  refine Call_ (ld_blt I hg hm boot_zip (PyProof.Rows.callWith_type1 (thn (ha pos pins s σ H _ I h) fun us s1 ⟨vs, H1, I1, r1, q1⟩ => ?_) (by rw [hs, hs2]) (by rw [hs2]; rfl)))
  obtain ⟨c, d, xs, ys, e, q1, q2, q⟩ := q1
  subst e
  obtain ⟨u, u', rfl, ru, ru'⟩ := vals2 r1
  cases ru
  cases ru'
  obtain ⟨its, _, p1, _⟩ := I1.sq q1
  obtain ⟨jts, _, p2, _⟩ := I1.sq q2
  refine call_zipK p1 p2 fun h' a1 a2 a3 a4 a5 kk => ?_
  refine wpAny_pyIter_zip (s := { s1 with heap := h' }) a1 ?_
  have I2 : Inv X pins σ H1 { s1 with heap := h' } := I1.kept (t' := s1.toks) kk
  refine ⟨_, [s1.heap.objs.size + 4, s1.heap.objs.size + 2, s1.heap.objs.size + 3, s1.heap.objs.size, s1.heap.objs.size + 1], _, _, H1, rfl, I2, turn_zip (t1 := t1) (t2 := t2) (a := c) (b := d) (zip_apart _),
    ⟨a1, a2, ⟨_, _, a3⟩, Src.it a4, Src.it a5⟩, fun x hx => ?_, q⟩
  have hge : s1.heap.objs.size ≤ x := by
    simp only [List.mem_cons, List.not_mem_nil, or_false] at hx
    exact zip_above _ _ hx
  exact I1.fpOk hge (I1.hok.fresh hge)
end L2
set_option Elab.async false
set_option linter.all false
set_option maxRecDepth 100000
set_option maxHeartbeats 4000000
namespace L2
open PySem PySem.Spec PyProof.Rows
section
variable {X : Cx} {a b : Expr} {ta tb : TE} {pos : Pos}

/-! ### all(list of truths) -/
/-! ### isinstance(x, T) -/
def rIsi (K : PySem.W.Frag) : List V → Hp → VK → Prop := fun xs H Q => ∃ x c t k, xs = [x, .ty c] ∧ TyOf K H x t ∧ PySem.W.kitOne K t (.type c) = some k ∧ Q (.bl k) H
theorem call_isi : CallR X (.builtin "isinstance") (rIsi X.K) := by
  intro pins s σ H xs us Q I r h
  obtain ⟨x, c, t, k, rfl, ty, e, q⟩ := h
  obtain ⟨u, u', rfl, rx, rc⟩ := vals2 r
  cases rc
  exact isinst_ok I rx ty e fun tk => ⟨.bl k, H, I.tok tk, rfl, q⟩

/-! ### f(e, ..) where f is a name that holds a def -/
/-! ### texts -/
/-! ### two lists of flat things compared -/
end

/-! ### t[::-1] of a tuple -/
section
variable {prog : Program} {w : World} {A : Around} {E : Value → Shared → Prop} {s : Shared}
end
end L2
namespace L2
open PySem PySem.Spec PyProof.Rows
/-! ### t + u of two tuples, either may be empty -/
def rCatU : R2 := fun x y H Q => ∃ a b xs ys, x = .ref a ∧ y = .ref b ∧ H a = some (.tup xs) ∧ H b = some (.tup ys) ∧ xs.length + ys.length ≤ sizeLine ∧ ∀ p H', H' p = some (.tup (xs ++ ys)) → Same H H' → Q (.ref p) H'
theorem op_catU {X : Cx} : OpR X (binaryOp .Add) rCatU := by
  intro pins s σ H x y v u Q I rx ry h
  obtain ⟨a, b, xs, ys, rfl, rfl, ha, hb, hz, q⟩ := h
  by_cases hx : xs = []
  · subst hx
    cases rx
    cases ry
    obtain ⟨its, r1, p1, _⟩ := I.tuple (SqT.of ha)
    obtain ⟨its2, r2, p2, _⟩ := I.tuple (SqT.of hb)
    have e1 : its = [] := r1.nil_iff.mpr rfl
    obtain ⟨⟨cls, dd, data, sl⟩, ho, hc, n, hd⟩ := id p1
    obtain ⟨⟨cls2, dd2, data2, sl2⟩, ho2, hc2, n2, hd2⟩ := id p2
    simp only at hc hd hc2 hd2
    subst hc hd hc2 hd2
    exact concat_meets ⟨_, ho, rfl⟩ ⟨_, ho2, rfl⟩ noFill_tuple_add seq_tuple_add PySem.F.slot_tuple_add PySem.F.entry_tuple_add (PySem.F.args_tuple_add_2 _ _)
      (tuple_addW0 a b its.toArray its2.toArray n n2 dd dd2 sl sl2 (by simp [e1])) ⟨ho, ho2, ⟨.ref b, H, I, rfl, q b H (by simpa using hb) (Same.refl _)⟩⟩
  · refine op_catT pins s σ H (.ref a) (.ref b) v u Q I rx ry ⟨a, b, xs, ys, rfl, rfl, SqT.of ha, SqT.of hb, hx, hz, fun e => ?_, fun _ p hp => ?_⟩
    · subst e
      exact q a H (by simpa using ha) (Same.refl _)
    · exact q p _ upd_same fun c o e => by rw [upd_ne (ne_of_none e hp)]; exact e
theorem PT.weak {X : Cx} {e : Expr} {t t' : TT} (h : PT X e t) (w : ∀ σ H Q, t' σ H Q → t σ H Q) : PT X e t' := fun pins s σ H Q I q => h pins s σ H Q I (w σ H Q q)
theorem PE.weak {X : Cx} {e : Expr} {t t' : TE} (h : PE X e t) (w : ∀ σ H Q, t' σ H Q → t σ H Q) : PE X e t' := fun pins s σ H Q I q => h pins s σ H Q I (w σ H Q q)
end L2
set_option Elab.async false
set_option linter.all false
namespace Kp
open PySem PyProof.Rows
/-- a thing, as data -/
inductive D where
  | non | bl (b : Bool) | int (i : Int) | str (x : Str) | tup (xs : List D) | lst (xs : List D)

/-! ### names -/
/-! ### seats -/
end Kp
set_option Elab.async false
set_option linter.all false
set_option maxRecDepth 100000
set_option maxHeartbeats 4000000
namespace Kp
open PySem L2

mutual
/-- v is the thing d in the heap H; its texts and rows are of at most B parts -/
inductive Is (B : Nat) (H : Hp) : V → D → Prop
  | non : Is B H .non .non
  | bl (b : Bool) : Is B H (.bl b) (.bl b)
  | int (i : Int) : Is B H (.int i) (.int i)
  | str (x : Str) (h : x.length ≤ B) : Is B H (.str x) (.str x)
  | tup {a : Addr} {vs : List V} {ds : List D} (e : H a = some (.tup vs)) (l : vs.length ≤ B) (r : IsL B H vs ds) : Is B H (.ref a) (.tup ds)
  | lst {a : Addr} {vs : List V} {ds : List D} (e : H a = some (.lst vs)) (l : vs.length ≤ B) (r : IsL B H vs ds) : Is B H (.ref a) (.lst ds)
inductive IsL (B : Nat) (H : Hp) : List V → List D → Prop
  | nil : IsL B H [] []
  | cons {v : V} {d : D} {vs : List V} {ds : List D} (h : Is B H v d) (t : IsL B H vs ds) : IsL B H (v :: vs) (d :: ds)
end
mutual
theorem Is.mono {B B' : Nat} {H H' : Hp} (hB : B ≤ B') (s : Same H H') : ∀ {v d}, Is B H v d → Is B' H' v d
  | _, _, .non => .non
  | _, _, .bl b => .bl b
  | _, _, .int i => .int i
  | _, _, .str x h => .str x (Nat.le_trans h hB)
  | _, _, .tup e l r => .tup (s _ _ e) (Nat.le_trans l hB) (IsL.mono hB s r)
  | _, _, .lst e l r => .lst (s _ _ e) (Nat.le_trans l hB) (IsL.mono hB s r)
theorem IsL.mono {B B' : Nat} {H H' : Hp} (hB : B ≤ B') (s : Same H H') : ∀ {vs ds}, IsL B H vs ds → IsL B' H' vs ds
  | _, _, .nil => .nil
  | _, _, .cons h t => .cons (Is.mono hB s h) (IsL.mono hB s t)
end
theorem Is.same {B : Nat} {H H' : Hp} {v : V} {d : D} (h : Is B H v d) (s : Same H H') : Is B H' v d := h.mono (Nat.le_refl _) s
theorem IsL.same {B : Nat} {H H' : Hp} {v : List V} {d : List D} (h : IsL B H v d) (s : Same H H') : IsL B H' v d := h.mono (Nat.le_refl _) s
theorem IsL.length {B : Nat} {H : Hp} : ∀ {vs ds}, IsL B H vs ds → vs.length = ds.length
  | _, _, .nil => rfl
  | _, _, .cons _ t => by simp [IsL.length t]
theorem IsL.get {B : Nat} {H : Hp} : ∀ {vs ds} {i : Nat} {v : V}, IsL B H vs ds → vs[i]? = some v → ∃ d, ds[i]? = some d ∧ Is B H v d
  | _, _, _, _, .nil, h => by simp at h
  | _, _, 0, _, .cons h _, e => by simp at e; subst e; exact ⟨_, rfl, h⟩
  | _, _, i + 1, v, .cons _ t, e => by
    obtain ⟨d, e', h⟩ := IsL.get (i := i) (v := v) t (by simpa using e)
    exact ⟨d, by simpa using e', h⟩
theorem IsL.append {B : Nat} {H : Hp} : ∀ {vs ds vs' ds'}, IsL B H vs ds → IsL B H vs' ds' → IsL B H (vs ++ vs') (ds ++ ds')
  | _, _, _, _, .nil, h => h
  | _, _, _, _, .cons h t, h' => .cons h (IsL.append t h')
theorem IsL.take {B : Nat} {H : Hp} : ∀ (n : Nat) {vs ds}, IsL B H vs ds → IsL B H (vs.take n) (ds.take n)
  | 0, _, _, _ => .nil
  | _ + 1, _, _, .nil => .nil
  | n + 1, _, _, .cons h t => .cons h (IsL.take n t)
theorem IsL.drop {B : Nat} {H : Hp} : ∀ (n : Nat) {vs ds}, IsL B H vs ds → IsL B H (vs.drop n) (ds.drop n)
  | 0, _, _, h => h
  | _ + 1, _, _, .nil => .nil
  | n + 1, _, _, .cons _ t => IsL.drop n t
theorem IsL.reverse {B : Nat} {H : Hp} {vs ds} (h : IsL B H vs ds) : IsL B H vs.reverse ds.reverse := by
  induction vs generalizing ds with
  | nil => cases h; exact .nil
  | cons v vs ih =>
    cases h with
    | cons h t => rw [List.reverse_cons, List.reverse_cons]; exact (ih t).append (.cons h .nil)
theorem IsL.ints {B : Nat} {H : Hp} : ∀ (ns : List Int), IsL B H (ns.map V.int) (ns.map D.int)
  | [] => .nil
  | n :: r => .cons (.int n) (IsL.ints r)
/-- some thing of at most B parts -/
def Th (B : Nat) (H : Hp) (v : V) : Prop := ∃ d, Is B H v d
def ThL (B : Nat) (H : Hp) (vs : List V) : Prop := ∃ ds, IsL B H vs ds
theorem Th.mono {B B' : Nat} {H H' : Hp} {v : V} (h : Th B H v) (hB : B ≤ B') (s : Same H H') : Th B' H' v := let ⟨d, q⟩ := h; ⟨d, q.mono hB s⟩
theorem ThL.mono {B B' : Nat} {H H' : Hp} {v : List V} (h : ThL B H v) (hB : B ≤ B') (s : Same H H') : ThL B' H' v := let ⟨d, q⟩ := h; ⟨d, q.mono hB s⟩
theorem ThL.nil {B : Nat} {H : Hp} : ThL B H [] := ⟨[], .nil⟩
theorem ThL.cons {B : Nat} {H : Hp} {v : V} {vs : List V} (h : Th B H v) (t : ThL B H vs) : ThL B H (v :: vs) := let ⟨d, q⟩ := h; let ⟨ds, r⟩ := t; ⟨d :: ds, .cons q r⟩
theorem ThL.append {B : Nat} {H : Hp} {vs us : List V} (h : ThL B H vs) (t : ThL B H us) : ThL B H (vs ++ us) := let ⟨_, q⟩ := h; let ⟨_, r⟩ := t; ⟨_, q.append r⟩
theorem ThL.take {B : Nat} {H : Hp} {vs : List V} (n : Nat) (h : ThL B H vs) : ThL B H (vs.take n) := let ⟨_, q⟩ := h; ⟨_, q.take n⟩
theorem ThL.drop {B : Nat} {H : Hp} {vs : List V} (n : Nat) (h : ThL B H vs) : ThL B H (vs.drop n) := let ⟨_, q⟩ := h; ⟨_, q.drop n⟩
theorem ThL.reverse {B : Nat} {H : Hp} {vs : List V} (h : ThL B H vs) : ThL B H vs.reverse := let ⟨_, q⟩ := h; ⟨_, q.reverse⟩
theorem ThL.get {B : Nat} {H : Hp} {vs : List V} {i : Nat} {v : V} (h : ThL B H vs) (e : vs[i]? = some v) : Th B H v := let ⟨_, q⟩ := h; let ⟨d, _, r⟩ := q.get e; ⟨d, r⟩
theorem Th.tup {B : Nat} {H : Hp} {a : Addr} {vs : List V} (e : H a = some (.tup vs)) (l : vs.length ≤ B) (h : ThL B H vs) : Th B H (.ref a) := let ⟨_, q⟩ := h; ⟨_, .tup e l q⟩
theorem Th.lst {B : Nat} {H : Hp} {a : Addr} {vs : List V} (e : H a = some (.lst vs)) (l : vs.length ≤ B) (h : ThL B H vs) : Th B H (.ref a) := let ⟨_, q⟩ := h; ⟨_, .lst e l q⟩
theorem Th.int {B : Nat} {H : Hp} (i : Int) : Th B H (.int i) := ⟨_, .int i⟩
theorem Th.bl {B : Nat} {H : Hp} (i : Bool) : Th B H (.bl i) := ⟨_, .bl i⟩
theorem Th.non {B : Nat} {H : Hp} : Th B H .non := ⟨_, .non⟩
theorem Th.str {B : Nat} {H : Hp} (x : Str) (h : x.length ≤ B) : Th B H (.str x) := ⟨_, .str x h⟩
/-- a new object leaves all as it was -/
theorem same_upd {H : Hp} {p : Addr} {o : HO} (h : H p = none) : Same H (upd H p o) := fun b u e => by rw [upd_ne (ne_of_none e h)]; exact e

/-! ### the kinds -/
def tyN : D → String
  | .non => "NoneType" | .bl _ => "bool" | .int _ => "int" | .str _ => "str" | .tup _ => "tuple" | .lst _ => "list"
theorem Is.ty {B : Nat} {H : Hp} {K : PySem.W.Frag} {v : V} {d : D} (h : Is B H v d) : TyOf K H v (.type (tyN d)) := by
  cases h with
  | non => exact .non
  | bl b => exact .bl b
  | int i => exact .int i
  | str x _ => exact .str x
  | tup e _ _ => exact .tup e
  | lst e _ _ => exact .lst e
def isInt : D → Bool | .int _ => true | .bl _ => true | _ => false
def isBool : D → Bool | .bl _ => true | _ => false
def isTup : D → Bool | .tup _ => true | _ => false
theorem kit_int (K : PySem.W.Frag) : ∀ d : D, PySem.W.kitOne K (.type (tyN d)) (.type "int") = some (isInt d)
  | .non => by with_unfolding_all rfl
  | .bl _ => by with_unfolding_all rfl
  | .int _ => by with_unfolding_all rfl
  | .str _ => by with_unfolding_all rfl
  | .tup _ => by with_unfolding_all rfl
  | .lst _ => by with_unfolding_all rfl
theorem kit_bool (K : PySem.W.Frag) : ∀ d : D, PySem.W.kitOne K (.type (tyN d)) (.type "bool") = some (isBool d)
  | .non => by with_unfolding_all rfl
  | .bl _ => by with_unfolding_all rfl
  | .int _ => by with_unfolding_all rfl
  | .str _ => by with_unfolding_all rfl
  | .tup _ => by with_unfolding_all rfl
  | .lst _ => by with_unfolding_all rfl
theorem kit_tup (K : PySem.W.Frag) : ∀ d : D, PySem.W.kitOne K (.type (tyN d)) (.type "tuple") = some (isTup d)
  | .non => by with_unfolding_all rfl
  | .bl _ => by with_unfolding_all rfl
  | .int _ => by with_unfolding_all rfl
  | .str _ => by with_unfolding_all rfl
  | .tup _ => by with_unfolding_all rfl
  | .lst _ => by with_unfolding_all rfl
theorem boot_isi : bootBuiltins "isinstance" = some (.builtin "isinstance") := by decide +kernel
theorem boot_int : bootBuiltins "int" = some (.type "int") := by decide +kernel
theorem boot_bool : bootBuiltins "bool" = some (.type "bool") := by decide +kernel
theorem boot_tuple : bootBuiltins "tuple" = some (.type "tuple") := by decide +kernel
theorem pe_ty {X : Cx} {x : Str} {n : String} {pos : Pos} (hg : Gl X x) (hm : X.mg x = none) (hv : bootBuiltins x = some (.type n)) (hn : x ≠ "__name__" := by decide) (hd : (x == ("__debug__" : Str)) = false := by decide) : PE X (.Name x pos) (tC (.ty n)) := pe_bltn (v := .ty n) hg hm hv rfl hn hd
end Kp
set_option Elab.async false
set_option linter.all false
set_option maxRecDepth 100000
set_option maxHeartbeats 4000000
namespace Kp
open PySem L2

/-! ### rules whose reading names the written part, for a block -/
section
variable {X : Cx} {K : PySem.W.Frag} {pos : Pos}
end

/-! ### a comprehension's names -/
/-! ### a comprehension that changes nothing -/
/-! ### promises -/
/-- a teller: of a thing, a truth; nothing is changed -/
def spP (f : D → Bool) : Sp := fun vs H Q _ => ∃ B v d, B ≤ 1000 ∧ vs = [v] ∧ Is B H v d ∧ ∀ H', Same H H' → Q (.bl (f d)) H'
/-- a def of the text that keeps its promise, as a caller sees it -/
structure Cal (P : Program) (w : World) (K : PySem.W.Frag) (mg : Str → Option Value) (base : Heap) (name : Str) (k : Nat) (ps : List Str) (sp : Sp) : Prop where
  ex : ∃ f fd, FnOk P w K mg base CX0 k f fd ps sp ∧ mg name = some (.ref f) ∧ PySem.W.keepIn K (.ref f) = true ∧ Binds K fd ps []
def whole (d : D) : Bool := isInt d && !isBool d
end Kp
set_option Elab.async false
set_option linter.all false
namespace Kp
open PySem L2
section
variable {X : Cx} {es : List Expr} {te : TE} {t : TA} {pos : Pos}
/-! ### argument lists by the first one's form: that it is no star is known once -/
theorem pa_i {c : Const} {k : Nat} (ha : PE X (.Constant c k pos) te) (hr : PA X es t) : PA X (.Constant c k pos :: es) (tCons te t) := pa_cons ha hr rfl
theorem pa_n {x : Str} (ha : PE X (.Name x pos) te) (hr : PA X es t) : PA X (.Name x pos :: es) (tCons te t) := pa_cons ha hr rfl
theorem pa_b {o : Operator} {a b : Expr} (ha : PE X (.BinOp a o b pos) te) (hr : PA X es t) : PA X (.BinOp a o b pos :: es) (tCons te t) := pa_cons ha hr rfl
theorem pa_k {f : Expr} {as : List Expr} {ks : List Keyword} (ha : PE X (.Call f as ks pos) te) (hr : PA X es t) : PA X (.Call f as ks pos :: es) (tCons te t) := pa_cons ha hr rfl
theorem pa_s {a b : Expr} (ha : PE X (.Subscript a b pos) te) (hr : PA X es t) : PA X (.Subscript a b pos :: es) (tCons te t) := pa_cons ha hr rfl
end
end Kp
namespace Kp
open PySem L2
theorem px_b {a b : Expr} {o : Operator} {pos : Pos} : PlainIx (.BinOp a o b pos) := fun _ _ => rfl
theorem px_n {x : Str} {pos : Pos} : PlainIx (.Name x pos) := fun _ _ => rfl
theorem px_i {c : Const} {k : Nat} {pos : Pos} : PlainIx (.Constant c k pos) := fun _ _ => rfl
end Kp
namespace Kp
open PySem L2
end Kp
namespace Kp
open PySem L2
/-! ### displays of written things -/
structure QA (X : Cx) (es : List Expr) (t : TA) : Prop where
  h : PA X es t
section
variable {X : Cx} {es l : List Expr} {t u : TA} {p p' : Pos} {j : Nat}
theorem qa_nil : QA X [] tNil := ⟨pa_nil⟩
theorem qa_int {i : Int} (r : QA X es t) : QA X (.Constant (.int i) j p :: es) (tCons (tC (.int i)) t) := ⟨pa_cons pe_int r.h rfl⟩
theorem qa_str {i : Str} (r : QA X es t) : QA X (.Constant (.str i) j p :: es) (tCons (tC (.str i)) t) := ⟨pa_cons pe_str r.h rfl⟩
theorem qa_non (r : QA X es t) : QA X (.Constant .none j p :: es) (tCons (tC .non) t) := ⟨pa_cons pe_non r.h rfl⟩
theorem qa_tup (a : QA X l u) (r : QA X es t) : QA X (.Tuple l j p :: es) (tCons (tTup u) t) := ⟨pa_cons (pe_tup a.h) r.h rfl⟩
end
end Kp
namespace Kp
open PySem L2
/-! ### judgements in boxes: the elaborator looks into the bare ones, and runs a written display -/
structure QE (X : Cx) (e : Expr) (t : TE) : Prop where
  h : PE X e t
structure QS (X : Cx) (st : Stmt) (t : TS) : Prop where
  h : PS X st t
structure QB (X : Cx) (sts : List Stmt) (t : TS) : Prop where
  h : PSs X sts t
section
variable {X : Cx} {es : List Expr} {t : TA} {p p' pos : Pos} {j : Nat}
theorem qx_lst (a : QA X es t) : QE X (.List es p) (tLst t) := ⟨pe_lst a.h⟩
end
end Kp
set_option Elab.async false
set_option linter.all false
set_option maxRecDepth 100000
set_option maxHeartbeats 4000000
namespace Kp
open PySem L2 PyProof.Rows

/-! ### D.get(word) of a dict of the module -/
/-! ### a teller that is known by its address only -/
structure Tl (P : Program) (w : World) (K : PySem.W.Frag) (mg : Str → Option Value) (base : Heap) (k : Nat) (g : Addr) (p : D → Bool) : Prop where
  ex : ∃ k' fd px, k' ≤ k ∧ FnOk P w K mg base CX0 k' g fd [px] (spP p) ∧ PySem.W.keepIn K (.ref g) = true ∧ Binds K fd [px] []
section
variable {P : Program} {w : World} {K : PySem.W.Frag} {mg : Str → Option Value} {base : Heap}
theorem Tl.mono {k k' : Nat} {g : Addr} {p : D → Bool} (h : Tl P w K mg base k g p) (hk : k ≤ k') : Tl P w K mg base k' g p := let ⟨j, fd, px, a, b⟩ := h.ex; ⟨j, fd, px, Nat.le_trans a hk, b⟩
/-- tellers and what they tell -/
inductive Tls (P : Program) (w : World) (K : PySem.W.Frag) (mg : Str → Option Value) (base : Heap) (k : Nat) : List V → List (D → Bool) → Prop
  | nil : Tls P w K mg base k [] []
  | cons {g : Addr} {p : D → Bool} {gs : List V} {ps : List (D → Bool)} (h : Tl P w K mg base k g p) (t : Tls P w K mg base k gs ps) : Tls P w K mg base k (.ref g :: gs) (p :: ps)
theorem Tls.length {k : Nat} : ∀ {gs ps}, Tls P w K mg base k gs ps → gs.length = ps.length
  | _, _, .nil => rfl
  | _, _, .cons _ t => by simp [Tls.length t]
theorem Tls.get {k : Nat} : ∀ {gs ps} {i : Nat} {v : V}, Tls P w K mg base k gs ps → gs[i]? = some v → ∃ g p, v = .ref g ∧ ps[i]? = some p ∧ Tl P w K mg base k g p
  | _, _, _, _, .nil, e => by simp at e
  | _, _, 0, _, .cons h _, e => by simp at e; subst e; exact ⟨_, _, rfl, rfl, h⟩
  | _, _, i + 1, v, .cons _ t, e => by
    obtain ⟨g, p, a, b, c⟩ := Tls.get (i := i) (v := v) t (by simpa using e)
    exact ⟨g, p, a, by simpa using b, c⟩
theorem Tls.mono {k k' : Nat} (hk : k ≤ k') : ∀ {gs ps}, Tls P w K mg base k gs ps → Tls P w K mg base k' gs ps
  | _, _, .nil => .nil
  | _, _, .cons h t => .cons (h.mono hk) (Tls.mono hk t)

/-! ### a table of tellers by words -/
inductive Tbl (P : Program) (w : World) (K : PySem.W.Frag) (mg : Str → Option Value) (base : Heap) (k : Nat) : List DictEntry → List (Str × List (D → Bool)) → Prop
  | nil : Tbl P w K mg base k [] []
  | cons {x : Str} {tk : Tok} {t : Addr} {gs : List V} {ps : List (D → Bool)} {es : List DictEntry} {tb : List (Str × List (D → Bool))} (hs : ∀ H : Hp, SqT K H t gs) (ht : Tls P w K mg base k gs ps) (r : Tbl P w K mg base k es tb) :
      Tbl P w K mg base k (⟨PyData.keyHash w.params x, .str x tk, .ref t⟩ :: es) ((x, ps) :: tb)
theorem Tbl.keys {k : Nat} : ∀ {es tb}, Tbl P w K mg base k es tb → PySem.W.KeysLit w.params es
  | _, _, .nil => trivial
  | _, _, .cons _ _ r => ⟨⟨_, _, rfl, rfl⟩, Tbl.keys r⟩
theorem Tbl.find {k : Nat} {x : Str} : ∀ {es tb}, Tbl P w K mg base k es tb → ∃ v, RelV v (((es.find? fun e => Value.isStrOf x e.key).map (·.val)).getD .none) ∧
    ((tb.lookup x = none ∧ v = .non) ∨ ∃ ps t gs, tb.lookup x = some ps ∧ v = .ref t ∧ (∀ H : Hp, SqT K H t gs) ∧ Tls P w K mg base k gs ps)
  | _, _, .nil => ⟨.non, rfl, .inl ⟨rfl, rfl⟩⟩
  | _, _, @Tbl.cons _ _ _ _ _ _ y tk t gs ps es tb hs ht r => by
    rw [List.find?_cons, List.lookup_cons]
    have e : Value.isStrOf x (Value.str y tk) = (x == y) := by
      show (y == x) = (x == y)
      rw [Bool.eq_iff_iff, beq_iff_eq, beq_iff_eq]
      exact eq_comm
    dsimp only
    rw [e]
    cases hx : x == y with
    | true => exact ⟨.ref t, rfl, .inr ⟨ps, t, gs, rfl, rfl, hs, ht⟩⟩
    | false => exact Tbl.find r
end
end Kp
set_option Elab.async false
set_option linter.all false
set_option maxRecDepth 100000
set_option maxHeartbeats 4000000
namespace Kp
open PySem

/-! ### tuples by tellers, things by their first word -/
/-! ### the law's -/
def one (p : D → Bool) : List D → Bool
  | [a] => p a
  | _ => false
def two (p q : D → Bool) : List D → Bool
  | [a, b] => p a && q b
  | _ => false
end Kp
set_option Elab.async false
set_option linter.all false
set_option maxRecDepth 100000
set_option maxHeartbeats 4000000
namespace K1
open PySem L2 Kp
def top (i : Nat) : Stmt := PySem.Challenge.pw_keeplog_k16_whole_handed_on.main.body.getD i (.Pass ⟨0, 0, 0, 0⟩)
abbrev s_end_of : Stmt := top 4
abbrev s_entry_at : Stmt := top 5
abbrev s_term_at : Stmt := top 6
abbrev s_behind : Stmt := top 7
abbrev s_newness : Stmt := top 8
abbrev s_as_new : Stmt := top 9
abbrev s_agrees : Stmt := top 10
abbrev s_same_ahead : Stmt := top 12
abbrev s_filled : Stmt := top 13
abbrev s_cut_off : Stmt := top 14
abbrev s_taken_over : Stmt := top 15
abbrev sCell : Stmt := top 17
abbrev s__law_whole : Stmt := top 18
abbrev sNameBy : Stmt := top 19
abbrev s__law_bounded : Stmt := top 20
abbrev s__law_entry_by : Stmt := top 21
abbrev s__law_is_row : Stmt := top 22
abbrev s__law_logs_by : Stmt := top 23
abbrev s__law_alike : Stmt := top 24
abbrev s__law_row : Stmt := top 25
abbrev s__law_step : Stmt := top 26
abbrev s__law_handed : Stmt := top 27
abbrev sLaw : Stmt := top 28
end K1
set_option Elab.async false
set_option linter.all false
set_option maxRecDepth 100000
namespace Kp
open PySem L2
theorem tiny {n : Nat} (h : n ≤ 1000) : n ≤ sizeLine := by rw [sizeLine_eq]; omega
section
variable {X : Cx} {es l : List Expr} {te : TE} {t u : TA} {p p' pos : Pos} {j : Nat}
theorem qa_n {x : Str} (ha : PE X (.Name x p) te) (r : QA X es t) : QA X (.Name x p :: es) (tCons te t) := ⟨pa_n ha r.h⟩
theorem qa_k {f : Expr} {as : List Expr} {ks : List Keyword} (ha : PE X (.Call f as ks p) te) (r : QA X es t) : QA X (.Call f as ks p :: es) (tCons te t) := ⟨pa_k ha r.h⟩
theorem qa_s {a b : Expr} (ha : PE X (.Subscript a b p) te) (r : QA X es t) : QA X (.Subscript a b p :: es) (tCons te t) := ⟨pa_s ha r.h⟩
theorem qa_b {o : Operator} {a b : Expr} (ha : PE X (.BinOp a o b p) te) (r : QA X es t) : QA X (.BinOp a o b p :: es) (tCons te t) := ⟨pa_b ha r.h⟩
theorem qx_tup (a : QA X es t) : QE X (.Tuple es j p) (tTup t) := ⟨pe_tup a.h⟩
theorem qx_ix {a b : Expr} {ta tb : TE} {r : R2} (hx : IxR X r) (ha : QE X a ta) (hb : PE X b tb) (px : PlainIx b) : QE X (.Subscript a b pos) (tOp r ta tb) := ⟨pe_ix hx ha.h hb px⟩
end
end Kp
set_option Elab.async false
set_option linter.all false
set_option maxRecDepth 100000
set_option maxHeartbeats 4000000
namespace Kp
open PySem L2
/-! ### displays of written things, by «things of at most 16 parts» -/
theorem PA.weak {X : Cx} {es : List Expr} {t t' : TA} (h : PA X es t) (w : ∀ σ H Q, t' σ H Q → t σ H Q) : PA X es t' := fun pos pins s σ H Q I q => h pos pins s σ H Q I (w σ H Q q)
def tAnyA (n : Nat) : TA := fun _ H Q => ∀ vs H', ThL 16 H' vs → vs.length = n → Same H H' → Q vs H'
structure DA (X : Cx) (es : List Expr) (n : Nat) : Prop where
  h : PA X es (tAnyA n)
section
variable {X : Cx} {es l : List Expr} {n m : Nat} {p p' : Pos} {j : Nat}
/-- a display of tuples alone -/
def TupV (H : Hp) (v : V) : Prop := ∃ a xs, v = .ref a ∧ H a = some (.tup xs) ∧ xs.length ≤ 16 ∧ ThL 16 H xs
theorem TupV.mono {H H' : Hp} {v : V} (h : TupV H v) (s : Same H H') : TupV H' v := let ⟨a, xs, e, ha, l, t⟩ := h; ⟨a, xs, e, s _ _ ha, l, t.mono (Nat.le_refl _) s⟩
def tTupA (n : Nat) : TA := fun _ H Q => ∀ vs H', (∀ v ∈ vs, TupV H' v) → vs.length = n → Same H H' → Q vs H'
structure DT (X : Cx) (es : List Expr) (n : Nat) : Prop where
  h : PA X es (tTupA n)
end
end Kp
set_option Elab.async false
set_option linter.all false
set_option maxRecDepth 100000
namespace Kp
open PySem L2
section
variable {es l : List Expr} {te : TE} {t u : TA} {p p' pos : Pos} {j : Nat}
/- written with @ and holes for the rest: what is under them is built first, and met with the goal at the end -/
theorem pss_p {X : Cx} {st : Stmt} {rest : List Stmt} {t u : TS} (h1 : PS X st t) (h2 : PSs X rest u) : PSs X (st :: rest) (tSeq t u) := pss_cons h1 h2
theorem pss_o {X : Cx} {st : Stmt} {t : TS} (h1 : PS X st t) : PSs X [st] t := pss_one h1
end
end Kp
set_option Elab.async false
set_option linter.all false
set_option maxRecDepth 100000
set_option maxHeartbeats 4000000
namespace L2
open PySem PySem.Spec PyProof.Rows
/-! ### for k, x in enumerate(list) -/
/-! ### sorted(list of texts), list.count(text) -/
section
variable {X : Cx}
end
end L2
set_option Elab.async false
set_option linter.all false
set_option maxRecDepth 100000
set_option maxHeartbeats 4000000
namespace Kp
open PySem

/-! ### rows by the alphabet -/
/-! ### the law's -/
end Kp
set_option Elab.async false
set_option linter.all false
set_option maxRecDepth 100000
set_option maxHeartbeats 4000000
namespace Kp
open PySem L2
/-! ### a comprehension whose items are known by a property only -/
/-- tuples stay -/
def SameT (H H' : Hp) : Prop := ∀ b xs, H b = some (.tup xs) → H' b = some (.tup xs)
/-- a short text -/
def ShortS (_ : Hp) (v : V) : Prop := ∃ x : Str, v = .str x ∧ x.length ≤ 16
theorem ShortS.list {H : Hp} : ∀ {ys : List V}, (∀ v ∈ ys, ShortS H v) → ∃ ws : List Str, ys = ws.map V.str ∧ ∀ x ∈ ws, x.length ≤ 16
  | [], _ => ⟨[], rfl, fun x hx => (List.not_mem_nil hx).elim⟩
  | y :: ys, h => by
    obtain ⟨x, rfl, hx⟩ := h y List.mem_cons_self
    obtain ⟨ws, rfl, hw⟩ := ShortS.list (fun v hv => h v (List.mem_cons_of_mem _ hv))
    exact ⟨x :: ws, rfl, fun z hz => by
      rcases List.mem_cons.mp hz with rfl | hz
      · exact hx
      · exact hw z hz⟩
end Kp
set_option Elab.async false
set_option linter.all false
set_option maxRecDepth 100000
set_option maxHeartbeats 4000000
namespace L2
open PySem PySem.Spec PyProof.Rows
/-! ### lists of pairs as tables -/
section
variable {κ : Type} [DecidableEq κ]
def valV (kvs : List (κ × V)) (k : κ) : Option V := (kvs.find? fun kv => decide (kv.1 = k)).map (·.2)
/-- in its place, or at the end -/
def putK (kvs : List (κ × V)) (k : κ) (v : V) : List (κ × V) :=
  if (kvs.any fun kv => decide (kv.1 = k)) = true then kvs.map (fun kv => if kv.1 = k then (kv.1, v) else kv) else kvs ++ [(k, v)]
def dropK (kvs : List (κ × V)) (k : κ) : List (κ × V) := kvs.filter fun kv => decide (kv.1 ≠ k)

theorem valV_pos {p : κ × V} {r : List (κ × V)} {k : κ} (e : p.1 = k) : valV (p :: r) k = some p.2 := by simp [valV, List.find?_cons, e]
theorem valV_neg {p : κ × V} {r : List (κ × V)} {k : κ} (e : ¬ p.1 = k) : valV (p :: r) k = valV r k := by simp [valV, List.find?_cons, e]
theorem valV_any (k : κ) : ∀ kvs : List (κ × V), (kvs.any fun kv => decide (kv.1 = k)) = (valV kvs k).isSome
  | [] => rfl
  | p :: r => by
    rw [List.any_cons]
    by_cases e : p.1 = k
    · simp only [valV_pos e, decide_eq_true e, Bool.true_or, Option.isSome_some]
    · rw [valV_neg e, decide_eq_false e, Bool.false_or]; exact valV_any k r
theorem RelO.isSome_eq {o : Option V} {u : Option Value} (r : RelO o u) : o.isSome = u.isSome := by
  cases o with
  | none => cases u with
    | none => rfl
    | some _ => exact (show False from r).elim
  | some _ => cases u with
    | none => exact (show False from r).elim
    | some _ => rfl
theorem RelO.getD {o : Option V} {u : Option Value} {d : V} {d' : Value} (r : RelO o u) (rd : RelV d d') : RelV (o.getD d) (u.getD d') := by
  cases o with
  | none => cases u with
    | none => exact rd
    | some _ => exact (show False from r).elim
  | some _ => cases u with
    | none => exact (show False from r).elim
    | some _ => exact r

/-- raw tables of the same keys -/
theorem KV.val {kvs : List (κ × V)} {vs : List (κ × Value)} (r : KV kvs vs) (k : κ) : RelO (valV kvs k) (valueAt vs k) := by
  unfold KV at r
  induction r with
  | nil => exact True.intro
  | @cons p q ps qs h t ih =>
    obtain ⟨h1, h2⟩ := h
    by_cases e : p.1 = k
    · have e' : q.1 = k := h1.symm.trans e
      have b : valueAt (q :: qs) k = some q.2 := by simp [valueAt, List.find?_cons, e']
      rw [valV_pos e, b]; exact h2
    · have e' : ¬ q.1 = k := fun z => e (h1.trans z)
      have b : valueAt (q :: qs) k = valueAt qs k := by simp [valueAt, List.find?_cons, e']
      rw [valV_neg e, b]; exact ih
theorem KV.any {kvs : List (κ × V)} {vs : List (κ × Value)} (r : KV kvs vs) (k : κ) : (kvs.any fun kv => decide (kv.1 = k)) = vs.any fun kv => decide (kv.1 = k) := by
  unfold KV at r
  induction r with
  | nil => rfl
  | cons h t ih => rw [List.any_cons, List.any_cons, ih, h.1]
theorem KV.repl {kvs : List (κ × V)} {vs : List (κ × Value)} (r : KV kvs vs) (k : κ) {y : V} {u : Value} (ry : RelV y u) :
    KV (kvs.map fun kv => if kv.1 = k then (kv.1, y) else kv) (vs.map fun kv => if kv.1 = k then (kv.1, u) else kv) := by
  unfold KV at r ⊢
  induction r with
  | nil => exact .nil
  | @cons p q ps qs h t ih =>
    rw [List.map_cons, List.map_cons]
    refine .cons ?_ ih
    obtain ⟨h1, h2⟩ := h
    by_cases e : p.1 = k
    · rw [if_pos e, if_pos (h1.symm.trans e)]; exact ⟨h1, ry⟩
    · rw [if_neg e, if_neg (fun z => e (h1.trans z))]; exact ⟨h1, h2⟩
theorem KV.put {kvs : List (κ × V)} {vs : List (κ × Value)} (r : KV kvs vs) (k : κ) {y : V} {u : Value} (ry : RelV y u) : KV (putK kvs k y) (stored vs k u) := by
  unfold putK stored
  rw [r.any k]
  by_cases e : (vs.any fun kv => decide (kv.1 = k)) = true
  · rw [if_pos e, if_pos e]; exact r.repl k ry
  · rw [if_neg e, if_neg e]; exact Paired.snoc r ⟨rfl, ry⟩
theorem KV.drop {kvs : List (κ × V)} {vs : List (κ × Value)} (r : KV kvs vs) (k : κ) : KV (dropK kvs k) (without vs k) := by
  unfold KV at r ⊢
  unfold dropK without
  induction r with
  | nil => exact .nil
  | @cons p q ps qs h t ih =>
    obtain ⟨h1, h2⟩ := h
    rw [List.filter_cons, List.filter_cons]
    by_cases e : p.1 = k
    · have a : ¬ decide (p.1 ≠ k) = true := by simp [e]
      have b : ¬ decide (q.1 ≠ k) = true := by simp [h1.symm.trans e]
      rw [if_neg a, if_neg b]; exact ih
    · have e' : ¬ q.1 = k := fun z => e (h1.trans z)
      have a : decide (p.1 ≠ k) = true := by simp [e]
      have b : decide (q.1 ≠ k) = true := by simp [e']
      rw [if_pos a, if_pos b]; exact .cons ⟨h1, h2⟩ ih
theorem KV.keys {kvs : List (κ × V)} {vs : List (κ × Value)} (r : KV kvs vs) : kvs.map (·.1) = vs.map (·.1) := by
  unfold KV at r
  induction r with
  | nil => rfl
  | cons h t ih => rw [List.map_cons, List.map_cons, ih, h.1]
theorem KV.length {kvs : List (κ × V)} {vs : List (κ × Value)} (r : KV kvs vs) : kvs.length = vs.length := Paired.length r
end


/-! ### a tracked dict, its keys ints and texts or tuples of these -/
/-- raw entries of a dict with tuple keys -/
abbrev KT (H : Hp) : List (List Key × V) → List (List Key × Addr × Value) → Prop := Paired fun p q => p.1 = q.1 ∧ H q.2.1 = some (.tup (p.1.map kV)) ∧ RelV p.2 q.2.2
theorem KT.val {H : Hp} {kvs : List (List Key × V)} {xs : List (List Key × Addr × Value)} (r : KT H kvs xs) (k : List Key) : RelO (valV kvs k) ((atKey xs k).map (·.2)) := by
  induction r with
  | nil => exact True.intro
  | @cons p q ps qs h t ih =>
    obtain ⟨h1, _, h2⟩ := h
    by_cases e : p.1 = k
    · have e' : q.1 = k := h1.symm.trans e
      have b : atKey (q :: qs) k = some q.2 := by simp [atKey, List.find?_cons, e']
      rw [valV_pos e, b]; exact h2
    · have e' : ¬ q.1 = k := fun z => e (h1.trans z)
      have b : atKey (q :: qs) k = atKey qs k := by simp [atKey, List.find?_cons, e']
      rw [valV_neg e, b]; exact ih
theorem KT.repl {H : Hp} {kvs : List (List Key × V)} {xs : List (List Key × Addr × Value)} (r : KT H kvs xs) (k : List Key) {y : V} {u : Value} (ry : RelV y u) :
    KT H (kvs.map fun kv => if kv.1 = k then (kv.1, y) else kv) (xs.map (putAt k u)) := by
  induction r with
  | nil => exact .nil
  | @cons p q ps qs h t ih =>
    rw [List.map_cons, List.map_cons]
    refine .cons ?_ ih
    obtain ⟨h1, h2, h3⟩ := h
    unfold putAt
    by_cases e : p.1 = k
    · rw [if_pos e, if_pos (h1.symm.trans e)]; exact ⟨h1, h2, ry⟩
    · rw [if_neg e, if_neg (fun z => e (h1.trans z))]; exact ⟨h1, h2, h3⟩
theorem KT.put {H : Hp} {kvs : List (List Key × V)} {xs : List (List Key × Addr × Value)} (r : KT H kvs xs) (k : List Key) {b : Addr} {y : V} {u : Value} (hb : H b = some (.tup (k.map kV))) (ry : RelV y u) :
    KT H (putK kvs k y) (storedH xs k b u) := by
  have e : (kvs.any fun kv => decide (kv.1 = k)) = (atKey xs k).isSome := by
    rw [valV_any, (r.val k).isSome_eq, Option.isSome_map]
  unfold putK storedH
  rw [e]
  by_cases q : (atKey xs k).isSome = true
  · rw [if_pos q, if_pos q]; exact r.repl k ry
  · rw [if_neg q, if_neg q]; exact Paired.snoc r ⟨rfl, hb, ry⟩
theorem KT.keeps {H H' : Hp} {kvs : List (List Key × V)} {xs : List (List Key × Addr × Value)} (r : KT H kvs xs) (ht : ∀ b ys, H b = some (.tup ys) → H' b = some (.tup ys)) : KT H' kvs xs :=
  Paired.mapP r fun _ _ z => ⟨z.1, ht _ _ z.2.1, z.2.2⟩

section
variable {P : Program} {w : World} {H : Hp} {h : Heap} {a : Addr}
end

/-- what the dict at a holds at the key y -/
def DGet (H : Hp) (a : Addr) (y : V) (r : Option V) : Prop :=
  (∃ kvs k, Rd H a (.dK kvs) ∧ y = kV k ∧ r = valV kvs k) ∨ ∃ kvs k b, Rd H a (.dT kvs) ∧ y = .ref b ∧ H b = some (.tup (k.map kV)) ∧ r = valV kvs k
/-- the heap behind a[y] = v -/
def DPut (H : Hp) (a : Addr) (y v : V) (H' : Hp) : Prop :=
  (∃ kvs k, H a = some (.dK kvs) ∧ y = kV k ∧ kvs.length < sizeLine ∧ H' = upd H a (.dK (putK kvs k v))) ∨
  ∃ kvs k b, H a = some (.dT kvs) ∧ y = .ref b ∧ H b = some (.tup (k.map kV)) ∧ kvs.length < sizeLine ∧ H' = upd H a (.dT (putK kvs k v))
theorem DGet.k {H : Hp} {a : Addr} {kvs : List (Key × V)} {k : Key} (e : H a = some (.dK kvs)) : DGet H a (kV k) (valV kvs k) := .inl ⟨kvs, k, .inl e, rfl, rfl⟩
theorem DGet.t {H : Hp} {a b : Addr} {kvs : List (List Key × V)} {k : List Key} (e : H a = some (.dT kvs)) (eb : H b = some (.tup (k.map kV))) : DGet H a (.ref b) (valV kvs k) := .inr ⟨kvs, k, b, .inl e, rfl, eb, rfl⟩
theorem DPut.k {H : Hp} {a : Addr} {kvs : List (Key × V)} {k : Key} {v : V} (e : H a = some (.dK kvs)) (hl : kvs.length < sizeLine) : DPut H a (kV k) v (upd H a (.dK (putK kvs k v))) := .inl ⟨kvs, k, e, rfl, hl, rfl⟩
theorem DPut.t {H : Hp} {a b : Addr} {kvs : List (List Key × V)} {k : List Key} {v : V} (e : H a = some (.dT kvs)) (eb : H b = some (.tup (k.map kV))) (hl : kvs.length < sizeLine) :
    DPut H a (.ref b) v (upd H a (.dT (putK kvs k v))) := .inr ⟨kvs, k, b, e, rfl, eb, hl, rfl⟩


section
variable {X : Cx} {pins : List (Addr × Obj)} {σ : St} {H : Hp} {s : Shared} {a : Addr} {y v : V} {u r : Value} {o : Option V} {A : Around} {E : Value → Shared → Prop}

end

section
variable {X : Cx} {pins : List (Addr × Obj)} {σ : St} {H : Hp} {s : Shared} {a : Addr} {kvs : List (Key × V)} {k : Key} {u : Value} {A : Around} {E : Value → Shared → Prop}
end


/-! ### readings and rules -/
section
variable {X : Cx} {o i e value : Expr} {pos pos' tpos : Pos} {td ty tv : TE}
end


/-! ### displays -/
section
variable {X : Cx} {pos : Pos}
end

end L2
set_option Elab.async false
set_option linter.all false
set_option maxRecDepth 100000
set_option maxHeartbeats 4000000
namespace Kp
open PySem L2 PySem.Spec PyProof.Rows
end Kp
set_option Elab.async false
set_option linter.all false
set_option maxRecDepth 100000
set_option maxHeartbeats 4000000
namespace Kp
open PySem L2
/-! ### things without lists: they stay while tuples stay -/
mutual
inductive ThN (B : Nat) (H : Hp) : V → Prop
  | non : ThN B H .non
  | bl (b : Bool) : ThN B H (.bl b)
  | int (i : Int) : ThN B H (.int i)
  | str (x : Str) (h : x.length ≤ B) : ThN B H (.str x)
  | tup {a : Addr} {vs : List V} (e : H a = some (.tup vs)) (l : vs.length ≤ B) (r : ThNL B H vs) : ThN B H (.ref a)
inductive ThNL (B : Nat) (H : Hp) : List V → Prop
  | nil : ThNL B H []
  | cons {v : V} {vs : List V} (h : ThN B H v) (t : ThNL B H vs) : ThNL B H (v :: vs)
end
mutual
theorem ThN.sameT {B B' : Nat} {H H' : Hp} (hB : B ≤ B') (s : SameT H H') : ∀ {v}, ThN B H v → ThN B' H' v
  | _, .non => .non
  | _, .bl b => .bl b
  | _, .int i => .int i
  | _, .str x h => .str x (Nat.le_trans h hB)
  | _, .tup e l r => .tup (s _ _ e) (Nat.le_trans l hB) (ThNL.sameT hB s r)
theorem ThNL.sameT {B B' : Nat} {H H' : Hp} (hB : B ≤ B') (s : SameT H H') : ∀ {vs}, ThNL B H vs → ThNL B' H' vs
  | _, .nil => .nil
  | _, .cons h t => .cons (ThN.sameT hB s h) (ThNL.sameT hB s t)
end
mutual
theorem ThN.th {B : Nat} {H : Hp} : ∀ {v}, ThN B H v → Th B H v
  | _, .non => Th.non
  | _, .bl b => Th.bl b
  | _, .int i => Th.int i
  | _, .str x h => Th.str x h
  | _, .tup e l r => Th.tup e l (ThNL.th r)
theorem ThNL.th {B : Nat} {H : Hp} : ∀ {vs}, ThNL B H vs → ThL B H vs
  | _, .nil => ThL.nil
  | _, .cons h t => ThL.cons (ThN.th h) (ThNL.th t)
end
theorem sameT_of {H H' : Hp} (s : Same H H') : SameT H H' := fun b xs e => s _ _ e
theorem ThN.mono {B B' : Nat} {H H' : Hp} {v : V} (h : ThN B H v) (hB : B ≤ B') (s : Same H H') : ThN B' H' v := ThN.sameT hB (sameT_of s) h
theorem ThNL.mono {B B' : Nat} {H H' : Hp} {v : List V} (h : ThNL B H v) (hB : B ≤ B') (s : Same H H') : ThNL B' H' v := ThNL.sameT hB (sameT_of s) h
theorem ThNL.ints {B : Nat} {H : Hp} : ∀ (ns : List Int), ThNL B H (ns.map V.int)
  | [] => .nil
  | n :: r => .cons (.int n) (ThNL.ints r)
theorem ThNL.of {B : Nat} {H : Hp} : ∀ {vs : List V}, (∀ v ∈ vs, ThN B H v) → ThNL B H vs
  | [], _ => .nil
  | v :: vs, h => .cons (h v List.mem_cons_self) (ThNL.of fun u hu => h u (List.mem_cons_of_mem _ hu))
end Kp
set_option Elab.async false
set_option linter.all false
set_option maxRecDepth 100000
set_option maxHeartbeats 4000000
namespace HT
open PySem PySem.Spec PyProof.Rows L2
section
variable {prog : Program} {w : World} {A : Around} {E : Value → Shared → Prop} {s : Shared}
theorem getItem_tuple_whole {t sl : Addr} {items : Array Value} {vl vu : Value} {lo hi : Option Int} {Q : Value → Shared → Prop} (ht : IsTup s.heap t items) (hs : s.heap.IsSliceOf sl vl vu .none) (pl : IsPart vl lo) (pu : IsPart vu hi)
    (hw : sIx items.size 0 lo = 0 ∧ sIx items.size items.size hi = items.size) (h : Q (.ref t) s) : wpAny (model prog w) A (getItem (.ref t) (.ref sl)) Q E s := by
  obtain ⟨os, hos, hcs, hds⟩ := id hs
  have hTs : s.TypeIs (.ref sl) "slice" := ⟨os, hos, hcs⟩
  unfold getItem
  try with_reducible refine wpAny_holding ?_
  first | refine wpAny_bind (wpAny_pure ?_) | skip
  refine wpAny_bind (wpAny_sequenceKey ht.typeIs (by decide) ?_)
  refine wpAny_bind (wpAny_callSpecial?_slot (name := Str.ofString "__getitem__") ht.typeIs PyProof.Rows.slot_tuple_getitem
    (wpAny_call_entry PyProof.Rows.slot_tuple_getitem ht.typeIs entry_tuple_getitem ?_ (args_tuple_getitem _ _)))
  show wpAny _ _ (Builtin.Tuple.tupleItemsOf (.ref t) >>= _) _ _ s
  refine wpAny_bind (tupleItemsOf_ ht ?_)
  refine wpAny_bind (wpAny_typeOf hTs ?_)
  rw [if_pos (by decide)]
  refine wpAny_bind (sliceApplied_gen hs pl pu ?_)
  have hyes : (((sIx items.size 0 lo : Nat) : Int) == 0 && (1 : Int) == 1 && (sIx items.size items.size hi - sIx items.size 0 lo) == items.size) = true := by
    rw [hw.1, hw.2]; simp
  show wpAny _ _ (if (((sIx items.size 0 lo : Nat) : Int) == 0 && (1 : Int) == 1 && (sIx items.size items.size hi - sIx items.size 0 lo) == items.size) = true then _ else _) _ _ s
  rw [if_pos hyes]
  refine wpAny_bind (m := Builtin.Tuple.tupleIsExact _) (wpAny_bind (wpAny_typeOf ht.typeIs (wpAny_pure ?_)))
  rw [if_pos (by decide)]
  refine wpAny_bind (wpAny_rule ?_)
  first
    | exact wpAny_bind (wpAny_pure (wpAny_pure ⟨_, rfl, wpAny_pure h⟩))
    | exact wpAny_pure ⟨_, rfl, wpAny_pure h⟩
    | exact wpAny_bind (wpAny_pure ⟨_, rfl, wpAny_pure h⟩)
end
end HT
namespace L2
open PySem PySem.Spec PyProof.Rows L2
theorem cutV_whole {xs : List V} {lo hi : Option Int} (h1 : HT.sIx xs.length 0 lo = 0) (h2 : HT.sIx xs.length xs.length hi = xs.length) : cutV xs lo hi = xs := by
  unfold cutV; rw [h1, h2]; simp
end L2
set_option Elab.async false
set_option linter.all false
set_option maxRecDepth 100000
set_option maxHeartbeats 4000000
namespace Kp
open PySem L2 PySem.Spec PyProof.Rows
/-! ### the same thing twice: == -/
theorem all_true (n : Nat) : ((List.range n).all fun _ => true) = true := by simp
theorem Vals.at {xs : List V} {us : List Value} (r : Vals xs us) {j : Nat} (h : j < us.toArray.size) : ∃ x, xs[j]? = some x ∧ RelV x us.toArray[j] := by
  have h' : j < us.length := by simpa using h
  have hx : j < xs.length := by rw [r.length]; exact h'
  obtain ⟨u, e, rv⟩ := r.get (i := j) (x := xs[j]) (by simp [hx])
  have e2 : us.toArray[j] = u := by
    have := (List.getElem?_eq_some_iff.mp e).2
    simpa using this
  exact ⟨xs[j], by simp [hx], e2 ▸ rv⟩
end Kp
set_option Elab.async false
set_option linter.all false
set_option maxRecDepth 100000
set_option maxHeartbeats 4000000
namespace K1
open PySem L2 Kp
structure Txt (mg : Str → Option Value) : Prop where
  isi : mg "isinstance" = none
  int : mg "int" = none
  bool : mg "bool" = none
  str : mg "str" = none
  tuple : mg "tuple" = none
  list : mg "list" = none
  all : mg "all" = none
  zip : mg "zip" = none
  len : mg "len" = none
  range : mg "range" = none
  max : mg "max" = none
  min : mg "min" = none
  sorted : mg "sorted" = none
  any : mg "any" = none
  sum : mg "sum" = none
section
variable {P : Program} {w : World} {K : PySem.W.Frag} {mg : Str → Option Value} {base : Heap}
theorem SqT.same {H H' : Hp} {a : Addr} {xs : List V} (h : SqT K H a xs) (s : Same H H') : SqT K H' a xs := by
  rcases h with h | h
  · exact .inl (h.elim (fun e => .inl (s _ _ e)) fun ⟨o, e⟩ => .inr ⟨o, s _ _ e⟩)
  · exact .inr h
theorem SqL.same {H H' : Hp} {a : Addr} {xs : List V} (h : SqL K H a xs) (s : Same H H') : SqL K H' a xs := by
  rcases h with h | h
  · exact .inl (h.elim (fun e => .inl (s _ _ e)) fun ⟨o, e⟩ => .inr ⟨o, s _ _ e⟩)
  · exact .inr h
def spCell (K : PySem.W.Frag) : Sp := fun vs H Q _ => ∃ (a : Addr) (ns : List Int) (k : Int), vs = [.ref a, .int k] ∧ SqL K H a (ns.map V.int) ∧ 0 ≤ k ∧ ∀ z, Q (.int z) H
theorem scC : FnScope ["_law_script", "_law_k"] ["_law_script", "_law_k"] (defScope sCell) := ⟨rfl, rfl, rfl, by decide +kernel, rfl, by decide +kernel, by decide +kernel⟩
theorem ok_cell {f : Addr} {fd : FuncData} (F : Fun K "_law_cell_at" "_law_cell_at" sCell f fd) (T : Txt mg) : FnOk P w K mg base CX0 1 f fd ["_law_script", "_law_k"] (spCell K) := by
  refine F.ok scC (fun vs H Q E ⟨_, _, _, e, _⟩ => by subst e; rfl) (fun cdv A outer s H vs Q E hr h => ?_)
  obtain ⟨a, ns, k, rfl, hS, h0, q⟩ := h
  refine ⟨_, pss_cons (ps_if (pt_cmpR op_lt (pv 1) (pe_callB call_len_seq rfl T.len PySem.boot_len (pa_cons (pv 0) pa_nil)) (nomark _)) (pss_one (ps_ret (pe_ix ix_list (pv 0) (pv 1) (fun _ _ => rfl)))) pss_nil) (pss_one (ps_ret pe_int)), ?_⟩
  refine ⟨_, rfl, _, rfl, a, _, rfl, .inl hS, k, _, rfl, rfl, _, rfl, ite2 (fun hlt => ?_) (fun _ => q 0)⟩
  have hlt' : k < ((ns.map V.int).length : Int) := of_decide_eq_true hlt
  obtain ⟨j, rfl⟩ := Int.eq_ofNat_of_zero_le h0
  have hj : j < ns.length := by rw [List.length_map] at hlt'; omega
  exact ⟨_, rfl, _, rfl, a, _, _, .int ns[j], rfl, rfl, hS, atI_nat (by simp [hj]), q _⟩

theorem emod_in (x : Int) {m : Int} (h : 0 < m) : 0 ≤ x % m ∧ x % m < m := ⟨Int.emod_nonneg _ (Int.ne_of_gt h), Int.emod_lt_of_pos _ h⟩
theorem same_put {H H' : Hp} {l : Addr} {o : HO} (hl : H l = none) (s : Same H H') : Same H (upd H' l o) := fun b u e => by rw [upd_ne (ne_of_none e hl)]; exact s _ _ e
end
end K1
set_option Elab.async false
set_option linter.all false
set_option maxRecDepth 100000
set_option maxHeartbeats 4000000
namespace L2
open PySem PySem.Spec PyProof.Rows
/-! ### rows of ints -/
def isInt (z : Int) : Value → Bool
  | .int i _ => i == z
  | _ => false
end L2
set_option Elab.async false
set_option linter.all false
set_option maxRecDepth 100000
set_option maxHeartbeats 4000000
namespace L2
open PySem PySem.Spec PyProof.Rows
/-! ### a tuple whose methods may be called: it has no dict of its own -/
def TupF (H : Hp) (a : Addr) (ys : List V) : Prop := ∃ o : Obj, H a = some (.frz o (.tup ys)) ∧ o.cls = .type "tuple" ∧ o.dict = none
theorem TupF.sq {K : PySem.W.Frag} {H : Hp} {a : Addr} {ys : List V} (h : TupF H a ys) : SqT K H a ys := by
  obtain ⟨o, e, _⟩ := h
  exact .inl (.inr ⟨o, e⟩)
section
variable {X : Cx}
variable {o e : Expr} {es : List Expr} {to : TE} {t : TA} {name : Str} {apos cpos : Pos} {id : String} {r : V → List V → Hp → VK → Prop}
end
end L2
set_option Elab.async false
set_option linter.all false
set_option maxRecDepth 100000
set_option maxHeartbeats 4000000
namespace L2
open PySem PySem.Spec PyProof.Rows
/-! ### rows of ints: remove, sorted -/
section
variable {X : Cx}
end
end L2
namespace K1
open PySem L2 Kp
theorem PS.weakU {X : Cx} {st : Stmt} {t t' : TS} (h : PS X st t) (w : ∀ D σ H, t' D σ H → t D σ H) : PS X st t' := fun pins s σ H D I q => h pins s σ H D I (w D σ H q)
theorem boot_max : bootBuiltins "max" = some (.builtin "max") := by decide +kernel
end K1
set_option Elab.async false
set_option linter.all false
set_option maxRecDepth 100000
set_option maxHeartbeats 4000000
namespace L2
open PySem PySem.Spec PyProof.Rows
/-! ### two tuples of flat things compared -/
section
variable {X : Cx}
end
end L2
namespace K1
open PySem L2 Kp
theorem SqT.same' {K : PySem.W.Frag} {H H' : Hp} {a : Addr} {xs : List V} (h : SqT K H a xs) (s : Same H H') : SqT K H' a xs := by
  rcases h with h | h
  · exact .inl (h.elim (fun e => .inl (s _ _ e)) fun ⟨o, e⟩ => .inr ⟨o, s _ _ e⟩)
  · exact .inr h
theorem SqL.same' {K : PySem.W.Frag} {H H' : Hp} {a : Addr} {xs : List V} (h : SqL K H a xs) (s : Same H H') : SqL K H' a xs := by
  rcases h with h | h
  · exact .inl (h.elim (fun e => .inl (s _ _ e)) fun ⟨o, e⟩ => .inr ⟨o, s _ _ e⟩)
  · exact .inr h
end K1
set_option Elab.async false
set_option linter.all false
set_option maxRecDepth 100000
set_option maxHeartbeats 4000000
namespace L2
open PySem PySem.Spec PyProof.Rows
/-! ### t + u of two tuples, however they are known -/
/-- a slice of a tuple that is tracked -/
def rSlV : V → Option Int → Option Int → Hp → VK → Prop := fun x lo hi H Q => ∃ a xs, x = .ref a ∧ H a = some (.tup xs) ∧ ∀ p H', H' p = some (.tup (cutV xs lo hi)) → Same H H' → Q (.ref p) H'
theorem sl_tupV {X : Cx} : SlR X rSlV := by
  intro pins s σ H x v vl vu lo hi sl Q I rx hs pl pu h
  obtain ⟨a, xs, rfl, hx, q⟩ := h
  by_cases hw : HT.sIx xs.length 0 lo = 0 ∧ HT.sIx xs.length xs.length hi = xs.length
  · cases rx
    obtain ⟨its, r, ht, hz⟩ := I.tuple (SqT.of hx)
    have hlen : its.toArray.size = xs.length := by rw [List.size_toArray]; exact r.length.symm
    refine ⟨"tuple", _, PyProof.Rows.slot_tuple_getitem.lookup, ht.typeIs, ?_⟩
    refine HT.getItem_tuple_whole ht hs pl pu (by rw [hlen]; exact hw) ⟨.ref a, H, I, rfl, q a H (by rw [cutV_whole hw.1 hw.2]; exact hx) (Same.refl _)⟩
  · exact sl_tup pins s σ H _ _ vl vu lo hi sl Q I rx hs pl pu ⟨a, xs, rfl, SqT.of hx, hw, fun p hp => q p _ upd_same (Kp.same_upd hp)⟩
end L2
namespace K1
open PySem L2 Kp
theorem drop_min {α : Type} (xs : List α) (k : Nat) : xs.drop (min k xs.length) = xs.drop k := by
  by_cases h : k ≤ xs.length
  · rw [Nat.min_eq_left h]
  · rw [Nat.min_eq_right (by omega), List.drop_length, List.drop_eq_nil_of_le (by omega)]
theorem take_min {α : Type} (xs : List α) (k : Nat) : xs.take (min k xs.length) = xs.take k := by
  by_cases h : k ≤ xs.length
  · rw [Nat.min_eq_left h]
  · rw [Nat.min_eq_right (by omega), List.take_length, List.take_of_length_le (by omega)]
theorem cut_toN (xs : List V) (k : Nat) : cutV xs none (some (k : Int)) = xs.take k := by
  unfold cutV; rw [HT.sIx_nat, HT.sIx_none, List.drop_zero, Nat.sub_zero, take_min]
theorem cut_fromN (xs : List V) (k : Nat) : cutV xs (some (k : Int)) none = xs.drop k := by
  unfold cutV; rw [HT.sIx_nat, HT.sIx_none, drop_min]
  exact List.take_of_length_le (by rw [List.length_drop]; omega)
theorem cut_bothN (xs : List V) (i j : Nat) : cutV xs (some (i : Int)) (some (j : Int)) = (xs.drop i).take (j - i) := by
  unfold cutV; rw [HT.sIx_nat, HT.sIx_nat, drop_min]
  by_cases h : j ≤ xs.length
  · rw [Nat.min_eq_left h]
    by_cases h2 : i ≤ xs.length
    · rw [Nat.min_eq_left h2]
    · rw [Nat.min_eq_right (by omega), List.drop_eq_nil_of_le (by omega)]; simp
  · rw [Nat.min_eq_right (by omega)]
    by_cases h2 : i ≤ xs.length
    · rw [Nat.min_eq_left h2, List.take_of_length_le (by rw [List.length_drop]; omega), List.take_of_length_le (by rw [List.length_drop]; omega)]
    · rw [Nat.min_eq_right (by omega), List.drop_eq_nil_of_le (by omega)]; simp
/-! ### rows: a base, a last term, entries with their terms -/
inductive Ents (H : Hp) : List V → List Int → Prop
  | nil : Ents H [] []
  | cons {p : Addr} {x : V} {t : Int} {vs : List V} {ts : List Int} : H p = some (.tup [.int t, x]) → ThN 16 H x → Ents H vs ts → Ents H (.ref p :: vs) (t :: ts)
theorem Ents.same {H H' : Hp} (s : Same H H') : ∀ {vs ts}, Ents H vs ts → Ents H' vs ts
  | _, _, .nil => .nil
  | _, _, .cons e t r => .cons (s _ _ e) (t.mono (Nat.le_refl _) s) (Ents.same s r)
theorem Ents.length {H : Hp} : ∀ {vs ts}, Ents H vs ts → vs.length = ts.length
  | _, _, .nil => rfl
  | _, _, .cons _ _ r => by rw [List.length_cons, List.length_cons, Ents.length r]
theorem Ents.append {H : Hp} : ∀ {vs ts us rs}, Ents H vs ts → Ents H us rs → Ents H (vs ++ us) (ts ++ rs)
  | _, _, _, _, .nil, r => r
  | _, _, _, _, .cons e t r, q => .cons e t (Ents.append r q)
theorem Ents.get {H : Hp} : ∀ {vs : List V} {ts : List Int} {i : Nat} (h : i < ts.length), Ents H vs ts → ∃ p x, vs[i]? = some (.ref p) ∧ H p = some (.tup [.int ts[i], x]) ∧ ThN 16 H x
  | _, _, _, h, .nil => absurd h (Nat.not_lt_zero _)
  | _, _, 0, _, .cons e t _ => ⟨_, _, rfl, e, t⟩
  | _, _, i + 1, h, .cons _ _ r => Ents.get (i := i) (by simpa using h) r
theorem Ents.take {H : Hp} : ∀ {vs : List V} {ts : List Int} (n : Nat), Ents H vs ts → Ents H (vs.take n) (ts.take n)
  | _, _, 0, _ => by rw [List.take_zero, List.take_zero]; exact .nil
  | _, _, _ + 1, .nil => .nil
  | _, _, n + 1, .cons e t r => .cons e t (Ents.take n r)
theorem Ents.drop {H : Hp} : ∀ {vs : List V} {ts : List Int} (n : Nat), Ents H vs ts → Ents H (vs.drop n) (ts.drop n)
  | _, _, 0, r => r
  | _, _, _ + 1, .nil => .nil
  | _, _, n + 1, .cons _ _ r => Ents.drop n r
structure RowX (K : PySem.W.Frag) (H : Hp) (v : V) (b l : Int) (es : List V) (ts : List Int) : Prop where
  ex : ∃ rb c, v = .ref rb ∧ H rb = some (.tup [.int b, .int l, .ref c]) ∧ H c = some (.tup es)
  ents : Ents H es ts
  few : ts.length ≤ 900
theorem RowX.same {K : PySem.W.Frag} {H H' : Hp} {v : V} {b l : Int} {es : List V} {ts : List Int} (r : RowX K H v b l es ts) (s : Same H H') : RowX K H' v b l es ts :=
  let ⟨rb, c, e, h1, h2⟩ := r.ex
  ⟨⟨rb, c, e, s _ _ h1, s _ _ h2⟩, r.ents.same s, r.few⟩
def RowV (K : PySem.W.Frag) (H : Hp) (v : V) (b l : Int) (ts : List Int) : Prop := ∃ es, RowX K H v b l es ts
theorem RowV.same {K : PySem.W.Frag} {H H' : Hp} {v : V} {b l : Int} {ts : List Int} (r : RowV K H v b l ts) (s : Same H H') : RowV K H' v b l ts :=
  let ⟨es, x⟩ := r
  ⟨es, x.same s⟩
theorem ndec {p : Prop} [Decidable p] (h : ¬ decide p = true) : ¬ p := fun g => h (decide_eq_true g)
theorem getD_at {ts : List Int} {i : Nat} (h : i < ts.length) : ts.getD i 0 = ts[i] := by simp [h]
/-- the term at the end -/
def endT (l : Int) (ts : List Int) : Int := ts.getLastD l
def endP (b : Int) (ts : List Int) : Int := b + (ts.length : Int)
def asNewB (t p b l : Int) (ts : List Int) : Bool := decide (endT l ts < t) || (decide (t = endT l ts) && decide (endP b ts ≤ p))
def spNewest (K : PySem.W.Frag) : Sp := fun vs H Q _ => ∃ (v : V) (b l : Int) (ts : List Int), vs = [v] ∧ RowV K H v b l ts ∧ ∀ (p : Addr) (H' : Hp), H' p = some (.tup [.int (endT l ts), .int (endP b ts)]) → Same H H' → Q (.ref p) H'
def spAsNew (K : PySem.W.Frag) : Sp := fun vs H Q _ => ∃ (v : V) (t p b l : Int) (ts : List Int), vs = [.int t, .int p, v] ∧ RowV K H v b l ts ∧ ∀ H', Same H H' → Q (.bl (asNewB t p b l ts)) H'
/-- the term at a place from base to the end -/
def termAt (b l : Int) (ts : List Int) (p : Int) : Int := if p = b then l else ts.getD (p - b - 1).toNat 0
def agreesB (b l : Int) (ts : List Int) (p t : Int) : Bool := decide (p < b) || (decide (p ≤ endP b ts) && decide (termAt b l ts p = t))
theorem termAt_end (b l : Int) (ts : List Int) : termAt b l ts (endP b ts) = endT l ts := by
  unfold termAt endP endT
  rcases List.eq_nil_or_concat ts with rfl | ⟨r, x, rfl⟩
  · simp
  · have hl : (r.concat x).length = r.length + 1 := by simp
    have e : (b + ((r.concat x).length : Int) - b - 1).toNat = r.length := by rw [hl]; omega
    rw [if_neg (by rw [hl]; omega), e]
    simp
def spEndOf (K : PySem.W.Frag) : Sp := fun vs H Q _ => ∃ (v : V) (b l : Int) (ts : List Int), vs = [v] ∧ RowV K H v b l ts ∧ Q (.int (endP b ts)) H
def spEntIn (K : PySem.W.Frag) : Sp := fun vs H Q _ => ∃ (v : V) (b l : Int) (es : List V) (ts : List Int) (p : Int), vs = [v, .int p] ∧ RowX K H v b l es ts ∧ b < p ∧ p ≤ endP b ts ∧ ∀ e, es[(p - b - 1).toNat]? = some e → Q e H
def spTermIn (K : PySem.W.Frag) : Sp := fun vs H Q _ => ∃ (v : V) (b l : Int) (ts : List Int) (p : Int), vs = [v, .int p] ∧ RowV K H v b l ts ∧ b ≤ p ∧ p ≤ endP b ts ∧ Q (.int (termAt b l ts p)) H
def spAgrees (K : PySem.W.Frag) : Sp := fun vs H Q _ => ∃ (v : V) (t p b l : Int) (ts : List Int), vs = [v, .int p, .int t] ∧ RowV K H v b l ts ∧ Q (.bl (agreesB b l ts p t)) H
end K1
set_option Elab.async false
set_option linter.all false
set_option maxRecDepth 100000
set_option maxHeartbeats 4000000
namespace K1
open PySem L2 Kp
section
variable {P : Program} {w : World} {K : PySem.W.Frag} {mg : Str → Option Value} {base : Heap}
theorem scEo : FnScope ["row"] ["row"] (defScope s_end_of) := ⟨rfl, rfl, rfl, by decide +kernel, rfl, by decide +kernel, by decide +kernel⟩
theorem ok_end_of {f : Addr} {fd : FuncData} (F : Fun K "end_of" "end_of" s_end_of f fd) (T : Txt mg) : FnOk P w K mg base CX0 1 f fd ["row"] (spEndOf K) := by
  refine F.ok scEo (fun vs H Q E ⟨_, _, _, _, e, _⟩ => by subst e; rfl) (fun cdv A outer s H vs Q E hr h => ?_)
  obtain ⟨v, b, l, ts, rfl, ⟨es, ⟨rb, c, rfl, hb, hc⟩, hen, hfew⟩, q⟩ := h
  replace hb := SqT.of (K := K) hb
  replace hc := SqT.of (K := K) hc
  refine ⟨_, @pss_o _ _ _ (ps_ret (pe_op op_add (pe_ix ix_tup (pv 0) (pe_int) px_i) (pe_callB call_len_seq (by rfl) T.len PySem.boot_len (pa_s (pe_ix ix_tup (pv 0) (pe_int) px_i) pa_nil)))), ?_⟩
  have hlen := hen.length
  refine ⟨_, rfl, rb, _, _, .int b, rfl, rfl, hb, atI_nat (j := 0) rfl, _, rfl, rb, _, _, .ref c, rfl, rfl, hb, atI_nat (j := 2) rfl, c, es, rfl, .inr hc, _, _, rfl, rfl, ?_⟩
  have e : b + (es.length : Int) = endP b ts := by unfold endP; rw [hlen]
  show Q (.int (b + (es.length : Int))) H
  rw [e]; exact q
end
end K1
set_option Elab.async false
set_option linter.all false
set_option maxRecDepth 100000
set_option maxHeartbeats 4000000
namespace K1
open PySem L2 Kp
section
variable {P : Program} {w : World} {K : PySem.W.Frag} {mg : Str → Option Value} {base : Heap}
theorem scEa : FnScope ["row", "place", "base"] ["row", "place"] (defScope s_entry_at) := ⟨rfl, rfl, rfl, by decide +kernel, rfl, by decide +kernel, by decide +kernel⟩
theorem ok_entry_at {f : Addr} {fd : FuncData} (F : Fun K "entry_at" "entry_at" s_entry_at f fd) (CE : Cal P w K mg base "end_of" 1 ["row"] (spEndOf K)) : FnOk P w K mg base CX0 2 f fd ["row", "place"] (spEntIn K) := by
  refine F.ok scEa (fun vs H Q E ⟨_, _, _, _, _, _, e, _⟩ => by subst e; rfl) (fun cdv A outer s H vs Q E hr h => ?_)
  obtain ⟨v, b, l, es, ts, p, rfl, hX, hlt, hle, q⟩ := h
  have hX' := hX
  obtain ⟨⟨rb, c, rfl, hb, hc⟩, hen, hfew⟩ := hX'
  replace hb := SqT.of (K := K) hb
  replace hc := SqT.of (K := K) hc
  obtain ⟨gE, dE, GE, mE, kE, bE⟩ := CE.ex
  refine ⟨_, @pss_p _ _ _ _ _ (ps_set (i := 2) scEa.nd (by rfl) (by exact Or.inl rfl) (pe_ix ix_tup (pv 0) (pe_int) px_i))
    (@pss_p _ _ _ _ _ (ps_if (PW.pt (pw_or (pt_cmpR op_le (pv 1) (pv 2) (nomark _)) (pw_or1 (pt_cmpR op_gt (pv 1) (pe_call GE hr (by rfl) mE kE bE .nil pass0 (pa_n (pv 0) pa_nil)) (nomark _))))) (@pss_o _ _ _ ps_never) pss_nil)
    (@pss_o _ _ _ (ps_ret (pe_ix ix_tup (pe_ix ix_tup (pv 0) (pe_int) px_i) (pe_op op_sub (pe_op op_sub (pv 1) (pv 2)) (pe_int)) px_b)))), ?_⟩
  have hlen := hen.length
  have hle' := hle
  unfold endP at hle'
  obtain ⟨j, ej⟩ := Int.eq_ofNat_of_zero_le (show 0 ≤ p - b - 1 by omega)
  have hj : j < es.length := by omega
  refine ⟨_, rfl, rb, _, _, .int b, rfl, rfl, hb, atI_nat (j := 0) rfl, ?_⟩
  refine ⟨_, rfl, _, rfl, _, _, rfl, rfl, _, rfl, ite2 (fun h => absurd (of_decide_eq_true h) (by omega)) (fun _ => ?_)⟩
  refine ⟨_, rfl, _, rfl, _, b, l, ts, rfl, ⟨es, hX⟩, _, _, rfl, rfl, _, rfl, ite2 (fun h => absurd (of_decide_eq_true h) (by omega)) (fun _ => ?_)⟩
  refine ⟨_, rfl, rb, _, _, .ref c, rfl, rfl, hb, atI_nat (j := 2) rfl, _, rfl, _, rfl, _, _, rfl, rfl, _, _, rfl, rfl, c, es, _, es[j], rfl, rfl, hc, ?_, q es[j] ?_⟩
  · show atI es (p - b - 1) = _
    rw [ej]; exact atI_nat (by simp [hj])
  · rw [ej]; simp [hj]
theorem scTa : FnScope ["row", "place", "base"] ["row", "place"] (defScope s_term_at) := ⟨rfl, rfl, rfl, by decide +kernel, rfl, by decide +kernel, by decide +kernel⟩
theorem ok_term_at {f : Addr} {fd : FuncData} (F : Fun K "term_at" "term_at" s_term_at f fd) (CA : Cal P w K mg base "entry_at" 2 ["row", "place"] (spEntIn K)) : FnOk P w K mg base CX0 3 f fd ["row", "place"] (spTermIn K) := by
  refine F.ok scTa (fun vs H Q E ⟨_, _, _, _, _, e, _⟩ => by subst e; rfl) (fun cdv A outer s H vs Q E hr h => ?_)
  obtain ⟨v, b, l, ts, p, rfl, ⟨es, hX⟩, hlt, hle, q⟩ := h
  have hX' := hX
  obtain ⟨⟨rb, c, rfl, hb, hc⟩, hen, hfew⟩ := hX'
  replace hb := SqT.of (K := K) hb
  replace hc := SqT.of (K := K) hc
  obtain ⟨gA, dA, GA, mA, kA, bA⟩ := CA.ex
  refine ⟨_, @pss_p _ _ _ _ _ (ps_set (i := 2) scTa.nd (by rfl) (by exact Or.inl rfl) (pe_ix ix_tup (pv 0) (pe_int) px_i))
    (@pss_p _ _ _ _ _ (ps_if (pt_cmpR op_eq (pv 1) (pv 2) (nomark _)) (@pss_o _ _ _ (ps_ret (pe_ix ix_tup (pv 0) (pe_int) px_i))) pss_nil)
    (@pss_o _ _ _ (ps_ret (pe_ix ix_tup (pe_call GA hr (by rfl) mA kA bA .nil pass0 (pa_n (pv 0) (pa_n (pv 1) pa_nil))) (pe_int) px_i)))), ?_⟩
  unfold termAt at q
  refine ⟨_, rfl, rb, _, _, .int b, rfl, rfl, hb, atI_nat (j := 0) rfl, ?_⟩
  refine ⟨_, rfl, _, rfl, rfl, _, rfl, ite2 (fun h => ?_) (fun h => ?_)⟩
  · have e : p = b := by have := of_decide_eq_true h; simpa using this
    rw [if_pos e] at q
    exact ⟨_, rfl, rb, _, _, .int l, rfl, rfl, hb, atI_nat (j := 1) rfl, q⟩
  · have e : ¬ p = b := fun e => h (by rw [e]; exact decide_eq_true rfl)
    rw [if_neg e] at q
    have hle' := hle
    unfold endP at hle'
    have hj : (p - b - 1).toNat < ts.length := by omega
    obtain ⟨pe, x, hg, hpe, _⟩ := hen.get hj
    refine ⟨_, rfl, _, rfl, _, b, l, es, ts, p, rfl, hX, by omega, hle, fun e he => ?_⟩
    rw [hg] at he
    cases he
    refine ⟨pe, _, _, .int (ts[(p - b - 1).toNat]), rfl, rfl, SqT.of hpe, atI_nat (j := 0) rfl, ?_⟩
    have eg : ts.getD (p - b - 1).toNat 0 = ts[(p - b - 1).toNat] := getD_at hj
    rw [← eg]; exact q
end
end K1
set_option Elab.async false
set_option linter.all false
set_option maxRecDepth 100000
set_option maxHeartbeats 4000000
namespace K1
open PySem L2 Kp
section
variable {P : Program} {w : World} {K : PySem.W.Frag} {mg : Str → Option Value} {base : Heap}
theorem scAg : FnScope ["row", "place", "last"] ["row", "place", "last"] (defScope s_agrees) := ⟨rfl, rfl, rfl, by decide +kernel, rfl, by decide +kernel, by decide +kernel⟩
theorem ok_agrees {f : Addr} {fd : FuncData} (F : Fun K "agrees" "agrees" s_agrees f fd) (CE : Cal P w K mg base "end_of" 1 ["row"] (spEndOf K)) (CT : Cal P w K mg base "term_at" 3 ["row", "place"] (spTermIn K)) : FnOk P w K mg base CX0 4 f fd ["row", "place", "last"] (spAgrees K) := by
  refine F.ok scAg (fun vs H Q E ⟨_, _, _, _, _, _, e, _⟩ => by subst e; rfl) (fun cdv A outer s H vs Q E hr h => ?_)
  obtain ⟨v, t, p, b, l, ts, rfl, ⟨es, hX⟩, q⟩ := h
  have hR : RowV K H v b l ts := ⟨es, hX⟩
  obtain ⟨⟨rb, c, rfl, hb, hc⟩, hen, hfew⟩ := hX
  replace hb := SqT.of (K := K) hb
  replace hc := SqT.of (K := K) hc
  obtain ⟨gE, dE, GE, mE, kE, bE⟩ := CE.ex
  obtain ⟨gT, dT, GT, mT, kT, bT⟩ := CT.ex
  have r1 := hr.mono (show 1 ≤ 3 by omega)
  refine ⟨_, @pss_p _ _ _ _ _ (ps_if (pt_cmpR op_lt (pv 1) (pe_ix ix_tup (pv 0) (pe_int) px_i) (nomark _)) (@pss_o _ _ _ (ps_ret pe_bl)) pss_nil)
    (@pss_o _ _ _ (ps_ret (pe_and (pe_cmpR op_le (pv 1) (pe_call GE r1 (by rfl) mE kE bE .nil pass0 (pa_n (pv 0) pa_nil)) (nomark _)) (pe_one (pe_cmpR op_eq (pe_call GT hr (by rfl) mT kT bT .nil pass0 (pa_n (pv 0) (pa_n (pv 1) pa_nil))) (pv 2) (nomark _)))))), ?_⟩
  unfold agreesB at q
  refine ⟨_, rfl, _, rfl, rb, _, _, .int b, rfl, rfl, hb, atI_nat (j := 0) rfl, _, _, rfl, rfl, _, rfl, ite2 (fun h => ?_) (fun h => ?_)⟩
  · rw [decide_eq_true (of_decide_eq_true h)] at q
    exact q
  · have hnb : ¬ p < b := fun g => h (decide_eq_true g)
    rw [decide_eq_false hnb] at q
    refine ⟨_, rfl, _, rfl, _, b, l, ts, rfl, hR, _, _, rfl, rfl, _, rfl, ite2 (fun h2 => ?_) (fun h2 => ?_)⟩
    · have hle : p ≤ endP b ts := of_decide_eq_true h2
      rw [decide_eq_true hle] at q
      refine ⟨_, rfl, _, rfl, _, b, l, ts, p, rfl, hR, by omega, hle, _, rfl, rfl, ?_⟩
      have e : decide (V.int (termAt b l ts p) = V.int t) = (false || (true && decide (termAt b l ts p = t))) := by rw [Bool.eq_iff_iff]; simp
      show Q (.bl (decide (V.int (termAt b l ts p) = V.int t))) H
      rw [e]; exact q
    · rw [decide_eq_false (fun g => h2 (decide_eq_true g))] at q
      exact q
end
end K1
set_option Elab.async false
set_option linter.all false
set_option maxRecDepth 100000
set_option maxHeartbeats 4000000
namespace L2
open PySem PySem.Spec PyProof.Rows

/-! ### an exception that leaves a def: it lies in the heap, all untracked things but frames stand in B -/
def CXe (P : Program) (w : World) : CXT := fun outer H s E e s' => ∃ (a : Addr) (cls a0 : Value) (B : Heap) (H1 : Hp), e = .ref a ∧ s'.os = s.os ∧ AllBare s'.gens ∧ Heap.FlyingW B outer a cls a0 s'.heap ∧
  Un (frs outer) [] H H1 s.heap s'.heap ∧ (∀ b o, s.heap.get? b = some o → H b = none → b ∉ frs outer → B.get? b = some o) ∧ (∀ b o, s.heap.get? b = some o → b ∉ frs outer → ∃ o', B.get? b = some o') ∧ HOk P w H1 B ∧ H1 a = none ∧ E cls none H1
theorem ObjOk.there {P : Program} {w : World} {H : Hp} {h : Heap} {a : Addr} {o : HO} (x : ObjOk P w H h a o) : ∃ u, h.get? a = some u := by
  cases o with
  | lst xs => obtain ⟨_, _, _, _, e⟩ := x; exact ⟨_, e⟩
  | tup xs => obtain ⟨_, _, _, o, e, _⟩ := x; exact ⟨_, e⟩
  | dK kvs => obtain ⟨_, _, _, _, o, _, _, e, _⟩ := x; exact ⟨_, e⟩
  | dT kvs => obtain ⟨_, _, _, _, o, _, _, e, _⟩ := x; exact ⟨_, e⟩
  | set S n => obtain ⟨o, _, _, _, e, _⟩ := x; exact ⟨_, e⟩
  | ins C dx fs => obtain ⟨_, _, _, e, _⟩ := x; exact ⟨_, e⟩
  | own y => exact x
  | xd fs => obtain ⟨_, ⟨_, _, _, e, _⟩, _⟩ := x; exact ⟨_, e⟩
  | rng lo hi => obtain ⟨_, _, _, e⟩ := x; exact ⟨_, e⟩
  | frz ob u => obtain ⟨e, _⟩ := x; exact ⟨_, e⟩
  | tbl ps => exact ⟨_, x⟩
  | met f y => exact ⟨_, x⟩
  | ext φ => obtain ⟨_, e, _⟩ := x; exact e
section
variable {P : Program} {w : World} {K : PySem.W.Frag} {mg : Str → Option Value} {base : Heap} {N : List Str} {qual : Str} {scope : Scope} {f : Addr} {cd : Value} {A : Around} {outer : List Env} {s : Shared} {H : Hp} {E : XK}
end

/-! ### the module's own classes of exceptions -/
abbrev mroV : List Value := [.type "ValueError", .type "Exception", .type "BaseException", .type "object"]
end L2
set_option Elab.async false
set_option linter.all false
set_option maxRecDepth 100000
set_option maxHeartbeats 4000000
namespace L2
open PySem PySem.Spec PyProof.Rows

section
variable {X : Cx} {pins : List (Addr × Obj)} {σ : St} {H : Hp} {s : Shared}
/-- an except suite -/
abbrev Cx.suite (X : Cx) (a : Addr) : Cx := { X with A := X.A.mark (some (.ref a)), calm := false, xe := fun _ _ => False }
theorem Cx.Ok.suite {X : Cx} (ok : X.Ok) (a : Addr) : (X.suite a).Ok :=
  ⟨ok.mod, ok.kind, ok.glob, ok.blt, ok.above, ok.inj, ok.has, ok.cab, (fun z => by cases z), ok.frames, ok.stk, ok.exf, ok.bs, ok.bsz, ok.noex, ok.exfs, ok.funs, ok.frf⟩
theorem Inv.suite (I : Inv X pins σ H s) (a : Addr) : Inv (X.suite a) pins σ H s := ⟨I.ok.suite a, I.os, I.bare, I.base, I.loc, I.cell, I.free, I.freeC, I.pin, I.hok, I.len⟩
theorem Inv.unsuite {a : Addr} (ok : X.Ok) (I : Inv (X.suite a) pins σ H s) : Inv X pins σ H s := ⟨ok, I.os, I.bare, I.base, I.loc, I.cell, I.free, I.freeC, I.pin, I.hok, I.len⟩
theorem SP.unsuite {a : Addr} (ok : X.Ok) {D : Ends} {f : Flow} {s' : Shared} (h : SP (X.suite a) pins D f s') : SP X pins D f s' := by
  cases f with
  | next => obtain ⟨σ', H', I, q⟩ := h; exact ⟨σ', H', I.unsuite ok, q⟩
  | brk => obtain ⟨σ', H', I, q⟩ := h; exact ⟨σ', H', I.unsuite ok, q⟩
  | cont => obtain ⟨σ', H', I, q⟩ := h; exact ⟨σ', H', I.unsuite ok, q⟩
  | ret u => obtain ⟨v, σ', H', I, r, q⟩ := h; exact ⟨v, σ', H', I.unsuite ok, r, q⟩
/-- the locals are forgotten (a name of theirs went) -/
theorem Inv.lost {h' : Heap} {m' : Str → Option Value} {tk : Nat} (I : Inv X pins σ H s) (hn : h'.Ns X.env.locals m') (sb : Heap.SameBut X.env.locals s.heap h') : Inv X pins (List.replicate X.N.length none) H { s with heap := h', toks := tk } := by
  have low : ∀ {b : Addr} {o : Obj}, X.s₀.heap.get? b = some o → b ≠ X.env.locals := fun {b o} e => Nat.ne_of_lt (Nat.lt_of_lt_of_le (Heap.lt_size e) I.ok.above)
  refine ⟨I.ok, I.os, I.bare, ⟨fun b o e n hb hx => sb.extBut b o (low e) (I.base.keep b o e n hb hx), fun b o e n hb hx => ?_, I.base.free, fun b o e hx => ?_, I.base.tups, I.base.frzs, I.base.tbls⟩, ⟨m', hn, fun i x v _ e2 _ => ?_⟩, fun x c e => ?_, I.free, I.freeC, fun p hp => ?_, ?_, by simp⟩
  · obtain ⟨sl, e1⟩ := I.base.slot b o e n hb hx
    exact ⟨sl, sb.extBut b _ (low e) e1⟩
  · obtain ⟨o', e1⟩ := I.base.there b o e hx
    exact ⟨o', sb.extBut b _ (low e) e1⟩
  · rw [List.getElem?_replicate] at e2
    split at e2 <;> cases e2
  · obtain ⟨v, z⟩ := I.cell x c e
    exact ⟨v, z.sameBut sb (I.cne x c e)⟩
  · obtain ⟨e, n, ne, nf, d⟩ := I.pin p hp
    exact ⟨sb.extBut _ _ ne e, n, ne, nf, d⟩
  · exact HOk.but I.hok I.free fun b o hb e => sb.extBut b o hb e
/-- behind a suite whose name went -/
def Ends.lost (D : Ends) (n : Nat) : Ends := { D with nx := fun _ H => D.nx (List.replicate n none) H, bk := fun _ H => D.bk (List.replicate n none) H, ct := fun _ H => D.ct (List.replicate n none) H }
end

/-! ### try: return f(..) / x = f(..), with one clause -/
section
variable {X : Cx} {k : Nat} {f C : Addr} {fd : FuncData} {ps : List Str} {sp : Sp} {x y n : Str} {i j : Nat} {p pos rp tp np hp py : Pos} {e : Expr} {es : List Expr} {t : TA} {b₀ : Stmt} {suite : List Stmt} {ts : TS}
end
end L2
set_option Elab.async false
set_option linter.all false
set_option maxRecDepth 100000
set_option maxHeartbeats 4000000
namespace L2
open PySem PySem.Spec PyProof.Rows PySem.W PySem.Builtin PySem.Builtin.ObjectAttr PySem.Builtin.Getset_descriptor
section
variable {prog : Program} {w : World} {A : Around} {E : Value → Shared → Prop} {s : Shared} {K : Frag} {x C : Addr} {R : Result → Shared → Prop} {h : Heap} {g : Array GenState} {d : Drawn} {t : Nat} {os : OsState} {o : Obj} {name : Str}
structure ExcK (K : Frag) (C : Addr) : Prop where
  ga : findIn K (.ref C) "__getattribute__" = some (some (.builtin "BaseException.__getattribute__"))
  gn : findIn K (.ref C) "__getattr__" = some none
  cl : findIn K (.ref C) "__class__" = some (some (.builtin "object.__class__"))
  gt : specialIn K (.builtin "object.__class__") "__get__" = some (some (.builtin "getset_descriptor.__get__"))
  tk : takesIn K (.builtin "object.__class__") = some true
  mo : mroIn K C (.type "object") = some true
  mb : mroIn K C (.type "BaseException") = some true
end
end L2
set_option Elab.async false
set_option linter.all false
set_option maxRecDepth 100000
set_option maxHeartbeats 4000000
namespace L2
open PySem PySem.Spec PyProof.Rows
/-! ### defs that are called within an except suite -/
structure RoomH (k : Nat) (A : Around) : Prop where
  dp : A.depth + 3 * k + 5 < recursionLimit
  un : A.units + 16 * k + 200 < cLine
theorem Room.h {k : Nat} {A : Around} (r : Room k A) : RoomH k A := ⟨r.dp, r.un⟩
theorem RoomH.mono {j k : Nat} {A : Around} (r : RoomH k A) (h : j ≤ k) : RoomH j A := ⟨by have := r.dp; omega, by have := r.un; omega⟩
theorem RoomH.deeper {k : Nat} {A : Around} (r : RoomH (k + 1) A) (env : Env) : RoomH k (A.deeper env) :=
  ⟨by have := r.dp; show A.depth + 1 + 3 * k + 5 < _; omega, by have := r.un; show A.units + 3 + 16 * k + 200 < _; omega⟩
theorem RoomH.depth {k : Nat} {A : Around} (r : RoomH k A) : A.depth < recursionLimit := by have := r.dp; omega
theorem RoomH.units0 {k : Nat} {A : Around} (r : RoomH k A) : A.units < cLine := by have := r.un; omega
theorem RoomH.suite {k : Nat} {X : Cx} {a : Addr} (r : RoomH k X.A) : RoomH k (X.suite a).A := ⟨r.dp, r.un⟩
structure FnH (P : Program) (w : World) (K : PySem.W.Frag) (mg : Str → Option Value) (base : Heap) (k : Nat) (f : Addr) (fd : FuncData) (ps : List Str) (sp : Sp) : Prop where
  len : ∀ vs H Q, sp vs H Q E0 → vs.length = ps.length
  run : ∀ (A : Around) (outer : List Env) (s : Shared) (H : Hp) (args : Args) (us : List Value) (vs : List V) (Q : VK), RoomH k A → Env0 P w K mg base A outer s H → BindsTo s fd args (ps.zip us) → Vals vs us → sp vs H Q E0 →
    codeAny (model P w) A (.call (.ref f) args) (CR CX0 outer P w H s Q E0) s
section
variable {P : Program} {w : World} {K : PySem.W.Frag} {mg : Str → Option Value} {base : Heap}
end
section
variable {X : Cx} {k : Nat} {f : Addr} {fd : FuncData} {ps : List Str} {sp : Sp} {x : Str} {p pos : Pos} {e : Expr} {es : List Expr} {t : TA}
end
end L2
set_option Elab.async false
set_option linter.all false
set_option maxRecDepth 100000
set_option maxHeartbeats 4000000
namespace Kp
open PySem L2
/-- a def that may raise -/
structure CalE (P : Program) (w : World) (K : PySem.W.Frag) (mg : Str → Option Value) (base : Heap) (name : Str) (k : Nat) (ps : List Str) (sp : Sp) : Prop where
  ex : ∃ f fd, FnOk P w K mg base (CXe P w) k f fd ps sp ∧ mg name = some (.ref f) ∧ PySem.W.keepIn K (.ref f) = true ∧ Binds K fd ps []
/-- a def that an except suite calls -/
structure CalH (P : Program) (w : World) (K : PySem.W.Frag) (mg : Str → Option Value) (base : Heap) (name : Str) (k : Nat) (ps : List Str) (sp : Sp) : Prop where
  ex : ∃ f fd, FnH P w K mg base k f fd ps sp ∧ mg name = some (.ref f) ∧ PySem.W.keepIn K (.ref f) = true ∧ Binds K fd ps []
theorem CalE.mono {P : Program} {w : World} {K : PySem.W.Frag} {mg : Str → Option Value} {base : Heap} {x : Str} {k k' : Nat} {ps : List Str} {sp : Sp} (C : CalE P w K mg base x k ps sp) (h : k ≤ k') : CalE P w K mg base x k' ps sp :=
  let ⟨f, fd, F, a, b, c⟩ := C.ex
  ⟨⟨f, fd, F.mono h, a, b, c⟩⟩
/-- the classes of refusals, as the module has them -/
structure ExcF (K : PySem.W.Frag) (mg : Str → Option Value) (cP cL c1 c2 c3 c4 : Addr) : Prop where
  mP : mg "NoPlace" = some (.ref cP)
  mL : mg "LogError" = some (.ref cL)
  m1 : mg "NoLetter" = some (.ref c1)
  m2 : mg "NoKeeper" = some (.ref c2)
  m3 : mg "NoRoom" = some (.ref c3)
  m4 : mg "NoSchedule" = some (.ref c4)
  mV : mg "ValueError" = none
  xP : PySem.W.excIn K cP mroV "ValueError.__new__" = true
  ex : PySem.W.exmOne K (.ref cP) (.ref cL) = some true
  ek : ExcK K cP
  ci : (PySem.W.clsIn K cP).isSome = true
  k1 : PySem.W.kitOne K (.ref cP) (.ref cP) = some true
  k2 : PySem.W.kitOne K (.ref cP) (.type "ValueError") = some true
  k3 : PySem.W.kitAny K (.ref cP) ([c1, c2, c3, c4].map Value.ref) = some false
end Kp
namespace K1
open PySem L2 Kp
end K1
set_option Elab.async false
set_option linter.all false
set_option maxRecDepth 100000
set_option maxHeartbeats 4000000
namespace L2
open PySem PySem.Spec PyProof.Rows
/-- for x, y in zip(t, u) of two tuples -/
theorem for_zipT {K : PySem.W.Frag} {a b : Addr} {xs ys : List V} {g : TG} {tb : TS} {D : Ends} {σ : St} {H : Hp} (Pv : Nat → St → Hp → Prop) (h0 : Pv 0 σ H) (hl : ∀ i σ H, Pv i σ H → SqT K H a xs ∧ SqT K H b ys)
    (hs : ∀ i x y p σ H, xs[i]? = some x → ys[i]? = some y → H p = none → Pv i σ H → g (.ref p) σ (upd H p (.tup [x, y])) fun σ2 H2 => tb { D with nx := Pv (i + 1), ct := Pv (i + 1), bk := D.nx } σ2 H2)
    (hd : ∀ i σ H, i ≤ xs.length → i ≤ ys.length → (xs.length ≤ i ∨ ys.length ≤ i) → Pv i σ H → D.nx σ H) :
    ∃ W : Nat → Nat → St → Hp → Prop, (∃ m, W 0 m σ H) ∧ ∀ i m σ H, W i m σ H →
      ((Itz K true true a b).stop i H ∧ D.nx σ H) ∨ ((Itz K true true a b).go i H ∧ ∃ N : St → Hp → Prop, (∀ σ' H', N σ' H' → ∃ m', m' < m ∧ W (i + 1) m' σ' H') ∧ ∀ x H', (Itz K true true a b).yld i H x H' → g x σ H' fun σ2 H2 => tb { D with nx := N, ct := N, bk := D.nx } σ2 H2) := by
  refine ⟨fun i m σ H => m = xs.length - i ∧ i ≤ xs.length ∧ i ≤ ys.length ∧ Pv i σ H, ⟨xs.length, by simp, Nat.zero_le _, Nat.zero_le _, h0⟩, ?_⟩
  rintro i m σ H ⟨rfl, hi, hj, p⟩
  obtain ⟨q1, q2⟩ := hl i σ H p
  by_cases hlt : i < xs.length ∧ i < ys.length
  · refine .inr ⟨⟨xs, ys, xs[i], ys[i], q1, q2, by simp [hlt.1], by simp [hlt.2]⟩, Pv (i + 1), fun σ' H' p' => ⟨xs.length - (i + 1), by omega, rfl, hlt.1, hlt.2, p'⟩, fun x H' y => ?_⟩
    obtain ⟨r, u, w, e, hr, e2, y1, y2⟩ := y
    subst e e2
    exact hs i u w r σ _ (y1 xs q1) (y2 ys q2) hr p
  · exact .inl ⟨⟨xs, ys, q1, q2, by omega⟩, hd i σ H hi hj (by omega) p⟩
end L2
namespace K1
open PySem L2 Kp
/-- how many of the first ones are the same -/
def sameN : List Int → List Int → Nat
  | x :: xs, y :: ys => if x = y then sameN xs ys + 1 else 0
  | _, _ => 0
theorem sameN_le : ∀ xs ys : List Int, sameN xs ys ≤ xs.length ∧ sameN xs ys ≤ ys.length
  | [], _ => by unfold sameN; simp
  | _ :: _, [] => by unfold sameN; simp
  | x :: xs, y :: ys => by
    have ih := sameN_le xs ys
    unfold sameN
    simp only [List.length_cons]
    split <;> omega
theorem sameN_eq : ∀ {xs ys : List Int} {i : Nat}, i < sameN xs ys → xs[i]? = ys[i]?
  | [], _, i, h => by unfold sameN at h; omega
  | _ :: _, [], i, h => by unfold sameN at h; omega
  | x :: xs, y :: ys, i, h => by
    unfold sameN at h
    split at h
    · rename_i e
      cases i with
      | zero => simp [e]
      | succ i =>
        have := sameN_eq (xs := xs) (ys := ys) (i := i) (by omega)
        simpa using this
    · omega
theorem sameN_ne : ∀ {xs ys : List Int}, sameN xs ys < xs.length → sameN xs ys < ys.length → xs[sameN xs ys]? ≠ ys[sameN xs ys]?
  | [], _, h, _ => by simp at h
  | _ :: _, [], _, h => by simp at h
  | x :: xs, y :: ys, h1, h2 => by
    unfold sameN at h1 h2 ⊢
    split at h1
    · rename_i e
      rw [if_pos e] at h2 ⊢
      simp only [List.length_cons] at h1 h2
      have := sameN_ne (xs := xs) (ys := ys) (by omega) (by omega)
      simpa using this
    · rename_i e
      rw [if_neg e]
      simpa using e
/-- the place from which a row is filled, counted in the entries and in the row -/
def stOf (b p : Int) : Int := if b > p then b else p
def comeN (b p : Int) : Nat := (stOf b p - p).toNat
def ownN (b p : Int) : Nat := (stOf b p - b).toNat
def fillN (b p : Int) (ts us : List Int) : Nat := sameN (ts.drop (ownN b p)) (us.drop (comeN b p))
end K1
set_option Elab.async false
set_option linter.all false
set_option maxRecDepth 100000
set_option maxHeartbeats 4000000
namespace K1
open PySem L2 Kp
section
variable {P : Program} {w : World} {K : PySem.W.Frag} {mg : Str → Option Value} {base : Heap}
def spBehN (K : PySem.W.Frag) : Sp := fun vs H Q _ => ∃ (v : V) (b l : Int) (es : List V) (ts : List Int) (p m : Int), vs = [v, .int p, .int m] ∧ RowX K H v b l es ts ∧ 0 ≤ m ∧ b ≤ p ∧ p ≤ endP b ts ∧ ∀ (r : Addr) (H' : Hp), H' r = some (.tup ((es.drop (p - b).toNat).take m.toNat)) → Same H H' → Q (.ref r) H'
theorem scBh : FnScope ["row", "place", "many", "base", "start"] ["row", "place", "many"] (defScope s_behind) := ⟨rfl, rfl, rfl, by decide +kernel, rfl, by decide +kernel, by decide +kernel⟩
theorem ok_behind {f : Addr} {fd : FuncData} (F : Fun K "behind" "behind" s_behind f fd) (T : Txt mg) (CE : Cal P w K mg base "end_of" 1 ["row"] (spEndOf K)) : FnOk P w K mg base CX0 2 f fd ["row", "place", "many"] (spBehN K) := by
  refine F.ok scBh (fun vs H Q E ⟨_, _, _, _, _, _, _, e, _⟩ => by subst e; rfl) (fun cdv A outer s H vs Q E hr h => ?_)
  obtain ⟨v, b, l, es, ts, p, m, rfl, hX, hm, g1, g2, q⟩ := h
  have hX' := hX
  obtain ⟨⟨rb, c, rfl, hb0, hc0⟩, hen, hfew⟩ := hX'
  have hb := SqT.of (K := K) hb0
  obtain ⟨gE, dE, GE, mE, kE, bE⟩ := CE.ex
  refine ⟨_, @pss_p _ _ _ _ _ (ps_set (i := 3) scBh.nd (by rfl) (by exact Or.inl rfl) (pe_ix ix_tup (pv 0) (pe_int) px_i))
    (@pss_p _ _ _ _ _ (ps_if (PW.pt (pw_or (pt_cmpR op_lt (pv 1) (pv 3) (nomark _)) (pw_or1 (pt_cmpR op_gt (pv 1) (pe_call GE hr (by rfl) mE kE bE .nil pass0 (pa_n (pv 0) pa_nil)) (nomark _))))) (@pss_o _ _ _ (ps_never)) pss_nil)
    (@pss_p _ _ _ _ _ (ps_set (i := 4) scBh.nd (by rfl) (by exact Or.inl rfl) (pe_op op_sub (pv 1) (pv 3)))
    (@pss_o _ _ _ (ps_ret (pe_slice sl_tupV (pe_ix ix_tup (pv 0) (pe_int) px_i) (po_some (pv 4)) (po_some (pe_callB (call_max2 (by rfl)) (by rfl) T.max boot_max (pa_n (pv 4) (pa_b (pe_op op_add (pv 4) (pv 2)) pa_nil))))))))), ?_⟩
  have at0 : atI [V.int b, V.int l, V.ref c] 0 = some (.int b) := atI_nat (j := 0) rfl
  have at1 : atI [V.int b, V.int l, V.ref c] 1 = some (.int l) := atI_nat (j := 1) rfl
  have at2 : atI [V.int b, V.int l, V.ref c] 2 = some (.ref c) := atI_nat (j := 2) rfl
  refine ⟨_, rfl, rb, _, _, .int b, rfl, rfl, hb, at0, ?_⟩
  refine ⟨_, rfl, _, rfl, _, _, rfl, rfl, _, rfl, ite2 (fun h => absurd (of_decide_eq_true h) (by omega)) (fun h => ?_)⟩
  refine ⟨_, rfl, _, rfl, _, b, l, ts, rfl, ⟨es, hX⟩, _, _, rfl, rfl, _, rfl, ite2 (fun h2 => absurd (of_decide_eq_true h2) (by omega)) (fun h2 => ?_)⟩
  refine ⟨_, rfl, _, rfl, _, _, rfl, rfl, ?_⟩
  refine ⟨_, rfl, rb, _, _, .ref c, rfl, rfl, hb, at2, _, rfl, _, rfl, _, rfl, _, rfl, _, rfl, _, _, rfl, rfl, _, _, rfl, _, rfl, c, es, rfl, hc0, fun r H1 hr1 s1 => q r H1 ?_ s1⟩
  rw [hr1]
  obtain ⟨j, ej⟩ := Int.eq_ofNat_of_zero_le (show 0 ≤ p - b by omega)
  obtain ⟨k, ek⟩ := Int.eq_ofNat_of_zero_le hm
  have e2 : (if p - b + m > p - b then p - b + m else p - b) = ((j + k : Nat) : Int) := by split <;> omega
  show some (HO.tup (cutV es (some (p - b)) (some (if p - b + m > p - b then p - b + m else p - b)))) = _
  rw [e2, ej, ek, cut_bothN, Int.toNat_natCast, Int.toNat_natCast, Nat.add_sub_cancel_left]
def spSameA : Sp := fun vs H Q _ => ∃ (a c : Addr) (es fs : List V) (ts us : List Int), vs = [.ref a, .ref c] ∧ H a = some (.tup es) ∧ H c = some (.tup fs) ∧ Ents H es ts ∧ Ents H fs us ∧ ∀ H', Same H H' → Q (.int (sameN ts us : Nat)) H'
theorem scSa : FnScope ["own", "others", "many", "entry", "other"] ["own", "others"] (defScope s_same_ahead) := ⟨rfl, rfl, rfl, by decide +kernel, rfl, by decide +kernel, by decide +kernel⟩
theorem ok_same_ahead {f : Addr} {fd : FuncData} (F : Fun K "same_ahead" "same_ahead" s_same_ahead f fd) (T : Txt mg) : FnOk P w K mg base CX0 1 f fd ["own", "others"] spSameA := by
  refine F.ok scSa (fun vs H Q E ⟨_, _, _, _, _, _, e, _⟩ => by subst e; rfl) (fun cdv A outer s H vs Q E hr h => ?_)
  obtain ⟨a, c, es, fs, ts, us, rfl, ha, hc, hen, hfn, q⟩ := h
  refine ⟨_, @pss_p _ _ _ _ _ (ps_set (i := 2) scSa.nd (by rfl) (by exact Or.inl rfl) (pe_int))
    (@pss_p _ _ _ _ _ (ps_for PassesOwn.never (by rfl) (pi_zip (t1 := true) (t2 := true) (by rfl) T.zip (pa_n (pv 0) (pa_n (pv 1) pa_nil))) (pg_tup (n := 2) (by rfl) (pgs_cons (pg_name (i := 3) scSa.nd (by rfl) (by exact Or.inl rfl)) (pgs_cons (pg_name (i := 4) scSa.nd (by rfl) (by exact Or.inl rfl)) pgs_nil))) (@pss_p _ _ _ _ _ (ps_if (pt_cmpR op_ne (pe_ix ix_tup (pv 3) (pe_int) px_i) (pe_ix ix_tup (pv 4) (pe_int) px_i) (nomark _)) (@pss_o _ _ _ (ps_ret (pv 2))) pss_nil)
    (@pss_o _ _ _ (ps_set (i := 2) scSa.nd (by rfl) (by exact Or.inl rfl) (pe_op op_add (pv 2) (pe_int))))))
    (@pss_o _ _ _ (ps_ret (pv 2)))), ?_⟩
  have l1 := hen.length
  have l2 := hfn.length
  obtain ⟨le1, le2⟩ := sameN_le ts us
  refine ⟨_, rfl, _, rfl, a, c, es, fs, rfl, SqT.of ha, SqT.of hc, for_zipT (K := K) (a := a) (b := c) (xs := es) (ys := fs) (fun i σ H' => ∃ x3 x4 : Option V, σ = [some (.ref a), some (.ref c), some (.int (i : Nat)), x3, x4] ∧ i ≤ sameN ts us ∧ Same H H')
    ⟨none, none, rfl, Nat.zero_le _, Same.refl _⟩ (fun i σ H' ⟨_, _, _, _, s1⟩ => ⟨SqT.of (s1 _ _ ha), SqT.of (s1 _ _ hc)⟩) ?_ ?_⟩
  · rintro i x y p σ H' hx hy hp ⟨x3, x4, rfl, hi, s1⟩
    have i1 : i < ts.length := by rw [← l1]; exact (List.getElem?_eq_some_iff.mp hx).1
    have i2 : i < us.length := by rw [← l2]; exact (List.getElem?_eq_some_iff.mp hy).1
    have s2 := same_upd (o := HO.tup [x, y]) hp
    obtain ⟨pe, xe, ge, he, _⟩ := (hen.same (s1.trans s2)).get i1
    obtain ⟨pf, xf, gf, hf, _⟩ := (hfn.same (s1.trans s2)).get i2
    rw [ge] at hx
    cases hx
    rw [gf] at hy
    cases hy
    refine ⟨p, _, rfl, SqT.of upd_same, rfl, _, _, rfl, _, _, rfl, rfl, ?_⟩
    refine ⟨_, rfl, pe, _, _, .int ts[i], rfl, rfl, SqT.of he, atI_nat (j := 0) rfl, _, rfl, pf, _, _, .int us[i], rfl, rfl, SqT.of hf, atI_nat (j := 0) rfl, rfl, _, rfl, ite2 (fun h => ?_) (fun h => ?_)⟩
    · have hne : ts[i] ≠ us[i] := fun e => by rw [e] at h; simp at h
      have hi2 : i = sameN ts us := by
        by_cases hlt : i < sameN ts us
        · have := sameN_eq hlt
          rw [List.getElem?_eq_getElem i1, List.getElem?_eq_getElem i2] at this
          exact absurd (Option.some.inj this) hne
        · omega
      refine ⟨_, rfl, ?_⟩
      rw [hi2]
      exact q _ (s1.trans s2)
    · have heq : ts[i] = us[i] := by
        by_cases e : ts[i] = us[i]
        · exact e
        · exact absurd (by simpa using e) h
      refine ⟨_, rfl, _, _, rfl, rfl, _, _, rfl, ?_, s1.trans s2⟩
      by_cases hlt : i < sameN ts us
      · exact hlt
      · have hi2 : sameN ts us = i := by omega
        have := sameN_ne (xs := ts) (ys := us) (by omega) (by omega)
        rw [hi2, List.getElem?_eq_getElem i1, List.getElem?_eq_getElem i2, heq] at this
        exact absurd rfl this
  · rintro i σ H' g1 g2 hend ⟨x3, x4, rfl, hi, s1⟩
    have hi2 : i = sameN ts us := by omega
    refine ⟨_, rfl, ?_⟩
    rw [hi2]
    exact q _ s1
def spFilN (K : PySem.W.Frag) : Sp := fun vs H Q _ => ∃ (v : V) (b l : Int) (es : List V) (ts : List Int) (p : Int) (fa : Addr) (fs : List V) (us : List Int), vs = [v, .int p, .ref fa] ∧ RowX K H v b l es ts ∧ ts.length ≤ 700 ∧ H fa = some (.tup fs) ∧ Ents H fs us ∧ us.length ≤ 200 ∧ p ≤ endP b ts ∧
  (fillN b p ts us = (us.drop (comeN b p)).length → ∀ H', Same H H' → Q v H') ∧
  (fillN b p ts us ≠ (us.drop (comeN b p)).length → ∀ (u : V) (H' : Hp), RowX K H' u b l (es.take (ownN b p + fillN b p ts us) ++ fs.drop (comeN b p + fillN b p ts us)) (ts.take (ownN b p + fillN b p ts us) ++ us.drop (comeN b p + fillN b p ts us)) → Same H H' → Q u H')
theorem scFi : FnScope ["row", "place", "entries", "base", "start", "come", "own", "same"] ["row", "place", "entries"] (defScope s_filled) := ⟨rfl, rfl, rfl, by decide +kernel, rfl, by decide +kernel, by decide +kernel⟩
theorem ok_filled {f : Addr} {fd : FuncData} (F : Fun K "filled" "filled" s_filled f fd) (T : Txt mg) (CE : Cal P w K mg base "end_of" 1 ["row"] (spEndOf K)) (CS : Cal P w K mg base "same_ahead" 1 ["own", "others"] spSameA) : FnOk P w K mg base CX0 2 f fd ["row", "place", "entries"] (spFilN K) := by
  refine F.ok scFi (fun vs H Q E ⟨_, _, _, _, _, _, _, _, _, e, _⟩ => by subst e; rfl) (fun cdv A outer s H vs Q E hr h => ?_)
  obtain ⟨v, b, l, es, ts, p, fa, fs, us, rfl, hX, hfw, hfa, hfn, hlu, g, q1, q2⟩ := h
  have hX' := hX
  obtain ⟨⟨rb, c, rfl, hb0, hc0⟩, hen, hfew⟩ := hX'
  have hb := SqT.of (K := K) hb0
  have hc := SqT.of (K := K) hc0
  obtain ⟨gE, dE, GE, mE, kE, bE⟩ := CE.ex
  obtain ⟨gS, dS, GS, mS, kS, bS⟩ := CS.ex
  refine ⟨_, @pss_p _ _ _ _ _ (ps_if (pt_cmpR op_gt (pv 1) (pe_call GE hr (by rfl) mE kE bE .nil pass0 (pa_n (pv 0) pa_nil)) (nomark _)) (@pss_o _ _ _ (ps_never)) pss_nil)
    (@pss_p _ _ _ _ _ (ps_set (i := 3) scFi.nd (by rfl) (by exact Or.inl rfl) (pe_ix ix_tup (pv 0) (pe_int) px_i))
    (@pss_p _ _ _ _ _ (ps_set (i := 4) scFi.nd (by rfl) (by exact Or.inl rfl) (pe_callB (call_max2 (by rfl)) (by rfl) T.max boot_max (pa_n (pv 1) (pa_n (pv 3) pa_nil))))
    (@pss_p _ _ _ _ _ (ps_set (i := 5) scFi.nd (by rfl) (by exact Or.inl rfl) (pe_slice sl_tupV (pv 2) (po_some (pe_op op_sub (pv 4) (pv 1))) po_none))
    (@pss_p _ _ _ _ _ (ps_set (i := 6) scFi.nd (by rfl) (by exact Or.inl rfl) (pe_slice sl_tupV (pe_ix ix_tup (pv 0) (pe_int) px_i) (po_some (pe_op op_sub (pv 4) (pv 3))) po_none))
    (@pss_p _ _ _ _ _ (ps_set (i := 7) scFi.nd (by rfl) (by exact Or.inl rfl) (pe_call GS hr (by rfl) mS kS bS .nil pass0 (pa_n (pv 6) (pa_n (pv 5) pa_nil))))
    (@pss_p _ _ _ _ _ (ps_if (pt_cmpR op_eq (pv 7) (pe_callB call_len_seq (by rfl) T.len PySem.boot_len (pa_n (pv 5) pa_nil)) (nomark _)) (@pss_o _ _ _ (ps_ret (pv 0))) pss_nil)
    (@pss_o _ _ _ (ps_ret (QE.h (qx_tup (qa_n (pv 3) (qa_s (pe_ix ix_tup (pv 0) (pe_int) px_i) (qa_b (pe_op op_catU (pe_slice sl_tupV (pe_ix ix_tup (pv 0) (pe_int) px_i) po_none (po_some (pe_op op_add (pe_op op_sub (pv 4) (pv 3)) (pv 7)))) (pe_slice sl_tupV (pv 5) (po_some (pv 7)) po_none)) qa_nil))))))))))))), ?_⟩
  have at0 : atI [V.int b, V.int l, V.ref c] 0 = some (.int b) := atI_nat (j := 0) rfl
  have at1 : atI [V.int b, V.int l, V.ref c] 1 = some (.int l) := atI_nat (j := 1) rfl
  have at2 : atI [V.int b, V.int l, V.ref c] 2 = some (.ref c) := atI_nat (j := 2) rfl
  have l1 := hen.length
  have l2 := hfn.length
  refine ⟨_, rfl, _, rfl, _, b, l, ts, rfl, ⟨es, hX⟩, _, _, rfl, rfl, _, rfl, ite2 (fun h => absurd (of_decide_eq_true h) (by omega)) (fun h => ?_)⟩
  have ge : p ≤ b + (ts.length : Int) := g
  refine ⟨_, rfl, rb, _, _, .int b, rfl, rfl, hb, at0, ?_⟩
  refine ⟨_, rfl, _, rfl, _, _, rfl, ?_⟩
  show gName 4 (V.int (stOf b p)) _ _ _
  have hx : ((comeN b p : Nat) : Int) = stOf b p - p := by unfold comeN stOf; split <;> omega
  have hy : ((ownN b p : Nat) : Int) = stOf b p - b := by unfold ownN stOf; split <;> omega
  refine ⟨_, rfl, _, rfl, _, rfl, _, _, rfl, rfl, _, rfl, fa, fs, rfl, hfa, fun ca H1 hca s1 => ?_⟩
  rw [← hx, cut_fromN] at hca
  refine ⟨_, rfl, rb, _, _, .ref c, rfl, rfl, SqT.same hb s1, at2, _, rfl, _, rfl, _, _, rfl, rfl, _, rfl, c, es, rfl, s1 _ _ hc0, fun oa H2 hoa s2 => ?_⟩
  rw [← hy, cut_fromN] at hoa
  have s12 := s1.trans s2
  refine ⟨_, rfl, _, rfl, oa, ca, _, _, ts.drop (ownN b p), us.drop (comeN b p), rfl, hoa, s2 _ _ hca, (hen.same s12).drop _, (hfn.same s12).drop _, fun H3 s3 => ?_⟩
  have s13 := s12.trans s3
  show gName 7 (V.int ((fillN b p ts us : Nat) : Int)) _ _ _
  have hca3 : H3 ca = some (.tup (fs.drop (comeN b p))) := s3 _ _ (s2 _ _ hca)
  refine ⟨_, rfl, _, rfl, ca, _, rfl, .inr (SqT.of hca3), rfl, _, rfl, ite2 (fun h2 => ?_) (fun h2 => ?_)⟩
  · have e : fillN b p ts us = (us.drop (comeN b p)).length := by
      have := of_decide_eq_true h2
      simp only [V.int.injEq] at this
      rw [List.length_drop] at this ⊢
      omega
    exact ⟨_, rfl, q1 e H3 s13⟩
  · have e : fillN b p ts us ≠ (us.drop (comeN b p)).length := fun e => h2 (decide_eq_true (by rw [e, List.length_drop, List.length_drop, l2]))
    have hap : stOf b p - b + ((fillN b p ts us : Nat) : Int) = ((ownN b p + fillN b p ts us : Nat) : Int) := by omega
    refine ⟨_, rfl, _, rfl, rb, _, _, .int l, rfl, rfl, SqT.same hb s13, at1, _, rfl, rb, _, _, .ref c, rfl, rfl, SqT.same hb s13, at2, _, rfl, _, rfl, _, _, rfl, rfl, _, rfl, _, _, rfl, rfl, _, rfl, c, es, rfl, s13 _ _ hc0, fun p4 H4 h4 s4 => ?_⟩
    rw [hap, cut_toN] at h4
    refine ⟨_, rfl, _, rfl, _, rfl, ca, _, rfl, s4 _ _ hca3, fun p5 H5 h5 s5 => ?_⟩
    rw [cut_fromN, List.drop_drop] at h5
    refine ⟨p4, p5, _, _, rfl, rfl, s5 _ _ h4, h5, tiny ?_, fun p6 H6 h6 s6 => ⟨tiny (by show 3 ≤ 1000; decide), fun p7 hp7 => ?_⟩⟩
    · show (es.take _).length + (fs.drop _).length ≤ 1000
      rw [List.length_take, List.length_drop]; omega
    have s7 := same_upd (o := HO.tup [V.int b, V.int l, V.ref p6]) hp7
    have s47 := s4.trans (s5.trans (s6.trans s7))
    refine q2 e (.ref p7) _ ⟨⟨p7, p6, rfl, upd_same, s7 _ _ h6⟩, (((hen.same s13).same s47).take _).append (((hfn.same s13).same s47).drop _), ?_⟩ (s13.trans s47)
    rw [List.length_append, List.length_take, List.length_drop]; omega
def spCutN (K : PySem.W.Frag) : Sp := fun vs H Q _ => ∃ (v : V) (b l : Int) (es : List V) (ts : List Int) (p : Int), vs = [v, .int p] ∧ RowX K H v b l es ts ∧ b ≤ p ∧ p ≤ endP b ts ∧ ∀ (u : V) (H' : Hp), RowX K H' u p (termAt b l ts p) (es.drop (p - b).toNat) (ts.drop (p - b).toNat) → Same H H' → Q u H'
theorem scCo : FnScope ["row", "place"] ["row", "place"] (defScope s_cut_off) := ⟨rfl, rfl, rfl, by decide +kernel, rfl, by decide +kernel, by decide +kernel⟩
theorem ok_cut_off {f : Addr} {fd : FuncData} (F : Fun K "cut_off" "cut_off" s_cut_off f fd) (T : Txt mg) (CT : Cal P w K mg base "term_at" 3 ["row", "place"] (spTermIn K)) (CB : Cal P w K mg base "behind" 2 ["row", "place", "many"] (spBehN K)) : FnOk P w K mg base CX0 4 f fd ["row", "place"] (spCutN K) := by
  refine F.ok scCo (fun vs H Q E ⟨_, _, _, _, _, _, e, _⟩ => by subst e; rfl) (fun cdv A outer s H vs Q E hr h => ?_)
  obtain ⟨v, b, l, es, ts, p, rfl, hX, g1, g2, q⟩ := h
  have hX' := hX
  obtain ⟨⟨rb, c, rfl, hb0, hc0⟩, hen, hfew⟩ := hX'
  have hb := SqT.of (K := K) hb0
  have hc := SqT.of (K := K) hc0
  obtain ⟨gT, dT, GT, mT, kT, bT⟩ := CT.ex
  obtain ⟨gB, dB, GB, mB, kB, bB⟩ := CB.ex
  have r2 := hr.mono (show 2 ≤ 3 by omega)
  refine ⟨_, @pss_o _ _ _ (ps_ret (QE.h (qx_tup (qa_n (pv 1) (qa_k (pe_call GT hr (by rfl) mT kT bT .nil pass0 (pa_n (pv 0) (pa_n (pv 1) pa_nil))) (qa_k (pe_call GB r2 (by rfl) mB kB bB .nil pass0 (pa_n (pv 0) (pa_n (pv 1) (pa_k (pe_callB call_len_seq (by rfl) T.len PySem.boot_len (pa_s (pe_ix ix_tup (pv 0) (pe_int) px_i) pa_nil)) pa_nil)))) qa_nil)))))), ?_⟩
  have at0 : atI [V.int b, V.int l, V.ref c] 0 = some (.int b) := atI_nat (j := 0) rfl
  have at1 : atI [V.int b, V.int l, V.ref c] 1 = some (.int l) := atI_nat (j := 1) rfl
  have at2 : atI [V.int b, V.int l, V.ref c] 2 = some (.ref c) := atI_nat (j := 2) rfl
  refine ⟨_, rfl, _, rfl, _, rfl, _, b, l, ts, p, rfl, ⟨es, hX⟩, g1, g2, ?_⟩
  refine ⟨_, rfl, _, rfl, _, rfl, rb, _, _, .ref c, rfl, rfl, hb, at2, c, es, rfl, .inr hc, _, b, l, es, ts, p, _, rfl, hX, by omega, g1, g2, fun r H1 hr1 s1 => ⟨tiny (by show 3 ≤ 1000; decide), fun p2 hp2 => ?_⟩⟩
  have s2 := same_upd (o := HO.tup [V.int p, V.int (termAt b l ts p), V.ref r]) hp2
  have hr2 : H1 r = some (.tup (es.drop (p - b).toNat)) := by
    rw [hr1, Int.toNat_natCast, List.take_of_length_le (by rw [List.length_drop]; omega)]
  refine q (.ref p2) _ ⟨⟨p2, r, rfl, upd_same, s2 _ _ hr2⟩, (hen.same (s1.trans s2)).drop _, ?_⟩ (s1.trans s2)
  rw [List.length_drop]; omega
def spTakE (K : PySem.W.Frag) : Sp := fun vs H Q _ => ∃ (v : V) (b l : Int) (es : List V) (ts : List Int) (p t : Int), vs = [v, .int p, .int t] ∧ RowX K H v b l es ts ∧ (p ≤ b → Q v H) ∧ (b < p → p ≤ endP b ts → termAt b l ts p = t → ∀ (u : V) (H' : Hp), RowX K H' u p t (es.drop (p - b).toNat) (ts.drop (p - b).toNat) → Same H H' → Q u H') ∧
  (b < p → ¬ (p ≤ endP b ts ∧ termAt b l ts p = t) → ∀ (u : V) (H' : Hp), RowX K H' u p t [] [] → Same H H' → Q u H')
theorem scTo_ : FnScope ["row", "place", "last"] ["row", "place", "last"] (defScope s_taken_over) := ⟨rfl, rfl, rfl, by decide +kernel, rfl, by decide +kernel, by decide +kernel⟩
theorem ok_taken_over {f : Addr} {fd : FuncData} (F : Fun K "taken_over" "taken_over" s_taken_over f fd) (CA : Cal P w K mg base "agrees" 4 ["row", "place", "last"] (spAgrees K)) (CC : Cal P w K mg base "cut_off" 4 ["row", "place"] (spCutN K)) : FnOk P w K mg base CX0 5 f fd ["row", "place", "last"] (spTakE K) := by
  refine F.ok scTo_ (fun vs H Q E ⟨_, _, _, _, _, _, _, e, _⟩ => by subst e; rfl) (fun cdv A outer s H vs Q E hr h => ?_)
  obtain ⟨v, b, l, es, ts, p, t, rfl, hX, q1, q2, q3⟩ := h
  have hX' := hX
  obtain ⟨⟨rb, c, rfl, hb0, hc0⟩, hen, hfew⟩ := hX'
  have hb := SqT.of (K := K) hb0
  have hc := SqT.of (K := K) hc0
  obtain ⟨gA, dA, GA, mA, kA, bA⟩ := CA.ex
  obtain ⟨gC, dC, GC, mC, kC, bC⟩ := CC.ex
  refine ⟨_, @pss_p _ _ _ _ _ (ps_if (pt_cmpR op_le (pv 1) (pe_ix ix_tup (pv 0) (pe_int) px_i) (nomark _)) (@pss_o _ _ _ (ps_ret (pv 0))) pss_nil)
    (@pss_p _ _ _ _ _ (ps_if (pt_val (pe_call GA hr (by rfl) mA kA bA .nil pass0 (pa_n (pv 0) (pa_n (pv 1) (pa_n (pv 2) pa_nil))))) (@pss_o _ _ _ (ps_ret (pe_call GC hr (by rfl) mC kC bC .nil pass0 (pa_n (pv 0) (pa_n (pv 1) pa_nil))))) pss_nil)
    (@pss_o _ _ _ (ps_ret (QE.h (qx_tup (qa_n (pv 1) (qa_n (pv 2) (qa_tup qa_nil qa_nil)))))))), ?_⟩
  have at0 : atI [V.int b, V.int l, V.ref c] 0 = some (.int b) := atI_nat (j := 0) rfl
  have at1 : atI [V.int b, V.int l, V.ref c] 1 = some (.int l) := atI_nat (j := 1) rfl
  have at2 : atI [V.int b, V.int l, V.ref c] 2 = some (.ref c) := atI_nat (j := 2) rfl
  refine ⟨_, rfl, _, rfl, rb, _, _, .int b, rfl, rfl, hb, at0, _, _, rfl, rfl, _, rfl, ite2 (fun h => ⟨_, rfl, q1 (of_decide_eq_true h)⟩) (fun h => ?_)⟩
  have g1 : b < p := by have := ndec h; omega
  refine ⟨_, rfl, _, rfl, _, rfl, _, t, p, b, l, ts, rfl, ⟨es, hX⟩, _, rfl, ite2 (fun h2 => ?_) (fun h2 => ?_)⟩
  · unfold agreesB at h2
    simp only [Bool.or_eq_true, Bool.and_eq_true, decide_eq_true_eq] at h2
    have h3 : p ≤ endP b ts ∧ termAt b l ts p = t := by
      rcases h2 with h2 | h2
      · omega
      · exact h2
    refine ⟨_, rfl, _, rfl, _, b, l, es, ts, p, rfl, hX, by omega, h3.1, fun u H' hu s' => q2 g1 h3.1 h3.2 u H' (by rw [← h3.2]; exact hu) s'⟩
  · have h3 : ¬ (p ≤ endP b ts ∧ termAt b l ts p = t) := fun g => h2 (by unfold agreesB; simp [g.1, g.2])
    refine ⟨_, rfl, _, rfl, tiny (by show 0 ≤ 1000; decide), fun p1 hp1 => ⟨tiny (by show 3 ≤ 1000; decide), fun p2 hp2 => ?_⟩⟩
    have s2 := same_upd (o := HO.tup [V.int p, V.int t, V.ref p1]) hp2
    exact q3 g1 h3 (.ref p2) _ ⟨⟨p2, p1, rfl, upd_same, s2 _ _ upd_same⟩, .nil, by simp⟩ ((same_upd hp1).trans s2)
end
end K1
set_option Elab.async false
set_option linter.all false
set_option maxRecDepth 100000
set_option maxHeartbeats 4000000
namespace K1
open PySem L2 Kp
/-! ### logs: entries with their terms; where two have the same term at a place they are the same up to there -/
abbrev Lg := List (V × Int)
def vO (L : Lg) : List V := L.map (·.1)
def tO (L : Lg) : List Int := L.map (·.2)
theorem vO_len (L : Lg) : (vO L).length = L.length := List.length_map ..
theorem tO_len (L : Lg) : (tO L).length = L.length := List.length_map ..
theorem vO_drop (L : Lg) (n : Nat) : vO (L.drop n) = (vO L).drop n := List.map_drop ..
theorem tO_drop (L : Lg) (n : Nat) : tO (L.drop n) = (tO L).drop n := List.map_drop ..
theorem vO_take (L : Lg) (n : Nat) : vO (L.take n) = (vO L).take n := List.map_take ..
theorem tO_take (L : Lg) (n : Nat) : tO (L.take n) = (tO L).take n := List.map_take ..
theorem vO_app (L M : Lg) : vO (L ++ M) = vO L ++ vO M := List.map_append ..
theorem tO_app (L M : Lg) : tO (L ++ M) = tO L ++ tO M := List.map_append ..
theorem tO_get {L : Lg} {i : Nat} {x : V × Int} (h : L[i]? = some x) : (tO L)[i]? = some x.2 := by unfold tO; rw [List.getElem?_map, h]; rfl
theorem vO_get {L : Lg} {i : Nat} {x : V × Int} (h : L[i]? = some x) : (vO L)[i]? = some x.1 := by unfold vO; rw [List.getElem?_map, h]; rfl
def tAt (L : Lg) (p : Nat) : Int := if p = 0 then 0 else (tO L).getD (p - 1) 0
theorem tAt_succ {L : Lg} {i : Nat} {x : V × Int} (h : L[i]? = some x) : tAt L (i + 1) = x.2 := by
  unfold tAt
  rw [if_neg (by omega), Nat.add_sub_cancel, List.getD_eq_getElem?_getD, tO_get h]; rfl
theorem tAt_take {L : Lg} {j p : Nat} (h : p ≤ j) : tAt (L.take j) p = tAt L p := by
  unfold tAt
  by_cases hp : p = 0
  · rw [if_pos hp, if_pos hp]
  · rw [if_neg hp, if_neg hp, tO_take, List.getD_eq_getElem?_getD, List.getD_eq_getElem?_getD, List.getElem?_take_of_lt (by omega)]
theorem tAt_of_take {L M : Lg} {p : Nat} (h : L.take p = M.take p) : tAt L p = tAt M p := by
  rw [← tAt_take (L := L) (Nat.le_refl p), h, tAt_take (Nat.le_refl p)]
def Mt (L M : Lg) : Prop := ∀ (i : Nat) (x y : V × Int), L[i]? = some x → M[i]? = some y → x.2 = y.2 → L.take (i + 1) = M.take (i + 1)
theorem Mt.symm {L M : Lg} (h : Mt L M) : Mt M L := fun i x y hx hy e => (h i y x hy hx e.symm).symm
theorem Mt.refl (L : Lg) : Mt L L := fun _ _ _ _ _ _ => rfl
theorem Mt.take {L M : Lg} (h : Mt L M) (j : Nat) : Mt (L.take j) M := by
  intro i x y hx hy e
  by_cases hi : i < j
  · rw [List.getElem?_take_of_lt hi] at hx
    rw [List.take_take, Nat.min_eq_left (by omega)]
    exact h i x y hx hy e
  · rw [List.getElem?_take_eq_none (by omega)] at hx
    cases hx
theorem Mt.new {L M N : Lg} {n : Nat} {t : Int} (h : Mt L M) (hN : ∀ x ∈ N, x.2 = t) (hM : ∀ y ∈ M, y.2 < t) : Mt (L.take n ++ N) M := by
  intro i x y hx hy e
  by_cases hi : i < (L.take n).length
  · rw [List.getElem?_append_left hi] at hx
    have := Mt.take h n i x y hx hy e
    rw [List.take_append_of_le_length (by omega)]
    exact this
  · rw [List.getElem?_append_right (by omega)] at hx
    have h1 := hN x (List.mem_of_getElem? hx)
    have h2 := hM y (List.mem_of_getElem? hy)
    omega
def Ag (M E : Lg) (p : Nat) : Prop := p ≤ M.length ∧ M.take p = E.take p
theorem Ag.zero (M E : Lg) : Ag M E 0 := ⟨Nat.zero_le _, by rw [List.take_zero, List.take_zero]⟩
theorem Ag.mono {M E : Lg} {p q : Nat} (h : Ag M E p) (hq : q ≤ p) : Ag M E q := by
  refine ⟨Nat.le_trans hq h.1, ?_⟩
  have := congrArg (List.take q) h.2
  rwa [List.take_take, List.take_take, Nat.min_eq_left hq] at this
theorem mt_ag {M E : Lg} {p : Nat} (h : Mt M E) (h1 : p ≤ M.length) (h2 : p ≤ E.length) (e : tAt M p = tAt E p) : Ag M E p := by
  cases p with
  | zero => exact Ag.zero _ _
  | succ i =>
    refine ⟨h1, h i M[i] E[i] (by simp) (by simp) ?_⟩
    rwa [tAt_succ (x := M[i]) (by simp), tAt_succ (x := E[i]) (by simp)] at e
theorem endP_row {L : Lg} {b : Nat} (hb : b ≤ L.length) : endP (b : Int) (tO (L.drop b)) = (L.length : Int) := by
  unfold endP; rw [tO_len, List.length_drop]; omega
theorem termAt_row {L : Lg} {b p : Nat} (h1 : b ≤ p) (h2 : p ≤ L.length) : termAt (b : Int) (tAt L b) (tO (L.drop b)) (p : Int) = tAt L p := by
  unfold termAt
  by_cases e : p = b
  · subst e; rw [if_pos rfl]
  · rw [if_neg (by omega)]
    have e1 : ((p : Int) - (b : Int) - 1).toNat = p - b - 1 := by omega
    rw [e1, tO_drop, List.getD_eq_getElem?_getD, List.getElem?_drop]
    unfold tAt
    rw [if_neg (by omega), List.getD_eq_getElem?_getD]
    congr 2
    omega
theorem ag_iff {M E : Lg} {b p : Nat} (m : Mt M E) (hb : b ≤ M.length) (pre : M.take b = E.take b) (hp : p ≤ E.length) : agreesB (b : Int) (tAt M b) (tO (M.drop b)) (p : Int) (tAt E p) = true ↔ Ag M E p := by
  unfold agreesB
  rw [endP_row hb]
  simp only [Bool.or_eq_true, Bool.and_eq_true, decide_eq_true_eq]
  constructor
  · rintro (h | ⟨h1, h2⟩)
    · exact Ag.mono ⟨hb, pre⟩ (by omega)
    · by_cases hpb : p < b
      · exact Ag.mono ⟨hb, pre⟩ (by omega)
      · rw [termAt_row (by omega) (by omega)] at h2
        exact mt_ag m (by omega) hp h2
  · intro h
    by_cases hpb : p < b
    · exact .inl (by omega)
    · have := h.1
      refine .inr ⟨by omega, ?_⟩
      rw [termAt_row (by omega) (by omega)]
      exact tAt_of_take h.2
theorem sameN_all {xs ys : List Int} (h : ∀ i, i < ys.length → xs[i]? = ys[i]?) : sameN xs ys = ys.length := by
  obtain ⟨a1, a2⟩ := sameN_le xs ys
  by_cases hlt : sameN xs ys < ys.length
  · have e := h _ hlt
    have h1 : sameN xs ys < xs.length := by
      rw [List.getElem?_eq_getElem hlt] at e
      exact (List.getElem?_eq_some_iff.mp e).1
    exact absurd e (sameN_ne h1 hlt)
  · omega
/-! ### what a row that is handed on may be -/
structure Sg (E O : Lg) (hb rb b : Nat) (M : Lg) : Prop where
  lo : rb ≤ b
  bs : b = rb ∨ b = hb
  le : b ≤ M.length
  pre : M.take b = E.take b
  src : M = O ∨ ∃ j, j ≤ E.length ∧ M = E.take j
  al : sameN (tO E) (tO O) = E.length → M = O
section
variable {E O M : Lg} {hb rb b p n : Nat}
theorem Sg.mt (g : Sg E O hb rb b M) (h : Mt O E) : Mt M E := by
  rcases g.src with rfl | ⟨j, _, rfl⟩
  · exact h
  · exact (Mt.refl E).take j
theorem ag_al (h : Mt O E) (ha : sameN (tO E) (tO O) = E.length) (hp : p ≤ E.length) : Ag O E p := by
  obtain ⟨a1, a2⟩ := sameN_le (tO E) (tO O)
  rw [tO_len] at a1 a2
  refine mt_ag h (by omega) hp ?_
  cases p with
  | zero => rfl
  | succ i =>
    have := sameN_eq (xs := tO E) (ys := tO O) (i := i) (by omega)
    unfold tAt
    rw [if_neg (by omega), if_neg (by omega), Nat.add_sub_cancel, List.getD_eq_getElem?_getD, List.getD_eq_getElem?_getD, this]
theorem ag_low (h : Mt O E) (hp : p ≤ sameN (tO E) (tO O)) : Ag O E p := by
  obtain ⟨a1, a2⟩ := sameN_le (tO E) (tO O)
  rw [tO_len] at a1 a2
  refine mt_ag h (by omega) (by omega) ?_
  cases p with
  | zero => rfl
  | succ i =>
    have := sameN_eq (xs := tO E) (ys := tO O) (i := i) (by omega)
    unfold tAt
    rw [if_neg (by omega), if_neg (by omega), Nat.add_sub_cancel, List.getD_eq_getElem?_getD, List.getD_eq_getElem?_getD, this]
/-- a pack is taken, the row has its term there -/
theorem Sg.packed (g : Sg E O hb rb b M) (h1 : b < hb) (a : Ag M E hb) : Sg E O hb rb hb M :=
  ⟨by have := g.lo; omega, .inr rfl, a.1, a.2, g.src, g.al⟩
theorem Sg.packed2 (g : Sg E O hb rb b M) (h : Mt O E) (h1 : b < hb) (h2 : hb ≤ E.length) (a : ¬ Ag M E hb) : Sg E O hb rb hb (E.take hb) := by
  refine ⟨by have := g.lo; omega, .inr rfl, ?_, ?_, .inr ⟨hb, h2, rfl⟩, fun ha => ?_⟩
  · rw [List.length_take]; omega
  · rw [List.take_take, Nat.min_self]
  · have := g.al ha
    subst this
    exact absurd (ag_al h ha h2) a
theorem stOf_nat (b p : Nat) : stOf (b : Int) (p : Int) = ((max b p : Nat) : Int) := by unfold stOf; split <;> omega
theorem comeN_nat (b p : Nat) : comeN (b : Int) (p : Int) = max b p - p := by unfold comeN; rw [stOf_nat]; omega
theorem ownN_nat (b p : Nat) : ownN (b : Int) (p : Int) = max b p - b := by unfold ownN; rw [stOf_nat]; omega
def fN (M E : Lg) (b p n : Nat) : Nat := fillN (b : Int) (p : Int) (tO (M.drop b)) (tO ((E.drop p).take n))
theorem fN_eq : fN M E b p n = sameN (tO (M.drop (max b p))) (tO (((E.drop p).take n).drop (max b p - p))) := by
  unfold fN fillN
  rw [comeN_nat, ownN_nat, ← tO_drop, ← tO_drop, List.drop_drop]
  congr 3
  omega
theorem come_at {i : Nat} {q : Nat} (hq : p ≤ q) (hi : i < (((E.drop p).take n).drop (q - p)).length) : (((E.drop p).take n).drop (q - p))[i]? = E[q + i]? ∧ q + i < E.length := by
  rw [List.length_drop, List.length_take, List.length_drop] at hi
  rw [List.getElem?_drop, List.getElem?_take_of_lt (by omega), List.getElem?_drop]
  refine ⟨by congr 1; omega, by omega⟩
theorem fill_pre (m : Mt M E) (hb : b ≤ M.length) (pre : M.take b = E.take b) (a : Ag M E p) : Ag M E (max b p + fN M E b p n) := by
  have aq : Ag M E (max b p) := by
    rcases Nat.le_total b p with h | h
    · rw [Nat.max_eq_right h]; exact a
    · rw [Nat.max_eq_left h]; exact ⟨hb, pre⟩
  obtain ⟨a1, a2⟩ := sameN_le (tO (M.drop (max b p))) (tO (((E.drop p).take n).drop (max b p - p)))
  rw [← fN_eq (n := n), tO_len] at a1 a2
  rw [List.length_drop] at a1
  cases hf : fN M E b p n with
  | zero => exact aq
  | succ g =>
    rw [hf] at a1 a2
    obtain ⟨e1, e2⟩ := come_at (E := E) (p := p) (n := n) (i := g) (q := max b p) (by omega) (by omega)
    have e3 := sameN_eq (xs := tO (M.drop (max b p))) (ys := tO (((E.drop p).take n).drop (max b p - p))) (i := g) (by rw [← fN_eq (n := n), hf]; omega)
    have h1 := aq.1
    have hm : max b p + g < M.length := by omega
    have x1 : (tO (M.drop (max b p)))[g]? = some (M[max b p + g]).2 := tO_get (by rw [List.getElem?_drop]; simp [hm])
    have x2 : (tO (((E.drop p).take n).drop (max b p - p)))[g]? = some (E[max b p + g]).2 := tO_get (by rw [e1]; simp [e2])
    rw [x1, x2] at e3
    exact ⟨by omega, m (max b p + g) M[max b p + g] E[max b p + g] (by simp [hm]) (by simp [e2]) (Option.some.inj e3)⟩
theorem come_len : ((tO ((E.drop p).take n)).drop (comeN (b : Int) (p : Int))).length = min n (E.length - p) - (max b p - p) := by
  rw [comeN_nat, List.length_drop, tO_len, List.length_take, List.length_drop]
theorem fill_all (m : Mt M E) (hb : b ≤ M.length) (pre : M.take b = E.take b) (a : Ag M E p) (hf : fN M E b p n = min n (E.length - p) - (max b p - p)) : Ag M E (p + min n (E.length - p)) := by
  have := fill_pre (n := n) m hb pre a
  exact this.mono (by omega)
theorem fill_not (m : Mt M E) (hb : b ≤ M.length) (pre : M.take b = E.take b) (a : Ag M E p) (hp : p ≤ E.length) (hf : fN M E b p n ≠ min n (E.length - p) - (max b p - p)) :
    (E.take (p + min n (E.length - p))).drop b = (M.drop b).take (max b p - b + fN M E b p n) ++ ((E.drop p).take n).drop (max b p - p + fN M E b p n) ∧ b ≤ p + min n (E.length - p) := by
  obtain ⟨h1, h2⟩ := fill_pre (n := n) m hb pre a
  obtain ⟨_, a2⟩ := sameN_le (tO (M.drop (max b p))) (tO (((E.drop p).take n).drop (max b p - p)))
  rw [← fN_eq (n := n), tO_len, List.length_drop, List.length_take, List.length_drop] at a2
  generalize fN M E b p n = f at *
  have hlt : max b p + f < p + min n (E.length - p) := by omega
  refine ⟨?_, by omega⟩
  have e1 : (M.drop b).take (max b p - b + f) = (E.drop b).take (max b p - b + f) := by
    have := congrArg (List.drop b) h2
    rw [List.drop_take, List.drop_take] at this
    rwa [show max b p + f - b = max b p - b + f by omega] at this
  rw [e1, List.drop_take, show p + min n (E.length - p) - b = (max b p - b + f) + (min n (E.length - p) - (max b p - p + f)) by omega, List.take_add, List.drop_drop, List.drop_take, List.drop_drop]
  congr 1
  rw [show b + (max b p - b + f) = max b p + f by omega, show p + (max b p - p + f) = max b p + f by omega]
  rcases Nat.le_total n (E.length - p) with h | h
  · rw [Nat.min_eq_left h]
  · rw [Nat.min_eq_right h, List.take_of_length_le (by rw [List.length_drop]; omega), List.take_of_length_le (by rw [List.length_drop]; omega)]
theorem fill_al (h : Mt O E) (ha : sameN (tO E) (tO O) = E.length) : fN O E b p n = min n (E.length - p) - (max b p - p) := by
  have hl : (tO (((E.drop p).take n).drop (max b p - p))).length = min n (E.length - p) - (max b p - p) := by rw [tO_len, List.length_drop, List.length_take, List.length_drop]
  rw [fN_eq, sameN_all, hl]
  intro i hi
  rw [tO_len] at hi
  obtain ⟨e1, e2⟩ := come_at (E := E) (p := p) (n := n) (q := max b p) (by omega) hi
  have e3 := sameN_eq (xs := tO E) (ys := tO O) (i := max b p + i) (by omega)
  rw [tO_drop, List.getElem?_drop, ← e3]
  unfold tO
  rw [List.getElem?_map, List.getElem?_map, e1]
theorem Sg.filled (g : Sg E O hb rb b M) (h : Mt O E) (a : Ag M E p) (hp : p ≤ E.length) (hf : fN M E b p n ≠ min n (E.length - p) - (max b p - p)) : Sg E O hb rb b (E.take (p + min n (E.length - p))) ∧ Ag (E.take (p + min n (E.length - p))) E (p + min n (E.length - p)) := by
  have h2 := (fill_not (g.mt h) g.le g.pre a hp hf).2
  refine ⟨⟨g.lo, g.bs, by rw [List.length_take]; omega, by rw [List.take_take, Nat.min_eq_left h2], .inr ⟨_, by omega, rfl⟩, fun ha => ?_⟩, by rw [List.length_take]; omega, by rw [List.take_take, Nat.min_self]⟩
  have := g.al ha
  subst this
  exact absurd (fill_al h ha) hf
/-- all of the head's log is there: which row that is -/
theorem Sg.done (g : Sg E O hb rb b M) (h : Mt O E) (a : Ag M E E.length) : (sameN (tO E) (tO O) = E.length ∧ M = O) ∨ (sameN (tO E) (tO O) < E.length ∧ M = E) := by
  obtain ⟨a1, _⟩ := sameN_le (tO E) (tO O)
  rw [tO_len] at a1
  by_cases ha : sameN (tO E) (tO O) = E.length
  · exact .inl ⟨ha, g.al ha⟩
  · refine .inr ⟨by omega, ?_⟩
    rcases g.src with rfl | ⟨j, hj, rfl⟩
    · exfalso
      apply ha
      have e : tO E = (tO M).take E.length := by rw [← tO_take, a.2, List.take_length]
      have hs : sameN (tO M) (tO E) = (tO E).length := sameN_all fun i hi => by
        rw [e, List.getElem?_take_of_lt (by rw [tO_len] at hi; exact hi)]
      obtain ⟨b1, b2⟩ := sameN_le (tO E) (tO M)
      rw [tO_len] at b1 b2 hs
      by_cases hlt : sameN (tO E) (tO M) < E.length
      · have := sameN_ne (xs := tO E) (ys := tO M) (by rw [tO_len]; exact hlt) (by rw [tO_len]; have := a.1; omega)
        exact absurd (sameN_eq (xs := tO M) (ys := tO E) (by omega)).symm this
      · omega
    · have := a.1
      rw [List.length_take] at this
      exact List.take_of_length_le (by omega)
end
end K1
set_option Elab.async false
set_option linter.all false
set_option maxRecDepth 100000
set_option maxHeartbeats 4000000
namespace Kp
open PySem L2 PySem.Spec PyProof.Rows
/-! ### things that are the same at every part, however they are known: == is True -/
inductive Alike (K : PySem.W.Frag) (H : Hp) : Nat → V → V → Prop
  | flat {n : Nat} {v : V} (h : flatV v = true) : Alike K H n v v
  | ref {n : Nat} (a : Addr) : Alike K H n (.ref a) (.ref a)
  | tup {n : Nat} {a b : Addr} {xs ys : List V} (h1 : SqT K H a xs) (h2 : SqT K H b ys) (hl : xs.length = ys.length) (h : ∀ (i : Nat) (x y : V), xs[i]? = some x → ys[i]? = some y → Alike K H n x y) : Alike K H (n + 1) (.ref a) (.ref b)
theorem Alike.self {K : PySem.W.Frag} {H : Hp} {n B : Nat} {v : V} (t : ThN B H v) : Alike K H n v v := by
  cases t with
  | tup e l r => exact .ref _
  | _ => exact .flat rfl
theorem eqV_self {v : V} (h : flatV v = true) : eqV v v = true := by
  cases v with
  | bl b => cases b <;> rfl
  | int i => simp [eqV]
  | str x => simp [eqV]
  | non => rfl
  | _ => cases h
theorem eq_alike {X : Cx} {pins : List (Addr × Obj)} {σ : L2.St} {H : Hp} {s : Shared} (I : Inv X pins σ H s) : ∀ (n : Nat) (v u : V) (uv uu : Value) (A : Around), Alike X.K H n v u → RelV v uv → RelV u uu → A.units + n < cLine → SeqAt.EqAt A s uv uu true := by
  intro n
  induction n with
  | zero =>
    intro v u uv uu A h rv ru hu
    cases h with
    | flat f =>
      have := eqAt_V (A := A) (s := s) rv ru f f
      rw [eqV_self f] at this
      exact this
    | ref a => cases rv; cases ru; exact .same _
  | succ n ih =>
    intro v u uv uu A h rv ru hu
    cases h with
    | flat f =>
      have := eqAt_V (A := A) (s := s) rv ru f f
      rw [eqV_self f] at this
      exact this
    | ref a => cases rv; cases ru; exact .same _
    | @tup _ a b xs ys h1 h2 hl h =>
      cases rv
      cases ru
      by_cases hab : a = b
      · subst hab; exact .same _
      · refine SeqAt.EqAt.of_refs hab ?_
        have hu0 : A.units < cLine := by omega
        obtain ⟨its, q1, p1, _⟩ := I.tuple h1
        obtain ⟨jts, q2, p2, _⟩ := I.tuple h2
        have hl2 : its.toArray.size = jts.toArray.size := by simp [← q1.length, ← q2.length, hl]
        have z := SeqAt.RcAt.tuples (e := fun _ => true) (show s.heap.IsTuple a its.toArray from p1) (show s.heap.IsTuple b jts.toArray from p2) hu0 (fun j g1 g2 => by
          obtain ⟨x, ex, rx⟩ := Vals.at q1 g1
          obtain ⟨y, ey, ry⟩ := Vals.at q2 g2
          exact ih x y _ _ A.in1 (h j x y ex ey) rx ry (by show A.units + 1 + n < cLine; omega))
        rw [all_true, hl2, beq_self_eq_true] at z
        exact z
def rAl (K : PySem.W.Frag) (c : Bool) : R2 := fun x y H Q => ∃ p q xs ys n, x = .ref p ∧ y = .ref q ∧ SqT K H p xs ∧ SqT K H q ys ∧ xs.length = ys.length ∧ (∀ (i : Nat) (x y : V), xs[i]? = some x → ys[i]? = some y → Alike K H n x y) ∧ n ≤ 90 ∧ Q (.bl c) H
theorem op_eqA {X : Cx} (hu : X.A.units + 100 < cLine) : OpR X (compareOp .Eq) (rAl X.K true) := by
  intro pins s σ H x y v u Q I rx ry h
  obtain ⟨p, q', xs, ys, n, rfl, rfl, h1, h2, hl, h, hn, q⟩ := h
  cases rx
  cases ry
  obtain ⟨its, q1, p1, _⟩ := I.tuple h1
  obtain ⟨jts, q2, p2, _⟩ := I.tuple h2
  have hl2 : its.toArray.size = jts.toArray.size := by simp [← q1.length, ← q2.length, hl]
  refine SeqAt.eq_tupleAt (e := fun _ => true) (show s.heap.IsTuple p its.toArray from p1) (show s.heap.IsTuple q' jts.toArray from p2) (by omega) (fun j g1 g2 => ?_) ⟨.bl true, H, I, ?_, q⟩
  · obtain ⟨x, ex, rx⟩ := Vals.at q1 g1
    obtain ⟨y, ey, ry⟩ := Vals.at q2 g2
    exact eq_alike I n x y _ _ X.A.in1 (h j x y ex ey) rx ry (by show X.A.units + 1 + n < cLine; omega)
  · rw [all_true, hl2, beq_self_eq_true]; rfl
theorem op_neA {X : Cx} (hu : X.A.units + 100 < cLine) : OpR X (compareOp .NotEq) (rAl X.K false) := by
  intro pins s σ H x y v u Q I rx ry h
  obtain ⟨p, q', xs, ys, n, rfl, rfl, h1, h2, hl, h, hn, q⟩ := h
  cases rx
  cases ry
  obtain ⟨its, q1, p1, _⟩ := I.tuple h1
  obtain ⟨jts, q2, p2, _⟩ := I.tuple h2
  have hl2 : its.toArray.size = jts.toArray.size := by simp [← q1.length, ← q2.length, hl]
  refine SeqAt.RcNeAt.tuples (e := fun _ => true) (show s.heap.IsTuple p its.toArray from p1) (show s.heap.IsTuple q' jts.toArray from p2) (by omega) (fun j g1 g2 => ?_) X.prog X.w X.xe _ ⟨.bl false, H, I, ?_, q⟩
  · obtain ⟨x, ex, rx⟩ := Vals.at q1 g1
    obtain ⟨y, ey, ry⟩ := Vals.at q2 g2
    exact eq_alike I n x y _ _ X.A.in1 (h j x y ex ey) rx ry (by show X.A.units + 1 + n < cLine; omega)
  · rw [all_true, hl2, beq_self_eq_true]; rfl
end Kp
namespace L2
open PySem
theorem Room.units100 {k : Nat} {A : Around} (r : Room k A) : A.units + 100 < cLine := by have := r.un; omega
end L2
set_option Elab.async false
set_option linter.all false
set_option maxRecDepth 100000
set_option maxHeartbeats 4000000
namespace Kp
open PySem L2 PySem.Spec PyProof.Rows
/-! ### two tuples whose first items are unlike ints: == is False, whatever stands behind -/
theorem tuple_headW (l b : Addr) (xs ys : Array Value) (n n2 : Nat) (dd dd2 : Option Addr) (sl sl2 : Array (Option Value)) (z1 : 0 < xs.size) (z2 : 0 < ys.size) :
    Meets (Builtin.«tuple.__eq__» ⟨[.ref l, .ref b], []⟩)
      (fun A R s => s.heap.get? l = some ⟨.type "tuple", dd, .seq xs n, sl⟩ ∧ s.heap.get? b = some ⟨.type "tuple", dd2, .seq ys n2, sl2⟩ ∧ SeqAt.EqAt A.in1 s xs[0] ys[0] false ∧ R (.ok (.ret (.bool false))) s) :=
  .of_wp fun prog w A R s hyp => by
    obtain ⟨hp, gg, dr, tk, os⟩ := s; obtain ⟨hl, hb, he, hR⟩ := hyp
    have f2 := AutoSeq1.sub_tuple_tuple
    have hz : ∃ r, xs.toList.zip ys.toList = (xs[0], ys[0]) :: r := by
      obtain ⟨xl⟩ := xs
      obtain ⟨yl⟩ := ys
      cases xl with
      | nil => exact absurd z1 (Nat.lt_irrefl _)
      | cons x xl =>
        cases yl with
        | nil => exact absurd z2 (Nat.lt_irrefl _)
        | cons y yl => exact ⟨_, rfl⟩
    obtain ⟨r0, hz⟩ := hz
    wp_walk using wpAny_loadPart' hl, wpAny_loadPart' hb, wpAny_forIn_list _ (fun rest c s' => c.1 = none ∧ s' = ⟨hp, gg, dr, tk, os⟩ ∧ rest = xs.toList.zip ys.toList) _
    case turn =>
      rintro ⟨y, x⟩ rest c s' ⟨hc, rfl, er⟩
      rw [hz] at er
      injection er with e1 e2
      injection e1 with e3 e4
      subst e3 e4
      refine wpAny_bind (he prog w _ _ ?_)
      wp_walk
      exact ⟨_, rfl, hR⟩
    case fin =>
      rintro ⟨c1, c2⟩ s' ⟨hc, rfl, er⟩
      rw [hz] at er
      cases er
    case h => exact ⟨rfl, rfl, rfl⟩
/-- == of two pairs that begin with ints: the very same one, or of unlike ints -/
def rEqHd : R2 := fun x y H Q => ∃ p q t u a b, x = .ref p ∧ y = .ref q ∧ H p = some (.tup [.int t, a]) ∧ H q = some (.tup [.int u, b]) ∧ ThN 16 H a ∧ (t = u → p = q) ∧ Q (.bl (decide (t = u))) H
theorem op_eqHd {X : Cx} (hu : X.A.units + 100 < cLine) : OpR X (compareOp .Eq) rEqHd := by
  intro pins s σ H x y v u Q I rx ry h
  obtain ⟨p, q', t, u', a, b, rfl, rfl, h1, h2, ta, hs, q⟩ := h
  by_cases e : t = u'
  · have := hs e
    subst this e
    rw [decide_eq_true rfl] at q
    refine op_eqA hu pins s σ H _ _ v u Q I rx ry ⟨p, p, _, _, 1, rfl, rfl, SqT.of h1, SqT.of h1, rfl, fun i x y e1 e2 => ?_, by decide, q⟩
    rw [e1] at e2
    cases e2
    match i, e1 with
    | 0, e1 => cases e1; exact .flat rfl
    | 1, e1 =>
      cases e1
      exact Alike.self ta
    | i + 2, e1 => simp at e1
  · rw [decide_eq_false e] at q
    cases rx
    cases ry
    obtain ⟨its, q1, p1, _⟩ := I.tuple (SqT.of h1)
    obtain ⟨jts, q2, p2, _⟩ := I.tuple (SqT.of h2)
    have l1 := q1.length
    have l2 := q2.length
    have z1 : 0 < its.toArray.size := by rw [List.size_toArray, ← l1]; exact Nat.zero_lt_succ _
    have z2 : 0 < jts.toArray.size := by rw [List.size_toArray, ← l2]; exact Nat.zero_lt_succ _
    obtain ⟨⟨cls, dd, data, sl⟩, ho, hc, n, hd⟩ := id p1
    obtain ⟨⟨cls2, dd2, data2, sl2⟩, ho2, hc2, n2, hd2⟩ := id p2
    simp only at hc hd hc2 hd2
    subst hc hd hc2 hd2
    have he : SeqAt.EqAt X.A.in1 s its.toArray[0] jts.toArray[0] false := by
      obtain ⟨w1, e1, r1⟩ := Vals.at q1 z1
      obtain ⟨w2, e2, r2⟩ := Vals.at q2 z2
      cases e1
      cases e2
      have z := eqAt_V (A := X.A.in1) (s := s) r1 r2 rfl rfl
      rwa [show eqV (V.int t) (V.int u') = false by simp [eqV, e]] at z
    exact richCompare_meets_room (op := .Eq) ⟨_, ho, rfl⟩ ⟨_, ho2, rfl⟩ F.slot_tuple_eq F.entry_tuple_eq (F.args_tuple_eq_2 _ _) (tuple_headW p q' _ _ n n2 dd dd2 sl sl2 z1 z2)
      ⟨ho, ho2, he, (fun x => nomatch x), ⟨.bl false, H, I, rfl, q⟩⟩ (by omega)
end Kp
set_option Elab.async false
set_option linter.all false
set_option maxRecDepth 100000
set_option maxHeartbeats 4000000
namespace K1
open PySem L2 Kp
section
variable {P : Program} {w : World} {K : PySem.W.Frag} {mg : Str → Option Value} {base : Heap}
def RowL (K : PySem.W.Frag) (H : Hp) (v : V) (b : Nat) (L : Lg) : Prop := RowX K H v (b : Int) (tAt L b) (vO (L.drop b)) (tO (L.drop b))
def LogV (H : Hp) (a : Addr) (L : Lg) : Prop := H a = some (.tup (vO L)) ∧ Ents H (vO L) (tO L) ∧ L.length ≤ 650
theorem LogV.same {H H' : Hp} {a : Addr} {L : Lg} (h : LogV H a L) (s : Same H H') : LogV H' a L := ⟨s _ _ h.1, h.2.1.same s, h.2.2⟩
theorem log_at {H : Hp} {L : Lg} {i : Nat} (hi : i < L.length) (h : Ents H (vO L) (tO L)) : ∃ p x, L[i]? = some (.ref p, (L[i]).2) ∧ H p = some (.tup [.int (L[i]).2, x]) ∧ ThN 16 H x := by
  obtain ⟨p, x, g, hp, tx⟩ := h.get (i := i) (by rw [tO_len]; exact hi)
  have e1 : L[i]? = some L[i] := by simp [hi]
  have e2 := vO_get e1
  rw [g] at e2
  have e3 : (tO L)[i]'(by rw [tO_len]; exact hi) = (L[i]).2 := by
    have := tO_get e1
    rw [List.getElem?_eq_getElem (by rw [tO_len]; exact hi)] at this
    exact Option.some.inj this
  rw [e3] at hp
  refine ⟨p, x, ?_, hp, tx⟩
  rw [e1]
  have e4 := Option.some.inj e2
  show some ((L[i]).1, (L[i]).2) = _
  rw [← e4]
def spAlike : Sp := fun vs H Q _ => ∃ (a c : Addr) (L M : Lg), vs = [.ref a, .ref c] ∧ LogV H a L ∧ LogV H c M ∧ Mt M L ∧ Q (.int (sameN (tO L) (tO M) : Nat)) H
theorem scAl : FnScope ["_law_log", "_law_other", "_law_many"] ["_law_log", "_law_other"] (defScope s__law_alike) := ⟨rfl, rfl, rfl, by decide +kernel, rfl, by decide +kernel, by decide +kernel⟩
theorem ok_alike {f : Addr} {fd : FuncData} (F : Fun K "_law_alike" "_law_alike" s__law_alike f fd) (T : Txt mg) : FnOk P w K mg base CX0 1 f fd ["_law_log", "_law_other"] spAlike := by
  refine F.ok scAl (fun vs H Q E ⟨_, _, _, _, e, _⟩ => by subst e; rfl) (fun cdv A outer s H vs Q E hr h => ?_)
  obtain ⟨a, c, L, M, rfl, ⟨ha, eL, _⟩, ⟨hc, eM, _⟩, m, q⟩ := h
  refine ⟨_, @pss_p _ _ _ _ _ (ps_set (i := 2) scAl.nd (by rfl) (by exact Or.inl rfl) (pe_int))
    (@pss_p _ _ _ _ _ (ps_while PassesOwn.never (PW.pt (pw_and (pt_cmpR op_lt (pv 2) (pe_callB call_len_seq (by rfl) T.len PySem.boot_len (pa_n (pv 0) pa_nil)) (nomark _)) (pw_and (pt_cmpR op_lt (pv 2) (pe_callB call_len_seq (by rfl) T.len PySem.boot_len (pa_n (pv 1) pa_nil)) (nomark _)) (pw_and1 (pt_cmpR (op_eqHd hr.units100) (pe_ix ix_tup (pv 0) (pv 2) px_n) (pe_ix ix_tup (pv 1) (pv 2) px_n) (nomark _)))))) (@pss_o _ _ _ (ps_set (i := 2) scAl.nd (by rfl) (by exact Or.inl rfl) (pe_op op_add (pv 2) (pe_int)))))
    (@pss_o _ _ _ (ps_ret (pv 2)))), ?_⟩
  obtain ⟨a1, a2⟩ := sameN_le (tO L) (tO M)
  rw [tO_len] at a1 a2
  have wa := SqT.of (K := K) ha
  have wc := SqT.of (K := K) hc
  refine ⟨fun k σ H' => ∃ i : Nat, σ = [some (.ref a), some (.ref c), some (.int i)] ∧ H' = H ∧ i ≤ sameN (tO L) (tO M) ∧ k = sameN (tO L) (tO M) - i, ⟨_, 0, rfl, rfl, Nat.zero_le _, rfl⟩, ?_⟩
  rintro k σ H' ⟨i, rfl, rfl, hi, rfl⟩
  refine ⟨_, rfl, _, rfl, a, _, rfl, .inr wa, _, _, rfl, rfl, _, rfl, ite2 (fun h1 => ?_) (fun h1 => ?_)⟩
  · have g1 : i < L.length := by have := of_decide_eq_true h1; rw [vO_len] at this; omega
    refine ⟨_, rfl, _, rfl, c, _, rfl, .inr wc, _, _, rfl, rfl, _, rfl, ite2 (fun h2 => ?_) (fun h2 => ?_)⟩
    · have g2 : i < M.length := by have := of_decide_eq_true h2; rw [vO_len] at this; omega
      obtain ⟨p, x, ep, hp, tx⟩ := log_at g1 eL
      obtain ⟨p', x', ep', hp', _⟩ := log_at g2 eM
      refine ⟨_, rfl, _, rfl, a, _, _, .ref p, rfl, rfl, wa, atI_nat (vO_get ep), _, rfl, _, rfl, c, _, _, .ref p', rfl, rfl, wc, atI_nat (vO_get ep'), p, p', _, _, x, x', rfl, rfl, hp, hp', tx, fun e => ?_, _, rfl, ite2 (fun h3 => ?_) (fun h3 => ?_)⟩
      · have := m i _ _ ep' ep e.symm
        have e2 := congrArg (fun l => l[i]?) this
        simp only [List.getElem?_take_of_lt (Nat.lt_succ_self i)] at e2
        rw [ep, ep'] at e2
        injection e2 with e2
        injection e2 with e2
        injection e2 with e2
        exact e2.symm
      · have e : (L[i]).2 = (M[i]).2 := of_decide_eq_true h3
        refine ⟨fun σ' H2 => σ' = [some (.ref a), some (.ref c), some (.int (i + 1 : Nat))] ∧ H2 = H' ∧ i + 1 ≤ sameN (tO L) (tO M), ?_, ?_⟩
        · rintro σ' H2 ⟨rfl, rfl, g⟩
          exact ⟨_, by omega, i + 1, rfl, rfl, g, rfl⟩
        · refine ⟨_, rfl, _, _, rfl, rfl, rfl, rfl, ?_⟩
          by_cases hlt : i < sameN (tO L) (tO M)
          · exact hlt
          · have hi2 : sameN (tO L) (tO M) = i := by omega
            have := sameN_ne (xs := tO L) (ys := tO M) (by rw [tO_len]; omega) (by rw [tO_len]; omega)
            rw [hi2, tO_get ep, tO_get ep'] at this
            exact absurd (congrArg some e) this
      · have e : ¬ (L[i]).2 = (M[i]).2 := ndec h3
        have hi2 : i = sameN (tO L) (tO M) := by
          by_cases hlt : i < sameN (tO L) (tO M)
          · have := sameN_eq hlt
            rw [tO_get ep, tO_get ep'] at this
            exact absurd (Option.some.inj this) e
          · omega
        exact ⟨_, rfl, by rw [hi2]; exact q⟩
    · have g2 : ¬ (i : Int) < ((vO M).length : Int) := ndec h2
      rw [vO_len] at g2
      exact iteF ⟨_, rfl, by rw [show i = sameN (tO L) (tO M) by omega]; exact q⟩
  · have g1 : ¬ (i : Int) < ((vO L).length : Int) := ndec h1
    rw [vO_len] at g1
    exact iteF ⟨_, rfl, by rw [show i = sameN (tO L) (tO M) by omega]; exact q⟩
def spRowL (K : PySem.W.Frag) : Sp := fun vs H Q _ => ∃ (a : Addr) (L : Lg) (b : Nat), vs = [.ref a, .int b] ∧ LogV H a L ∧ b ≤ L.length ∧ ∀ (v : V) (H' : Hp), RowL K H' v b L → Same H H' → Q v H'
theorem scRl : FnScope ["_law_log", "_law_base"] ["_law_log", "_law_base"] (defScope s__law_row) := ⟨rfl, rfl, rfl, by decide +kernel, rfl, by decide +kernel, by decide +kernel⟩
theorem ok_rowL {f : Addr} {fd : FuncData} (F : Fun K "_law_row" "_law_row" s__law_row f fd) (T : Txt mg) : FnOk P w K mg base CX0 1 f fd ["_law_log", "_law_base"] (spRowL K) := by
  refine F.ok scRl (fun vs H Q E ⟨_, _, _, e, _⟩ => by subst e; rfl) (fun cdv A outer s H vs Q E hr h => ?_)
  obtain ⟨a, L, b, rfl, ⟨ha, eL, hlen⟩, hb, q⟩ := h
  refine ⟨_, @pss_p _ _ _ _ _ (ps_if (pt_cmpR op_eq (pv 1) (pe_int) (nomark _)) (@pss_o _ _ _ (ps_ret (QE.h (qx_tup (qa_int (qa_int (qa_n (pv 0) qa_nil))))))) pss_nil)
    (@pss_o _ _ _ (ps_ret (QE.h (qx_tup (qa_n (pv 1) (qa_s (pe_ix ix_tup (pe_ix ix_tup (pv 0) (pe_op op_sub (pv 1) (pe_int)) px_b) (pe_int) px_i) (qa_s (pe_slice sl_tupV (pv 0) (po_some (pv 1)) po_none) qa_nil))))))), ?_⟩
  have wa := SqT.of (K := K) ha
  refine ⟨_, rfl, rfl, _, rfl, ite2 (fun h => ?_) (fun h => ?_)⟩
  · have e : b = 0 := by have := of_decide_eq_true h; simp only [V.int.injEq] at this; omega
    subst e
    refine ⟨_, rfl, tiny (by show 3 ≤ 1000; decide), fun p hp => ?_⟩
    have s1 := same_upd (o := HO.tup [V.int 0, V.int 0, V.ref a]) hp
    exact q (.ref p) _ ⟨⟨p, a, rfl, upd_same, s1 _ _ ha⟩, eL.same s1, by rw [tO_len, List.length_drop]; omega⟩ s1
  · have e : ¬ b = 0 := fun e => h (by subst e; rfl)
    obtain ⟨i, rfl⟩ : ∃ i, b = i + 1 := ⟨b - 1, by omega⟩
    obtain ⟨p, x, ep, hp, _⟩ := log_at (i := i) (by omega) eL
    have ei : ((i + 1 : Nat) : Int) - 1 = (i : Int) := by omega
    refine ⟨_, rfl, _, rfl, _, rfl, _, _, rfl, rfl, a, _, _, .ref p, rfl, rfl, wa, (by rw [ei]; exact atI_nat (vO_get ep)), p, _, _, .int (L[i]).2, rfl, rfl, SqT.of hp, atI_nat (j := 0) rfl, _, rfl, _, rfl, _, rfl, a, _, rfl, ha, fun r H2 hr2 s2 => ⟨tiny (by show 3 ≤ 1000; decide), fun p2 hp2 => ?_⟩⟩
    rw [cut_fromN] at hr2
    have s3 := same_upd (o := HO.tup [V.int ((i + 1 : Nat) : Int), V.int (L[i]).2, V.ref r]) hp2
    refine q (.ref p2) _ ⟨⟨p2, r, rfl, ?_, ?_⟩, ?_, by rw [tO_len, List.length_drop]; omega⟩ (s2.trans s3)
    · rw [tAt_succ ep]; exact upd_same
    · rw [vO_drop]; exact s3 _ _ hr2
    · rw [vO_drop, tO_drop]; exact (eL.same (s2.trans s3)).drop _
end
end K1
set_option Elab.async false
set_option linter.all false
set_option maxRecDepth 100000
set_option maxHeartbeats 4000000
namespace K1
open PySem L2 Kp
section
variable {P : Program} {w : World} {K : PySem.W.Frag} {mg : Str → Option Value} {base : Heap}
theorem atI_mem {α : Type} {xs : List α} {i : Int} (h0 : 0 ≤ i) (h1 : i < xs.length) : ∃ v, atI xs i = some v ∧ v ∈ xs := by
  obtain ⟨j, rfl⟩ := Int.eq_ofNat_of_zero_le h0
  have hj : j < xs.length := by omega
  exact ⟨xs[j], atI_nat (by simp [hj]), List.getElem_mem hj⟩
theorem app_len (x y : Str) : (x ++ y).length = x.length + y.length := by
  show (x.cps ++ y.cps).size = _
  rw [Array.size_append]
  rfl
def spNm : Sp := fun vs H Q _ => ∃ n : Int, vs = [.int n] ∧ ∀ x : Str, x.length ≤ 16 → Q (.str x) H
theorem scNb : FnScope ["_law_cell", "_law_some", "_law_found", "_law_rest", "_law_k"] ["_law_cell"] (defScope sNameBy) := ⟨rfl, rfl, rfl, by decide +kernel, rfl, by decide +kernel, by decide +kernel⟩
theorem ok_nm {f : Addr} {fd : FuncData} (F : Fun K "_law_name_by" "_law_name_by" sNameBy f fd) (T : Txt mg) : FnOk P w K mg base CX0 1 f fd ["_law_cell"] spNm := by
  refine F.ok scNb (fun vs H Q E ⟨_, e, _⟩ => by subst e; rfl) (fun cdv A outer s H vs Q E hr h => ?_)
  obtain ⟨n, rfl, q⟩ := h
  refine ⟨_, @pss_p _ _ _ _ _ (ps_set (i := 1) scNb.nd (by rfl) (by exact Or.inl rfl) (pe_str))
    (@pss_p _ _ _ _ _ (ps_set (i := 2) scNb.nd (by rfl) (by exact Or.inl rfl) (pe_str))
    (@pss_p _ _ _ _ _ (ps_set (i := 3) scNb.nd (by rfl) (by exact Or.inl rfl) (pe_op op_fdiv (pv 0) (pe_int)))
    (@pss_p _ _ _ _ _ (ps_for PassesOwn.never (by rfl) (pi_range1 (by rfl) T.range (pa_b (pe_op op_add (pe_int) (pe_op op_mod (pv 0) (pe_int))) pa_nil)) (pg_name (i := 4) scNb.nd (by rfl) (by exact Or.inl rfl)) (@pss_p _ _ _ _ _ (ps_set (i := 2) scNb.nd (by rfl) (by exact Or.inl rfl) (pe_op op_add_str (pv 2) (pe_ix ix_str (pv 1) (pe_op op_mod (pv 3) (pe_int)) px_b)))
    (@pss_o _ _ _ (ps_set (i := 3) scNb.nd (by rfl) (by exact Or.inl rfl) (pe_op op_fdiv (pv 3) (pe_int))))))
    (@pss_o _ _ _ (ps_ret (pv 2)))))), ?_⟩
  have la : ("abcdefghijklmnopqrstuvwxyz" : Str).length = 26 := by decide +kernel
  have lb : (("abcdefghijklmnopqrstuvwxyz" : Str).cps.toList).length = 26 := by rw [Array.length_toList]; exact la
  obtain ⟨e0, e1⟩ := emod_in n (m := 8) (by decide)
  obtain ⟨t, et⟩ := Int.eq_ofNat_of_zero_le (show 0 ≤ 1 + n % 8 by omega)
  refine ⟨_, rfl, _, _, rfl, rfl, ⟨by decide, by decide⟩, _, rfl, _, _, rfl, rfl, (by show (0 : Int) < 8; decide), _, _, rfl, rfl, _, rfl, ?_⟩
  show -(2 ^ 62) ≤ 1 + n % 8 ∧ 1 + n % 8 < 2 ^ 62 ∧ _
  rw [et]
  refine ⟨by omega, by omega, for_range (n := t) (fun i σ H' => ∃ (x : Str) (r : Int) (t : Option V), σ = [some (.int n), some (.str "abcdefghijklmnopqrstuvwxyz"), some (.str x), some (.int r), t] ∧ x.length = i ∧ H' = H)
    ⟨"", _, none, rfl, by decide +kernel, rfl⟩ ?_ ?_⟩
  · rintro i σ H' hi ⟨x, r, t', rfl, hx, rfl⟩
    obtain ⟨g0, g1⟩ := emod_in r (m := 26) (by decide)
    obtain ⟨d, hd, _⟩ := atI_mem (xs := ("abcdefghijklmnopqrstuvwxyz" : Str).cps.toList) g0 (by rw [lb]; exact g1)
    refine ⟨_, rfl, _, rfl, _, rfl, _, _, rfl, rfl, (by show (0 : Int) < 26; decide), _, _, d, rfl, rfl, (by rw [la, sizeLine_eq]; decide), hd, _, _, rfl, rfl, (by show x.length + 1 ≤ sizeLine; rw [sizeLine_eq]; omega), ?_⟩
    refine ⟨_, rfl, _, _, rfl, rfl, ⟨by decide, by decide⟩, _, _, _, rfl, ?_, rfl⟩
    rw [app_len, hx]; rfl
  · rintro σ H' ⟨x, r, t', rfl, hx, rfl⟩
    exact ⟨_, rfl, q x (by omega)⟩
def spBd : Sp := fun vs H Q _ => ∃ n : Int, vs = [.int n] ∧ ∀ z : Int, Q (.int z) H
theorem scBd : FnScope ["_law_number"] ["_law_number"] (defScope s__law_bounded) := ⟨rfl, rfl, rfl, by decide +kernel, rfl, by decide +kernel, by decide +kernel⟩
theorem ok_bd {f : Addr} {fd : FuncData} (F : Fun K "_law_bounded" "_law_bounded" s__law_bounded f fd) : FnOk P w K mg base CX0 1 f fd ["_law_number"] spBd := by
  refine F.ok scBd (fun vs H Q E ⟨_, e, _⟩ => by subst e; rfl) (fun cdv A outer s H vs Q E hr h => ?_)
  obtain ⟨n, rfl, q⟩ := h
  refine ⟨_, @pss_o _ _ _ (ps_ret (pe_op op_sub (pe_op op_mod (pe_op op_add (pv 0) (pe_op op_pow pe_int pe_int)) (pe_op op_pow pe_int pe_int)) (pe_op op_pow pe_int pe_int))), ?_⟩
  refine ⟨_, rfl, _, _, rfl, rfl, ⟨by decide, by decide, by decide⟩, _, _, rfl, rfl, _, _, rfl, rfl, ⟨by decide, by decide, by decide⟩, _, _, rfl, rfl, (by show (0 : Int) < 10 ^ (60 : Int).toNat; decide), _, _, rfl, rfl, ⟨by decide, by decide, by decide⟩, _, _, rfl, rfl, ?_⟩
  exact q _
end
end K1
set_option Elab.async false
set_option linter.all false
set_option maxRecDepth 100000
set_option maxHeartbeats 4000000
namespace K1
open PySem L2 Kp
section
variable {P : Program} {w : World} {K : PySem.W.Frag} {mg : Str → Option Value} {base : Heap}
/-! ### an entry -/
def spEnt : Sp := fun vs H Q _ => ∃ n t : Int, vs = [.int n, .int t] ∧ ∀ (p : Addr) (x : V) (H' : Hp), H' p = some (.tup [.int t, x]) → ThN 16 H' x → Same H H' → Q (.ref p) H'
theorem scEn : FnScope ["_law_cell", "_law_term", "_law_name"] ["_law_cell", "_law_term"] (defScope s__law_entry_by) := ⟨rfl, rfl, rfl, by decide +kernel, rfl, by decide +kernel, by decide +kernel⟩
theorem ok_ent {f : Addr} {fd : FuncData} (F : Fun K "_law_entry_by" "_law_entry_by" s__law_entry_by f fd) (T : Txt mg) (CN : Cal P w K mg base "_law_name_by" 1 ["_law_cell"] spNm) (CB : Cal P w K mg base "_law_bounded" 1 ["_law_number"] spBd) : FnOk P w K mg base CX0 2 f fd ["_law_cell", "_law_term"] spEnt := by
  refine F.ok scEn (fun vs H Q E ⟨_, _, e, _⟩ => by subst e; rfl) (fun cdv A outer s H vs Q E hr h => ?_)
  obtain ⟨n, t, rfl, q⟩ := h
  obtain ⟨gN, dN, GN, mN, kN, bN⟩ := CN.ex
  obtain ⟨gB, dB, GB, mB, kB, bB⟩ := CB.ex
  refine ⟨_, @pss_p _ _ _ _ _ (ps_if (pt_cmpR op_eq (pe_op op_mod (pv 0) (pe_int)) pe_int (nomark _)) (@pss_o _ _ _ (ps_ret (QE.h (qx_tup (qa_n (pv 1) (qa_tup (qa_str qa_nil) qa_nil)))))) pss_nil)
    (@pss_p _ _ _ _ _ (ps_if (pt_cmpR op_eq (pe_op op_mod (pv 0) (pe_int)) pe_int (nomark _)) (@pss_o _ _ _ (ps_ret (QE.h (qx_tup (qa_n (pv 1) (qa_s (QE.h (qx_ix ix_list (qx_lst (qa_tup (qa_str (qa_tup (qa_b (pe_op op_mod (pe_op op_fdiv (pv 0) (pe_int)) (pe_int)) (qa_b (pe_op op_add (pe_int) (pe_op op_mod (pe_op op_fdiv (pv 0) (pe_int)) (pe_int))) qa_nil)) qa_nil)) (qa_non (qa_int qa_nil)))) (pe_op op_mod (pe_op op_fdiv (pv 0) (pe_int)) (pe_int)) px_b)) qa_nil)))))) pss_nil)
    (@pss_p _ _ _ _ _ (ps_set (i := 2) scEn.nd (by rfl) (by exact Or.inl rfl) (pe_call GN hr (by rfl) mN kN bN .nil pass0 (pa_b (pe_op op_fdiv (pv 0) (pe_int)) pa_nil)))
    (@pss_o _ _ _ (ps_ret (QE.h (qx_tup (qa_n (pv 1) (qa_tup (qa_str (qa_n (pv 2) (qa_b (pe_op op_add (pe_int) (pe_op op_mod (pe_op op_fdiv (pv 0) (pe_int)) (pe_op op_pow pe_int pe_int))) (qa_tup (qa_str (qa_k (pe_call GN hr (by rfl) mN kN bN .nil pass0 (pa_b (pe_op op_fdiv (pv 0) (pe_int)) pa_nil)) (qa_k (pe_call GB hr (by rfl) mB kB bB .nil pass0 (pa_n (pv 0) pa_nil)) qa_nil))) qa_nil)))) qa_nil)))))))), ?_⟩
  refine ⟨_, rfl, _, _, rfl, rfl, (by show (0 : Int) < 4; decide), rfl, _, rfl, ite2 (fun _ => ?_) (fun _ => ?_)⟩
  · refine ⟨_, rfl, tiny (by show 1 ≤ 1000; decide), fun p hp => ⟨tiny (by show 2 ≤ 1000; decide), fun p2 hp2 => ?_⟩⟩
    have s1 := same_upd (o := HO.tup [V.str "open"]) hp
    have s2 := same_upd (o := HO.tup [V.int t, V.ref p]) hp2
    exact q p2 _ _ upd_same (.tup (s2 _ _ upd_same) (by show 1 ≤ 16; decide) (.cons (.str _ (by decide +kernel)) .nil)) (s1.trans s2)
  refine ⟨_, rfl, _, _, rfl, rfl, (by show (0 : Int) < 4; decide), rfl, _, rfl, ite2 (fun _ => ?_) (fun _ => ?_)⟩
  · refine ⟨_, rfl, _, rfl, _, _, rfl, rfl, ⟨by decide, by decide⟩, _, _, rfl, rfl, (by show (0 : Int) < 4; decide), _, rfl, _, _, rfl, rfl, ⟨by decide, by decide⟩, _, _, rfl, rfl, (by show (0 : Int) < 5; decide), _, _, rfl, rfl, tiny (by show 2 ≤ 1000; decide), fun p hp => ⟨tiny (by show 2 ≤ 1000; decide), fun p2 hp2 => ⟨tiny (by show 3 ≤ 1000; decide), fun p3 hp3 => ?_⟩⟩⟩
    have s1 := same_upd (o := HO.tup [V.int (n / 4 % 4), V.int (4 + n / 16 % 5)]) hp
    have s2 := same_upd (o := HO.tup [V.str "seats", V.ref p]) hp2
    have s3 := same_upd (o := HO.lst [V.ref p2, V.non, V.int 5]) hp3
    obtain ⟨e0, e1⟩ := emod_in (n / 4) (m := 3) (by decide)
    obtain ⟨v, hv, hm⟩ := atI_mem (xs := [V.ref p2, V.non, V.int 5]) e0 (by simpa using e1)
    refine ⟨_, rfl, _, _, rfl, rfl, ⟨by decide, by decide⟩, _, _, rfl, rfl, (by show (0 : Int) < 3; decide), p3, _, _, v, rfl, rfl, SqL.of upd_same, hv, tiny (by show 2 ≤ 1000; decide), fun p4 hp4 => ?_⟩
    have s4 := same_upd (o := HO.tup [V.int t, v]) hp4
    refine q p4 v _ upd_same ?_ ((s1.trans s2).trans (s3.trans s4))
    simp only [List.mem_cons, List.not_mem_nil, or_false] at hm
    rcases hm with rfl | rfl | rfl
    · exact .tup (s4 _ _ (s3 _ _ upd_same)) (by show 2 ≤ 16; decide) (.cons (.str _ (by decide +kernel)) (.cons (.tup (s4 _ _ (s3 _ _ (s2 _ _ upd_same))) (by show 2 ≤ 16; decide) (.cons (.int _) (.cons (.int _) .nil))) .nil))
    · exact .non
    · exact .int _
  refine ⟨_, rfl, _, _, rfl, rfl, ⟨by decide, by decide⟩, _, rfl, fun x hx => ?_⟩
  refine ⟨_, rfl, _, rfl, _, rfl, _, _, rfl, rfl, ⟨by decide, by decide⟩, _, _, rfl, rfl, ⟨by decide, by decide, by decide⟩, _, _, rfl, rfl, (by show (0 : Int) < 10 ^ (9 : Int).toNat; decide), _, _, rfl, rfl, ?_⟩
  refine ⟨_, rfl, _, _, rfl, rfl, ⟨by decide, by decide⟩, _, rfl, fun y hy => ⟨_, rfl, n, rfl, fun z => ⟨tiny (by show 3 ≤ 1000; decide), fun p hp => ⟨tiny (by show 4 ≤ 1000; decide), fun p2 hp2 => ⟨tiny (by show 2 ≤ 1000; decide), fun p3 hp3 => ?_⟩⟩⟩⟩⟩
  have s1 := same_upd (o := HO.tup [V.str "add", V.str y, V.int z]) hp
  have s2 := same_upd (o := HO.tup [V.str "wish", V.str x, V.int (1 + n / 4 % 10 ^ (9 : Int).toNat), V.ref p]) hp2
  have s3 := same_upd (o := HO.tup [V.int t, V.ref p2]) hp3
  exact q p3 _ _ upd_same (.tup (s3 _ _ upd_same) (by show 4 ≤ 16; decide) (.cons (.str _ (by decide +kernel)) (.cons (.str _ hx) (.cons (.int _) (.cons (.tup (s3 _ _ (s2 _ _ upd_same)) (by show 3 ≤ 16; decide) (.cons (.str _ (by decide +kernel)) (.cons (.str _ hy) (.cons (.int _) .nil)))) .nil))))) (s1.trans (s2.trans s3))
end
end K1
set_option Elab.async false
set_option linter.all false
set_option maxRecDepth 100000
set_option maxHeartbeats 1000000
namespace L2
open PySem PySem.Spec PyProof.Rows
/-! ### max of a list of ints; min of one, with a default -/
section
variable {prog : Program} {w : World} {A : Around} {R : Result → Shared → Prop} {it : Addr} {fp wr : List Addr} {n : Nat} {Pv : Nat → Value → Prop} {St : Nat → Heap → Prop} {dv : Value}
end
section
variable {X : Cx}
end
theorem boot_min : bootBuiltins "min" = some (.builtin "min") := by decide +kernel
end L2
namespace K1
open PySem L2 Kp
end K1
namespace Kp
open PySem L2
theorem Cal.mono {P : Program} {w : World} {K : PySem.W.Frag} {mg : Str → Option Value} {base : Heap} {x : Str} {k k' : Nat} {ps : List Str} {sp : Sp} (C : Cal P w K mg base x k ps sp) (h : k ≤ k') : Cal P w K mg base x k' ps sp :=
  let ⟨f, fd, F, a, b, c⟩ := C.ex
  ⟨⟨f, fd, F.mono h, a, b, c⟩⟩
end Kp
set_option Elab.async false
set_option linter.all false
set_option maxRecDepth 100000
set_option maxHeartbeats 4000000
namespace K1
open PySem L2 Kp
section
variable {P : Program} {w : World} {K : PySem.W.Frag} {mg : Str → Option Value} {base : Heap}
theorem Ents.sameT {H H' : Hp} (s : SameT H H') : ∀ {vs ts}, Ents H vs ts → Ents H' vs ts
  | _, _, .nil => .nil
  | _, _, .cons e t r => .cons (s _ _ e) (t.sameT (Nat.le_refl _) s) (Ents.sameT s r)
structure Logs (H : Hp) (D : List (Addr × Lg)) (n : Nat) (k : Int) : Prop where
  each : ∀ d ∈ D, H d.1 = some (.tup (vO d.2)) ∧ Ents H (vO d.2) (tO d.2) ∧ d.2.length ≤ n ∧ ∀ x ∈ d.2, x.2 ≤ k
  pair : ∀ d ∈ D, ∀ e ∈ D, Mt d.2 e.2
theorem Logs.sameT {H H' : Hp} {D : List (Addr × Lg)} {n : Nat} {k : Int} (h : Logs H D n k) (s : SameT H H') : Logs H' D n k :=
  ⟨fun d hd => let ⟨a, b, c⟩ := h.each d hd; ⟨s _ _ a, Ents.sameT s b, c⟩, h.pair⟩
theorem Logs.add {H : Hp} {D : List (Addr × Lg)} {n i : Nat} {d : Addr × Lg} {p : Addr} {N : Lg} {k0 : Nat} (h : Logs H D n (i : Int)) (hd : d ∈ D) (hp : H p = some (.tup (vO (d.2.take k0 ++ N)))) (he : Ents H (vO (d.2.take k0 ++ N)) (tO (d.2.take k0 ++ N))) (hN : N.length ≤ 30) (ht : ∀ x ∈ N, x.2 = (i : Int) + 1) :
    Logs H (D ++ [(p, d.2.take k0 ++ N)]) (n + 30) ((i + 1 : Nat) : Int) := by
  obtain ⟨_, _, hl, hk⟩ := h.each d hd
  have nw : ∀ e ∈ D, Mt (d.2.take k0 ++ N) e.2 := fun e he => (h.pair d hd e he).new ht fun y hy => by have := (h.each e he).2.2.2 y hy; omega
  refine ⟨fun e he2 => ?_, fun e he2 g hg => ?_⟩
  · rcases List.mem_append.mp he2 with h2 | h2
    · obtain ⟨a1, a2, a3, a4⟩ := h.each e h2
      exact ⟨a1, a2, by omega, fun x hx => by have := a4 x hx; omega⟩
    · obtain rfl := List.mem_singleton.mp h2
      refine ⟨hp, he, ?_, fun x hx => ?_⟩
      · show (d.2.take k0 ++ N).length ≤ n + 30
        rw [List.length_append, List.length_take]; omega
      · rcases List.mem_append.mp hx with h3 | h3
        · have := hk x (List.mem_of_mem_take h3); omega
        · have := ht x h3; omega
  · rcases List.mem_append.mp he2 with h2 | h2
    · rcases List.mem_append.mp hg with h3 | h3
      · exact h.pair e h2 g h3
      · obtain rfl := List.mem_singleton.mp h3
        exact (nw e h2).symm
    · obtain rfl := List.mem_singleton.mp h2
      rcases List.mem_append.mp hg with h3 | h3
      · exact nw g h3
      · obtain rfl := List.mem_singleton.mp h3
        exact Mt.refl _
def refD (d : Addr × Lg) : V := .ref d.1
def spLogs (K : PySem.W.Frag) : Sp := fun vs H Q _ => ∃ (a : Addr) (ns : List Int), vs = [.ref a] ∧ SqL K H a (ns.map V.int) ∧ ns.length ≤ 63 ∧ ∀ (l : Addr) (D : List (Addr × Lg)) (H' : Hp), H' l = some (.lst (D.map refD)) → 1 ≤ D.length → Logs H' D 600 20 → Same H H' → Q (.ref l) H'
def tMany16 : TS := fun D σ H => ∃ v0 v1 v2 c v4 m v6, σ = [v0, v1, v2, some (.int c), v4, some (.int m), v6] ∧ (0 ≤ m ∧ m ≤ 30) ∧ ∀ z : Nat, z ≤ 30 → D.nx [v0, v1, v2, some (.int c), v4, some (.int z), v6] H
theorem nat_of {z : Int} (h : 0 ≤ z ∧ z ≤ 30) : ∃ k : Nat, z = (k : Int) ∧ k ≤ 30 := ⟨z.toNat, by omega, by omega⟩
theorem none_of {H H' : Hp} {l : Addr} (s : Same H H') (h : H' l = none) : H l = none := by
  cases e : H l with
  | none => rfl
  | some o => rw [s _ _ e] at h; cases h
theorem scLb : FnScope ["_law_script", "_law_logs", "_law_k", "_law_cell", "_law_log", "_law_many", "_law_step_here"] ["_law_script"] (defScope s__law_logs_by) := ⟨rfl, rfl, rfl, by decide +kernel, rfl, by decide +kernel, by decide +kernel⟩
theorem ok_logs {f : Addr} {fd : FuncData} (F : Fun K "_law_logs_by" "_law_logs_by" s__law_logs_by f fd) (T : Txt mg) (CE : Cal P w K mg base "_law_entry_by" 2 ["_law_cell", "_law_term"] spEnt) : FnOk P w K mg base CX0 3 f fd ["_law_script"] (spLogs K) := by
  refine F.ok scLb (fun vs H Q E ⟨_, _, e, _⟩ => by subst e; rfl) (fun cdv A outer s H vs Q E hr h => ?_)
  obtain ⟨a, ns, rfl, hS, hlen, q⟩ := h
  obtain ⟨gE, dE, GE, mE, kE, bE⟩ := CE.ex
  refine ⟨_, @pss_p _ _ _ _ _ (ps_set (i := 1) scLb.nd (by rfl) (by exact Or.inl rfl) (QE.h (qx_lst (qa_tup qa_nil qa_nil))))
    (@pss_p _ _ _ _ _ (ps_for PassesOwn.never (by rfl) (pi_range1 (by rfl) T.range (pa_k (pe_callB (call_min2 (by rfl)) (by rfl) T.min boot_min (pa_i pe_int (pa_k (pe_callB (call_max2 (by rfl)) (by rfl) T.max boot_max (pa_i pe_int (pa_b (pe_op op_sub (pe_callB call_len_seq (by rfl) T.len PySem.boot_len (pa_n (pv 0) pa_nil)) (pe_int)) pa_nil))) pa_nil))) pa_nil)) (pg_name (i := 2) scLb.nd (by rfl) (by exact Or.inl rfl)) (@pss_p _ _ _ _ _ (ps_set (i := 3) scLb.nd (by rfl) (by exact Or.inl rfl) (pe_ix ix_list (pv 0) (pe_op op_add (pe_int) (pv 2)) px_b))
    (@pss_p _ _ _ _ _ (ps_set (i := 4) scLb.nd (by rfl) (by exact Or.inl rfl) (pe_ix ix_list (pv 1) (pe_op op_mod (pv 3) (pe_callB call_len_seq (by rfl) T.len PySem.boot_len (pa_n (pv 1) pa_nil))) px_b))
    (@pss_p _ _ _ _ _ (ps_set (i := 4) scLb.nd (by rfl) (by exact Or.inl rfl) (pe_slice sl_tupV (pv 4) po_none (po_some (pe_op op_sub (pe_callB call_len_seq (by rfl) T.len PySem.boot_len (pa_n (pv 4) pa_nil)) (pe_op op_mod (pe_op op_fdiv (pv 3) (pe_int)) (pe_op op_add (pe_callB (call_min2 (by rfl)) (by rfl) T.min boot_min (pa_k (pe_callB call_len_seq (by rfl) T.len PySem.boot_len (pa_n (pv 4) pa_nil)) (pa_i pe_int pa_nil))) (pe_int)))))))
    (@pss_p _ _ _ _ _ (ps_set (i := 5) scLb.nd (by rfl) (by exact Or.inl rfl) (pe_op op_add (pe_int) (pe_op op_mod (pe_op op_fdiv (pv 3) (pe_int)) (pe_int))))
    (@pss_p _ _ _ _ _ (PS.weakU (t' := tMany16) (ps_if (pt_cmpR op_eq (pe_op op_mod (pe_op op_fdiv (pv 3) (pe_int)) (pe_int)) (pe_int) (nomark _)) (@pss_o _ _ _ (ps_set (i := 5) scLb.nd (by rfl) (by exact Or.inl rfl) (pe_op op_add (pe_int) (pe_op op_mod (pe_op op_fdiv (pv 3) (pe_int)) (pe_int))))) pss_nil) ?w1)
    (@pss_p _ _ _ _ _ (ps_for PassesOwn.never (by rfl) (pi_range1 (by rfl) T.range (pa_n (pv 5) pa_nil)) (pg_name (i := 6) scLb.nd (by rfl) (by exact Or.inl rfl)) (@pss_o _ _ _ (ps_set (i := 4) scLb.nd (by rfl) (by exact Or.inl rfl) (pe_op op_catU (pv 4) (QE.h (qx_tup (qa_k (pe_call GE hr (by rfl) mE kE bE .nil pass0 (pa_b (pe_op op_add (pv 3) (pe_op op_mul (pe_int) (pv 6))) (pa_b (pe_op op_add (pv 2) (pe_int)) pa_nil))) qa_nil)))))))
    (@pss_o _ _ _ (ps_expr (pe_bm PySem.F.plainAttrs_list PySem.F.slot_list_append PySem.F.type_list_append mt_append (pv 1) (pa_n (pv 4) pa_nil)))))))))))
    (@pss_o _ _ _ (ps_ret (pv 1)))), ?_⟩
  case w1 =>
    rintro D σ H ⟨v0, v1, v2, c, v4, m, v6, rfl, hm, q⟩
    refine ⟨_, rfl, _, _, rfl, rfl, ⟨by decide, by decide⟩, _, _, rfl, rfl, (by show (0 : Int) < 9; decide), rfl, _, rfl, ite2 (fun _ => ?_) (fun _ => ?_)⟩
    · refine ⟨_, rfl, _, _, rfl, rfl, ⟨by decide, by decide⟩, _, _, rfl, rfl, (by show (0 : Int) < 30; decide), _, _, rfl, rfl, ?_⟩
      have := emod_in (c / 441) (m := 30) (by decide)
      obtain ⟨k, ek, hk⟩ := nat_of (z := 1 + c / 441 % 30) (by omega)
      show gName 5 (V.int (1 + c / 441 % 30)) _ _ _
      rw [ek]
      exact q k hk
    · obtain ⟨k, ek, hk⟩ := nat_of hm
      rw [ek]
      exact q k hk
  refine ⟨tiny (by show 0 ≤ 1000; decide), fun p0 hp0 => ⟨tiny (by show 1 ≤ 1000; decide), fun l hl => ?_⟩⟩
  have s0 := same_upd (o := HO.tup []) hp0
  have sl := same_upd (o := HO.lst [V.ref p0]) hl
  have s01 := s0.trans sl
  have hln : H l = none := none_of s0 hl
  obtain ⟨n, en, hn, hn2⟩ : ∃ n : Nat, (if (if ((ns.map V.int).length : Int) - 4 > 0 then ((ns.map V.int).length : Int) - 4 else 0) < 20 then (if ((ns.map V.int).length : Int) - 4 > 0 then ((ns.map V.int).length : Int) - 4 else 0) else 20) = (n : Int) ∧ n ≤ 20 ∧ (n = 0 ∨ n + 4 ≤ ns.length) := by
    rw [List.length_map]
    by_cases h1 : (ns.length : Int) - 4 > 0
    · rw [if_pos h1]
      by_cases h2 : (ns.length : Int) - 4 < 20
      · rw [if_pos h2]; exact ⟨ns.length - 4, by omega, by omega, by omega⟩
      · rw [if_neg h2]; exact ⟨20, rfl, Nat.le_refl _, by omega⟩
    · rw [if_neg h1, if_pos (by decide)]; exact ⟨0, rfl, by omega, .inl rfl⟩
  refine ⟨_, rfl, a, _, rfl, .inl (SqL.same hS s01), _, _, rfl, rfl, _, _, rfl, _, _, rfl, (n : Int), congrArg (fun z => [V.int z]) en, by omega, by omega, for_range (n := n) (fun i σ H' => ∃ (D : List (Addr × Lg)) (t2 t3 t4 t5 t6 : Option V), σ = [some (.ref a), some (.ref l), t2, t3, t4, t5, t6] ∧ H' l = some (.lst (D.map refD)) ∧ D.length = i + 1 ∧ Logs H' D (30 * i) (i : Int) ∧ Same H H')
    ⟨[(p0, [])], none, none, none, none, none, rfl, upd_same, rfl, ?_, s01⟩ ?_ ?_⟩
  · refine ⟨fun d hd => ?_, fun d hd e he => ?_⟩
    · obtain rfl := List.mem_singleton.mp hd
      exact ⟨sl _ _ upd_same, .nil, Nat.le_refl _, fun x hx => absurd hx List.not_mem_nil⟩
    · obtain rfl := List.mem_singleton.mp hd
      obtain rfl := List.mem_singleton.mp he
      exact Mt.refl _
  · rintro i σ H' hi ⟨D, t2, t3, t4, t5, t6, rfl, hl', hD, hL, s1⟩
    have hi4 : 4 + i < ns.length := by omega
    have e4 : (4 : Int) + (0 + (i : Int)) = ((4 + i : Nat) : Int) := by omega
    refine ⟨_, rfl, _, rfl, _, _, rfl, rfl, a, _, _, .int ns[4 + i], rfl, rfl, SqL.same hS s1, by rw [e4]; exact atI_nat (by simp [hi4]), ?_⟩
    generalize ns[4 + i] = c
    have wl : SqL K H' l (D.map refD) := SqL.of hl'
    have hpos : (0 : Int) < ((D.map refD).length : Int) := by rw [List.length_map]; omega
    obtain ⟨e0, e1⟩ := emod_in c hpos
    obtain ⟨v, hv, hm⟩ := atI_mem (xs := D.map refD) e0 e1
    obtain ⟨d, hd, rfl⟩ := List.mem_map.mp hm
    obtain ⟨d1, d2, d3, d4⟩ := hL.each d hd
    refine ⟨_, rfl, _, rfl, _, rfl, l, _, rfl, .inl wl, _, _, rfl, rfl, hpos, l, _, _, refD d, rfl, rfl, wl, hv, ?_⟩
    have wd : SqT K H' d.1 (vO d.2) := SqT.of d1
    have hp6 : (0 : Int) < (if (6 : Int) < ((vO d.2).length : Int) then 6 else ((vO d.2).length : Int)) + 1 := by split <;> omega
    obtain ⟨f0, f1⟩ := emod_in (c / 7) hp6
    have hk0 : (0 : Int) ≤ ((vO d.2).length : Int) - c / 7 % ((if (6 : Int) < ((vO d.2).length : Int) then 6 else ((vO d.2).length : Int)) + 1) := by
      have : (if (6 : Int) < ((vO d.2).length : Int) then 6 else ((vO d.2).length : Int)) ≤ ((vO d.2).length : Int) := by split <;> omega
      omega
    obtain ⟨k0, ek0⟩ := Int.eq_ofNat_of_zero_le hk0
    refine ⟨_, rfl, _, rfl, d.1, _, rfl, .inr wd, _, rfl, _, _, rfl, rfl, ⟨by decide, by decide⟩, _, rfl, d.1, _, rfl, .inr wd, _, _, rfl, _, _, rfl, rfl, _, _, rfl, rfl, hp6, _, _, rfl, rfl, _, rfl, d.1, _, rfl, d1, fun r H1 hr1 s2 => ?_⟩
    rw [ek0, cut_toN, ← vO_take] at hr1
    refine ⟨_, rfl, _, _, rfl, rfl, ⟨by decide, by decide⟩, _, _, rfl, rfl, (by show (0 : Int) < 3; decide), _, _, rfl, rfl, ?_⟩
    have m3 := emod_in (c / 49) (m := 3) (by decide)
    refine ⟨_, _, _, c, _, _, _, rfl, ⟨by omega, by omega⟩, fun z hz => ?_⟩
    refine ⟨_, rfl, (z : Int), rfl, by omega, by omega, for_range (n := z) (fun j σ H2 => ∃ (p : Addr) (N : Lg) (t6 : Option V), σ = [some (.ref a), some (.ref l), some (.int (0 + (i : Int))), some (.int c), some (.ref p), some (.int z), t6] ∧ H2 p = some (.tup (vO (d.2.take k0 ++ N))) ∧ Ents H2 (vO (d.2.take k0 ++ N)) (tO (d.2.take k0 ++ N)) ∧ N.length = j ∧ (∀ x ∈ N, x.2 = (i : Int) + 1) ∧ Same H' H2)
      ⟨r, [], _, rfl, by rw [List.append_nil]; exact hr1, by rw [List.append_nil, vO_take, tO_take]; exact (d2.same s2).take _, rfl, fun x hx => absurd hx List.not_mem_nil, s2⟩ ?_ ?_⟩
    · rintro j σ H2 hj ⟨p, N, t6, rfl, hp, he, hNj, hNt, s3⟩
      refine ⟨_, rfl, _, rfl, _, rfl, _, _, rfl, rfl, .inl ⟨by decide, by decide⟩, _, _, rfl, rfl, _, rfl, _, _, rfl, rfl, _, _, rfl, fun pe x H3 hpe tx s4 => ⟨tiny (by show 1 ≤ 1000; decide), fun p7 hp7 => ?_⟩⟩
      have s7 := same_upd (o := HO.tup [V.ref pe]) hp7
      refine ⟨p, p7, _, [.ref pe], rfl, rfl, s7 _ _ (s4 _ _ hp), upd_same, tiny ?_, fun p8 H8 h8 s8 => ?_⟩
      · show (vO (d.2.take k0 ++ N)).length + 1 ≤ 1000
        rw [vO_len, List.length_append, List.length_take]; omega
      have sC := s4.trans (s7.trans s8)
      have e9 : (0 : Int) + (i : Int) + 1 = (i : Int) + 1 := by omega
      rw [e9] at hpe
      refine ⟨p8, N ++ [(.ref pe, (i : Int) + 1)], _, rfl, ?_, ?_, by rw [List.length_append, hNj]; rfl, fun y hy => ?_, s3.trans sC⟩
      · rw [← List.append_assoc, vO_app]; exact h8
      · rw [← List.append_assoc, vO_app, tO_app]
        exact (he.same sC).append (.cons ((s7.trans s8) _ _ hpe) (tx.mono (Nat.le_refl _) (s7.trans s8)) .nil)
      · rcases List.mem_append.mp hy with h3 | h3
        · exact hNt y h3
        · obtain rfl := List.mem_singleton.mp h3; rfl
    · rintro σ H2 ⟨p, N, t6, rfl, hp, he, hNj, hNt, s3⟩
      have hl2 := s3 _ _ hl'
      have sT : SameT H2 (upd H2 l (.lst (D.map refD ++ [.ref p]))) := fun b xs e => by
        rw [upd_ne (ne_of e hl2 (by intro z; cases z))]; exact e
      refine ⟨_, rfl, .inl ⟨rfl, _, SqL.of hl2⟩, _, rfl, l, _, _, rfl, rfl, hl2, by rw [sizeLine_eq, List.length_map]; omega, ?_⟩
      refine ⟨D ++ [(p, d.2.take k0 ++ N)], _, _, _, _, _, rfl, by rw [upd_same, List.map_append]; rfl, by rw [List.length_append, hD]; rfl, ?_, same_put hln (s1.trans s3)⟩
      have h30 := ((hL.sameT (sameT_of s3)).add hd hp he (by omega) hNt).sameT sT
      exact h30
  · rintro σ H' ⟨D, t2, t3, t4, t5, t6, rfl, hl', hD, hL, s1⟩
    refine ⟨_, rfl, q l D H' hl' (by omega) ⟨fun d hd => ?_, hL.pair⟩ s1⟩
    obtain ⟨a1, a2, a3, a4⟩ := hL.each d hd
    exact ⟨a1, a2, by omega, fun x hx => by have := a4 x hx; omega⟩
end
end K1
set_option Elab.async false
set_option linter.all false
set_option maxRecDepth 100000
set_option maxHeartbeats 4000000
namespace K1
open PySem L2 Kp
section
variable {P : Program} {w : World} {K : PySem.W.Frag} {mg : Str → Option Value} {base : Heap}
def stepOk (E : Lg) (hb f : Nat) (M M' : Lg) (f' : Nat) : Prop :=
  (hb < f ∧ Ag M E (f - 1) ∧ Ag M' E (f' - 1) ∧ hb < f' ∧ (f ≤ E.length → f < f' ∧ f' ≤ E.length + 1) ∧ (f = E.length + 1 → f' = f)) ∨ (f ≤ hb ∧ f' = hb + 1 ∧ Ag M' E hb) ∨ (hb < f ∧ ¬ Ag M E (f - 1) ∧ 1 ≤ f' ∧ f' < f)
theorem Sg.short {E O M : Lg} {hb rb b : Nat} (g : Sg E O hb rb b M) (h1 : E.length ≤ 650) (h2 : O.length ≤ 650) : M.length ≤ 650 := by
  rcases g.src with rfl | ⟨j, _, rfl⟩
  · exact h2
  · rw [List.length_take]; omega
def spStep (K : PySem.W.Frag) : Sp := fun vs H Q _ => ∃ (vh v : V) (hb rb b : Nat) (E O M : Lg) (f n : Nat), vs = [vh, v, .int f, .int n] ∧ RowL K H vh hb E ∧ RowL K H v b M ∧ E.length ≤ 650 ∧ O.length ≤ 650 ∧ Sg E O hb rb b M ∧ Mt O E ∧ hb ≤ E.length ∧ 1 ≤ f ∧ f ≤ E.length + 1 ∧ 1 ≤ n ∧ n ≤ 5 ∧
  ∀ (u : V) (b' : Nat) (M' : Lg) (f' : Nat) (l : Addr) (H' : Hp), RowL K H' u b' M' → Sg E O hb rb b' M' → stepOk E hb f M M' f' → H' l = some (.lst [u, .int f']) → Same H H' → Q (.ref l) H'
theorem scSt : FnScope ["_law_head", "_law_row_here", "_law_following", "_law_many", "_law_place", "_law_entries"] ["_law_head", "_law_row_here", "_law_following", "_law_many"] (defScope s__law_step) := ⟨rfl, rfl, rfl, by decide +kernel, rfl, by decide +kernel, by decide +kernel⟩
theorem ok_step {f : Addr} {fd : FuncData} (F : Fun K "_law_step" "_law_step" s__law_step f fd) (T : Txt mg) (CO : Cal P w K mg base "end_of" 1 ["row"] (spEndOf K)) (CT : Cal P w K mg base "term_at" 3 ["row", "place"] (spTermIn K)) (CA : Cal P w K mg base "agrees" 4 ["row", "place", "last"] (spAgrees K))
    (CB : Cal P w K mg base "behind" 2 ["row", "place", "many"] (spBehN K)) (CF : Cal P w K mg base "filled" 2 ["row", "place", "entries"] (spFilN K)) (CK : Cal P w K mg base "taken_over" 5 ["row", "place", "last"] (spTakE K)) : FnOk P w K mg base CX0 6 f fd ["_law_head", "_law_row_here", "_law_following", "_law_many"] (spStep K) := by
  refine F.ok scSt (fun vs H Q E ⟨_, _, _, _, _, _, _, _, _, _, e, _⟩ => by subst e; rfl) (fun cdv A outer s H vs Q E hr h => ?_)
  obtain ⟨vh, v, hb, rb, b, G, O, M, f, n, rfl, hH, hR, lE, lO, g, m, hbl, f1, f2, n1, n5, q⟩ := h
  obtain ⟨gO, dO, GO, mO, kO, bO⟩ := CO.ex
  obtain ⟨gT, dT, GT, mT, kT, bT⟩ := CT.ex
  obtain ⟨gA, dA, GA, mA, kA, bA⟩ := CA.ex
  obtain ⟨gB, dB, GB, mB, kB, bB⟩ := CB.ex
  obtain ⟨gF, dF, GF, mF, kF, bF⟩ := CF.ex
  obtain ⟨gK, dK, GK, mK, kK, bK⟩ := CK.ex
  have r1 := hr.mono (show 1 ≤ 5 by omega)
  have r2 := hr.mono (show 2 ≤ 5 by omega)
  have r3 := hr.mono (show 3 ≤ 5 by omega)
  have r4 := hr.mono (show 4 ≤ 5 by omega)
  have r5 := hr
  refine ⟨_, @pss_p _ _ _ _ _ (ps_if (pt_cmpR op_le (pv 2) (pe_ix ix_tup (pv 0) (pe_int) px_i) (nomark _)) (@pss_o _ _ _ (ps_ret (QE.h (qx_lst (qa_k (pe_call GK r5 (by rfl) mK kK bK .nil pass0 (pa_n (pv 1) (pa_s (pe_ix ix_tup (pv 0) (pe_int) px_i) (pa_s (pe_ix ix_tup (pv 0) (pe_int) px_i) pa_nil)))) (qa_b (pe_op op_add (pe_ix ix_tup (pv 0) (pe_int) px_i) (pe_int)) qa_nil)))))) pss_nil)
    (@pss_p _ _ _ _ _ (ps_set (i := 4) scSt.nd (by rfl) (by exact Or.inl rfl) (pe_op op_sub (pv 2) (pe_int)))
    (@pss_p _ _ _ _ _ (ps_if (pt_not (pt_val (pe_call GA r4 (by rfl) mA kA bA .nil pass0 (pa_n (pv 1) (pa_n (pv 4) (pa_k (pe_call GT r3 (by rfl) mT kT bT .nil pass0 (pa_n (pv 0) (pa_n (pv 4) pa_nil))) pa_nil)))))) (@pss_o _ _ _ (ps_ret (QE.h (qx_lst (qa_n (pv 1) (qa_b (pe_op op_add (pe_callB (call_min2 (by rfl)) (by rfl) T.min boot_min (pa_b (pe_op op_sub (pv 4) (pe_int)) (pa_k (pe_call GO r1 (by rfl) mO kO bO .nil pass0 (pa_n (pv 1) pa_nil)) pa_nil))) (pe_int)) qa_nil)))))) pss_nil)
    (@pss_p _ _ _ _ _ (ps_set (i := 5) scSt.nd (by rfl) (by exact Or.inl rfl) (pe_call GB r2 (by rfl) mB kB bB .nil pass0 (pa_n (pv 0) (pa_n (pv 4) (pa_n (pv 3) pa_nil)))))
    (@pss_o _ _ _ (ps_ret (QE.h (qx_lst (qa_k (pe_call GF r2 (by rfl) mF kF bF .nil pass0 (pa_n (pv 1) (pa_n (pv 4) (pa_n (pv 5) pa_nil)))) (qa_b (pe_op op_add (pe_op op_add (pv 4) (pe_callB call_len_seq (by rfl) T.len PySem.boot_len (pa_n (pv 5) pa_nil))) (pe_int)) qa_nil))))))))), ?_⟩
  have lM := g.short lE lO
  have hH' := hH
  obtain ⟨⟨ah, ch, rfl, hah, hch⟩, hen, _⟩ := hH'
  have wh := SqT.of (K := K) hah
  have at0 : atI [V.int (hb : Int), V.int (tAt G hb), V.ref ch] 0 = some (.int (hb : Int)) := atI_nat (j := 0) rfl
  have at1 : atI [V.int (hb : Int), V.int (tAt G hb), V.ref ch] 1 = some (.int (tAt G hb)) := atI_nat (j := 1) rfl
  have eM := endP_row (L := M) g.le
  have eG := endP_row (L := G) hbl
  refine ⟨_, rfl, _, rfl, ah, _, _, .int (hb : Int), rfl, rfl, wh, at0, _, _, rfl, rfl, _, rfl, ite2 (fun h => ?_) (fun h => ?_)⟩
  · have hle : f ≤ hb := by have := of_decide_eq_true h; omega
    -- the pack
    have fin : ∀ (u : V) (b' : Nat) (M' : Lg) (H1 : Hp), RowL K H1 u b' M' → Sg G O hb rb b' M' → Ag M' G hb → Same H H1 → ∀ l : Addr, H1 l = none → Q (.ref l) (upd H1 l (.lst [u, .int ((hb : Int) + 1)])) := fun u b' M' H1 hu g' a' s1 l hl => by
      have s2 := same_upd (o := HO.lst [u, .int ((hb : Int) + 1)]) hl
      exact q u b' M' (hb + 1) l _ (RowX.same hu s2) g' (.inr (.inl ⟨hle, rfl, a'⟩)) upd_same (s1.trans s2)
    refine ⟨_, rfl, _, rfl, ah, _, _, .int (hb : Int), rfl, rfl, wh, at0, _, rfl, ah, _, _, .int (tAt G hb), rfl, rfl, wh, at1, v, _, _, _, _, _, _, rfl, hR, fun h1 => ?_, fun h1 h2 h3 u H1 hu s1 => ?_, fun h1 h2 u H1 hu s1 => ?_⟩
    · have hbb : hb ≤ b := by omega
      refine ⟨_, rfl, ah, _, _, .int (hb : Int), rfl, rfl, wh, at0, _, _, rfl, rfl, tiny (by show 2 ≤ 1000; decide), fun l hl => fin v b M H hR g ?_ (Same.refl _) l hl⟩
      exact Ag.mono ⟨g.le, g.pre⟩ hbb
    · have hbb : b < hb := by omega
      have h4 : hb ≤ M.length := by rw [eM] at h2; omega
      rw [termAt_row (by omega) h4] at h3
      have a := mt_ag (g.mt m) h4 hbl h3
      refine ⟨_, rfl, ah, _, _, .int (hb : Int), rfl, rfl, SqT.same wh s1, at0, _, _, rfl, rfl, tiny (by show 2 ≤ 1000; decide), fun l hl => fin u hb M H1 ?_ (g.packed hbb a) a s1 l hl⟩
      have e1 : ((hb : Int) - (b : Int)).toNat = hb - b := by omega
      rw [e1, ← vO_drop, ← tO_drop, List.drop_drop, show b + (hb - b) = hb by omega, ← h3] at hu
      exact hu
    · have hbb : b < hb := by omega
      have na : ¬ Ag M G hb := fun a => h2 ⟨by rw [eM]; have := a.1; omega, by rw [termAt_row (by omega) a.1]; exact tAt_of_take a.2⟩
      refine ⟨_, rfl, ah, _, _, .int (hb : Int), rfl, rfl, SqT.same wh s1, at0, _, _, rfl, rfl, tiny (by show 2 ≤ 1000; decide), fun l hl => fin u hb (G.take hb) H1 ?_ (g.packed2 m hbb hbl na) ⟨by rw [List.length_take]; omega, by rw [List.take_take, Nat.min_self]⟩ s1 l hl⟩
      have e1 : (G.take hb).drop hb = [] := List.drop_eq_nil_of_le (by rw [List.length_take]; omega)
      unfold RowL
      rw [e1, tAt_take (Nat.le_refl _)]
      exact hu
  · have hlt : hb < f := by have := ndec h; omega
    obtain ⟨p, rfl⟩ : ∃ p, f = p + 1 := ⟨f - 1, by omega⟩
    have ep : ((p + 1 : Nat) : Int) - 1 = (p : Int) := by omega
    have hp : p ≤ G.length := by omega
    refine ⟨_, rfl, _, _, rfl, rfl, ?_⟩
    show gName 4 (V.int (((p + 1 : Nat) : Int) - 1)) _ _ _
    rw [ep]
    refine ⟨_, rfl, _, rfl, _, rfl, _, rfl, _, (hb : Int), _, _, (p : Int), rfl, ⟨_, hH⟩, by omega, by rw [eG]; omega, ?_⟩
    rw [termAt_row (by omega) hp]
    refine ⟨v, tAt G p, (p : Int), (b : Int), _, _, rfl, ⟨_, hR⟩, ?_⟩
    have ai := ag_iff (g.mt m) g.le g.pre hp
    refine ⟨_, rfl, ite2 (fun h2 => ?_) (fun h2 => ?_)⟩
    · -- it does not agree
      have na : ¬ Ag M G p := fun a => by rw [ai.mpr a] at h2; cases h2
      have p1 : 1 ≤ p := by
        rcases Nat.eq_zero_or_pos p with e | e
        · subst e; exact absurd (Ag.zero _ _) na
        · exact e
      refine ⟨_, rfl, _, rfl, _, _, rfl, rfl, _, rfl, v, _, _, _, rfl, ⟨_, hR⟩, _, _, rfl, ?_⟩
      rw [eM]
      obtain ⟨k, ek, hk⟩ : ∃ k : Nat, (if (M.length : Int) < (p : Int) - 1 then (M.length : Int) else (p : Int) - 1) = (k : Int) ∧ k < p := by
        split
        · exact ⟨M.length, rfl, by omega⟩
        · exact ⟨p - 1, by omega, by omega⟩
      rw [ek]
      refine ⟨_, _, rfl, rfl, tiny (by show 2 ≤ 1000; decide), fun l hl => ?_⟩
      have s2 := same_upd (o := HO.lst [v, .int ((k : Int) + 1)]) hl
      exact q v b M (k + 1) l _ (RowX.same hR s2) g (.inr (.inr ⟨hlt, na, by omega, by omega⟩)) upd_same s2
    · have a : Ag M G p := ai.mp (by
        cases hx : agreesB (b : Int) (tAt M b) (tO (M.drop b)) (p : Int) (tAt G p) with
        | true => rfl
        | false => rw [hx] at h2; exact absurd rfl h2)
      refine ⟨_, rfl, _, rfl, _, rfl, _, (hb : Int), _, _, _, (p : Int), (n : Int), rfl, hH, by omega, by omega, by rw [eG]; omega, fun r H1 hr1 s1 => ?_⟩
      have e1 : ((p : Int) - (hb : Int)).toNat = p - hb := by omega
      rw [e1, Int.toNat_natCast, ← vO_drop, List.drop_drop, show hb + (p - hb) = p by omega, ← vO_take] at hr1
      have hfn : Ents H1 (vO ((G.drop p).take n)) (tO ((G.drop p).take n)) := by
        have := ((hen.same s1).drop (p - hb)).take n
        rwa [← vO_drop, ← tO_drop, List.drop_drop, show hb + (p - hb) = p by omega, ← vO_take, ← tO_take] at this
      have hlz : ((G.drop p).take n).length = min n (G.length - p) := by rw [List.length_take, List.length_drop]
      have fin : ∀ (u : V) (M' : Lg) (H2 : Hp), RowL K H2 u b M' → Sg G O hb rb b M' → Ag M' G (p + min n (G.length - p)) → Same H1 H2 → ∀ l : Addr, H2 l = none → Q (.ref l) (upd H2 l (.lst [u, .int ((p : Int) + ((vO ((G.drop p).take n)).length : Int) + 1)])) := fun u M' H2 hu g' a' s2 l hl => by
        have s3 := same_upd (o := HO.lst [u, .int ((p : Int) + ((vO ((G.drop p).take n)).length : Int) + 1)]) hl
        refine q u b M' (p + min n (G.length - p) + 1) l _ (RowX.same hu s3) g' (.inl ⟨hlt, a, a', by omega, fun _ => ⟨by omega, by omega⟩, fun _ => by omega⟩) ?_ (s1.trans (s2.trans s3))
        rw [upd_same, vO_len, hlz]
        rfl
      refine ⟨_, rfl, _, rfl, _, rfl, v, (b : Int), _, _, _, (p : Int), r, _, _, rfl, RowX.same hR s1, by rw [tO_len, List.length_drop]; omega, hr1, hfn, by rw [tO_len]; omega, by rw [eM]; have := a.1; omega, fun hf H2 s2 => ?_, fun hf u H2 hu s2 => ?_⟩
      · rw [come_len] at hf
        refine ⟨_, rfl, _, rfl, r, _, rfl, .inr (SqT.of (s2 _ _ hr1)), _, _, rfl, rfl, _, _, rfl, rfl, tiny (by show 2 ≤ 1000; decide), fin v M H2 (RowX.same hR (s1.trans s2)) g (fill_all (g.mt m) g.le g.pre a hf) s2⟩
      · rw [come_len] at hf
        obtain ⟨g', a'⟩ := g.filled m a hp hf
        refine ⟨_, rfl, _, rfl, r, _, rfl, .inr (SqT.of (s2 _ _ hr1)), _, _, rfl, rfl, _, _, rfl, rfl, tiny (by show 2 ≤ 1000; decide), fin u _ H2 ?_ g' a' s2⟩
        obtain ⟨e2, e3⟩ := fill_not (g.mt m) g.le g.pre a hp hf
        unfold RowL
        rw [e2, tAt_take e3, vO_app, tO_app, vO_take (M.drop b), tO_take (M.drop b), vO_drop ((G.drop p).take n), tO_drop ((G.drop p).take n)]
        rw [comeN_nat, ownN_nat] at hu
        have e4 : tAt M b = tAt G b := tAt_of_take g.pre
        rw [← e4]
        exact hu
end
end K1
set_option Elab.async false
set_option linter.all false
set_option maxRecDepth 100000
set_option maxHeartbeats 4000000
namespace K1
open PySem L2 Kp
section
variable {P : Program} {w : World} {K : PySem.W.Frag} {mg : Str → Option Value} {base : Heap}
def spHanded (K : PySem.W.Frag) : Sp := fun vs H Q _ => ∃ (vh v : V) (hb rb b : Nat) (E O M : Lg) (n st : Nat), vs = [vh, v, .int n, .int st] ∧ RowL K H vh hb E ∧ RowL K H v b M ∧ E.length ≤ 650 ∧ O.length ≤ 650 ∧ Sg E O hb rb b M ∧ Mt O E ∧ hb ≤ E.length ∧ 1 ≤ n ∧ n ≤ 5 ∧ st = 2 * E.length + O.length + 6 ∧
  ∀ (u : V) (b' : Nat) (M' : Lg) (H' : Hp), RowL K H' u b' M' → Sg E O hb rb b' M' → Ag M' E E.length → Same H H' → Q u H'
theorem scHa : FnScope ["_law_head", "_law_row_here", "_law_many", "_law_steps", "_law_following", "_law_k", "_law_gone"] ["_law_head", "_law_row_here", "_law_many", "_law_steps"] (defScope s__law_handed) := ⟨rfl, rfl, rfl, by decide +kernel, rfl, by decide +kernel, by decide +kernel⟩
theorem ok_handed {f : Addr} {fd : FuncData} (F : Fun K "_law_handed" "_law_handed" s__law_handed f fd) (T : Txt mg) (CO : Cal P w K mg base "end_of" 1 ["row"] (spEndOf K)) (CS : Cal P w K mg base "_law_step" 6 ["_law_head", "_law_row_here", "_law_following", "_law_many"] (spStep K)) : FnOk P w K mg base CX0 7 f fd ["_law_head", "_law_row_here", "_law_many", "_law_steps"] (spHanded K) := by
  refine F.ok scHa (fun vs H Q E ⟨_, _, _, _, _, _, _, _, _, _, e, _⟩ => by subst e; rfl) (fun cdv A outer s H vs Q E hr h => ?_)
  obtain ⟨vh, v, hb, rb, b, G, O, M, n, st, rfl, hH, hR, lE, lO, g, m, hbl, n1, n5, est, q⟩ := h
  obtain ⟨gO, dO, GO, mO, kO, bO⟩ := CO.ex
  obtain ⟨gS, dS, GS, mS, kS, bS⟩ := CS.ex
  have r1 := hr.mono (show 1 ≤ 6 by omega)
  refine ⟨_, @pss_p _ _ _ _ _ (ps_set (i := 4) scHa.nd (by rfl) (by exact Or.inl rfl) (pe_op op_add (pe_call GO r1 (by rfl) mO kO bO .nil pass0 (pa_n (pv 0) pa_nil)) (pe_int)))
    (@pss_p _ _ _ _ _ (ps_for PassesOwn.never (by rfl) (pi_range1 (by rfl) T.range (pa_n (pv 3) pa_nil)) (pg_name (i := 5) scHa.nd (by rfl) (by exact Or.inl rfl)) (@pss_p _ _ _ _ _ (ps_set (i := 6) scHa.nd (by rfl) (by exact Or.inl rfl) (pe_call GS hr (by rfl) mS kS bS .nil pass0 (pa_n (pv 0) (pa_n (pv 1) (pa_n (pv 4) (pa_n (pv 2) pa_nil))))))
    (@pss_p _ _ _ _ _ (ps_if (PW.pt (pw_and (pt_cmpR op_eq (pv 4) (pe_op op_add (pe_call GO r1 (by rfl) mO kO bO .nil pass0 (pa_n (pv 0) pa_nil)) (pe_int)) (nomark _)) (pw_and (pt_cmpR op_eq (pe_ix ix_list (pv 6) (pe_int) px_i) (pv 4) (nomark _)) (pw_and1 (pt_cmpR op_gt (pv 5) (pe_int) (nomark _)))))) (@pss_o _ _ _ (ps_ret (pe_ix ix_list (pv 6) (pe_int) px_i))) pss_nil)
    (@pss_p _ _ _ _ _ (ps_set (i := 1) scHa.nd (by rfl) (by exact Or.inl rfl) (pe_ix ix_list (pv 6) (pe_int) px_i))
    (@pss_o _ _ _ (ps_set (i := 4) scHa.nd (by rfl) (by exact Or.inl rfl) (pe_ix ix_list (pv 6) (pe_int) px_i)))))))
    (@pss_o _ _ _ (ps_ret (pe_non)))), ?_⟩
  have eG := endP_row (L := G) hbl
  have e0 : endP (hb : Int) (tO (G.drop hb)) + 1 = ((G.length + 1 : Nat) : Int) := by omega
  refine ⟨_, rfl, vh, _, _, _, rfl, ⟨_, hH⟩, _, _, rfl, rfl, ?_⟩
  show gName 4 (V.int (endP (hb : Int) (tO (G.drop hb)) + 1)) _ _ _
  rw [e0]
  refine ⟨_, rfl, (st : Int), rfl, by omega, by omega, for_range (n := st) (fun k σ H' => ∃ (v : V) (b : Nat) (M : Lg) (f : Nat) (t5 t6 : Option V), σ = [some vh, some v, some (.int n), some (.int st), some (.int f), t5, t6] ∧ RowL K H' v b M ∧ Sg G O hb rb b M ∧ 1 ≤ f ∧ f ≤ G.length + 1 ∧ (f + k ≤ G.length + 1 ∨ (hb < f ∧ Ag M G (f - 1) ∧ k + (G.length + 1 - f) ≤ 2 * G.length + 2)) ∧ Same H H')
    ⟨v, b, M, G.length + 1, none, none, rfl, hR, g, by omega, Nat.le_refl _, .inl (Nat.le_refl _), Same.refl _⟩ ?_ ?_⟩
  · rintro k σ H' hk ⟨v, b, M, f, t5, t6, rfl, hR, g, f1, f2, hi, s1⟩
    have hH1 := RowX.same hH s1
    refine ⟨_, rfl, _, rfl, _, rfl, _, rfl, vh, v, hb, rb, b, G, O, M, f, n, rfl, hH1, hR, lE, lO, g, m, hbl, f1, f2, n1, n5, fun u b' M' f' l H1 hu g' so hl s2 => ?_⟩
    have wl : SqL K H1 l [u, .int (f' : Int)] := SqL.of hl
    have i0 : atI [u, V.int (f' : Int)] 0 = some u := atI_nat (j := 0) rfl
    have i1 : atI [u, V.int (f' : Int)] 1 = some (.int (f' : Int)) := atI_nat (j := 1) rfl
    have nx : ¬ (f = G.length + 1 ∧ f' = f ∧ 0 < k) → 1 ≤ f' ∧ f' ≤ G.length + 1 ∧ (f' + (k + 1) ≤ G.length + 1 ∨ (hb < f' ∧ Ag M' G (f' - 1) ∧ k + 1 + (G.length + 1 - f') ≤ 2 * G.length + 2)) := fun hn => by
      rcases so with ⟨x1, x2, x3, x4, x5, x6⟩ | ⟨x1, x2, x3⟩ | ⟨x1, x2, x3, x4⟩
      · by_cases hf : f = G.length + 1
        · have := x6 hf
          have k0 : k = 0 := by omega
          exact ⟨by omega, by omega, .inr ⟨x4, x3, by omega⟩⟩
        · have := x5 (by omega)
          refine ⟨by omega, by omega, .inr ⟨x4, x3, ?_⟩⟩
          rcases hi with hi | ⟨_, _, hi⟩ <;> omega
      · subst x2
        refine ⟨by omega, by omega, .inr ⟨by omega, x3, ?_⟩⟩
        rcases hi with hi | ⟨_, _, hi⟩ <;> omega
      · refine ⟨x3, by omega, .inl ?_⟩
        rcases hi with hi | ⟨_, h2, _⟩
        · omega
        · exact absurd h2 x2
    have hH2 := RowX.same hH1 s2
    refine ⟨_, rfl, _, rfl, vh, _, _, _, rfl, ⟨_, hH2⟩, _, _, rfl, rfl, rfl, _, rfl, ite2 (fun c1 => ?_) (fun c1 => ?_)⟩
    · have d1 : f = G.length + 1 := by have := of_decide_eq_true c1; simp only [V.int.injEq] at this; omega
      refine ⟨_, rfl, l, _, _, .int (f' : Int), rfl, rfl, wl, i1, _, rfl, rfl, _, rfl, ite2 (fun c2 => ?_) (fun c2 => ?_)⟩
      · have d2 : f' = f := by have := of_decide_eq_true c2; simp only [V.int.injEq] at this; omega
        refine ⟨_, rfl, _, _, rfl, rfl, _, rfl, ite2 (fun c3 => ?_) (fun c3 => ?_)⟩
        · refine ⟨_, rfl, l, _, _, u, rfl, rfl, wl, i0, q u b' M' H1 hu g' ?_ (s1.trans s2)⟩
          rcases so with ⟨x1, x2, x3, x4, x5, x6⟩ | ⟨x1, x2, x3⟩ | ⟨x1, x2, x3, x4⟩
          · have : f' - 1 = G.length := by omega
            rw [this] at x3
            exact x3
          · omega
          · omega
        · have d3 : ¬ (0 : Int) < 0 + (k : Int) := ndec c3
          obtain ⟨y1, y2, y3⟩ := nx (by omega)
          exact ⟨_, rfl, l, _, _, u, rfl, rfl, wl, i0, _, rfl, l, _, _, .int (f' : Int), rfl, rfl, wl, i1, u, b', M', f', _, _, rfl, hu, g', y1, y2, y3, s1.trans s2⟩
      · have d2 : ¬ f' = f := fun e => c2 (by rw [e]; exact decide_eq_true rfl)
        obtain ⟨y1, y2, y3⟩ := nx (by omega)
        exact iteF ⟨_, rfl, l, _, _, u, rfl, rfl, wl, i0, _, rfl, l, _, _, .int (f' : Int), rfl, rfl, wl, i1, u, b', M', f', _, _, rfl, hu, g', y1, y2, y3, s1.trans s2⟩
    · have d1 : ¬ f = G.length + 1 := fun e => c1 (decide_eq_true (congrArg V.int (by rw [e0, e])))
      obtain ⟨y1, y2, y3⟩ := nx (by omega)
      exact iteF ⟨_, rfl, l, _, _, u, rfl, rfl, wl, i0, _, rfl, l, _, _, .int (f' : Int), rfl, rfl, wl, i1, u, b', M', f', _, _, rfl, hu, g', y1, y2, y3, s1.trans s2⟩
  · rintro σ H' ⟨v, b, M, f, t5, t6, rfl, hR, g, f1, f2, hi, s1⟩
    exfalso
    rcases hi with hi | ⟨_, _, hi⟩ <;> omega
end
end K1
set_option Elab.async false
set_option linter.all false
set_option maxRecDepth 100000
set_option maxHeartbeats 4000000
namespace K1
open PySem L2 Kp
section
variable {P : Program} {w : World} {K : PySem.W.Frag} {mg : Str → Option Value} {base : Heap}
/-! ### a whole number -/
def spWholeI : Sp := fun vs H Q _ => ∃ z : Int, vs = [.int z] ∧ Q (.bl true) H
theorem scWh : FnScope ["_law_found"] ["_law_found"] (defScope s__law_whole) := ⟨rfl, rfl, rfl, by decide +kernel, rfl, by decide +kernel, by decide +kernel⟩
theorem ok_wholeI {f : Addr} {fd : FuncData} (F : Fun K "_law_whole" "_law_whole" s__law_whole f fd) (T : Txt mg) : FnOk P w K mg base CX0 1 f fd ["_law_found"] spWholeI := by
  refine F.ok scWh (fun vs H Q E ⟨_, e, _⟩ => by subst e; rfl) (fun cdv A outer s H vs Q E hr h => ?_)
  obtain ⟨z, rfl, q⟩ := h
  refine ⟨_, @pss_o _ _ _ (ps_ret (pe_and (pe_callB call_isi (by rfl) T.isi boot_isi (pa_n (pv 0) (pa_n (pe_ty (by rfl) T.int boot_int) pa_nil))) (pe_one (pe_not (pe_callB call_isi (by rfl) T.isi boot_isi (pa_n (pv 0) (pa_n (pe_ty (by rfl) T.bool boot_bool) pa_nil))))))), ?_⟩
  exact ⟨_, rfl, _, _, _, _, rfl, .int _, kit_int K (.int z), _, rfl, iteT ⟨_, rfl, _, _, _, _, rfl, .int _, kit_bool K (.int z), _, rfl, q⟩⟩
end
end K1
set_option Elab.async false
set_option linter.all false
set_option maxRecDepth 100000
set_option maxHeartbeats 4000000
namespace K1
open PySem L2 Kp
section
variable {P : Program} {w : World} {K : PySem.W.Frag} {mg : Str → Option Value} {base : Heap}
def spIsRow (K : PySem.W.Frag) : Sp := fun vs H Q _ => ∃ (v u : V) (b l : Int) (es : List V) (ts : List Int), vs = [v, u] ∧ RowX K H v b l es ts ∧ RowX K H u b l es ts ∧ Q (.bl true) H
theorem scIr : FnScope ["_law_found", "_law_due", "_law_entry"] ["_law_found", "_law_due"] (defScope s__law_is_row) := ⟨rfl, rfl, rfl, by decide +kernel, rfl, by decide +kernel, by decide +kernel⟩
theorem ok_is_row {f : Addr} {fd : FuncData} (F : Fun K "_law_is_row" "_law_is_row" s__law_is_row f fd) (T : Txt mg) (CW : Cal P w K mg base "_law_whole" 1 ["_law_found"] spWholeI) : FnOk P w K mg base CX0 2 f fd ["_law_found", "_law_due"] (spIsRow K) := by
  refine F.ok scIr (fun vs H Q E ⟨_, _, _, _, _, _, e, _⟩ => by subst e; rfl) (fun cdv A outer s H vs Q E hr h => ?_)
  obtain ⟨v, u, b, l, es, ts, rfl, ⟨⟨rb, c, rfl, hb0, hc0⟩, hen, hfew⟩, ⟨⟨rb2, c2, rfl, hb2, hc2⟩, _, _⟩, q⟩ := h
  have hb := SqT.of (K := K) hb0
  have hc := SqT.of (K := K) hc0
  obtain ⟨gW, dW, GW, mW, kW, bW⟩ := CW.ex
  refine ⟨_, @pss_p _ _ _ _ _ (ps_if (PW.pt (pw_or (pt_not (pt_val (pe_callB call_isi (by rfl) T.isi boot_isi (pa_n (pv 0) (pa_n (pe_ty (by rfl) T.tuple boot_tuple) pa_nil))))) (pw_or (pt_cmpR op_ne (pe_callB call_len_seq (by rfl) T.len PySem.boot_len (pa_n (pv 0) pa_nil)) pe_int (nomark _)) (pw_or1 (pt_not (pt_val (pe_callB call_isi (by rfl) T.isi boot_isi (pa_s (pe_ix ix_tup (pv 0) (pe_int) px_i) (pa_n (pe_ty (by rfl) T.tuple boot_tuple) pa_nil))))))))) (@pss_o _ _ _ (ps_ret pe_bl)) pss_nil)
    (@pss_p _ _ _ _ _ (ps_if (PW.pt (pw_or (pt_not (pt_val (pe_call GW hr (by rfl) mW kW bW .nil pass0 (pa_s (pe_ix ix_tup (pv 0) (pe_int) px_i) pa_nil)))) (pw_or (pt_not (pt_val (pe_call GW hr (by rfl) mW kW bW .nil pass0 (pa_s (pe_ix ix_tup (pv 0) (pe_int) px_i) pa_nil)))) (pw_or1 (pt_cmpR op_ne (pe_callB call_len_seq (by rfl) T.len PySem.boot_len (pa_s (pe_ix ix_tup (pv 0) (pe_int) px_i) pa_nil)) (pe_callB call_len_seq (by rfl) T.len PySem.boot_len (pa_s (pe_ix ix_tup (pv 1) (pe_int) px_i) pa_nil)) (nomark _)))))) (@pss_o _ _ _ (ps_ret pe_bl)) pss_nil)
    (@pss_p _ _ _ _ _ (ps_for PassesOwn.never (by rfl) (pi_tup (pe_ix ix_tup (pv 0) (pe_int) px_i)) (pg_name (i := 2) scIr.nd (by rfl) (by exact Or.inl rfl)) (@pss_o _ _ _ (ps_if (PW.pt (pw_or (pt_not (pt_val (pe_callB call_isi (by rfl) T.isi boot_isi (pa_n (pv 2) (pa_n (pe_ty (by rfl) T.tuple boot_tuple) pa_nil))))) (pw_or1 (pt_not (pt_val (pe_call GW hr (by rfl) mW kW bW .nil pass0 (pa_s (pe_ix ix_tup (pv 2) (pe_int) px_i) pa_nil))))))) (@pss_o _ _ _ (ps_ret pe_bl)) pss_nil)))
    (@pss_o _ _ _ (ps_ret (pe_cmpR (op_eqA hr.units100) (pv 0) (pv 1) (nomark _)))))), ?_⟩
  have at0 : atI [V.int b, V.int l, V.ref c] 0 = some (.int b) := atI_nat (j := 0) rfl
  have at1 : atI [V.int b, V.int l, V.ref c] 1 = some (.int l) := atI_nat (j := 1) rfl
  have at2 : atI [V.int b, V.int l, V.ref c] 2 = some (.ref c) := atI_nat (j := 2) rfl
  refine ⟨_, rfl, _, _, _, _, rfl, .tup hb0, kit_tup K (.tup []), _, rfl, iteF ⟨_, rfl, rb, _, rfl, .inr hb, rfl, _, rfl, iteF ⟨_, rfl, rb, _, _, .ref c, rfl, rfl, hb, at2, _, _, _, _, rfl, .tup hc0, kit_tup K (.tup []), _, rfl, iteF ?_⟩⟩⟩
  refine ⟨_, rfl, rb, _, _, .int b, rfl, rfl, hb, at0, b, rfl, _, rfl, iteF ⟨_, rfl, rb, _, _, .int l, rfl, rfl, hb, at1, l, rfl, _, rfl, iteF ⟨_, rfl, rb, _, _, .ref c, rfl, rfl, hb, at2, c, es, rfl, .inr hc, _, rfl, rb2, _, _, .ref c2, rfl, rfl, SqT.of hb2, atI_nat (j := 2) rfl, c2, es, rfl, .inr (SqT.of hc2), rfl, _, rfl, ?_⟩⟩⟩
  rw [decide_eq_true rfl]
  refine iteF ?_
  refine ⟨_, rfl, rb, _, _, .ref c, rfl, rfl, hb, at2, c, rfl, ⟨_, hc⟩, for_tup (K := K) (a := c) (xs := es) (fun i σ H' => ∃ t : Option V, σ = [some (.ref rb), some (.ref rb2), t] ∧ H' = H)
    ⟨none, rfl, rfl⟩ (fun i σ H' _ ⟨_, _, e⟩ => by rw [e]; exact hc) ?_ ?_⟩
  · rintro i x σ H' hx ⟨t, rfl, rfl⟩
    have hi : i < ts.length := by rw [← hen.length]; exact (List.getElem?_eq_some_iff.mp hx).1
    obtain ⟨pe, y, hg, hpe, _⟩ := hen.get hi
    rw [hg] at hx
    cases hx
    exact ⟨_, rfl, _, _, _, _, rfl, .tup hpe, kit_tup K (.tup []), _, rfl, iteF ⟨_, rfl, pe, _, _, .int ts[i], rfl, rfl, SqT.of hpe, atI_nat (j := 0) rfl, _, rfl, _, rfl, iteF ⟨_, rfl, rfl⟩⟩⟩
  · rintro σ H' ⟨t, rfl, rfl⟩
    refine ⟨_, rfl, _, rfl, rb, rb2, _, _, 1, rfl, rfl, hb, SqT.of hb2, rfl, ?_, by decide, q⟩
    intro i x y e1 e2
    match i, e1, e2 with
    | 0, e1, e2 => cases e1; cases e2; exact .flat rfl
    | 1, e1, e2 => cases e1; cases e2; exact .flat rfl
    | 2, e1, e2 =>
      cases e1; cases e2
      refine .tup hc (SqT.of hc2) rfl fun i x y e1 e2 => ?_
      rw [e1] at e2
      cases e2
      have hi : i < ts.length := by rw [← hen.length]; exact (List.getElem?_eq_some_iff.mp e1).1
      obtain ⟨pe, _, hg, _, _⟩ := hen.get hi
      rw [hg] at e1
      cases e1
      exact .ref _
    | i + 3, e1, e2 => simp at e1
end
end K1
set_option Elab.async false
set_option linter.all false
set_option maxRecDepth 100000
set_option maxHeartbeats 4000000
namespace K1
open PySem L2 Kp
section
variable {P : Program} {w : World} {K : PySem.W.Frag} {mg : Str → Option Value} {base : Heap}
theorem scNn : FnScope ["row", "end"] ["row"] (defScope s_newness) := ⟨rfl, rfl, rfl, by decide +kernel, rfl, by decide +kernel, by decide +kernel⟩
theorem ok_newness {f : Addr} {fd : FuncData} (F : Fun K "newness" "newness" s_newness f fd) (CE : Cal P w K mg base "end_of" 1 ["row"] (spEndOf K)) (CT : Cal P w K mg base "term_at" 3 ["row", "place"] (spTermIn K)) : FnOk P w K mg base CX0 4 f fd ["row"] (spNewest K) := by
  refine F.ok scNn (fun vs H Q E ⟨_, _, _, _, e, _⟩ => by subst e; rfl) (fun cdv A outer s H vs Q E hr h => ?_)
  obtain ⟨v, b, l, ts, rfl, hR, q⟩ := h
  obtain ⟨gE, dE, GE, mE, kE, bE⟩ := CE.ex
  obtain ⟨gT, dT, GT, mT, kT, bT⟩ := CT.ex
  have r1 := hr.mono (show 1 ≤ 3 by omega)
  refine ⟨_, @pss_p _ _ _ _ _ (ps_set (i := 1) scNn.nd (by rfl) (by exact Or.inl rfl) (pe_call GE r1 (by rfl) mE kE bE .nil pass0 (pa_n (pv 0) pa_nil)))
    (@pss_o _ _ _ (ps_ret (QE.h (qx_tup (qa_k (pe_call GT hr (by rfl) mT kT bT .nil pass0 (pa_n (pv 0) (pa_n (pv 1) pa_nil))) (qa_n (pv 1) qa_nil)))))), ?_⟩
  refine ⟨_, rfl, v, b, l, ts, rfl, hR, ?_⟩
  refine ⟨_, rfl, _, rfl, v, b, l, ts, _, rfl, hR, (by unfold endP; omega), Int.le_refl _, _, rfl, tiny (by show 2 ≤ 1000; decide), fun p hp => q p _ ?_ (same_upd hp)⟩
  rw [upd_same, termAt_end]
theorem scAw : FnScope ["last", "place", "row", "end", "term"] ["last", "place", "row"] (defScope s_as_new) := ⟨rfl, rfl, rfl, by decide +kernel, rfl, by decide +kernel, by decide +kernel⟩
theorem ok_as_new0 {f : Addr} {fd : FuncData} (F : Fun K "as_new" "as_new" s_as_new f fd) (CE : Cal P w K mg base "end_of" 1 ["row"] (spEndOf K)) (CT : Cal P w K mg base "term_at" 3 ["row", "place"] (spTermIn K)) : FnOk P w K mg base CX0 4 f fd ["last", "place", "row"] (spAsNew K) := by
  refine F.ok scAw (fun vs H Q E ⟨_, _, _, _, _, _, e, _⟩ => by subst e; rfl) (fun cdv A outer s H vs Q E hr h => ?_)
  obtain ⟨v, t, p, b, l, ts, rfl, hR, q⟩ := h
  obtain ⟨gE, dE, GE, mE, kE, bE⟩ := CE.ex
  obtain ⟨gT, dT, GT, mT, kT, bT⟩ := CT.ex
  have r1 := hr.mono (show 1 ≤ 3 by omega)
  refine ⟨_, @pss_p _ _ _ _ _ (ps_set (i := 3) scAw.nd (by rfl) (by exact Or.inl rfl) (pe_call GE r1 (by rfl) mE kE bE .nil pass0 (pa_n (pv 2) pa_nil)))
    (@pss_p _ _ _ _ _ (ps_set (i := 4) scAw.nd (by rfl) (by exact Or.inl rfl) (pe_call GT hr (by rfl) mT kT bT .nil pass0 (pa_n (pv 2) (pa_n (pv 3) pa_nil))))
    (@pss_o _ _ _ (ps_ret (pe_or (pe_cmpR op_gt (pv 0) (pv 4) (nomark _)) (pe_one (pe_and (pe_cmpR op_eq (pv 0) (pv 4) (nomark _)) (pe_one (pe_cmpR op_ge (pv 1) (pv 3) (nomark _))))))))), ?_⟩
  refine ⟨_, rfl, v, b, l, ts, rfl, hR, ?_⟩
  refine ⟨_, rfl, _, rfl, v, b, l, ts, _, rfl, hR, (by unfold endP; omega), Int.le_refl _, ?_⟩
  rw [termAt_end]
  have fin := q H (Same.refl _)
  unfold asNewB at fin
  refine ⟨_, rfl, _, rfl, _, _, rfl, rfl, _, rfl, ite2 (fun hc => ?_) (fun hc => ?_)⟩
  · rw [decide_eq_true (of_decide_eq_true hc)] at fin
    exact fin
  · rw [decide_eq_false (fun h => hc (decide_eq_true h))] at fin
    refine ⟨_, rfl, _, rfl, rfl, _, rfl, ite2 (fun hc2 => ?_) (fun hc2 => ?_)⟩
    · have e2 : t = endT l ts := by
        have := of_decide_eq_true hc2
        simpa using this
      rw [decide_eq_true e2] at fin
      exact ⟨_, rfl, _, rfl, _, _, rfl, rfl, fin⟩
    · have e2 : ¬ t = endT l ts := fun e => hc2 (decide_eq_true (by rw [e]))
      rw [decide_eq_false e2] at fin
      exact fin
end
end K1
set_option Elab.async false
set_option linter.all false
set_option maxRecDepth 100000
set_option maxHeartbeats 4000000
namespace K1
open PySem L2 Kp
section
variable {P : Program} {w : World} {K : PySem.W.Frag} {mg : Str → Option Value} {base : Heap}
def tDue16 : TS := fun D σ H => ∃ v0 v1 v5 v6 v7 v8 v9 v10 a c k L, σ = [v0, v1, some (.ref a), some (.ref c), some (.int (k : Nat)), v5, v6, v7, v8, v9, v10, some (.ref a)] ∧ H a = some (.tup (vO L)) ∧ ∀ d : Addr, ((k = L.length ∧ d = c) ∨ (k ≠ L.length ∧ d = a)) → D.nx [v0, v1, some (.ref a), some (.ref c), some (.int (k : Nat)), v5, v6, v7, v8, v9, v10, some (.ref d)] H
def tNew16 : TT := fun σ H Q => ∃ v0 v1 v5 v6 v7 v8 v9 v10 v11 a c k L M, σ = [v0, v1, some (.ref a), some (.ref c), some (.int (k : Nat)), v5, v6, v7, v8, v9, v10, v11] ∧ H a = some (.tup (vO L)) ∧ H c = some (.tup (vO M)) ∧ ((k < L.length ∨ L.length = M.length) → Q true H) ∧ (¬ (k < L.length ∨ L.length = M.length) → Q false H)
theorem endT_row {L : Lg} {b : Nat} (hb : b ≤ L.length) : endT (tAt L b) (tO (L.drop b)) = tAt L L.length := by
  rw [← termAt_end (b : Int), endP_row hb, termAt_row hb (Nat.le_refl _)]
def spLaw (K : PySem.W.Frag) : Sp := fun vs H Q _ => ∃ (a : Addr) (ns : List Int), vs = [.ref a] ∧ SqL K H a (ns.map V.int) ∧ ns.length ≤ 63 ∧ ∀ H', Q (.bl true) H'
theorem scL16 : FnScope ["_law_script", "_law_logs", "_law_log", "_law_other", "_law_alike_here", "_law_room", "_law_head", "_law_row_here", "_law_many", "_law_ahead", "_law_found", "_law_due"] ["_law_script"] (defScope sLaw) := ⟨rfl, rfl, rfl, by decide +kernel, rfl, by decide +kernel, by decide +kernel⟩
theorem ok_law {f : Addr} {fd : FuncData} (F : Fun K "law" "law" sLaw f fd) (T : Txt mg) (CC : Cal P w K mg base "_law_cell_at" 1 ["_law_script", "_law_k"] (spCell K)) (CB : Cal P w K mg base "_law_logs_by" 3 ["_law_script"] (spLogs K)) (CA : Cal P w K mg base "_law_alike" 1 ["_law_log", "_law_other"] spAlike) (CR : Cal P w K mg base "_law_row" 1 ["_law_log", "_law_base"] (spRowL K))
    (CH : Cal P w K mg base "_law_handed" 7 ["_law_head", "_law_row_here", "_law_many", "_law_steps"] (spHanded K)) (CI : Cal P w K mg base "_law_is_row" 2 ["_law_found", "_law_due"] (spIsRow K)) (CN : Cal P w K mg base "newness" 4 ["row"] (spNewest K)) (CW : Cal P w K mg base "as_new" 4 ["last", "place", "row"] (spAsNew K)) (CO : Cal P w K mg base "end_of" 1 ["row"] (spEndOf K)) : FnOk P w K mg base CX0 8 f fd ["_law_script"] (spLaw K) := by
  refine F.ok scL16 (fun vs H Q E ⟨_, _, e, _⟩ => by subst e; rfl) (fun cdv A outer s H vs Q E hr h => ?_)
  obtain ⟨a0, zs, rfl, hS, hlen, k⟩ := h
  obtain ⟨gC, dC, GC, mC, kC, bC⟩ := CC.ex
  obtain ⟨gB, dB, GB, mB, kB, bB⟩ := CB.ex
  obtain ⟨gA, dA, GA, mA, kA, bA⟩ := CA.ex
  obtain ⟨gR, dR, GR, mR, kR, bR⟩ := CR.ex
  obtain ⟨gH, dH, GH, mH, kH, bH⟩ := CH.ex
  obtain ⟨gI, dI, GI, mI, kI, bI⟩ := CI.ex
  obtain ⟨gN, dN, GN, mN, kN, bN⟩ := CN.ex
  obtain ⟨gW, dW, GW, mW, kW, bW⟩ := CW.ex
  obtain ⟨gO, dO, GO, mO, kO, bO⟩ := CO.ex
  have r1 := hr.mono (show 1 ≤ 7 by omega)
  have r2 := hr.mono (show 2 ≤ 7 by omega)
  have r3 := hr.mono (show 3 ≤ 7 by omega)
  have r4 := hr.mono (show 4 ≤ 7 by omega)
  refine ⟨_, @pss_p _ _ _ _ _ (ps_set (i := 1) scL16.nd (by rfl) (by exact Or.inl rfl) (pe_call GB r3 (by rfl) mB kB bB .nil pass0 (pa_n (pv 0) pa_nil)))
    (@pss_p _ _ _ _ _ (ps_set (i := 2) scL16.nd (by rfl) (by exact Or.inl rfl) (pe_ix ix_list (pv 1) (pe_op op_mod (pe_call GC r1 (by rfl) mC kC bC .nil pass0 (pa_n (pv 0) (pa_i pe_int pa_nil))) (pe_callB call_len_seq (by rfl) T.len PySem.boot_len (pa_n (pv 1) pa_nil))) px_b))
    (@pss_p _ _ _ _ _ (ps_set (i := 3) scL16.nd (by rfl) (by exact Or.inl rfl) (pe_ix ix_list (pv 1) (pe_op op_mod (pe_call GC r1 (by rfl) mC kC bC .nil pass0 (pa_n (pv 0) (pa_i pe_int pa_nil))) (pe_callB call_len_seq (by rfl) T.len PySem.boot_len (pa_n (pv 1) pa_nil))) px_b))
    (@pss_p _ _ _ _ _ (ps_set (i := 4) scL16.nd (by rfl) (by exact Or.inl rfl) (pe_call GA r1 (by rfl) mA kA bA .nil pass0 (pa_n (pv 2) (pa_n (pv 3) pa_nil))))
    (@pss_p _ _ _ _ _ (ps_set (i := 5) scL16.nd (by rfl) (by exact Or.inl rfl) (QE.h (qx_ix ix_list (qx_lst (qa_n (pv 4) (qa_k (pe_callB call_len_seq (by rfl) T.len PySem.boot_len (pa_n (pv 2) pa_nil)) qa_nil))) (pe_op op_mod (pe_call GC r1 (by rfl) mC kC bC .nil pass0 (pa_n (pv 0) (pa_i pe_int pa_nil))) (pe_int)) px_b)))
    (@pss_p _ _ _ _ _ (ps_set (i := 6) scL16.nd (by rfl) (by exact Or.inl rfl) (pe_call GR r1 (by rfl) mR kR bR .nil pass0 (pa_n (pv 2) (pa_b (pe_op op_mod (pe_op op_fdiv (pe_call GC r1 (by rfl) mC kC bC .nil pass0 (pa_n (pv 0) (pa_i pe_int pa_nil))) (pe_int)) (pe_op op_add (pv 5) (pe_int))) pa_nil))))
    (@pss_p _ _ _ _ _ (ps_set (i := 7) scL16.nd (by rfl) (by exact Or.inl rfl) (pe_call GR r1 (by rfl) mR kR bR .nil pass0 (pa_n (pv 3) (pa_b (pe_op op_mod (pe_call GC r1 (by rfl) mC kC bC .nil pass0 (pa_n (pv 0) (pa_i pe_int pa_nil))) (pe_op op_add (pv 4) (pe_int))) pa_nil))))
    (@pss_p _ _ _ _ _ (ps_set (i := 8) scL16.nd (by rfl) (by exact Or.inl rfl) (pe_op op_add (pe_int) (pe_op op_mod (pe_op op_fdiv (pe_call GC r1 (by rfl) mC kC bC .nil pass0 (pa_n (pv 0) (pa_i pe_int pa_nil))) (pe_int)) (pe_int))))
    (@pss_p _ _ _ _ _ (ps_set (i := 9) scL16.nd (by rfl) (by exact Or.inl rfl) (QE.h (qx_tup (qa_s (pe_ix ix_tup (pv 6) (pe_int) px_i) (qa_s (pe_ix ix_tup (pv 6) (pe_int) px_i) (qa_s (pe_ix ix_tup (pv 6) (pe_int) px_i) qa_nil))))))
    (@pss_p _ _ _ _ _ (ps_set (i := 10) scL16.nd (by rfl) (by exact Or.inl rfl) (pe_call GH hr (by rfl) mH kH bH .nil pass0 (pa_n (pv 6) (pa_n (pv 7) (pa_n (pv 8) (pa_b (pe_op op_add (pe_op op_add (pe_op op_mul (pe_int) (pe_callB call_len_seq (by rfl) T.len PySem.boot_len (pa_n (pv 2) pa_nil))) (pe_callB call_len_seq (by rfl) T.len PySem.boot_len (pa_n (pv 3) pa_nil))) (pe_int)) pa_nil))))))
    (@pss_p _ _ _ _ _ (ps_set (i := 11) scL16.nd (by rfl) (by exact Or.inl rfl) (pv 2))
    (@pss_p _ _ _ _ _ (PS.weakU (t' := tDue16) (ps_if (pt_cmpR op_eq (pv 4) (pe_callB call_len_seq (by rfl) T.len PySem.boot_len (pa_n (pv 2) pa_nil)) (nomark _)) (@pss_o _ _ _ (ps_set (i := 11) scL16.nd (by rfl) (by exact Or.inl rfl) (pv 3))) pss_nil) ?w1)
    (@pss_p _ _ _ _ _ (ps_if (PW.pt (pw_or (pt_cmpR op_isN (pv 10) pe_non (nomark _)) (pw_or (pt_cmpR op_notIn_seq (pe_ix ix_tup (pv 10) (pe_int) px_i) (QE.h (qx_lst (qa_s (pe_ix ix_tup (pv 6) (pe_int) px_i) (qa_s (pe_ix ix_tup (pv 7) (pe_int) px_i) qa_nil)))) (by rfl)) (pw_or (pt_cmpR op_lt (pe_ix ix_tup (pv 10) (pe_int) px_i) (pe_ix ix_tup (pv 7) (pe_int) px_i) (nomark _)) (pw_or1 (pt_cmpR (op_neA hr.units100) (pv 6) (pv 9) (nomark _))))))) (@pss_o _ _ _ (ps_ret pe_bl)) pss_nil)
    (@pss_p _ _ _ _ _ (ps_if (pt_not (pt_val (pe_call GI r2 (by rfl) mI kI bI .nil pass0 (pa_n (pv 10) (pa_k (pe_call GR r1 (by rfl) mR kR bR .nil pass0 (pa_n (pv 11) (pa_s (pe_ix ix_tup (pv 10) (pe_int) px_i) pa_nil))) pa_nil))))) (@pss_o _ _ _ (ps_ret pe_bl)) pss_nil)
    (@pss_p _ _ _ _ _ (ps_if (PT.weak (t' := tNew16) (PW.pt (pw_or (pt_cmpR op_lt (pv 4) (pe_callB call_len_seq (by rfl) T.len PySem.boot_len (pa_n (pv 2) pa_nil)) (nomark _)) (pw_or1 (pt_cmpR op_eq (pe_callB call_len_seq (by rfl) T.len PySem.boot_len (pa_n (pv 2) pa_nil)) (pe_callB call_len_seq (by rfl) T.len PySem.boot_len (pa_n (pv 3) pa_nil)) (nomark _))))) ?w2) (@pss_o _ _ _ (ps_ret (pe_and (pe_cmpR (op_eqA hr.units100) (pe_call GN r4 (by rfl) mN kN bN .nil pass0 (pa_n (pv 10) pa_nil)) (pe_call GN r4 (by rfl) mN kN bN .nil pass0 (pa_n (pv 6) pa_nil)) (nomark _)) (pe_one (pe_call GW r4 (by rfl) mW kW bW .nil pass0 (pa_s (pe_ix ix_tup (pe_call GN r4 (by rfl) mN kN bN .nil pass0 (pa_n (pv 6) pa_nil)) (pe_int) px_i) (pa_s (pe_ix ix_tup (pe_call GN r4 (by rfl) mN kN bN .nil pass0 (pa_n (pv 6) pa_nil)) (pe_int) px_i) (pa_n (pv 10) pa_nil)))))))) pss_nil)
    (@pss_o _ _ _ (ps_ret (pe_cmpR op_eq (pe_call GO r1 (by rfl) mO kO bO .nil pass0 (pa_n (pv 10) pa_nil)) (pe_callB call_len_seq (by rfl) T.len PySem.boot_len (pa_n (pv 3) pa_nil)) (nomark _)))))))))))))))))), ?_⟩
  case w1 =>
    rintro D σ H ⟨v0, v1, v5, v6, v7, v8, v9, v10, a, c, k, L, rfl, ha, q⟩
    refine ⟨_, rfl, _, rfl, a, _, rfl, .inr (SqT.of ha), rfl, _, rfl, ite2 (fun h => ⟨_, rfl, q c (.inl ⟨?_, rfl⟩)⟩) (fun h => q a (.inr ⟨fun e => h ?_, rfl⟩))⟩
    · have := of_decide_eq_true h
      simp only [V.int.injEq] at this
      rw [vO_len] at this
      omega
    · rw [vO_len, e]; exact decide_eq_true rfl
  case w2 =>
    rintro σ H Q ⟨v0, v1, v5, v6, v7, v8, v9, v10, v11, a, c, k, L, M, rfl, ha, hc, q1, q2⟩
    refine ⟨_, rfl, _, rfl, a, _, rfl, .inr (SqT.of ha), _, _, rfl, rfl, _, rfl, ite2 (fun h => q1 (.inl ?_)) (fun h => ?_)⟩
    · have := of_decide_eq_true h
      rw [vO_len] at this
      omega
    · have n1 := ndec h
      rw [vO_len] at n1
      refine ⟨_, rfl, a, _, rfl, .inr (SqT.of ha), _, rfl, c, _, rfl, .inr (SqT.of hc), rfl, _, rfl, ?_⟩
      rw [vO_len, vO_len]
      by_cases e : L.length = M.length
      · rw [e, decide_eq_true rfl]
        exact q1 (.inr e)
      · rw [decide_eq_false (fun z => e (by simp only [V.int.injEq] at z; omega))]
        exact q2 (fun z => by rcases z with z | z <;> omega)
  refine ⟨_, rfl, a0, zs, rfl, hS, hlen, fun l D H1 hl hD hL s1 => ?_⟩
  have hS1 := SqL.same hS s1
  have wl : SqL K H1 l (D.map refD) := SqL.of hl
  have hpos : (0 : Int) < ((D.map refD).length : Int) := by rw [List.length_map]; omega
  refine ⟨_, rfl, _, rfl, a0, zs, 0, rfl, hS1, by decide, fun c0 => ?_⟩
  obtain ⟨x0, x1⟩ := emod_in c0 hpos
  obtain ⟨_, hv, hm⟩ := atI_mem (xs := D.map refD) x0 x1
  obtain ⟨d, hd, rfl⟩ := List.mem_map.mp hm
  refine ⟨_, rfl, l, _, rfl, .inl wl, _, _, rfl, rfl, hpos, l, _, _, refD d, rfl, rfl, wl, hv, ?_⟩
  refine ⟨_, rfl, _, rfl, a0, zs, 1, rfl, hS1, by decide, fun c1 => ?_⟩
  obtain ⟨y0, y1⟩ := emod_in c1 hpos
  obtain ⟨_, hv2, hm2⟩ := atI_mem (xs := D.map refD) y0 y1
  obtain ⟨e, he, rfl⟩ := List.mem_map.mp hm2
  refine ⟨_, rfl, l, _, rfl, .inl wl, _, _, rfl, rfl, hpos, l, _, _, refD e, rfl, rfl, wl, hv2, ?_⟩
  have LE : LogV H1 d.1 d.2 := let ⟨g1, g2, g3, _⟩ := hL.each d hd; ⟨g1, g2, by omega⟩
  have LO : LogV H1 e.1 e.2 := let ⟨g1, g2, g3, _⟩ := hL.each e he; ⟨g1, g2, by omega⟩
  have m : Mt e.2 d.2 := hL.pair e he d hd
  obtain ⟨ad, G⟩ := d
  obtain ⟨ae, O⟩ := e
  clear hL hl wl hv hv2 hm hm2 hd he
  simp only at LE LO m
  obtain ⟨b1, b2⟩ := sameN_le (tO G) (tO O)
  rw [tO_len] at b1 b2
  refine ⟨_, rfl, _, rfl, ad, ae, G, O, rfl, LE, LO, m, ?_⟩
  generalize hal : sameN (tO G) (tO O) = al at b1 b2
  -- the room
  refine ⟨_, rfl, _, rfl, ad, _, rfl, .inr (SqT.of LE.1), tiny (by show 2 ≤ 1000; decide), fun lr hlr => ?_⟩
  have s2 := same_upd (o := HO.lst [V.int (al : Nat), V.int ((vO G).length : Int)]) hlr
  refine ⟨_, rfl, a0, zs, 2, rfl, SqL.same hS1 s2, by decide, fun c2 => ?_⟩
  obtain ⟨z0, z1⟩ := emod_in c2 (m := 2) (by decide)
  obtain ⟨vr, hvr, hmr⟩ := atI_mem (xs := [V.int (al : Nat), V.int ((vO G).length : Int)]) z0 (by simpa using z1)
  refine ⟨_, _, rfl, rfl, (by show (0 : Int) < 2; decide), lr, _, _, vr, rfl, rfl, SqL.of upd_same, hvr, ?_⟩
  obtain ⟨room, rfl, hroom⟩ : ∃ room : Nat, vr = .int room ∧ room ≤ G.length := by
    simp only [List.mem_cons, List.not_mem_nil, or_false] at hmr
    rcases hmr with rfl | rfl
    · exact ⟨al, rfl, b1⟩
    · exact ⟨G.length, by rw [vO_len], Nat.le_refl _⟩
  obtain ⟨H2, e2, LE2, LO2, hS2⟩ : ∃ H2 : Hp, H2 = upd H1 lr (.lst [V.int (al : Nat), V.int ((vO G).length : Int)]) ∧ LogV H2 ad G ∧ LogV H2 ae O ∧ SqL K H2 a0 (zs.map V.int) := ⟨_, rfl, LE.same s2, LO.same s2, SqL.same hS1 s2⟩
  rw [← e2]
  clear e2 hlr s2
  -- the head
  refine ⟨_, rfl, _, rfl, a0, zs, 2, rfl, hS2, by decide, fun c3 => ?_⟩
  have hp3 : (0 : Int) < (room : Int) + 1 := by omega
  obtain ⟨w0, w1⟩ := emod_in (c3 / 2) hp3
  obtain ⟨hb, ehb⟩ := Int.eq_ofNat_of_zero_le w0
  have hbl : hb ≤ G.length := by omega
  refine ⟨_, _, rfl, rfl, ⟨by decide, by decide⟩, _, rfl, _, _, rfl, rfl, _, _, rfl, rfl, hp3, ad, G, hb, congrArg (fun z => [V.ref ad, V.int z]) ehb, LE2, hbl, fun vh H3 hh s3 => ?_⟩
  -- the other's row
  refine ⟨_, rfl, _, rfl, a0, zs, 3, rfl, SqL.same hS2 s3, by decide, fun c4 => ?_⟩
  have hp4 : (0 : Int) < (al : Int) + 1 := by omega
  obtain ⟨u0, u1⟩ := emod_in c4 hp4
  obtain ⟨rb, erb⟩ := Int.eq_ofNat_of_zero_le u0
  have hrb : rb ≤ al := by omega
  refine ⟨_, rfl, _, _, rfl, rfl, _, _, rfl, rfl, hp4, ae, O, rb, congrArg (fun z => [V.ref ae, V.int z]) erb, LO2.same s3, by omega, fun v H4 hv4 s4 => ?_⟩
  -- how many at once
  refine ⟨_, rfl, a0, zs, 3, rfl, SqL.same hS2 (s3.trans s4), by decide, fun c5 => ?_⟩
  obtain ⟨t0, t1⟩ := emod_in (c5 / 7) (m := 5) (by decide)
  obtain ⟨n, en⟩ := Int.eq_ofNat_of_zero_le (show 0 ≤ 1 + c5 / 7 % 5 by omega)
  refine ⟨_, _, rfl, rfl, ⟨by decide, by decide⟩, _, _, rfl, rfl, (by show (0 : Int) < 5; decide), _, _, rfl, rfl, ?_⟩
  show gName 8 (V.int (1 + c5 / 7 % 5)) _ _ _
  rw [en]
  have hh4 := RowX.same hh s4
  have hh' := hh4
  obtain ⟨⟨ah, ch, rfl, hah, hch⟩, hen, _⟩ := hh'
  have wh := SqT.of (K := K) hah
  have at0 : atI [V.int (hb : Int), V.int (tAt G hb), V.ref ch] 0 = some (.int (hb : Int)) := atI_nat (j := 0) rfl
  have at1 : atI [V.int (hb : Int), V.int (tAt G hb), V.ref ch] 1 = some (.int (tAt G hb)) := atI_nat (j := 1) rfl
  have at2 : atI [V.int (hb : Int), V.int (tAt G hb), V.ref ch] 2 = some (.ref ch) := atI_nat (j := 2) rfl
  refine ⟨_, rfl, ah, _, _, .int (hb : Int), rfl, rfl, wh, at0, _, rfl, ah, _, _, .int (tAt G hb), rfl, rfl, wh, at1, _, rfl, ah, _, _, .ref ch, rfl, rfl, wh, at2, tiny (by show 3 ≤ 1000; decide), fun pw hpw => ?_⟩
  have s5 := same_upd (o := HO.tup [V.int (hb : Int), V.int (tAt G hb), V.ref ch]) hpw
  have s35 := s3.trans (s4.trans s5)
  have vr : ∃ ar, v = .ref ar := let ⟨ar, _, e, _⟩ := hv4.ex; ⟨ar, e⟩
  obtain ⟨ar, rfl⟩ := vr
  obtain ⟨H5, e5, LE5, LO5, hh5, hv5, hah5, hpw5⟩ : ∃ H5 : Hp, H5 = upd H4 pw (.tup [V.int (hb : Int), V.int (tAt G hb), V.ref ch]) ∧ LogV H5 ad G ∧ LogV H5 ae O ∧ RowL K H5 (.ref ah) hb G ∧ RowL K H5 (.ref ar) rb O ∧ H5 ah = some (.tup [V.int (hb : Int), V.int (tAt G hb), V.ref ch]) ∧ H5 pw = some (.tup [V.int (hb : Int), V.int (tAt G hb), V.ref ch]) :=
    ⟨_, rfl, LE2.same s35, LO2.same s35, RowX.same hh4 s5, RowX.same hv4 s5, s5 _ _ hah, upd_same⟩
  rw [← e5]
  clear e5 hh4 hv4 wh hah hch hen hpw s5 s35
  -- handed on
  have hsg : Sg G O hb rb rb O := ⟨Nat.le_refl _, .inl rfl, by omega, (ag_low m (by omega)).2, .inl rfl, fun _ => rfl⟩
  have est : 2 * ((vO G).length : Int) + ((vO O).length : Int) + 6 = ((2 * G.length + O.length + 6 : Nat) : Int) := by rw [vO_len, vO_len]; omega
  refine ⟨_, rfl, _, rfl, _, rfl, _, rfl, ad, _, rfl, .inr (SqT.of LE5.1), _, _, rfl, rfl, .inl ⟨by decide, by decide⟩, _, rfl, ae, _, rfl, .inr (SqT.of LO5.1), _, _, rfl, rfl, _, _, rfl, rfl, .ref ah, .ref ar, hb, rb, rb, G, O, O, n, 2 * G.length + O.length + 6, congrArg (fun z => [V.ref ah, V.ref ar, V.int (n : Int), V.int z]) est, hh5, hv5, LE5.2.2, LO5.2.2, hsg, m, hbl, by omega, by omega, rfl, fun u b' M H6 hu g' ag s6 => ?_⟩
  have dn := g'.done m ag
  rw [hal] at dn
  have LE6 := LE5.same s6
  have LO6 := LO5.same s6
  refine ⟨_, rfl, ?_⟩
  refine ⟨_, _, _, _, _, _, _, _, ad, ae, al, G, rfl, LE6.1, fun dd hdd => ?_⟩
  have LD : LogV H6 dd M := by
    rcases dn with ⟨x1, rfl⟩ | ⟨x1, rfl⟩
    · rcases hdd with ⟨_, rfl⟩ | ⟨x2, _⟩
      · exact LO6
      · exact absurd x1 x2
    · rcases hdd with ⟨x2, _⟩ | ⟨_, rfl⟩
      · omega
      · exact LE6
  -- the row that was found
  have hu' := hu
  obtain ⟨⟨au, cu, rfl, hau, hcu⟩, _, _⟩ := hu'
  have wu := SqT.of (K := K) hau
  have atu : atI [V.int (b' : Int), V.int (tAt M b'), V.ref cu] 0 = some (.int (b' : Int)) := atI_nat (j := 0) rfl
  have wh6 : SqT K H6 ah [V.int (hb : Int), V.int (tAt G hb), V.ref ch] := SqT.of (s6 _ _ hah5)
  have hr6 := RowX.same hv5 s6
  obtain ⟨⟨_, cr, er, har, _⟩, _, _⟩ := hr6
  cases er
  have wr := SqT.of (K := K) har
  have atr : atI [V.int (rb : Int), V.int (tAt O rb), V.ref cr] 0 = some (.int (rb : Int)) := atI_nat (j := 0) rfl
  have hin : inV (V.int (b' : Int)) [V.int (hb : Int), V.int (rb : Int)] = true := by
    rcases g'.bs with e | e <;> (rw [e]; simp [inV, eqV])
  have lo := g'.lo
  refine ⟨_, rfl, rfl, _, rfl, ite2 (fun h => absurd (of_decide_eq_true h) (by intro z; cases z)) (fun _ => ?_)⟩
  refine ⟨_, rfl, au, _, _, .int (b' : Int), rfl, rfl, wu, atu, _, rfl, ah, _, _, .int (hb : Int), rfl, rfl, wh6, at0, _, rfl, ar, _, _, .int (rb : Int), rfl, rfl, wr, atr, tiny (by show 2 ≤ 1000; decide), fun l7 hl7 => ?_⟩
  have s7 := same_upd (o := HO.lst [V.int (hb : Int), V.int (rb : Int)]) hl7
  refine ⟨l7, _, rfl, .inl (SqL.of upd_same), rfl, rfl, _, rfl, ite2 (fun h => absurd h (by rw [if_pos rfl, hin]; decide)) (fun _ => ?_)⟩
  obtain ⟨H7, e7, LE7, LO7, LD7, hu7, hh7, wu7, wr7, wh7, wp7⟩ : ∃ H7 : Hp, H7 = upd H6 l7 (.lst [V.int (hb : Int), V.int (rb : Int)]) ∧ LogV H7 ad G ∧ LogV H7 ae O ∧ LogV H7 dd M ∧ RowL K H7 (.ref au) b' M ∧ RowL K H7 (.ref ah) hb G ∧ SqT K H7 au [V.int (b' : Int), V.int (tAt M b'), V.ref cu] ∧ SqT K H7 ar [V.int (rb : Int), V.int (tAt O rb), V.ref cr] ∧ SqT K H7 ah [V.int (hb : Int), V.int (tAt G hb), V.ref ch] ∧ SqT K H7 pw [V.int (hb : Int), V.int (tAt G hb), V.ref ch] :=
    ⟨_, rfl, LE6.same s7, LO6.same s7, LD.same s7, RowX.same hu s7, RowX.same hh5 (s6.trans s7), SqT.same wu s7, SqT.same wr s7, SqT.same wh6 s7, SqT.of (s7 _ _ (s6 _ _ hpw5))⟩
  rw [← e7]
  clear e7 s7 hl7
  refine ⟨_, rfl, au, _, _, .int (b' : Int), rfl, rfl, wu7, atu, _, rfl, ar, _, _, .int (rb : Int), rfl, rfl, wr7, atr, _, _, rfl, rfl, _, rfl, ite2 (fun h => absurd (of_decide_eq_true h) (by omega)) (fun _ => ?_)⟩
  refine ⟨_, rfl, _, rfl, ah, pw, _, _, 1, rfl, rfl, wh7, wp7, rfl, ?_, by decide, _, rfl, iteF ?_⟩
  · intro i x y e1 e2
    rw [e1] at e2
    cases e2
    match i, e1 with
    | 0, e1 => cases e1; exact .flat rfl
    | 1, e1 => cases e1; exact .flat rfl
    | 2, e1 => cases e1; exact .ref _
    | i + 3, e1 => simp at e1
  -- it is the row that is due
  refine ⟨_, rfl, _, rfl, _, rfl, au, _, _, .int (b' : Int), rfl, rfl, wu7, atu, dd, M, b', rfl, LD7, g'.le, fun v2 H8 hv8 s8 => ?_⟩
  refine ⟨_, v2, _, _, _, _, rfl, RowX.same hu7 s8, hv8, _, rfl, iteF ?_⟩
  have hu8 := RowX.same hu7 s8
  have hh8 := RowX.same hh7 s8
  refine ⟨_, _, _, _, _, _, _, _, _, ad, ae, al, G, O, rfl, (LE7.same s8).1, (LO7.same s8).1, fun hc => ?_, fun hc => ?_⟩
  · have eM : M = G := by
      rcases dn with ⟨x1, rfl⟩ | ⟨x1, rfl⟩
      · have hl2 : M.length = G.length := by omega
        have := ag.2
        rw [← hl2, List.take_length, hl2, List.take_length] at this
        exact this
      · rfl
    subst eM
    have eu := endT_row (L := M) g'.le
    have eh := endT_row (L := M) hbl
    have pu := endP_row (L := M) g'.le
    have ph := endP_row (L := M) hbl
    refine iteT ⟨_, rfl, _, _, _, _, rfl, ⟨_, hu8⟩, fun p1 H9 h9 s9 => ⟨_, rfl, _, _, _, _, rfl, ⟨_, RowX.same hh8 s9⟩, fun p2 HA hA sA => ?_⟩⟩
    rw [eu, pu] at h9
    rw [eh, ph] at hA
    refine ⟨p1, p2, _, _, 1, rfl, rfl, SqT.of (sA _ _ h9), SqT.of hA, rfl, fun i x y e1 e2 => ?_, by decide, _, rfl, iteT ?_⟩
    · rw [e1] at e2
      cases e2
      match i, e1 with
      | 0, e1 => cases e1; exact .flat rfl
      | 1, e1 => cases e1; exact .flat rfl
      | i + 2, e1 => simp at e1
    have sB := s9.trans sA
    refine ⟨_, rfl, _, _, _, _, rfl, ⟨_, RowX.same hh8 sB⟩, fun p3 HC hC sC => ?_⟩
    rw [eh, ph] at hC
    refine ⟨p3, _, _, .int (tAt M M.length), rfl, rfl, SqT.of hC, atI_nat (j := 0) rfl, _, rfl, _, _, _, _, rfl, ⟨_, RowX.same hh8 (sB.trans sC)⟩, fun p4 HD hD4 sD => ?_⟩
    rw [eh, ph] at hD4
    refine ⟨p4, _, _, .int (M.length : Int), rfl, rfl, SqT.of hD4, atI_nat (j := 1) rfl, _, rfl, _, _, _, _, _, _, rfl, ⟨_, RowX.same hu8 (sB.trans (sC.trans sD))⟩, fun H' _ => ?_⟩
    have et : asNewB (tAt M M.length) (M.length : Int) (b' : Int) (tAt M b') (tO (M.drop b')) = true := by
      unfold asNewB
      rw [eu, pu]
      simp
    rw [et]
    exact k H'
  · refine iteF ⟨_, rfl, _, _, _, _, rfl, ⟨_, hu8⟩, _, rfl, ae, _, rfl, .inr (SqT.of (LO7.same s8).1), rfl, ?_⟩
    have eM : M = O := by
      rcases dn with ⟨x1, rfl⟩ | ⟨x1, rfl⟩
      · rfl
      · omega
    subst eM
    rw [endP_row g'.le, vO_len]
    show Q (.bl (decide (V.int (M.length : Int) = V.int (M.length : Int)))) _
    rw [decide_eq_true rfl]
    exact k _
end
end K1
set_option Elab.async false
set_option linter.all false
set_option maxRecDepth 100000
set_option maxHeartbeats 4000000
namespace K1
open PySem L2 Kp
theorem cal {P : Program} {w : World} {K : PySem.W.Frag} {mg : Str → Option Value} {base : Heap} {x : Str} {st : Stmt} {f : Addr} {fd : FuncData} {ps : List Str} {k : Nat} {sp : Sp} (F : Fun K x x st f fd) (hm : mg x = some (.ref f)) (b : Binds K fd ps []) (ok : FnOk P w K mg base CX0 k f fd ps sp) : Cal P w K mg base x k ps sp := ⟨f, fd, ok, hm, F.kp, b⟩
theorem all_mk {l : PySem.W.OpenLaw} {w : World} {K : PySem.W.Frag} {h : Heap} {mg : Str → Option Value} {fa f0 f1 f2 f3 f4 f5 f6 f7 f8 f9 f10 f11 f12 f13 f14 f15 f16 f17 f18 f19 f20 f21 f22 : Addr} (X : K.In h) (G : h.Ns mainGlobals mg) (hfa : mg "law" = some (.ref fa))
    {od0 an0 od1 an1 od2 an2 od3 an3 od4 an4 od5 an5 od6 an6 od7 an7 od8 an8 od9 an9 od10 an10 od11 an11 od12 an12 od13 an13 od14 an14 od15 an15 od16 an16 od17 an17 od18 an18 od19 an19 od20 an20 od21 an21 od22 an22 : Option Addr} {sl0 sl1 sl2 sl3 sl4 sl5 sl6 sl7 sl8 sl9 sl10 sl11 sl12 sl13 sl14 sl15 sl16 sl17 sl18 sl19 sl20 sl21 sl22 : Array (Option Value)} {oc0 kV0 dc0 pm0 cd0 ct0 oc1 kV1 dc1 pm1 cd1 ct1 oc2 kV2 dc2 pm2 cd2 ct2 oc3 kV3 dc3 pm3 cd3 ct3 oc4 kV4 dc4 pm4 cd4 ct4 oc5 kV5 dc5 pm5 cd5 ct5 oc6 kV6 dc6 pm6 cd6 ct6 oc7 kV7 dc7 pm7 cd7 ct7 oc8 kV8 dc8 pm8 cd8 ct8 oc9 kV9 dc9 pm9 cd9 ct9 oc10 kV10 dc10 pm10 cd10 ct10 oc11 kV11 dc11 pm11 cd11 ct11 oc12 kV12 dc12 pm12 cd12 ct12 oc13 kV13 dc13 pm13 cd13 ct13 oc14 kV14 dc14 pm14 cd14 ct14 oc15 kV15 dc15 pm15 cd15 ct15 oc16 kV16 dc16 pm16 cd16 ct16 oc17 kV17 dc17 pm17 cd17 ct17 oc18 kV18 dc18 pm18 cd18 ct18 oc19 kV19 dc19 pm19 cd19 ct19 oc20 kV20 dc20 pm20 cd20 ct20 oc21 kV21 dc21 pm21 cd21 ct21 oc22 kV22 dc22 pm22 cd22 ct22 : Value}
    (a0 : PySem.W.nsIn K mainGlobals "end_of" = some (some (.ref f0))) (l0 : K.lookup f0 = some ⟨oc0, od0, .func (PySem.W.fnOf "end_of" "end_of" (defArgs s_end_of) (defBody s_end_of) (defScope s_end_of) .none kV0 dc0 pm0 an0 cd0 ct0), sl0⟩) (c0 : PySem.W.codeIn K cd0 "end_of" = true) (k0 : PySem.W.keepIn K (.ref f0) = true)
    (a1 : PySem.W.nsIn K mainGlobals "entry_at" = some (some (.ref f1))) (l1 : K.lookup f1 = some ⟨oc1, od1, .func (PySem.W.fnOf "entry_at" "entry_at" (defArgs s_entry_at) (defBody s_entry_at) (defScope s_entry_at) .none kV1 dc1 pm1 an1 cd1 ct1), sl1⟩) (c1 : PySem.W.codeIn K cd1 "entry_at" = true) (k1 : PySem.W.keepIn K (.ref f1) = true)
    (a2 : PySem.W.nsIn K mainGlobals "term_at" = some (some (.ref f2))) (l2 : K.lookup f2 = some ⟨oc2, od2, .func (PySem.W.fnOf "term_at" "term_at" (defArgs s_term_at) (defBody s_term_at) (defScope s_term_at) .none kV2 dc2 pm2 an2 cd2 ct2), sl2⟩) (c2 : PySem.W.codeIn K cd2 "term_at" = true) (k2 : PySem.W.keepIn K (.ref f2) = true)
    (a3 : PySem.W.nsIn K mainGlobals "behind" = some (some (.ref f3))) (l3 : K.lookup f3 = some ⟨oc3, od3, .func (PySem.W.fnOf "behind" "behind" (defArgs s_behind) (defBody s_behind) (defScope s_behind) .none kV3 dc3 pm3 an3 cd3 ct3), sl3⟩) (c3 : PySem.W.codeIn K cd3 "behind" = true) (k3 : PySem.W.keepIn K (.ref f3) = true)
    (a4 : PySem.W.nsIn K mainGlobals "newness" = some (some (.ref f4))) (l4 : K.lookup f4 = some ⟨oc4, od4, .func (PySem.W.fnOf "newness" "newness" (defArgs s_newness) (defBody s_newness) (defScope s_newness) .none kV4 dc4 pm4 an4 cd4 ct4), sl4⟩) (c4 : PySem.W.codeIn K cd4 "newness" = true) (k4 : PySem.W.keepIn K (.ref f4) = true)
    (a5 : PySem.W.nsIn K mainGlobals "as_new" = some (some (.ref f5))) (l5 : K.lookup f5 = some ⟨oc5, od5, .func (PySem.W.fnOf "as_new" "as_new" (defArgs s_as_new) (defBody s_as_new) (defScope s_as_new) .none kV5 dc5 pm5 an5 cd5 ct5), sl5⟩) (c5 : PySem.W.codeIn K cd5 "as_new" = true) (k5 : PySem.W.keepIn K (.ref f5) = true)
    (a6 : PySem.W.nsIn K mainGlobals "agrees" = some (some (.ref f6))) (l6 : K.lookup f6 = some ⟨oc6, od6, .func (PySem.W.fnOf "agrees" "agrees" (defArgs s_agrees) (defBody s_agrees) (defScope s_agrees) .none kV6 dc6 pm6 an6 cd6 ct6), sl6⟩) (c6 : PySem.W.codeIn K cd6 "agrees" = true) (k6 : PySem.W.keepIn K (.ref f6) = true)
    (a7 : PySem.W.nsIn K mainGlobals "same_ahead" = some (some (.ref f7))) (l7 : K.lookup f7 = some ⟨oc7, od7, .func (PySem.W.fnOf "same_ahead" "same_ahead" (defArgs s_same_ahead) (defBody s_same_ahead) (defScope s_same_ahead) .none kV7 dc7 pm7 an7 cd7 ct7), sl7⟩) (c7 : PySem.W.codeIn K cd7 "same_ahead" = true) (k7 : PySem.W.keepIn K (.ref f7) = true)
    (a8 : PySem.W.nsIn K mainGlobals "filled" = some (some (.ref f8))) (l8 : K.lookup f8 = some ⟨oc8, od8, .func (PySem.W.fnOf "filled" "filled" (defArgs s_filled) (defBody s_filled) (defScope s_filled) .none kV8 dc8 pm8 an8 cd8 ct8), sl8⟩) (c8 : PySem.W.codeIn K cd8 "filled" = true) (k8 : PySem.W.keepIn K (.ref f8) = true)
    (a9 : PySem.W.nsIn K mainGlobals "cut_off" = some (some (.ref f9))) (l9 : K.lookup f9 = some ⟨oc9, od9, .func (PySem.W.fnOf "cut_off" "cut_off" (defArgs s_cut_off) (defBody s_cut_off) (defScope s_cut_off) .none kV9 dc9 pm9 an9 cd9 ct9), sl9⟩) (c9 : PySem.W.codeIn K cd9 "cut_off" = true) (k9 : PySem.W.keepIn K (.ref f9) = true)
    (a10 : PySem.W.nsIn K mainGlobals "taken_over" = some (some (.ref f10))) (l10 : K.lookup f10 = some ⟨oc10, od10, .func (PySem.W.fnOf "taken_over" "taken_over" (defArgs s_taken_over) (defBody s_taken_over) (defScope s_taken_over) .none kV10 dc10 pm10 an10 cd10 ct10), sl10⟩) (c10 : PySem.W.codeIn K cd10 "taken_over" = true) (k10 : PySem.W.keepIn K (.ref f10) = true)
    (a11 : PySem.W.nsIn K mainGlobals "_law_cell_at" = some (some (.ref f11))) (l11 : K.lookup f11 = some ⟨oc11, od11, .func (PySem.W.fnOf "_law_cell_at" "_law_cell_at" (defArgs sCell) (defBody sCell) (defScope sCell) .none kV11 dc11 pm11 an11 cd11 ct11), sl11⟩) (c11 : PySem.W.codeIn K cd11 "_law_cell_at" = true) (k11 : PySem.W.keepIn K (.ref f11) = true)
    (a12 : PySem.W.nsIn K mainGlobals "_law_whole" = some (some (.ref f12))) (l12 : K.lookup f12 = some ⟨oc12, od12, .func (PySem.W.fnOf "_law_whole" "_law_whole" (defArgs s__law_whole) (defBody s__law_whole) (defScope s__law_whole) .none kV12 dc12 pm12 an12 cd12 ct12), sl12⟩) (c12 : PySem.W.codeIn K cd12 "_law_whole" = true) (k12 : PySem.W.keepIn K (.ref f12) = true)
    (a13 : PySem.W.nsIn K mainGlobals "_law_name_by" = some (some (.ref f13))) (l13 : K.lookup f13 = some ⟨oc13, od13, .func (PySem.W.fnOf "_law_name_by" "_law_name_by" (defArgs sNameBy) (defBody sNameBy) (defScope sNameBy) .none kV13 dc13 pm13 an13 cd13 ct13), sl13⟩) (c13 : PySem.W.codeIn K cd13 "_law_name_by" = true) (k13 : PySem.W.keepIn K (.ref f13) = true)
    (a14 : PySem.W.nsIn K mainGlobals "_law_bounded" = some (some (.ref f14))) (l14 : K.lookup f14 = some ⟨oc14, od14, .func (PySem.W.fnOf "_law_bounded" "_law_bounded" (defArgs s__law_bounded) (defBody s__law_bounded) (defScope s__law_bounded) .none kV14 dc14 pm14 an14 cd14 ct14), sl14⟩) (c14 : PySem.W.codeIn K cd14 "_law_bounded" = true) (k14 : PySem.W.keepIn K (.ref f14) = true)
    (a15 : PySem.W.nsIn K mainGlobals "_law_entry_by" = some (some (.ref f15))) (l15 : K.lookup f15 = some ⟨oc15, od15, .func (PySem.W.fnOf "_law_entry_by" "_law_entry_by" (defArgs s__law_entry_by) (defBody s__law_entry_by) (defScope s__law_entry_by) .none kV15 dc15 pm15 an15 cd15 ct15), sl15⟩) (c15 : PySem.W.codeIn K cd15 "_law_entry_by" = true) (k15 : PySem.W.keepIn K (.ref f15) = true)
    (a16 : PySem.W.nsIn K mainGlobals "_law_is_row" = some (some (.ref f16))) (l16 : K.lookup f16 = some ⟨oc16, od16, .func (PySem.W.fnOf "_law_is_row" "_law_is_row" (defArgs s__law_is_row) (defBody s__law_is_row) (defScope s__law_is_row) .none kV16 dc16 pm16 an16 cd16 ct16), sl16⟩) (c16 : PySem.W.codeIn K cd16 "_law_is_row" = true) (k16 : PySem.W.keepIn K (.ref f16) = true)
    (a17 : PySem.W.nsIn K mainGlobals "_law_logs_by" = some (some (.ref f17))) (l17 : K.lookup f17 = some ⟨oc17, od17, .func (PySem.W.fnOf "_law_logs_by" "_law_logs_by" (defArgs s__law_logs_by) (defBody s__law_logs_by) (defScope s__law_logs_by) .none kV17 dc17 pm17 an17 cd17 ct17), sl17⟩) (c17 : PySem.W.codeIn K cd17 "_law_logs_by" = true) (k17 : PySem.W.keepIn K (.ref f17) = true)
    (a18 : PySem.W.nsIn K mainGlobals "_law_alike" = some (some (.ref f18))) (l18 : K.lookup f18 = some ⟨oc18, od18, .func (PySem.W.fnOf "_law_alike" "_law_alike" (defArgs s__law_alike) (defBody s__law_alike) (defScope s__law_alike) .none kV18 dc18 pm18 an18 cd18 ct18), sl18⟩) (c18 : PySem.W.codeIn K cd18 "_law_alike" = true) (k18 : PySem.W.keepIn K (.ref f18) = true)
    (a19 : PySem.W.nsIn K mainGlobals "_law_row" = some (some (.ref f19))) (l19 : K.lookup f19 = some ⟨oc19, od19, .func (PySem.W.fnOf "_law_row" "_law_row" (defArgs s__law_row) (defBody s__law_row) (defScope s__law_row) .none kV19 dc19 pm19 an19 cd19 ct19), sl19⟩) (c19 : PySem.W.codeIn K cd19 "_law_row" = true) (k19 : PySem.W.keepIn K (.ref f19) = true)
    (a20 : PySem.W.nsIn K mainGlobals "_law_step" = some (some (.ref f20))) (l20 : K.lookup f20 = some ⟨oc20, od20, .func (PySem.W.fnOf "_law_step" "_law_step" (defArgs s__law_step) (defBody s__law_step) (defScope s__law_step) .none kV20 dc20 pm20 an20 cd20 ct20), sl20⟩) (c20 : PySem.W.codeIn K cd20 "_law_step" = true) (k20 : PySem.W.keepIn K (.ref f20) = true)
    (a21 : PySem.W.nsIn K mainGlobals "_law_handed" = some (some (.ref f21))) (l21 : K.lookup f21 = some ⟨oc21, od21, .func (PySem.W.fnOf "_law_handed" "_law_handed" (defArgs s__law_handed) (defBody s__law_handed) (defScope s__law_handed) .none kV21 dc21 pm21 an21 cd21 ct21), sl21⟩) (c21 : PySem.W.codeIn K cd21 "_law_handed" = true) (k21 : PySem.W.keepIn K (.ref f21) = true)
    (a22 : PySem.W.nsIn K mainGlobals "law" = some (some (.ref f22))) (l22 : K.lookup f22 = some ⟨oc22, od22, .func (PySem.W.fnOf "law" "law" (defArgs sLaw) (defBody sLaw) (defScope sLaw) .none kV22 dc22 pm22 an22 cd22 ct22), sl22⟩) (c22 : PySem.W.codeIn K cd22 "law" = true) (k22 : PySem.W.keepIn K (.ref f22) = true)
    (z0 : PySem.W.nsIn K mainGlobals "isinstance" = some none) (z1 : PySem.W.nsIn K mainGlobals "int" = some none) (z2 : PySem.W.nsIn K mainGlobals "bool" = some none) (z3 : PySem.W.nsIn K mainGlobals "str" = some none) (z4 : PySem.W.nsIn K mainGlobals "tuple" = some none) (z5 : PySem.W.nsIn K mainGlobals "list" = some none) (z6 : PySem.W.nsIn K mainGlobals "all" = some none) (z7 : PySem.W.nsIn K mainGlobals "zip" = some none) (z8 : PySem.W.nsIn K mainGlobals "len" = some none) (z9 : PySem.W.nsIn K mainGlobals "range" = some none) (z10 : PySem.W.nsIn K mainGlobals "max" = some none) (z11 : PySem.W.nsIn K mainGlobals "min" = some none) (z12 : PySem.W.nsIn K mainGlobals "sorted" = some none) (z13 : PySem.W.nsIn K mainGlobals "any" = some none) (z14 : PySem.W.nsIn K mainGlobals "sum" = some none) :
    ∃ fd : FuncData, (∀ (s : Shared) (v : Value), BindsTo s fd ⟨[v], []⟩ [("_law_script", v)]) ∧ ∀ base : Heap, K.In base → base.Ns mainGlobals mg → FnOk l.prog w K mg base CX0 8 fa fd ["_law_script"] (spLaw K) := by
  have e := hfa.symm.trans (PySem.W.mg_of X G a22)
  cases e
  have T : Txt mg := ⟨PySem.W.mg_none_of X G z0, PySem.W.mg_none_of X G z1, PySem.W.mg_none_of X G z2, PySem.W.mg_none_of X G z3, PySem.W.mg_none_of X G z4, PySem.W.mg_none_of X G z5, PySem.W.mg_none_of X G z6, PySem.W.mg_none_of X G z7, PySem.W.mg_none_of X G z8, PySem.W.mg_none_of X G z9, PySem.W.mg_none_of X G z10, PySem.W.mg_none_of X G z11, PySem.W.mg_none_of X G z12, PySem.W.mg_none_of X G z13, PySem.W.mg_none_of X G z14⟩
  have hmx := PySem.W.mg_none_of X G z10
  have hso := PySem.W.mg_none_of X G z12
  have F0 := fun_mk (st := s_end_of) l0 c0 k0
  have m0 := PySem.W.mg_of X G a0
  have b0 := F0.binds (ps := ["row"]) fun _ _ _ _ _ _ us hl => match us, hl with | [_], _ => rfl
  have F1 := fun_mk (st := s_entry_at) l1 c1 k1
  have m1 := PySem.W.mg_of X G a1
  have b1 := F1.binds (ps := ["row", "place"]) fun _ _ _ _ _ _ us hl => match us, hl with | [_, _], _ => rfl
  have F2 := fun_mk (st := s_term_at) l2 c2 k2
  have m2 := PySem.W.mg_of X G a2
  have b2 := F2.binds (ps := ["row", "place"]) fun _ _ _ _ _ _ us hl => match us, hl with | [_, _], _ => rfl
  have F3 := fun_mk (st := s_behind) l3 c3 k3
  have m3 := PySem.W.mg_of X G a3
  have b3 := F3.binds (ps := ["row", "place", "many"]) fun _ _ _ _ _ _ us hl => match us, hl with | [_, _, _], _ => rfl
  have F4 := fun_mk (st := s_newness) l4 c4 k4
  have m4 := PySem.W.mg_of X G a4
  have b4 := F4.binds (ps := ["row"]) fun _ _ _ _ _ _ us hl => match us, hl with | [_], _ => rfl
  have F5 := fun_mk (st := s_as_new) l5 c5 k5
  have m5 := PySem.W.mg_of X G a5
  have b5 := F5.binds (ps := ["last", "place", "row"]) fun _ _ _ _ _ _ us hl => match us, hl with | [_, _, _], _ => rfl
  have F6 := fun_mk (st := s_agrees) l6 c6 k6
  have m6 := PySem.W.mg_of X G a6
  have b6 := F6.binds (ps := ["row", "place", "last"]) fun _ _ _ _ _ _ us hl => match us, hl with | [_, _, _], _ => rfl
  have F7 := fun_mk (st := s_same_ahead) l7 c7 k7
  have m7 := PySem.W.mg_of X G a7
  have b7 := F7.binds (ps := ["own", "others"]) fun _ _ _ _ _ _ us hl => match us, hl with | [_, _], _ => rfl
  have F8 := fun_mk (st := s_filled) l8 c8 k8
  have m8 := PySem.W.mg_of X G a8
  have b8 := F8.binds (ps := ["row", "place", "entries"]) fun _ _ _ _ _ _ us hl => match us, hl with | [_, _, _], _ => rfl
  have F9 := fun_mk (st := s_cut_off) l9 c9 k9
  have m9 := PySem.W.mg_of X G a9
  have b9 := F9.binds (ps := ["row", "place"]) fun _ _ _ _ _ _ us hl => match us, hl with | [_, _], _ => rfl
  have F10 := fun_mk (st := s_taken_over) l10 c10 k10
  have m10 := PySem.W.mg_of X G a10
  have b10 := F10.binds (ps := ["row", "place", "last"]) fun _ _ _ _ _ _ us hl => match us, hl with | [_, _, _], _ => rfl
  have F11 := fun_mk (st := sCell) l11 c11 k11
  have m11 := PySem.W.mg_of X G a11
  have b11 := F11.binds (ps := ["_law_script", "_law_k"]) fun _ _ _ _ _ _ us hl => match us, hl with | [_, _], _ => rfl
  have F12 := fun_mk (st := s__law_whole) l12 c12 k12
  have m12 := PySem.W.mg_of X G a12
  have b12 := F12.binds (ps := ["_law_found"]) fun _ _ _ _ _ _ us hl => match us, hl with | [_], _ => rfl
  have F13 := fun_mk (st := sNameBy) l13 c13 k13
  have m13 := PySem.W.mg_of X G a13
  have b13 := F13.binds (ps := ["_law_cell"]) fun _ _ _ _ _ _ us hl => match us, hl with | [_], _ => rfl
  have F14 := fun_mk (st := s__law_bounded) l14 c14 k14
  have m14 := PySem.W.mg_of X G a14
  have b14 := F14.binds (ps := ["_law_number"]) fun _ _ _ _ _ _ us hl => match us, hl with | [_], _ => rfl
  have F15 := fun_mk (st := s__law_entry_by) l15 c15 k15
  have m15 := PySem.W.mg_of X G a15
  have b15 := F15.binds (ps := ["_law_cell", "_law_term"]) fun _ _ _ _ _ _ us hl => match us, hl with | [_, _], _ => rfl
  have F16 := fun_mk (st := s__law_is_row) l16 c16 k16
  have m16 := PySem.W.mg_of X G a16
  have b16 := F16.binds (ps := ["_law_found", "_law_due"]) fun _ _ _ _ _ _ us hl => match us, hl with | [_, _], _ => rfl
  have F17 := fun_mk (st := s__law_logs_by) l17 c17 k17
  have m17 := PySem.W.mg_of X G a17
  have b17 := F17.binds (ps := ["_law_script"]) fun _ _ _ _ _ _ us hl => match us, hl with | [_], _ => rfl
  have F18 := fun_mk (st := s__law_alike) l18 c18 k18
  have m18 := PySem.W.mg_of X G a18
  have b18 := F18.binds (ps := ["_law_log", "_law_other"]) fun _ _ _ _ _ _ us hl => match us, hl with | [_, _], _ => rfl
  have F19 := fun_mk (st := s__law_row) l19 c19 k19
  have m19 := PySem.W.mg_of X G a19
  have b19 := F19.binds (ps := ["_law_log", "_law_base"]) fun _ _ _ _ _ _ us hl => match us, hl with | [_, _], _ => rfl
  have F20 := fun_mk (st := s__law_step) l20 c20 k20
  have m20 := PySem.W.mg_of X G a20
  have b20 := F20.binds (ps := ["_law_head", "_law_row_here", "_law_following", "_law_many"]) fun _ _ _ _ _ _ us hl => match us, hl with | [_, _, _, _], _ => rfl
  have F21 := fun_mk (st := s__law_handed) l21 c21 k21
  have m21 := PySem.W.mg_of X G a21
  have b21 := F21.binds (ps := ["_law_head", "_law_row_here", "_law_many", "_law_steps"]) fun _ _ _ _ _ _ us hl => match us, hl with | [_, _, _, _], _ => rfl
  have F22 := fun_mk (st := sLaw) l22 c22 k22
  have m22 := PySem.W.mg_of X G a22
  have b22 := F22.binds (ps := ["_law_script"]) fun _ _ _ _ _ _ us hl => match us, hl with | [_], _ => rfl
  refine ⟨PySem.W.fnOf "law" "law" (defArgs sLaw) (defBody sLaw) (defScope sLaw) .none kV22 dc22 pm22 an22 cd22 ct22, fun s v => .of_eq rfl, fun base _ _ => ?_⟩
  have CC : Cal l.prog w K mg base "_law_cell_at" 1 ["_law_script", "_law_k"] (spCell K) := cal F11 m11 b11 (ok_cell F11 T)
  have CW : Cal l.prog w K mg base "_law_whole" 1 ["_law_found"] (spWholeI) := cal F12 m12 b12 (ok_wholeI F12 T)
  have CEo : Cal l.prog w K mg base "end_of" 1 ["row"] (spEndOf K) := cal F0 m0 b0 (ok_end_of F0 T)
  have CEa : Cal l.prog w K mg base "entry_at" 2 ["row", "place"] (spEntIn K) := cal F1 m1 b1 (ok_entry_at F1 CEo)
  have CTa : Cal l.prog w K mg base "term_at" 3 ["row", "place"] (spTermIn K) := cal F2 m2 b2 (ok_term_at F2 CEa)
  have CBh : Cal l.prog w K mg base "behind" 2 ["row", "place", "many"] (spBehN K) := cal F3 m3 b3 (ok_behind F3 T CEo)
  have CNw : Cal l.prog w K mg base "newness" 4 ["row"] (spNewest K) := cal F4 m4 b4 (ok_newness F4 CEo CTa)
  have CAn : Cal l.prog w K mg base "as_new" 4 ["last", "place", "row"] (spAsNew K) := cal F5 m5 b5 (ok_as_new0 F5 CEo CTa)
  have CAg : Cal l.prog w K mg base "agrees" 4 ["row", "place", "last"] (spAgrees K) := cal F6 m6 b6 (ok_agrees F6 CEo CTa)
  have CSa : Cal l.prog w K mg base "same_ahead" 1 ["own", "others"] (spSameA) := cal F7 m7 b7 (ok_same_ahead F7 T)
  have CFi : Cal l.prog w K mg base "filled" 2 ["row", "place", "entries"] (spFilN K) := cal F8 m8 b8 (ok_filled F8 T CEo CSa)
  have CCo : Cal l.prog w K mg base "cut_off" 4 ["row", "place"] (spCutN K) := cal F9 m9 b9 (ok_cut_off F9 T CTa CBh)
  have CTk : Cal l.prog w K mg base "taken_over" 5 ["row", "place", "last"] (spTakE K) := cal F10 m10 b10 (ok_taken_over F10 CAg CCo)
  have CNm : Cal l.prog w K mg base "_law_name_by" 1 ["_law_cell"] (spNm) := cal F13 m13 b13 (ok_nm F13 T)
  have CBd : Cal l.prog w K mg base "_law_bounded" 1 ["_law_number"] (spBd) := cal F14 m14 b14 (ok_bd F14)
  have CEn : Cal l.prog w K mg base "_law_entry_by" 2 ["_law_cell", "_law_term"] (spEnt) := cal F15 m15 b15 (ok_ent F15 T CNm CBd)
  have CIr : Cal l.prog w K mg base "_law_is_row" 2 ["_law_found", "_law_due"] (spIsRow K) := cal F16 m16 b16 (ok_is_row F16 T CW)
  have CLb : Cal l.prog w K mg base "_law_logs_by" 3 ["_law_script"] (spLogs K) := cal F17 m17 b17 (ok_logs F17 T CEn)
  have CAl : Cal l.prog w K mg base "_law_alike" 1 ["_law_log", "_law_other"] (spAlike) := cal F18 m18 b18 (ok_alike F18 T)
  have CRl : Cal l.prog w K mg base "_law_row" 1 ["_law_log", "_law_base"] (spRowL K) := cal F19 m19 b19 (ok_rowL F19 T)
  have CSt : Cal l.prog w K mg base "_law_step" 6 ["_law_head", "_law_row_here", "_law_following", "_law_many"] (spStep K) := cal F20 m20 b20 (ok_step F20 T CEo CTa CAg CBh CFi CTk)
  have CHa : Cal l.prog w K mg base "_law_handed" 7 ["_law_head", "_law_row_here", "_law_many", "_law_steps"] (spHanded K) := cal F21 m21 b21 (ok_handed F21 T CEo CSt)
  exact ok_law F22 T CC CLb CAl CRl CHa CIr CNw CAn CEo
theorem walk {l : PySem.W.OpenLaw} {q : Program} {loose : List Str} {XP : (Str → Option Value) → Heap → Prop} {YP : World → Heap → Prop} {d : DefRec} {K : Params → PySem.W.Frag} (hn : l.most = some 63) (hdf : d.params.defaults = [])
    (hY : ∀ (w : World) (h : Heap), YP w h → (K w.params).In h)
    (F : ∀ (w : World) (mg : Str → Option Value) (fa : Addr) (h : Heap), (K w.params).In h → h.Ns mainGlobals mg → mg d.name = some (.ref fa) →
      ∃ fd : FuncData, (∀ (s : Shared) (u : Value), BindsTo s fd ⟨[u], []⟩ [("_law_script", u)]) ∧ ∀ base : Heap, (K w.params).In base → base.Ns mainGlobals mg → FnOk l.prog w (K w.params) mg base CX0 8 fa fd ["_law_script"] (spLaw (K w.params))) :
    PySem.W.WalkO q loose XP YP l.row.toRowW d [] (fun f vs => PySem.call f vs) :=
  L2.walk_of (n := 63) (k := 8) (x := "_law_script") (CX := fun _ => CX0) (sp := fun w => spLaw (K w.params)) hn (by decide) hdf ⟨rfl, by decide, by decide⟩ hY F (fun _ _ a ns hl _ hS => ⟨a, ns, rfl, hS, hl, fun _ => rfl⟩) fun _ _ _ _ _ z => z
end K1
open PySem PySem.W PyProof.Rows
set_option maxRecDepth 100000 in
set_option maxHeartbeats 0 in
theorem PySem.Challenge.cw_keeplog_k16_whole_handed_on_holds : PySem.Challenge.rw_keeplog_k16_whole_handed_on.Holds := by
  w_on; o_law; k_head; (case hw => w_witness2)
  k_fill
  refine K1.walk (l := PySem.Challenge.rw_keeplog_k16_whole_handed_on) rfl rfl (fun w h Y => PySem.W.kIn_of Y) ?F
  case F =>
    intro w mg fa h KX G hmg
    refine' K1.all_mk KX G hmg ?a0 ?l0 ?c0 ?k0 ?a1 ?l1 ?c1 ?k1 ?a2 ?l2 ?c2 ?k2 ?a3 ?l3 ?c3 ?k3 ?a4 ?l4 ?c4 ?k4 ?a5 ?l5 ?c5 ?k5 ?a6 ?l6 ?c6 ?k6 ?a7 ?l7 ?c7 ?k7 ?a8 ?l8 ?c8 ?k8 ?a9 ?l9 ?c9 ?k9 ?a10 ?l10 ?c10 ?k10 ?a11 ?l11 ?c11 ?k11 ?a12 ?l12 ?c12 ?k12 ?a13 ?l13 ?c13 ?k13 ?a14 ?l14 ?c14 ?k14 ?a15 ?l15 ?c15 ?k15 ?a16 ?l16 ?c16 ?k16 ?a17 ?l17 ?c17 ?k17 ?a18 ?l18 ?c18 ?k18 ?a19 ?l19 ?c19 ?k19 ?a20 ?l20 ?c20 ?k20 ?a21 ?l21 ?c21 ?k21 ?a22 ?l22 ?c22 ?k22 ?z0 ?z1 ?z2 ?z3 ?z4 ?z5 ?z6 ?z7 ?z8 ?z9 ?z10 ?z11 ?z12 ?z13 ?z14
    (case a0 => k_is)
    (case l0 => k_is)
    (case c0 => k_is)
    (case k0 => k_is)
    (case a1 => k_is)
    (case l1 => k_is)
    (case c1 => k_is)
    (case k1 => k_is)
    (case a2 => k_is)
    (case l2 => k_is)
    (case c2 => k_is)
    (case k2 => k_is)
    (case a3 => k_is)
    (case l3 => k_is)
    (case c3 => k_is)
    (case k3 => k_is)
    (case a4 => k_is)
    (case l4 => k_is)
    (case c4 => k_is)
    (case k4 => k_is)
    (case a5 => k_is)
    (case l5 => k_is)
    (case c5 => k_is)
    (case k5 => k_is)
    (case a6 => k_is)
    (case l6 => k_is)
    (case c6 => k_is)
    (case k6 => k_is)
    (case a7 => k_is)
    (case l7 => k_is)
    (case c7 => k_is)
    (case k7 => k_is)
    (case a8 => k_is)
    (case l8 => k_is)
    (case c8 => k_is)
    (case k8 => k_is)
    (case a9 => k_is)
    (case l9 => k_is)
    (case c9 => k_is)
    (case k9 => k_is)
    (case a10 => k_is)
    (case l10 => k_is)
    (case c10 => k_is)
    (case k10 => k_is)
    (case a11 => k_is)
    (case l11 => k_is)
    (case c11 => k_is)
    (case k11 => k_is)
    (case a12 => k_is)
    (case l12 => k_is)
    (case c12 => k_is)
    (case k12 => k_is)
    (case a13 => k_is)
    (case l13 => k_is)
    (case c13 => k_is)
    (case k13 => k_is)
    (case a14 => k_is)
    (case l14 => k_is)
    (case c14 => k_is)
    (case k14 => k_is)
    (case a15 => k_is)
    (case l15 => k_is)
    (case c15 => k_is)
    (case k15 => k_is)
    (case a16 => k_is)
    (case l16 => k_is)
    (case c16 => k_is)
    (case k16 => k_is)
    (case a17 => k_is)
    (case l17 => k_is)
    (case c17 => k_is)
    (case k17 => k_is)
    (case a18 => k_is)
    (case l18 => k_is)
    (case c18 => k_is)
    (case k18 => k_is)
    (case a19 => k_is)
    (case l19 => k_is)
    (case c19 => k_is)
    (case k19 => k_is)
    (case a20 => k_is)
    (case l20 => k_is)
    (case c20 => k_is)
    (case k20 => k_is)
    (case a21 => k_is)
    (case l21 => k_is)
    (case c21 => k_is)
    (case k21 => k_is)
    (case a22 => k_is)
    (case l22 => k_is)
    (case c22 => k_is)
    (case k22 => k_is)
    (case z0 => k_is)
    (case z1 => k_is)
    (case z2 => k_is)
    (case z3 => k_is)
    (case z4 => k_is)
    (case z5 => k_is)
    (case z6 => k_is)
    (case z7 => k_is)
    (case z8 => k_is)
    (case z9 => k_is)
    (case z10 => k_is)
    (case z11 => k_is)
    (case z12 => k_is)
    (case z13 => k_is)
    (case z14 => k_is)
