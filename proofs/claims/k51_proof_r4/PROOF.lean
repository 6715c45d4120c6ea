import PyProof.Rows.All
import Wide.All
import OpenK.AllK
import Wide.FinOn
import Lean
import PyProof.EqAt
import PyProof.EqKinds
import PyProof.TupleCall
import PySem.Challenge.RW_keeplog_k51_a_caller
set_option Elab.async false
set_option linter.all false
set_option maxRecDepth 100000
/-! THE HAND LAYER, for ints, bools, texts, own classes, LISTS and tuples (index, slices, in, append, pop ..), calls, loops. Paste it whole ahead of your own text; what your proof does not reach may be deleted. -/
namespace L2
open PySem PySem.Spec PyProof.Rows

/-- a key: an int or a str -/
abbrev Key := Sum Int Str
def keyIs : Key → Value → Bool
  | .inl k, v => Value.isInt k v
  | .inr x, v => Value.isStrOf x v
def keyH (w : World) : Key → Int
  | .inl k => hashInt k
  | .inr x => hashStr w x
theorem keyIs_shape : ∀ {k : Key} {v : Value}, keyIs k v = true → (∃ i t, k = Sum.inl i ∧ v = Value.int i t) ∨ (∃ x t, k = Sum.inr x ∧ v = Value.str x t)
  | .inl i, v, h => by
    obtain ⟨t, e⟩ := Value.isInt_shape (k := i) (v := v) h
    exact .inl ⟨i, t, rfl, e⟩
  | .inr x, v, h => by
    obtain ⟨t, e⟩ := Value.isStrOf_shape (x := x) (v := v) h
    exact .inr ⟨x, t, rfl, e⟩
theorem keyIs_int (i : Int) (t : Tok) : keyIs (.inl i) (.int i t) = true := by simp [keyIs, Value.isInt]
theorem keyIs_str (x : Str) (t : Tok) : keyIs (.inr x) (.str x t) = true := by simp [keyIs, Value.isStrOf]
theorem key_ll (a b : Int) : decide ((Sum.inl a : Key) = Sum.inl b) = (a == b) := by
  by_cases e : a = b
  · subst e; simp
  · have h : ¬ (Sum.inl a : Key) = Sum.inl b := fun q => e (Sum.inl.inj q)
    rw [decide_eq_false h]
    exact (beq_eq_false_iff_ne.mpr e).symm
theorem key_rr (a b : Str) : decide ((Sum.inr a : Key) = Sum.inr b) = decide (a = b) := by
  by_cases e : a = b
  · subst e; simp
  · have h : ¬ (Sum.inr a : Key) = Sum.inr b := fun q => e (Sum.inr.inj q)
    rw [decide_eq_false h, decide_eq_false e]
theorem key_lr (a : Int) (b : Str) : decide ((Sum.inl a : Key) = Sum.inr b) = false := decide_eq_false (fun q => nomatch q)
theorem key_rl (a : Str) (b : Int) : decide ((Sum.inr a : Key) = Sum.inl b) = false := decide_eq_false (fun q => nomatch q)

def mixKind (prog : Program) (w : World) : PySem.KeyKind prog w Key where
  is := keyIs
  hash := keyH w
  inj := fun v a b ha hb => by
    rcases keyIs_shape ha with ⟨i, t, rfl, rfl⟩ | ⟨x, t, rfl, rfl⟩
    · rcases keyIs_shape hb with ⟨j, u, rfl, e⟩ | ⟨y, u, rfl, e⟩
      · injection e with e1 _; rw [e1]
      · exact nomatch e
    · rcases keyIs_shape hb with ⟨j, u, rfl, e⟩ | ⟨y, u, rfl, e⟩
      · exact nomatch e
      · injection e with e1 _; rw [e1]
  byValue := fun k v h => by
    rcases keyIs_shape h with ⟨i, t, rfl, rfl⟩ | ⟨x, t, rfl, rfl⟩ <;> rfl
  pyHash := fun hv h => by
    rcases keyIs_shape hv with ⟨i, t, rfl, rfl⟩ | ⟨x, t, rfl, rfl⟩
    · exact wpAny_pyHash_int h
    · exact wpAny_pyHash_str h
  eqBool := fun hu hv h => by
    rcases keyIs_shape hu with ⟨i, t, rfl, rfl⟩ | ⟨x, t, rfl, rfl⟩
    · rcases keyIs_shape hv with ⟨j, u, rfl, rfl⟩ | ⟨y, u, rfl, rfl⟩
      · rw [key_ll] at h; exact wpAny_eqBool_int h
      · rw [key_lr] at h; exact SeqAt.EqAt.int_str i t y u _ _ _ _ h
    · rcases keyIs_shape hv with ⟨j, u, rfl, rfl⟩ | ⟨y, u, rfl, rfl⟩
      · rw [key_rl] at h; exact SeqAt.EqAt.str_int x t j u _ _ _ _ h
      · rw [key_rr] at h; exact wpAny_eqBool_str h
  «strs» := fun k x t v h => by
    rcases keyIs_shape h with ⟨i, u, rfl, e⟩ | ⟨y, u, rfl, e⟩
    · exact nomatch e
    · injection e with e1 _
      subst e1
      cases v <;> rfl

theorem mixKind_int (prog : Program) (w : World) (i : Int) (t : Tok) : (mixKind prog w).is (.inl i) (.int i t) = true := keyIs_int i t
theorem mixKind_str (prog : Program) (w : World) (x : Str) (t : Tok) : (mixKind prog w).is (.inr x) (.str x t) = true := keyIs_str x t
end L2

namespace L2
open PySem PySem.Spec PyProof.Rows

/-- a value, without the heap -/
inductive V where
  | non | bl (b : Bool) | int (i : Int) | str (x : Str) | byt (b : Array UInt8) | flt (b : UInt64) | ref (a : Addr) | ty (n : String)
  deriving DecidableEq

def RelV : V → Value → Prop
  | .non, u => u = Value.none
  | .bl b, u => u = Value.bool b
  | .int i, u => ∃ t, u = Value.int i t
  | .str x, u => ∃ t, u = Value.str x t
  | .byt b, u => ∃ t, u = Value.bytes b t
  | .flt b, u => ∃ t, u = Value.float b t
  | .ref a, u => u = Value.ref a
  | .ty n, u => u = Value.type n

abbrev Vals : List V → List Value → Prop := Paired RelV
theorem Vals.length {xs : List V} {us : List Value} (r : Vals xs us) : xs.length = us.length := Paired.length r
theorem Vals.get : ∀ {xs : List V} {us : List Value} {i : Nat} {x : V}, Vals xs us → xs[i]? = some x → ∃ u, us[i]? = some u ∧ RelV x u
  | _, _, _, _, .nil, e => by simp at e
  | _, _, 0, _, .cons r _, e => by simp at e; subst e; exact ⟨_, rfl, r⟩
  | _, _, i + 1, x, .cons _ t, e => by
    obtain ⟨u, h1, h2⟩ := Vals.get (i := i) (x := x) t (by simpa using e)
    exact ⟨u, by simpa using h1, h2⟩
theorem Vals.set {x : V} {u : Value} (r : RelV x u) : ∀ {xs : List V} {us : List Value} (i : Nat), Vals xs us → Vals (xs.set i x) (us.set i u)
  | _, _, _, .nil => .nil
  | _, _, 0, .cons _ t => .cons r t
  | _, _, i + 1, .cons q t => .cons q (Vals.set r i t)
theorem Vals.append : ∀ {xs ys : List V} {us ws : List Value}, Vals xs us → Vals ys ws → Vals (xs ++ ys) (us ++ ws)
  | _, _, _, _, .nil, s => s
  | _, _, _, _, .cons r t, s => .cons r (Vals.append t s)
theorem Vals.take : ∀ {xs : List V} {us : List Value} (n : Nat), Vals xs us → Vals (xs.take n) (us.take n)
  | _, _, 0, _ => .nil
  | _, _, _ + 1, .nil => .nil
  | _, _, n + 1, .cons r t => .cons r (Vals.take n t)
theorem Vals.drop : ∀ {xs : List V} {us : List Value} (n : Nat), Vals xs us → Vals (xs.drop n) (us.drop n)
  | _, _, 0, r => r
  | _, _, _ + 1, .nil => .nil
  | _, _, n + 1, .cons _ t => Vals.drop n t
theorem Vals.none_of : ∀ {xs : List V} {us : List Value} {i : Nat}, Vals xs us → xs[i]? = none → us[i]? = none := fun {xs us i} r e => by
  have h1 := r.length
  have h2 : xs.length ≤ i := List.getElem?_eq_none_iff.mp e
  exact List.getElem?_eq_none_iff.mpr (by omega)

def RelO : Option V → Option Value → Prop
  | some v, some u => RelV v u
  | none, none => True
  | _, _ => False
def KV {κ : Type} : List (κ × V) → List (κ × Value) → Prop := Paired fun (p : κ × V) (q : κ × Value) => p.1 = q.1 ∧ RelV p.2 q.2

/-- a key of a dict (00_mix): an int or a text -/
def kV : Key → V
  | .inl i => .int i
  | .inr x => .str x

/-- what stands at a tracked address -/
inductive HO where
  /-- a list -/
  | lst (xs : List V)
  /-- a tuple (never changes) -/
  | tup (xs : List V)
  /-- a dict whose keys are ints and texts; one whose keys are tuples of ints and texts (the empty one is both) -/
  | dK (kvs : List (Key × V)) | dT (kvs : List (List Key × V))
  /-- a set of ints: its members, its size -/
  | set (S : Int → Bool) (n : Nat)
  /-- an instance of the class at C, its dict at dx, its attributes -/
  | ins (C dx : Addr) (fs : List (Str × V))
  /-- the dict of the instance at x -/
  | own (x : Addr)
  /-- the dict of an exception -/
  | xd (fs : List (Str × V))
  /-- a bound method, f of x -/
  | met (f x : Addr)
  /-- a range object lo, lo + 1, .. below hi -/
  | rng (lo hi : Int)
  /-- a thing that is known to the object (the script; a dict while a loop walks it): read, never written while it is so -/
  | frz (o : Obj) (u : HO)
  /-- a code object's table -/
  | tbl (ps : Array Value)
  /-- any other thing, by what is true of its one object (a def of one's own: SetO a S n := HO.ext fun h => ..) -/
  | ext (φ : Heap → Prop)

abbrev Hp := Addr → Option HO
def upd (H : Hp) (a : Addr) (o : HO) : Hp := fun b => if b = a then some o else H b
theorem upd_same {H : Hp} {a : Addr} {o : HO} : upd H a o a = some o := by unfold upd; rw [if_pos rfl]
theorem upd_ne {H : Hp} {a b : Addr} {o : HO} (h : b ≠ a) : upd H a o b = H b := by unfold upd; rw [if_neg h]
/-- two objects of different content stand apart -/
theorem ne_of {H : Hp} {a b : Addr} {o u : HO} (h : H a = some o) (h' : H b = some u) (d : o ≠ u) : a ≠ b := by
  intro e; subst e; rw [h] at h'; exact d (Option.some.inj h')
theorem ne_of_none {H : Hp} {a b : Addr} {o : HO} (h : H a = some o) (h' : H b = none) : a ≠ b := by
  intro e; subst e; rw [h] at h'; cases h'

section
variable (P : Program) (w : World)
def ObjOk (H : Hp) (h : Heap) (a : Addr) : HO → Prop
  | .lst xs => xs.length ≤ sizeLine ∧ ∃ (its : List Value) (n : Nat), Vals xs its ∧ h.get? a = some { cls := .type "list", data := .seq its.toArray n }
  | .tup xs => xs.length ≤ sizeLine ∧ ∃ its : List Value, Vals xs its ∧ IsTup h a its.toArray
  | .dK kvs => kvs.length ≤ sizeLine ∧ (a == sysModules) = false ∧ ∃ vs, KV kvs vs ∧ h.DictOf (mixKind P w) a vs
  | .dT kvs => kvs.length ≤ sizeLine ∧ (a == sysModules) = false ∧ ∃ xs : List (List Key × Addr × Value),
      Paired (fun (p : List Key × V) (q : List Key × Addr × Value) => p.1 = q.1 ∧ H q.2.1 = some (.tup (p.1.map kV)) ∧ RelV p.2 q.2.2) kvs xs ∧
      ∃ o es ep, h.get? a = some o ∧ o.ExactDict ∧ o.data = .dict es ep ∧ es.toList = xs.map (entryOfKey (tupleKind (mixKind P w))) ∧ (xs.map (·.1)).Nodup
  | .set S n => h.SetOf (intKind P w) a S n
  | .ins C dx fs => H dx = some (.own a) ∧ fs.length ≤ 1000 ∧ dx ≠ a ∧ h.get? a = some (PySem.W.instObj C dx) ∧
      ∃ mA, h.Ns1 dx mA ∧ (∀ f, RelO (fs.lookup f) (mA f)) ∧ PySem.Within mA (fs.map (·.1))
  | .own _ => ∃ o, h.get? a = some o
  | .xd fs => ∃ mA, h.Ns1 a mA ∧ ∀ f, RelO (fs.lookup f) (mA f)
  | .rng lo hi => ∃ t u v, h.get? a = some { cls := .type "range", data := .fields #[.int lo t, .int hi u, .int 1 v] }
  | .frz o u => h.get? a = some o ∧ ObjOk H h a u
  | .tbl ps => h.get? a = some { cls := .none, data := .fields ps }
  | .met f x => h.get? a = some (PySem.W.methodObj (.ref f) (.ref x))
  | .ext φ => φ h ∧ (∃ o, h.get? a = some o) ∧ ∀ h1 h2 : Heap, φ h1 → (∀ o, h1.get? a = some o → h2.get? a = some o) → φ h2
/-- the abstract heap is held -/
def HOk (H : Hp) (h : Heap) : Prop := ∀ a o, H a = some o → ObjOk P w H h a o
end

section
variable {P : Program} {w : World} {H H' : Hp} {h h' : Heap} {a : Addr} {o : HO}
theorem ObjOk.lt (x : ObjOk P w H h a o) : a < h.objs.size := by
  cases o with
  | lst xs => obtain ⟨_, _, _, _, e⟩ := x; exact Heap.lt_size e
  | tup xs => obtain ⟨_, _, _, p⟩ := x; exact p.lt
  | dK kvs => obtain ⟨_, _, _, _, o, _, _, e, _⟩ := x; exact Heap.lt_size e
  | dT kvs => obtain ⟨_, _, _, _, o, _, _, e, _⟩ := x; exact Heap.lt_size e
  | set S n => obtain ⟨o, _, _, _, e, _⟩ := x; exact Heap.lt_size e
  | ins C dx fs => obtain ⟨_, _, _, e, _⟩ := x; exact Heap.lt_size e
  | own y => obtain ⟨_, e⟩ := x; exact Heap.lt_size e
  | xd fs => obtain ⟨_, ⟨_, _, _, e, _⟩, _⟩ := x; exact Heap.lt_size e
  | rng lo hi => obtain ⟨_, _, _, e⟩ := x; exact Heap.lt_size e
  | frz ob u => obtain ⟨e, _⟩ := x; exact Heap.lt_size e
  | tbl ps => exact Heap.lt_size (show h.get? a = some _ from x)
  | met f y => exact Heap.lt_size (show h.get? a = some _ from x)
  | ext φ => obtain ⟨_, ⟨_, e⟩, _⟩ := x; exact Heap.lt_size e
theorem Paired.mapP {α β : Type} {F G : α → β → Prop} : ∀ {l₁ : List α} {l₂ : List β}, Paired F l₁ l₂ → (∀ a b, F a b → G a b) → Paired G l₁ l₂
  | _, _, .nil, _ => .nil
  | _, _, .cons r t, f => .cons (f _ _ r) (Paired.mapP t f)
/-- what an object's description leans on: its own object, its own dict, the tuples -/
theorem ObjOk.stay (x : ObjOk P w H h a o) (k : ∀ b u, (b = a ∨ H b = some (.own a)) → h.get? b = some u → h'.get? b = some u)
    (ho : ∀ b, H b = some (.own a) → H' b = some (.own a)) (ht : ∀ b xs, H b = some (.tup xs) → H' b = some (.tup xs)) : ObjOk P w H' h' a o := by
  induction o with
  | lst xs => obtain ⟨z, its, n, r, e⟩ := x; exact ⟨z, its, n, r, k _ _ (.inl rfl) e⟩
  | tup xs => obtain ⟨z, its, r, ob, e, c⟩ := x; exact ⟨z, its, r, ob, k _ _ (.inl rfl) e, c⟩
  | dK kvs => obtain ⟨z, y, vs, r, ob, es, ep, e, c⟩ := x; exact ⟨z, y, vs, r, ob, es, ep, k _ _ (.inl rfl) e, c⟩
  | dT kvs =>
    obtain ⟨z, y, xs, r, ob, es, ep, e, c⟩ := x
    exact ⟨z, y, xs, Paired.mapP r fun p q z => ⟨z.1, ht _ _ z.2.1, z.2.2⟩, ob, es, ep, k _ _ (.inl rfl) e, c⟩
  | set S n => obtain ⟨ob, es, ep, t, e, c⟩ := x; exact ⟨ob, es, ep, t, k _ _ (.inl rfl) e, c⟩
  | ins C dx fs =>
    obtain ⟨d, z, ne, e, mA, ⟨od, es, ep, e2, c⟩, r⟩ := x
    exact ⟨ho _ d, z, ne, k _ _ (.inl rfl) e, mA, ⟨od, es, ep, k _ _ (.inr d) e2, c⟩, r⟩
  | own y => obtain ⟨ob, e⟩ := x; exact ⟨ob, k _ _ (.inl rfl) e⟩
  | xd fs => obtain ⟨mA, ⟨od, es, ep, e, c⟩, r⟩ := x; exact ⟨mA, ⟨od, es, ep, k _ _ (.inl rfl) e, c⟩, r⟩
  | rng lo hi => obtain ⟨t, u, v, e⟩ := x; exact ⟨t, u, v, k _ _ (.inl rfl) e⟩
  | frz ob u ih => obtain ⟨e, q⟩ := x; exact ⟨k _ _ (.inl rfl) e, ih q⟩
  | tbl ps =>
    have e : h.get? a = some { cls := .none, data := .fields ps } := x
    show h'.get? a = some { cls := .none, data := .fields ps }
    exact k a _ (.inl rfl) e
  | met f y =>
    have e : h.get? a = some (PySem.W.methodObj (.ref f) (.ref y)) := x
    show h'.get? a = some (PySem.W.methodObj (.ref f) (.ref y))
    exact k a _ (.inl rfl) e
  | ext φ => obtain ⟨p, ⟨o, e⟩, st⟩ := x; exact ⟨st _ _ p fun o q => k _ _ (.inl rfl) q, ⟨o, k _ _ (.inl rfl) e⟩, st⟩
theorem HOk.lt (x : HOk P w H h) (e : H a = some o) : a < h.objs.size := (x a o e).lt
theorem HOk.fresh (x : HOk P w H h) (e : h.objs.size ≤ a) : H a = none := by
  cases q : H a with
  | none => rfl
  | some u => exact absurd (Nat.lt_of_lt_of_le (x.lt q) e) (Nat.lt_irrefl _)
/-- every object of the heap is kept -/
theorem HOk.kept (x : HOk P w H h) (k : ∀ b u, h.get? b = some u → h'.get? b = some u) : HOk P w H h' := fun a o e =>
  (x a o e).stay (fun b u _ q => k b u q) (fun _ q => q) fun _ _ q => q
/-- a new object is laid and tracked -/
theorem HOk.laid (x : HOk P w H h) (k : ∀ b u, h.get? b = some u → h'.get? b = some u) (hp : h.objs.size ≤ a) (new : ObjOk P w (upd H a o) h' a o) : HOk P w (upd H a o) h' := fun b u e => by
  have hn := x.fresh hp
  by_cases hb : b = a
  · subst hb; rw [upd_same] at e; cases e; exact new
  · rw [upd_ne hb] at e
    exact (x b u e).stay (fun c v _ q => k c v q) (fun c q => by rw [upd_ne (ne_of_none q hn)]; exact q) fun c xs q => by rw [upd_ne (ne_of_none q hn)]; exact q
end

/-- what may be read as u: it is u, or a known u -/
def Rd (H : Hp) (a : Addr) (u : HO) : Prop := H a = some u ∨ ∃ o, H a = some (.frz o u)
theorem Rd.of {H : Hp} {a : Addr} {u : HO} (h : H a = some u) : Rd H a u := .inl h
theorem Rd.ok {P : Program} {w : World} {H : Hp} {h : Heap} {a : Addr} {u : HO} (r : Rd H a u) (x : HOk P w H h) : ObjOk P w H h a u := by
  rcases r with r | ⟨o, r⟩
  · exact x a u r
  · obtain ⟨_, q⟩ := x a _ r
    exact q
/-- what may be written -/
def Mut : Option HO → Prop
  | some (.lst _) => True
  | some (.dK _) => True
  | some (.dT _) => True
  | some (.set _ _) => True
  | some (.ins _ _ _) => True
  | some (.ext _) => True
  | _ => False
section
variable {P : Program} {w : World} {H : Hp} {h h' : Heap} {x e : Addr} {o' : HO}
/-- the object at e is changed: x itself, or the dict of the instance x -/
theorem HOk.write (ok : HOk P w H h) (mu : Mut (H x)) (he : e = x ∨ H e = some (.own x)) (k : ∀ b u, b ≠ e → h.get? b = some u → h'.get? b = some u) (heo : ∃ u, h'.get? e = some u)
    (new : ObjOk P w (upd H x o') h' x o') : HOk P w (upd H x o') h' := fun b u q => by
  have nown : ∀ c y, H c = some (.own y) → c ≠ x := fun c y r z => by subst z; rw [r] at mu; exact mu
  have ntup : ∀ c xs, H c = some (.tup xs) → c ≠ x := fun c xs r z => by subst z; rw [r] at mu; exact mu
  by_cases hb : b = x
  · subst hb; rw [upd_same] at q; cases q; exact new
  · rw [upd_ne hb] at q
    by_cases hbe : b = e
    · have q' : H b = some (.own x) := by
        rcases he with z | z
        · exact absurd (hbe.trans z) hb
        · rw [hbe]; exact z
      rw [q] at q'; cases q'
      obtain ⟨v, hv⟩ := heo
      exact ⟨v, by rw [hbe]; exact hv⟩
    · refine (ok b u q).stay (fun c v hc r => k c v ?_ r) (fun c r => by rw [upd_ne (nown c b r)]; exact r) fun c xs r => by rw [upd_ne (ntup c xs r)]; exact r
      rcases hc with rfl | hc
      · exact hbe
      · rintro rfl
        rcases he with z | z
        · exact nown c b hc z
        · rw [hc] at z; cases z; exact hb rfl
end

/-! ### kept unless tracked; of the frames at fs (the callers') the slots may change (an exception that passes writes there); of the records at ex (iterators) nothing is said -/
structure Un (fs ex : List Addr) (H H' : Hp) (h h' : Heap) : Prop where
  keep : ∀ b o, h.get? b = some o → H b = none → b ∉ fs → b ∉ ex → h'.get? b = some o
  slot : ∀ b o, h.get? b = some o → H b = none → b ∈ fs → b ∉ ex → ∃ sl, h'.get? b = some { o with slots := sl }
  free : ∀ b o, h.get? b = some o → H b = none → b ∉ ex → H' b = none
  there : ∀ b o, h.get? b = some o → b ∉ ex → ∃ o', h'.get? b = some o'
  tups : ∀ b xs, H b = some (.tup xs) → H' b = some (.tup xs)
  frzs : ∀ b o u, H b = some (.frz o u) → H' b = some (.frz o u)
  tbls : ∀ b ps, H b = some (.tbl ps) → ∃ more, H' b = some (.tbl (ps ++ more))
section
variable {fs fs' ex ex' : List Addr} {H H1 H2 : Hp} {h h1 h2 h' : Heap} {a x e : Addr} {o : HO}
theorem Un.any (u : Un fs ex H H1 h h1) {b : Addr} {ob : Obj} (q : h.get? b = some ob) (n : H b = none) (hx : b ∉ ex) : ∃ sl, h1.get? b = some { ob with slots := sl } := by
  by_cases hb : b ∈ fs
  · exact u.slot b ob q n hb hx
  · exact ⟨ob.slots, u.keep b ob q n hb hx⟩
theorem Un.trans (a : Un fs ex H H1 h h1) (b : Un fs ex H1 H2 h1 h2) : Un fs ex H H2 h h2 where
  keep := fun c ob q n hc hx => b.keep c ob (a.keep c ob q n hc hx) (a.free c ob q n hx) hc hx
  slot := fun c ob q n hc hx => by
    obtain ⟨sl, e1⟩ := a.slot c ob q n hc hx
    obtain ⟨sl', e2⟩ := b.slot c _ e1 (a.free c ob q n hx) hc hx
    exact ⟨sl', e2⟩
  free := fun c ob q n hx => by
    obtain ⟨o', e1⟩ := a.there c ob q hx
    exact b.free c o' e1 (a.free c ob q n hx) hx
  there := fun c ob q hx => by
    obtain ⟨o', e1⟩ := a.there c ob q hx
    exact b.there c o' e1 hx
  tups := fun c xs q => b.tups c xs (a.tups c xs q)
  frzs := fun c ob xs q => b.frzs c ob xs (a.frzs c ob xs q)
  tbls := fun c ps q => by
    obtain ⟨m1, e1⟩ := a.tbls c ps q
    obtain ⟨m2, e2⟩ := b.tbls c _ e1
    exact ⟨m1 ++ m2, by rw [e2, Array.append_assoc]⟩
theorem Un.kept (k : ∀ b u, h.get? b = some u → h'.get? b = some u) : Un fs ex H H h h' :=
  ⟨fun b ob q _ _ _ => k b ob q, fun b ob q _ _ _ => ⟨ob.slots, k b ob q⟩, fun _ _ _ n _ => n, fun b ob q _ => ⟨ob, k b ob q⟩, fun _ _ q => q, fun _ _ _ q => q, fun _ ps q => ⟨#[], by rw [q]; simp⟩⟩
theorem Un.refl : Un fs ex H H h h := Un.kept fun _ _ q => q
theorem Un.laid (k : ∀ b u, h.get? b = some u → h'.get? b = some u) (hp : h.objs.size ≤ a) (hn : H a = none) : Un fs ex H (upd H a o) h h' where
  keep := fun b u q _ _ _ => k b u q
  slot := fun b u q _ _ _ => ⟨u.slots, k b u q⟩
  free := fun b u q n _ => by rw [upd_ne (Nat.ne_of_lt (Nat.lt_of_lt_of_le (Heap.lt_size q) hp))]; exact n
  there := fun b u q _ => ⟨u, k b u q⟩
  tups := fun b xs q => by rw [upd_ne (ne_of_none q hn)]; exact q
  frzs := fun b u xs q => by rw [upd_ne (ne_of_none q hn)]; exact q
  tbls := fun b ps q => ⟨#[], by rw [upd_ne (ne_of_none q hn), q]; simp⟩
theorem Un.write (mu : Mut (H x)) (he : e = x ∨ H e = some (.own x)) (k : ∀ b u, b ≠ e → h.get? b = some u → h'.get? b = some u) (heo : ∃ u, h'.get? e = some u) : Un fs ex H (upd H x o) h h' := by
  have hx : ∀ b, H b = none → b ≠ x := fun b n z => by subst z; rw [n] at mu; exact mu
  have hb : ∀ b, H b = none → b ≠ e := fun b n z => by
    subst z
    rcases he with r | r
    · exact hx b n r
    · rw [n] at r; cases r
  have hm : ∀ b u, H b = some u → ¬ Mut (some u) → b ≠ x := fun b u q nm z => by subst z; rw [q] at mu; exact nm mu
  refine ⟨fun b u q n _ _ => k b u (hb b n) q, fun b u q n _ _ => ⟨u.slots, k b u (hb b n) q⟩, fun b u q n _ => by rw [upd_ne (hx b n)]; exact n, fun b u q _ => ?_,
    fun b xs q => by rw [upd_ne (hm b _ q fun z => z)]; exact q, fun b u xs q => by rw [upd_ne (hm b _ q fun z => z)]; exact q, fun b ps q => ⟨#[], by rw [upd_ne (hm b _ q fun z => z), q]; simp⟩⟩
  by_cases hbe : b = e
  · subst hbe; exact heo
  · exact ⟨u, k b u hbe q⟩
theorem Un.mono (u : Un fs ex H H1 h h1) (hs : ∀ b ∈ fs, b ∈ fs') (hx : ∀ b ∈ ex, b ∈ ex') : Un fs' ex' H H1 h h1 :=
  ⟨fun b ob q n hb he => u.keep b ob q n (fun z => hb (hs b z)) fun z => he (hx b z), fun _ _ q n _ he => u.any q n fun z => he (hx _ z), fun b ob q n he => u.free b ob q n fun z => he (hx b z), fun b ob q he => u.there b ob q fun z => he (hx b z), u.tups, u.frzs, u.tbls⟩
end

/-! ### the heap without what is tracked -/
def trk (h : Heap) (H : Hp) : List Addr := (List.range h.objs.size).filter fun a => (H a).isSome
def hidT (h : Heap) (H : Hp) : Heap := PySem.W.hideAll h (trk h H)
theorem hidT_size (h : Heap) (H : Hp) : (hidT h H).objs.size = h.objs.size := PySem.W.hideAll_size _ _
theorem hidT_get {h : Heap} {H : Hp} {b : Addr} {o : Obj} (e : h.get? b = some o) (n : H b = none) : (hidT h H).get? b = some o :=
  PySem.W.hideAll_get _ e fun hm => by
    have q : (H b).isSome = true := (List.mem_filter.mp hm).2
    rw [n] at q; simp at q
theorem of_hidT {h : Heap} {H : Hp} {b : Addr} {o : Obj} (e : (hidT h H).get? b = some o) : h.get? b = some o ∧ H b = none := by
  have e' : h.get? b = some o := PySem.W.of_hideAll (trk h H) e
  refine ⟨e', ?_⟩
  cases q : H b with
  | none => rfl
  | some x =>
    have hm : b ∈ trk h H := List.mem_filter.mpr ⟨List.mem_range.mpr (Heap.lt_size e'), by simp [q]⟩
    have z : (hidT h H).get? b = none := PySem.W.hideAll_none (trk h H) hm
    rw [z] at e; cases e

/-! ### OpenK's ledger, filled with every new object but one -/
def allNews (g h : Heap) (L : Addr) : List (Addr × Obj) := (List.range h.objs.size).filterMap fun a => if a = L ∨ (g.get? a).isSome = true then none else (h.get? a).map fun o => (a, o)
def rest (g h : Heap) (L d : Addr) : List (Addr × Obj) := (allNews g h L).filter fun p => decide (p.1 ≠ d)
end L2

namespace L2
open PySem PySem.Spec PyProof.Rows

/-- the module's facts, over the base: the heap at the law's entry without what is tracked there -/
structure Mod (K : PySem.W.Frag) (mg : Str → Option Value) (base : Heap) : Prop where
  kin : K.In base
  glob : base.Ns mainGlobals mg
  blt : ∃ mb, base.Ns builtinsNs mb ∧ ∀ x : Str, x ≠ "__name__" → mb x = bootBuiltins x
  nolimit : base.NoLimit

/-- the context: a def's body (or a comprehension's block) running. base: fixed through the whole law; s₀, H₀: the entry; outer: the frames whose slots others may change (a def's callers); stack: all frames that run;
   ex: iterators that were made ahead of the entry and are walked here (a comprehension's); fn: the names whose cells were made at the entry (a def: all; a comprehension's block: its own); calm: not within an except suite; pn: pins that every state bears; xe: what is wanted of an exception that leaves the code -/
structure Cx where
  prog : Program
  w : World
  K : PySem.W.Frag
  mg : Str → Option Value
  base : Heap
  A : Around
  N : List Str
  s₀ : Shared
  H₀ : Hp
  env : Env
  outer : List Env
  stack : List Env
  ex : List Addr
  fn : Str → Bool
  calm : Bool
  pn : List (Addr × Obj)
  xe : Value → Shared → Prop
/-- the callers' frames -/
def frs (l : List Env) : List Addr := l.filterMap (·.frame)
abbrev Cx.fs (X : Cx) : List Addr := frs X.outer

def Vis (sc : Scope) (x : Str) : Prop := sc.names.lookup x = some .local ∨ sc.names.lookup x = some .cell ∨ sc.names.lookup x = some .free
def Loc (sc : Scope) (x : Str) : Prop := sc.names.lookup x = some .local ∨ sc.names.lookup x = some .cell
def Look (env : Env) (h : Heap) (m : Str → Option Value) (x : Str) (u : Value) : Prop :=
  (env.kindOf x = some .local ∧ m x = some u) ∨ ((env.kindOf x = some .cell ∨ env.kindOf x = some .free) ∧ ∃ c, env.cells.lookup x = some c ∧ h.IsCell c (some u))

structure Cx.Ok (X : Cx) : Prop where
  mod : Mod X.K X.mg X.base
  kind : X.env.scope.kind = .function
  glob : X.env.globals = mainGlobals
  blt : X.env.builtins = builtinsNs
  above : X.s₀.heap.objs.size ≤ X.env.locals
  inj : ∀ x y c, X.env.cells.lookup x = some c → X.env.cells.lookup y = some c → x = y
  has : ∀ x, (X.env.kindOf x = some .cell ∨ X.env.kindOf x = some .free) → ∃ c, X.env.cells.lookup x = some c
  cab : ∀ x c, X.fn x = true → X.env.cells.lookup x = some c → X.s₀.heap.objs.size ≤ c
  hd : X.calm = true → X.A.handled = none
  frames : X.A.frames = some X.stack
  stk : X.stack = X.outer ∨ (X.stack = X.env :: X.outer ∧ X.env.frame = some X.env.locals)
  exf : ∀ b ∈ X.ex, b ≠ X.env.locals ∧ ∀ x c, X.env.cells.lookup x = some c → c ≠ b
  bs : ∀ b o, X.base.get? b = some o → X.s₀.heap.get? b = some o ∧ X.H₀ b = none
  bsz : X.base.objs.size ≤ X.s₀.heap.objs.size
  noex : ∀ b o, X.base.get? b = some o → b ∉ X.ex
  exfs : ∀ b ∈ X.ex, b ∉ X.fs
  funs : X.s₀.heap.FunFrames X.base X.outer
  frf : ∀ b ∈ X.fs, X.H₀ b = none

structure Inv (X : Cx) (pins : List (Addr × Obj)) (σ : List (Option V)) (H : Hp) (s : Shared) : Prop where
  ok : X.Ok
  os : s.os = X.s₀.os
  bare : AllBare s.gens
  base : Un X.fs X.ex X.H₀ H X.s₀.heap s.heap
  loc : ∃ m, s.heap.Ns X.env.locals m ∧ ∀ (i : Nat) (x : Str) (v : V), X.N[i]? = some x → σ[i]? = some (some v) → Vis X.env.scope x → ∃ u, RelV v u ∧ Look X.env s.heap m x u
  cell : ∀ x c, X.env.cells.lookup x = some c → ∃ v, s.heap.IsCell c v
  free : H X.env.locals = none
  freeC : ∀ x c, X.env.cells.lookup x = some c → H c = none
  pin : ∀ p ∈ X.pn ++ pins, s.heap.get? p.1 = some p.2 ∧ H p.1 = none ∧ p.1 ≠ X.env.locals ∧ p.1 ∉ X.fs ∧ ∀ v, p.2.data ≠ .cell v
  hok : HOk X.prog X.w H s.heap
  len : σ.length = X.N.length

section
variable {X : Cx} {pins : List (Addr × Obj)} {σ : List (Option V)} {H H' : Hp} {s : Shared} {h' : Heap}

theorem Cx.Ok.nofr (ok : X.Ok) {b : Addr} {o : Obj} (e : X.base.get? b = some o) : b ∉ X.fs := fun hb => by
  have := (ok.funs.mem hb).1
  rw [e] at this; cases this
theorem Inv.bs (I : Inv X pins σ H s) : ∀ b o, X.base.get? b = some o → s.heap.get? b = some o ∧ H b = none := fun b o e =>
  ⟨I.base.keep b o (I.ok.bs b o e).1 (I.ok.bs b o e).2 (I.ok.nofr e) (I.ok.noex b o e), I.base.free b o (I.ok.bs b o e).1 (I.ok.bs b o e).2 (I.ok.noex b o e)⟩
theorem Inv.bk (I : Inv X pins σ H s) : ∀ b o, X.base.get? b = some o → s.heap.get? b = some o := fun b o e => (I.bs b o e).1
theorem Inv.mod (I : Inv X pins σ H s) : Mod X.K X.mg X.base := I.ok.mod
theorem Inv.kIn (I : Inv X pins σ H s) : X.K.In s.heap := I.ok.mod.kin.keeps I.bk
theorem Inv.nolimit (I : Inv X pins σ H s) : s.heap.NoLimit := I.ok.mod.nolimit.keeps I.bk
/-- the frame over the base: for OpenK's rules (K.In X.base is I.mod.kin) -/
theorem Inv.fr (I : Inv X pins σ H s) : ∃ m, Fr X.base X.env.locals s.heap m :=
  let ⟨m, hn, _⟩ := I.loc
  ⟨m, hn, I.bk, Nat.le_trans I.ok.bsz I.ok.above⟩
theorem Inv.lt (I : Inv X pins σ H s) : X.env.locals < s.heap.objs.size := let ⟨_, hn, _⟩ := I.loc; hn.lt
theorem Inv.sz (I : Inv X pins σ H s) : X.s₀.heap.objs.size ≤ s.heap.objs.size := Nat.le_trans I.ok.above (Nat.le_of_lt I.lt)
theorem Inv.nofs (I : Inv X pins σ H s) {a : Addr} (h : s.heap.objs.size ≤ a) : a ∉ X.fs := fun hb => by
  obtain ⟨_, o, ho, _⟩ := I.ok.funs.mem hb
  exact absurd (Nat.lt_of_lt_of_le (Heap.lt_size ho) (Nat.le_trans I.sz h)) (Nat.lt_irrefl _)
theorem Inv.cne (I : Inv X pins σ H s) : ∀ x c, X.env.cells.lookup x = some c → c ≠ X.env.locals := fun x c e z => by
  obtain ⟨v, o, ho, hd⟩ := I.cell x c e
  obtain ⟨m, ⟨o', es, ep, ho', hd', _⟩, _⟩ := I.loc
  rw [z, ho'] at ho; cases ho; rw [hd'] at hd; cases hd
theorem Inv.funs (I : Inv X pins σ H s) : s.heap.FunFrames X.base X.outer := by
  have all : ∀ (l : List Env), (∀ b ∈ frs l, b ∈ X.fs) → X.s₀.heap.FunFrames X.base l → s.heap.FunFrames X.base l := by
    intro l
    induction l with
    | nil => intro _ _; trivial
    | cons env r ih =>
      intro hs hl
      obtain ⟨hk, ⟨L, o, hf, hn, ho, hd⟩, hr⟩ := hl
      have hL : L ∈ X.fs := hs L (by unfold frs; rw [List.filterMap_cons, hf]; exact List.mem_cons_self)
      obtain ⟨sl, e⟩ := I.base.slot L o ho (I.ok.frf L hL) hL fun z => I.ok.exfs L z hL
      exact ⟨hk, ⟨L, _, hf, hn, e, hd⟩, ih (fun b hb => hs b (by unfold frs; rw [List.filterMap_cons, hf]; exact List.mem_cons_of_mem _ hb)) hr⟩
  exact all X.outer (fun _ hb => hb) I.ok.funs

/-- the frames that run, for a call -/
theorem Inv.stack (I : Inv X pins σ H s) : s.heap.FunFrames X.base X.stack := by
  rcases I.ok.stk with e | ⟨e, hf⟩
  · rw [e]; exact I.funs
  · rw [e]
    obtain ⟨m, hn, _⟩ := I.loc
    refine .cons (by rw [I.ok.kind]; decide) hf hn ?_ I.funs
    exact Heap.get?_none_of_le (Nat.le_trans I.ok.bsz I.ok.above)
theorem Inv.stkSub (I : Inv X pins σ H s) : ∀ b ∈ frs X.stack, b ∈ X.env.locals :: X.fs := fun b hb => by
  rcases I.ok.stk with e | ⟨e, hf⟩
  · rw [e] at hb; exact List.mem_cons_of_mem _ hb
  · rw [e] at hb
    unfold frs at hb
    rw [List.filterMap_cons, hf] at hb
    exact hb
theorem Inv.stkFree (I : Inv X pins σ H s) : ∀ b ∈ frs X.stack, H b = none := fun b hb => by
  rcases List.mem_cons.mp (I.stkSub b hb) with e | hb
  · rw [e]; exact I.free
  · obtain ⟨_, o, ho, _⟩ := I.ok.funs.mem hb
    exact I.base.free b o ho (I.ok.frf b hb) fun z => I.ok.exfs b z hb

/-- THE STEP: the untracked objects but the frame and the records at ch are kept (the callers' frames up to slots), the frame's map is kept, the new abstract heap is held -/
theorem Inv.step {g' : Array GenState} {t' : Nat} {d' : Drawn} {ch : List Addr} (I : Inv X pins σ H s)
    (hch : ∀ b ∈ ch, (b ∈ X.ex ∨ X.s₀.heap.objs.size ≤ b) ∧ b ≠ X.env.locals ∧ (∀ x c, X.env.cells.lookup x = some c → c ≠ b) ∧ ∀ p ∈ X.pn ++ pins, p.1 ≠ b)
    (keep : ∀ b o, b ≠ X.env.locals → b ∉ X.fs → b ∉ ch → s.heap.get? b = some o → H b = none → h'.get? b = some o)
    (slot : ∀ b o, b ≠ X.env.locals → b ∈ X.fs → b ∉ ch → s.heap.get? b = some o → H b = none → ∃ sl, h'.get? b = some { o with slots := sl }) (free : ∀ b o, b ∉ ch → s.heap.get? b = some o → H b = none → H' b = none)
    (there : ∀ b o, b ∉ ch → s.heap.get? b = some o → ∃ o', h'.get? b = some o')
    (tups : ∀ b xs, H b = some (.tup xs) → H' b = some (.tup xs)) (frzs : ∀ b o u, H b = some (.frz o u) → H' b = some (.frz o u)) (tbls : ∀ b ps, H b = some (.tbl ps) → ∃ more, H' b = some (.tbl (ps ++ more)))
    (ns : ∀ m, s.heap.Ns X.env.locals m → h'.Ns X.env.locals m) (hok : HOk X.prog X.w H' h') (hg : AllBare g') :
    Inv X pins σ H' { s with heap := h', gens := g', drawn := d', toks := t' } := by
  have neL : ∀ b o, X.s₀.heap.get? b = some o → b ≠ X.env.locals := fun b o e => Nat.ne_of_lt (Nat.lt_of_lt_of_le (Heap.lt_size e) I.ok.above)
  have neC : ∀ b o, X.s₀.heap.get? b = some o → b ∉ X.ex → b ∉ ch := fun b o e hx hb => by
    rcases (hch b hb).1 with z | z
    · exact hx z
    · exact absurd (Nat.lt_of_lt_of_le (Heap.lt_size e) z) (Nat.lt_irrefl _)
  have cellK : ∀ x c, X.env.cells.lookup x = some c → ∀ v, s.heap.IsCell c v → h'.IsCell c v := fun x c e v ⟨o, ho, hd⟩ => by
    have nch : c ∉ ch := fun z => (hch c z).2.2.1 x c e rfl
    by_cases hc : c ∈ X.fs
    · obtain ⟨sl, q⟩ := slot c o (I.cne x c e) hc nch ho (I.freeC x c e)
      exact ⟨_, q, hd⟩
    · exact ⟨o, keep c o (I.cne x c e) hc nch ho (I.freeC x c e), hd⟩
  refine ⟨I.ok, I.os, hg, ⟨fun b o e n hb hx => ?_, fun b o e n hb hx => ?_, fun b o e n hx => ?_, fun b o e hx => ?_, fun b xs e => tups b xs (I.base.tups b xs e), fun b o xs e => frzs b o xs (I.base.frzs b o xs e), fun b ps e => ?_⟩, ?_, fun x c e => ?_, ?_, fun x c e => ?_, fun p hp => ?_, hok, I.len⟩
  · exact keep b o (neL b o e) hb (neC b o e hx) (I.base.keep b o e n hb hx) (I.base.free b o e n hx)
  · obtain ⟨sl, e1⟩ := I.base.slot b o e n hb hx
    obtain ⟨sl', e2⟩ := slot b _ (neL b o e) hb (neC b o e hx) e1 (I.base.free b o e n hx)
    exact ⟨sl', e2⟩
  · obtain ⟨o', e1⟩ := I.base.there b o e hx
    exact free b o' (neC b o e hx) e1 (I.base.free b o e n hx)
  · obtain ⟨o', e1⟩ := I.base.there b o e hx
    exact there b o' (neC b o e hx) e1
  · obtain ⟨m1, e1⟩ := I.base.tbls b ps e
    obtain ⟨m2, e2⟩ := tbls b _ e1
    exact ⟨m1 ++ m2, by rw [e2, Array.append_assoc]⟩
  · obtain ⟨m, hn, hl⟩ := I.loc
    refine ⟨m, ns m hn, fun i x v e1 e2 e3 => ?_⟩
    obtain ⟨u, r, l⟩ := hl i x v e1 e2 e3
    refine ⟨u, r, ?_⟩
    rcases l with l | ⟨k, c, e, z⟩
    · exact .inl l
    · exact .inr ⟨k, c, e, cellK x c e _ z⟩
  · obtain ⟨v, z⟩ := I.cell x c e
    exact ⟨v, cellK x c e v z⟩
  · obtain ⟨m, ⟨o, _, _, ho, _⟩, _⟩ := I.loc
    exact free _ o (fun z => (hch _ z).2.1 rfl) ho I.free
  · obtain ⟨v, o, ho, hd⟩ := I.cell x c e
    exact free c o (fun z => (hch c z).2.2.1 x c e rfl) ho (I.freeC x c e)
  · obtain ⟨e, n, ne, nf, d⟩ := I.pin p hp
    have nch : p.1 ∉ ch := fun z => (hch p.1 z).2.2.2 p hp rfl
    exact ⟨keep p.1 p.2 ne nf nch e n, free p.1 p.2 nch e n, ne, nf, d⟩
/-- .. where the frame's own object is kept too -/
theorem Inv.un {t' : Nat} (I : Inv X pins σ H s) (u : Un X.fs [] H H' s.heap h') (hok : HOk X.prog X.w H' h') : Inv X pins σ H' { s with heap := h', toks := t' } := by
  obtain ⟨m, ⟨o, es, ep, ho, r⟩, _⟩ := id I.loc
  obtain ⟨sl, hL⟩ := u.any ho I.free (by simp)
  exact I.step (g' := s.gens) (d' := s.drawn) (ch := []) (fun _ z => nomatch z) (fun b o _ hb _ e n => u.keep b o e n hb (by simp)) (fun b o _ hb _ e n => u.slot b o e n hb (by simp)) (fun b o _ e n => u.free b o e n (by simp)) (fun b o _ e => u.there b o e (by simp)) u.tups u.frzs u.tbls (fun m' hm => by
    obtain ⟨o', es', ep', ho', r'⟩ := hm
    rw [ho] at ho'; cases ho'
    exact ⟨_, es', ep', hL, r'⟩) hok I.bare
/-- behind a call (or a comprehension's block): the slots of this frame may have changed too, the records at ch may have turned -/
theorem Inv.call {g' : Array GenState} {t' : Nat} {d' : Drawn} {ch : List Addr} (I : Inv X pins σ H s) (u : Un (frs X.stack) ch H H' s.heap h') (hok : HOk X.prog X.w H' h') (hg : AllBare g')
    (hch : ∀ b ∈ ch, (b ∈ X.ex ∨ X.s₀.heap.objs.size ≤ b) ∧ b ≠ X.env.locals ∧ (∀ x c, X.env.cells.lookup x = some c → c ≠ b) ∧ ∀ p ∈ X.pn ++ pins, p.1 ≠ b) :
    Inv X pins σ H' { s with heap := h', gens := g', drawn := d', toks := t' } := by
  obtain ⟨m, ⟨o, es, ep, ho, r⟩, _⟩ := id I.loc
  obtain ⟨sl, hL⟩ := u.any ho I.free fun z => (hch _ z).2.1 rfl
  exact I.step (ch := ch) hch (fun b o hL hb hc e n => u.keep b o e n (fun z => (List.mem_cons.mp (I.stkSub b z)).elim hL hb) hc) (fun b o _ _ hc e n => u.any e n hc) (fun b o hc e n => u.free b o e n hc) (fun b o hc e => u.there b o e hc) u.tups u.frzs u.tbls (fun m' hm => by
    obtain ⟨o', es', ep', ho', r'⟩ := hm
    rw [ho] at ho'; cases ho'
    exact ⟨_, es', ep', hL, r'⟩) hok hg
/-- an untracked record of ours (an iterator) has turned -/
theorem Inv.turned {t' : Nat} {it : Addr} (I : Inv X pins σ H s) (k : ∀ b o, b ≠ it → s.heap.get? b = some o → h'.get? b = some o) (hn : H it = none) (hL : it ≠ X.env.locals)
    (h1 : it ∈ X.ex ∨ X.s₀.heap.objs.size ≤ it) (h2 : ∀ x c, X.env.cells.lookup x = some c → c ≠ it) (h3 : ∀ p ∈ X.pn ++ pins, p.1 ≠ it) : Inv X pins σ H { s with heap := h', toks := t' } := by
  have nit : ∀ b u, H b = some u → b ≠ it := fun b u e z => by rw [z, hn] at e; cases e
  refine I.step (g' := s.gens) (d' := s.drawn) (ch := [it]) (fun b hb => ?_) (fun b o _ _ hc e _ => k b o (fun z => hc (by simp [z])) e) (fun b o _ _ hc e _ => ⟨o.slots, k b o (fun z => hc (by simp [z])) e⟩) (fun _ _ _ _ n => n)
    (fun b o hc e => ⟨o, k b o (fun z => hc (by simp [z])) e⟩) (fun _ _ e => e) (fun _ _ _ e => e) (fun b ps e => ⟨#[], by rw [e]; simp⟩) (fun m hm => ?_) (fun b u e => ?_) I.bare
  · have e : b = it := by simpa using hb
    subst e
    exact ⟨h1, hL, h2, h3⟩
  · obtain ⟨o, es, ep, ho, r⟩ := hm
    exact ⟨o, es, ep, k _ o (Ne.symm hL) ho, r⟩
  · refine (I.hok b u e).stay (fun c v hc q => k c v ?_ q) (fun _ q => q) fun _ _ q => q
    rcases hc with z | z
    · rw [z]; exact nit b u e
    · exact nit c _ z
theorem Inv.tok (I : Inv X pins σ H s) (t : Nat) : Inv X pins σ H { s with toks := t } := I.un (h' := s.heap) (t' := t) Un.refl I.hok
/-- all objects kept -/
theorem Inv.kept {t' : Nat} (I : Inv X pins σ H s) (k : ∀ b u, s.heap.get? b = some u → h'.get? b = some u) : Inv X pins σ H { s with heap := h', toks := t' } := I.un (Un.kept k) (I.hok.kept k)
/-- a new object laid and tracked -/
theorem Inv.laid {a : Addr} {o : HO} {t' : Nat} (I : Inv X pins σ H s) (k : ∀ b u, s.heap.get? b = some u → h'.get? b = some u) (hp : s.heap.objs.size ≤ a) (new : ObjOk X.prog X.w (upd H a o) h' a o) :
    Inv X pins σ (upd H a o) { s with heap := h', toks := t' } := I.un (Un.laid k hp (I.hok.fresh hp)) (I.hok.laid k hp new)
/-- an object written -/
theorem Inv.write {x e : Addr} {o : HO} {t' : Nat} (I : Inv X pins σ H s) (mu : Mut (H x)) (he : e = x ∨ H e = some (.own x)) (k : ∀ b u, b ≠ e → s.heap.get? b = some u → h'.get? b = some u) (heo : ∃ u, h'.get? e = some u)
    (new : ObjOk X.prog X.w (upd H x o) h' x o) : Inv X pins σ (upd H x o) { s with heap := h', toks := t' } := I.un (Un.write mu he k heo) (I.hok.write mu he k heo new)
/-- forgetting slots, pins -/
theorem Inv.weak {σ' : List (Option V)} (I : Inv X pins σ H s) (hl : σ'.length = σ.length) (w : ∀ (i : Nat) v, σ'[i]? = some (some v) → σ[i]? = some (some v)) : Inv X pins σ' H s :=
  ⟨I.ok, I.os, I.bare, I.base, let ⟨m, hn, hl'⟩ := I.loc; ⟨m, hn, fun i x v e1 e2 e3 => hl' i x v e1 (w i v e2) e3⟩, I.cell, I.free, I.freeC, I.pin, I.hok, hl.trans I.len⟩
theorem Inv.pins_of {pins' : List (Addr × Obj)} (I : Inv X pins σ H s) (h : ∀ p ∈ pins', s.heap.get? p.1 = some p.2 ∧ H p.1 = none ∧ p.1 ≠ X.env.locals ∧ p.1 ∉ X.fs ∧ ∀ v, p.2.data ≠ .cell v) : Inv X pins' σ H s :=
  ⟨I.ok, I.os, I.bare, I.base, I.loc, I.cell, I.free, I.freeC, fun p hp => (List.mem_append.mp hp).elim (fun z => I.pin p (List.mem_append_left _ z)) (h p), I.hok, I.len⟩

theorem nodup_ix {N : List Str} (hN : N.Nodup) {i j : Nat} {x : Str} (a : N[i]? = some x) (b : N[j]? = some x) : i = j := by
  obtain ⟨h1, e1⟩ := List.getElem?_eq_some_iff.mp a
  obtain ⟨h2, e2⟩ := List.getElem?_eq_some_iff.mp b
  exact (List.getElem_inj hN).mp (e1.trans e2.symm)

/-- a name is stored; what changed -/
theorem store_ok2 {M : Model} {A : Around} {E : Value → Shared → Prop} {i : Nat} {x : Str} {v : V} {u : Value} {Q : Unit → Shared → Prop} (I : Inv X pins σ H s) (hN : X.N.Nodup) (hi : X.N[i]? = some x) (hx : Loc X.env.scope x) (r : RelV v u)
    (h : ∀ s', Inv X pins (σ.set i (some v)) H s' → (∃ a, Heap.SameBut a s.heap s'.heap ∧ (a = X.env.locals ∨ X.env.cells.lookup x = some a)) → Q () s') (hf : X.fn x = true ∨ X.env.scope.names.lookup x = some .local := by first | exact .inl rfl | exact .inr rfl | assumption) : wpAny M A (storeName X.env x u) Q E s := by
  obtain ⟨m, hn, hl⟩ := id I.loc
  have hcls : (X.env.scope.kind == .class || (X.env.scope.kind == .module && X.env.locals != X.env.globals)) = false := by rw [I.ok.kind]; rfl
  have hiσ : i < σ.length := by rw [I.len]; exact (List.getElem?_eq_some_iff.mp hi).1
  have cne := I.cne
  have tracked : ∀ {a : Addr} {h' : Heap}, (∃ o, s.heap.get? a = some o ∧ H a = none) → Heap.SameBut a s.heap h' → HOk X.prog X.w H h' := fun {a h'} ha hs b ob e => by
    obtain ⟨_, _, hfree⟩ := ha
    refine (I.hok b ob e).stay (fun c w' hc q => (hs.2 c ?_).trans q) (fun _ q => q) fun _ _ q => q
    rintro rfl
    rcases hc with rfl | hc
    · rw [hfree] at e; cases e
    · rw [hfree] at hc; cases hc
  rcases hx with hk | hk
  · refine wpAny_storeName_local hk hn (fun h' hn' hs => ?_) hcls
    obtain ⟨oL, _, _, hoL, _⟩ := id hn
    refine h _ ⟨I.ok, I.os, I.bare, ⟨fun b o e n hb hx => ?_, fun b o e n hb hx => ?_, I.base.free, fun b o e hx => ?_, I.base.tups, I.base.frzs, I.base.tbls⟩, ⟨_, hn', fun j y v' e1 e2 e3 => ?_⟩, fun y c e => ?_, I.free, I.freeC, fun p hp => ?_, tracked ⟨oL, hoL, I.free⟩ hs, by simpa using I.len⟩ ⟨_, hs, .inl rfl⟩
    · exact (hs.2 b (Nat.ne_of_lt (Nat.lt_of_lt_of_le (Heap.lt_size e) I.ok.above))).trans (I.base.keep b o e n hb hx)
    · obtain ⟨sl, e1⟩ := I.base.slot b o e n hb hx
      exact ⟨sl, (hs.2 b (Nat.ne_of_lt (Nat.lt_of_lt_of_le (Heap.lt_size e) I.ok.above))).trans e1⟩
    · obtain ⟨o', e1⟩ := I.base.there b o e hx
      exact ⟨o', (hs.2 b (Nat.ne_of_lt (Nat.lt_of_lt_of_le (Heap.lt_size e) I.ok.above))).trans e1⟩
    · by_cases hj : j = i
      · subst hj
        rw [hi] at e1; cases e1
        rw [List.getElem?_set_self hiσ] at e2
        cases e2
        exact ⟨u, r, .inl ⟨hk, by simp⟩⟩
      · rw [List.getElem?_set_ne (Ne.symm hj)] at e2
        obtain ⟨u', r', q⟩ := hl j y v' e1 e2 e3
        refine ⟨u', r', ?_⟩
        rcases q with ⟨k, e⟩ | ⟨k, c, e, z⟩
        · refine .inl ⟨k, ?_⟩
          have : y ≠ x := fun e => hj (nodup_ix hN e1 (e ▸ hi))
          simp [this, e]
        · exact .inr ⟨k, c, e, z.sameBut hs (cne y c e)⟩
    · obtain ⟨w', z⟩ := I.cell y c e
      exact ⟨w', z.sameBut hs (cne y c e)⟩
    · obtain ⟨e, n, ne, nf, d⟩ := I.pin p hp
      exact ⟨(hs.2 p.1 ne).trans e, n, ne, nf, d⟩
  · have hfn : X.fn x = true := by
      rcases hf with z | z
      · exact z
      · rw [z] at hk; cases hk
    obtain ⟨c, hc⟩ := I.ok.has x (.inl hk)
    obtain ⟨w', z⟩ := I.cell x c hc
    refine wpAny_storeName_cell I.ok.kind hk hc z (fun h' hc' hs => ?_)
    obtain ⟨oc, hoc, hocd⟩ := id z
    refine h { s with heap := h' } ⟨I.ok, I.os, I.bare, ⟨fun b o e n hb hx => ?_, fun b o e n hb hx => ?_, I.base.free, fun b o e hx => ?_, I.base.tups, I.base.frzs, I.base.tbls⟩, ⟨m, hn.sameBut hs (Ne.symm (cne x c hc)), fun j y v' e1 e2 e3 => ?_⟩, fun y c' e => ?_, I.free, I.freeC, fun p hp => ?_, tracked ⟨oc, hoc, I.freeC x c hc⟩ hs, by simpa using I.len⟩ ⟨c, hs, .inr hc⟩
    · exact (hs.2 b (Nat.ne_of_lt (Nat.lt_of_lt_of_le (Heap.lt_size e) (I.ok.cab x c hfn hc)))).trans (I.base.keep b o e n hb hx)
    · obtain ⟨sl, e1⟩ := I.base.slot b o e n hb hx
      exact ⟨sl, (hs.2 b (Nat.ne_of_lt (Nat.lt_of_lt_of_le (Heap.lt_size e) (I.ok.cab x c hfn hc)))).trans e1⟩
    · obtain ⟨o', e1⟩ := I.base.there b o e hx
      exact ⟨o', (hs.2 b (Nat.ne_of_lt (Nat.lt_of_lt_of_le (Heap.lt_size e) (I.ok.cab x c hfn hc)))).trans e1⟩
    · by_cases hj : j = i
      · subst hj
        rw [hi] at e1; cases e1
        rw [List.getElem?_set_self hiσ] at e2
        cases e2
        exact ⟨u, r, .inr ⟨.inl hk, c, hc, hc'⟩⟩
      · rw [List.getElem?_set_ne (Ne.symm hj)] at e2
        obtain ⟨u', r', q⟩ := hl j y v' e1 e2 e3
        refine ⟨u', r', ?_⟩
        rcases q with q | ⟨k, c', e, z'⟩
        · exact .inl q
        · refine .inr ⟨k, c', e, z'.sameBut hs ?_⟩
          rintro rfl
          exact hj (nodup_ix hN e1 (I.ok.inj _ _ _ e hc ▸ hi))
    · by_cases hcc : c' = c
      · subst hcc; exact ⟨_, hc'⟩
      · obtain ⟨w2, z2⟩ := I.cell y c' e
        exact ⟨w2, z2.sameBut hs hcc⟩
    · obtain ⟨e, n, ne, nf, d⟩ := I.pin p hp
      refine ⟨(hs.2 p.1 ?_).trans e, n, ne, nf, d⟩
      intro q
      rw [q, hoc] at e
      have q' : oc = p.2 := Option.some.inj e
      exact d w' (by rw [← q']; exact hocd)
theorem store_ok {M : Model} {A : Around} {E : Value → Shared → Prop} {i : Nat} {x : Str} {v : V} {u : Value} {Q : Unit → Shared → Prop} (I : Inv X pins σ H s) (hN : X.N.Nodup) (hi : X.N[i]? = some x) (hx : Loc X.env.scope x) (r : RelV v u)
    (h : ∀ s', Inv X pins (σ.set i (some v)) H s' → Q () s') (hf : X.fn x = true ∨ X.env.scope.names.lookup x = some .local := by first | exact .inl rfl | exact .inr rfl | assumption) : wpAny M A (storeName X.env x u) Q E s :=
  store_ok2 I hN hi hx r (fun s' I' _ => h s' I') hf
/-- behind a call or a block, the state as it is -/
theorem Inv.call' {s' : Shared} {ch : List Addr} (I : Inv X pins σ H s) (ho : s'.os = s.os) (u : Un (frs X.stack) ch H H' s.heap s'.heap) (hok : HOk X.prog X.w H' s'.heap) (hg : AllBare s'.gens)
    (hch : ∀ b ∈ ch, (b ∈ X.ex ∨ X.s₀.heap.objs.size ≤ b) ∧ b ≠ X.env.locals ∧ (∀ x c, X.env.cells.lookup x = some c → c ≠ b) ∧ ∀ p ∈ X.pn ++ pins, p.1 ≠ b) : Inv X pins σ H' s' := by
  obtain ⟨h', g', d', t', o'⟩ := s'
  have e : o' = s.os := ho
  subst e
  exact I.call (g' := g') (t' := t') (d' := d') u hok hg hch
end

/-! ### the judgements -/
/-- an exception: its class, its own dict's address (where it has one), the abstract heap behind it -/
abbrev XK := Value → Option Addr → Hp → Prop
abbrev St := List (Option V)
abbrev VK := V → Hp → Prop
/-- an expression's reading; a test's; an argument list's -/
abbrev TE := St → Hp → VK → Prop
abbrev TT := St → Hp → (Bool → Hp → Prop) → Prop
abbrev TA := St → Hp → (List V → Hp → Prop) → Prop
/-- what is wanted behind a statement -/
structure Ends where
  nx : St → Hp → Prop
  rt : VK
  bk : St → Hp → Prop := fun _ _ => False
  ct : St → Hp → Prop := fun _ _ => False
abbrev TS := Ends → St → Hp → Prop

def EP (X : Cx) (pins : List (Addr × Obj)) (σ : St) (Q : VK) (u : Value) (s' : Shared) : Prop := ∃ v H', Inv X pins σ H' s' ∧ RelV v u ∧ Q v H'
def TP (X : Cx) (pins : List (Addr × Obj)) (σ : St) (Q : Bool → Hp → Prop) (b : Bool) (s' : Shared) : Prop := ∃ H', Inv X pins σ H' s' ∧ Q b H'
def AP (X : Cx) (pins : List (Addr × Obj)) (σ : St) (Q : List V → Hp → Prop) (us : List Value) (s' : Shared) : Prop := ∃ vs H', Inv X pins σ H' s' ∧ Vals vs us ∧ Q vs H'
def SP (X : Cx) (pins : List (Addr × Obj)) (D : Ends) (f : Flow) (s' : Shared) : Prop :=
  match f with
  | .next => ∃ σ' H', Inv X pins σ' H' s' ∧ D.nx σ' H'
  | .brk => ∃ σ' H', Inv X pins σ' H' s' ∧ D.bk σ' H'
  | .cont => ∃ σ' H', Inv X pins σ' H' s' ∧ D.ct σ' H'
  | .ret u => ∃ v σ' H', Inv X pins σ' H' s' ∧ RelV v u ∧ D.rt v H'

def PE (X : Cx) (e : Expr) (t : TE) : Prop :=
  ∀ (pins : List (Addr × Obj)) (s : Shared) (σ : St) (H : Hp) (Q : VK), Inv X pins σ H s → t σ H Q → wpAny (model X.prog X.w) X.A (eval e X.env) (EP X pins σ Q) X.xe s
def PT (X : Cx) (e : Expr) (t : TT) : Prop :=
  ∀ (pins : List (Addr × Obj)) (s : Shared) (σ : St) (H : Hp) (Q : Bool → Hp → Prop), Inv X pins σ H s → t σ H Q → wpAny (model X.prog X.w) X.A (isTrue e X.env (eval e X.env)) (TP X pins σ Q) X.xe s
/-- a test whatever its 'whole' is (and, or) -/
def PW (X : Cx) (e : Expr) (t : TT) : Prop :=
  ∀ (whole : Sem Value) (pins : List (Addr × Obj)) (s : Shared) (σ : St) (H : Hp) (Q : Bool → Hp → Prop), Inv X pins σ H s → t σ H Q → wpAny (model X.prog X.w) X.A (isTrue e X.env whole) (TP X pins σ Q) X.xe s
theorem PW.pt {X : Cx} {e : Expr} {t : TT} (h : PW X e t) : PT X e t := h _
/-- an argument list (no star), from the left -/
def PA (X : Cx) (es : List Expr) (t : TA) : Prop :=
  ∀ (pos : Pos) (pins : List (Addr × Obj)) (s : Shared) (σ : St) (H : Hp) (Q : List V → Hp → Prop), Inv X pins σ H s → t σ H Q → wpAny (model X.prog X.w) X.A (spliced (backTo pos (starEach es X.env))) (AP X pins σ Q) X.xe s
def PS (X : Cx) (st : Stmt) (t : TS) : Prop :=
  ∀ (pins : List (Addr × Obj)) (s : Shared) (σ : St) (H : Hp) (D : Ends), Inv X pins σ H s → t D σ H → wpAny (model X.prog X.w) X.A (exec st X.env) (SP X pins D) X.xe s
def PSs (X : Cx) (st : List Stmt) (t : TS) : Prop :=
  ∀ (pins : List (Addr × Obj)) (s : Shared) (σ : St) (H : Hp) (D : Ends), Inv X pins σ H s → t D σ H → wpAny (model X.prog X.w) X.A (execs st X.env) (SP X pins D) X.xe s
/-- weaken the end -/
theorem thn {α : Type} {t : Sem α} {Q Q' : α → Shared → Prop} {M : Model} {A : Around} {E : Value → Shared → Prop} {s : Shared} (h : wpAny M A t Q E s) (hQ : ∀ a s, Q a s → Q' a s) : wpAny M A t Q' E s := wpAny_mono h hQ fun _ _ x => x
end L2

namespace L2
open PySem PySem.Spec PyProof.Rows
section
variable {X : Cx}

/-! ### names and constants -/
def tVar (i : Nat) : TE := fun σ H Q => ∃ v, σ[i]? = some (some v) ∧ Q v H
def tC (v : V) : TE := fun _ H Q => Q v H
theorem pe_var {i : Nat} {x : Str} {pos : Pos} (hN : X.N[i]? = some x) (hv : Vis X.env.scope x) (hd : (x == ("__debug__" : Str)) = false := by decide) (hcd : (x == ("__classdict__" : Str)) = false := by decide) : PE X (.Name x pos) (tVar i) := by
  intro pins s σ H Q I h
  obtain ⟨v, e, h⟩ := h
  obtain ⟨m, hn, hl⟩ := I.loc
  obtain ⟨u, r, l⟩ := hl i x v hN e hv
  have fin : EP X pins σ Q u s := ⟨v, H, I, r, h⟩
  rcases l with ⟨hk, hm⟩ | ⟨hk, c, hc, hcell⟩
  · exact wpAny_Name (wpAny_loadName_local I.ok.kind hk hn hm fin) hd
  · rcases hk with hk | hk
    · exact wpAny_Name (wpAny_loadName_cell I.ok.kind hk hc hcell fin) hd
    · exact wpAny_Name (wpAny_loadName_free I.ok.kind hk hc hcell fin hcd) hd
theorem pe_int {i j pos} : PE X (.Constant (.int i) j pos) (tC (.int i)) := fun _ _ _ H _ I h => wpAny_Constant_int ⟨.int i, H, I.tok _, ⟨_, rfl⟩, h⟩
theorem pe_bl {b j pos} : PE X (.Constant (.bool b) j pos) (tC (.bl b)) := fun _ _ _ H _ I h => Constant_bool ⟨.bl b, H, I, rfl, h⟩
theorem pe_non {j pos} : PE X (.Constant .none j pos) (tC .non) := fun _ _ _ H _ I h => Constant_none ⟨.non, H, I, rfl, h⟩
theorem pe_str {x j pos} : PE X (.Constant (.str x) j pos) (tC (.str x)) := fun _ _ _ H _ I h => Calls.Constant_str ⟨.str x, H, I.tok _, ⟨_, rfl⟩, h⟩

/-- a global name of the def -/
def Gl (X : Cx) (x : Str) : Prop := X.env.kindOf x = some .globalImplicit
theorem ld_glob {E : Value → Shared → Prop} {pins : List (Addr × Obj)} {s : Shared} {σ : St} {H : Hp} {x : Str} {u : Value} {pos : Pos} {Q : Value → Shared → Prop} (I : Inv X pins σ H s) (hg : Gl X x) (hm : X.mg x = some u) (h : Q u s)
    (hd : (x == ("__debug__" : Str)) = false := by decide) : wpAny (model X.prog X.w) X.A (eval (.Name x pos) X.env) Q E s :=
  Calls.Name_function_global I.ok.kind hg (Calls.loadGlobal_global (by rw [I.ok.glob]; exact I.mod.glob.keeps I.bk) hm h) hd
theorem ld_blt {E : Value → Shared → Prop} {pins : List (Addr × Obj)} {s : Shared} {σ : St} {H : Hp} {x : Str} {u : Value} {pos : Pos} {Q : Value → Shared → Prop} (I : Inv X pins σ H s) (hg : Gl X x) (hm : X.mg x = none) (hv : bootBuiltins x = some u) (h : Q u s)
    (hn : x ≠ "__name__" := by decide) (hd : (x == ("__debug__" : Str)) = false := by decide) : wpAny (model X.prog X.w) X.A (eval (.Name x pos) X.env) Q E s := by
  obtain ⟨mb, h1, h2⟩ := I.mod.blt
  exact Calls.Name_function_global I.ok.kind hg (Calls.loadGlobal_builtin (by rw [I.ok.glob]; exact I.mod.glob.keeps I.bk) hm (by rw [I.ok.blt]; exact h1.keeps I.bk) ((h2 x hn).trans hv) h) hd
theorem pe_bltn {x : Str} {v : V} {u : Value} {pos : Pos} (hg : Gl X x) (hm : X.mg x = none) (hv : bootBuiltins x = some u) (r : RelV v u) (hn : x ≠ "__name__" := by decide) (hd : (x == ("__debug__" : Str)) = false := by decide) : PE X (.Name x pos) (tC v) :=
  fun _ _ _ H _ I h => ld_blt I hg hm hv ⟨v, H, I, r, h⟩ hn hd

/-! ### arithmetic -/
variable {a b : Expr} {ta tb : TE} {pos : Pos}
/-! ### comparisons -/
/-- a comparison as a value, as a test -/
def tB (t : TE) : TT := fun σ H Q => t σ H fun x H1 => ∃ c, x = .bl c ∧ Q c H1
/-- an expression whose value is a bool, as a test -/
theorem pt_val {e : Expr} {t : TE} (h : PE X e t) (he : ∀ whole, isTrue e X.env whole = (do let v ← whole; standAt e.pos; holding [v] (truthy v)) := by intro _; rfl) : PT X e (tB t) := by
  intro pins s σ H Q I hw
  refine isTrue_plain (thn (h pins s σ H _ I hw) fun v s1 ⟨x, H1, I1, r1, q1⟩ => ?_) (he _)
  obtain ⟨d, rfl, q⟩ := q1
  cases r1
  exact wpAny_truthy_bool ⟨H1, I1, q⟩

/-! ### and, or, not -/
variable {tA tB' : TT} {rest : List Expr}
def tAnd (t u : TT) : TT := fun σ H Q => t σ H fun c H1 => if c = true then u σ H1 Q else Q false H1
def tOr (t u : TT) : TT := fun σ H Q => t σ H fun c H1 => if c = true then Q true H1 else u σ H1 Q
def tNot (t : TT) : TT := fun σ H Q => t σ H fun c H1 => Q (!c) H1
theorem pw_and1 (ha : PT X a tA) : PW X (.BoolOp .And [a] pos) tA := by
  intro wh pins s σ H Q I h
  refine isTrue_and (thn (ha pins s σ H Q I h) fun c s1 e => ?_)
  cases c with
  | true => exact isTrue_and_nil e
  | false => exact e
theorem pw_or1 (ha : PT X a tA) : PW X (.BoolOp .Or [a] pos) tA := by
  intro wh pins s σ H Q I h
  refine isTrue_or (thn (ha pins s σ H Q I h) fun c s1 e => ?_)
  cases c with
  | false => exact isTrue_or_nil e
  | true => exact e
theorem pw_and (ha : PT X a tA) (hb : PW X (.BoolOp .And (b :: rest) pos) tB') : PW X (.BoolOp .And (a :: b :: rest) pos) (tAnd tA tB') := by
  intro wh pins s σ H Q I h
  refine isTrue_and (thn (ha pins s σ H _ I h) fun c s1 ⟨H1, I1, q1⟩ => ?_)
  cases c with
  | true => exact hb wh pins s1 σ H1 Q I1 q1
  | false => exact ⟨H1, I1, q1⟩
theorem pw_or (ha : PT X a tA) (hb : PW X (.BoolOp .Or (b :: rest) pos) tB') : PW X (.BoolOp .Or (a :: b :: rest) pos) (tOr tA tB') := by
  intro wh pins s σ H Q I h
  refine isTrue_or (thn (ha pins s σ H _ I h) fun c s1 ⟨H1, I1, q1⟩ => ?_)
  cases c with
  | true => exact ⟨H1, I1, q1⟩
  | false => exact hb wh pins s1 σ H1 Q I1 q1
theorem pt_not (ha : PT X a tA) : PT X (.UnaryOp .Not a pos) (tNot tA) := by
  intro pins s σ H Q I h
  exact isTrue_not (ha pins s σ H (fun c H1 => Q (!c) H1) I h)
/-- .. as values (bools) -/
def tAndV (ta tb : TE) : TE := fun σ H Q => ta σ H fun x H1 => ∃ c, x = .bl c ∧ if c = true then tb σ H1 Q else Q (.bl false) H1
def tNotV (ta : TE) : TE := fun σ H Q => ta σ H fun x H1 => ∃ c, x = .bl c ∧ Q (.bl (!c)) H1
theorem pe_one {op} {t : TE} (h : PE X a t) : PE X (.BoolOp op [a] pos) t := fun pins s σ H Q I hw => BoolOp_one (h pins s σ H Q I hw)
theorem pe_and (ha : PE X a ta) (hb : PE X (.BoolOp .And (b :: rest) pos) tb) : PE X (.BoolOp .And (a :: b :: rest) pos) (tAndV ta tb) := by
  intro pins s σ H Q I h
  refine BoolOp_and (thn (ha pins s σ H _ I h) fun v s1 ⟨x, H1, I1, r1, q1⟩ => ?_)
  obtain ⟨c, rfl, q1⟩ := q1
  cases r1
  refine wpAny_truthy_bool ?_
  cases c with
  | true => exact hb pins s1 σ H1 Q I1 q1
  | false => exact ⟨.bl false, H1, I1, rfl, q1⟩
theorem pe_not (ha : PE X a ta) : PE X (.UnaryOp .Not a pos) (tNotV ta) := by
  intro pins s σ H Q I h
  refine UnaryOp_ (thn (ha pins s σ H _ I h) fun v s1 ⟨x, H1, I1, r1, q1⟩ => ?_)
  obtain ⟨c, rfl, q1⟩ := q1
  cases r1
  exact not_of (wpAny_truthy_bool ⟨.bl (!c), H1, I1, rfl, q1⟩)
end
end L2

namespace L2
open PySem PySem.Spec PyProof.Rows

/-! ### a list, a tuple that is read: tracked, frozen, or an object of the module -/
def SqL (K : PySem.W.Frag) (H : Hp) (a : Addr) (xs : List V) : Prop :=
  Rd H a (.lst xs) ∨
    ∃ (o : Obj) (its : Array Value) (n : Nat), K.lookup a = some o ∧ o.cls = .type "list" ∧ o.dict = none ∧ o.data = .seq its n ∧ its.size ≤ sizeLine ∧ Vals xs its.toList
def SqT (K : PySem.W.Frag) (H : Hp) (a : Addr) (xs : List V) : Prop :=
  Rd H a (.tup xs) ∨
    ∃ (o : Obj) (its : Array Value) (n : Nat), K.lookup a = some o ∧ o.cls = .type "tuple" ∧ o.data = .seq its n ∧ its.size ≤ sizeLine ∧ Vals xs its.toList
def absV : Value → Option V
  | .none => some .non
  | .bool b => some (.bl b)
  | .int i _ => some (.int i)
  | .str x _ => some (.str x)
  | .bytes b _ => some (.byt b)
  | .float b _ => some (.flt b)
  | .ref a => some (.ref a)
  | .type n => some (.ty n)
  | _ => none
theorem RelV.abs {x : V} {u : Value} (r : RelV x u) : absV u = some x := by
  cases x with
  | non => cases r; rfl
  | bl _ => cases r; rfl
  | int _ => obtain ⟨t, rfl⟩ := r; rfl
  | str _ => obtain ⟨t, rfl⟩ := r; rfl
  | byt _ => obtain ⟨t, rfl⟩ := r; rfl
  | flt _ => obtain ⟨t, rfl⟩ := r; rfl
  | ref _ => cases r; rfl
  | ty _ => cases r; rfl
theorem RelV.inj {x y : V} {u : Value} (r : RelV x u) (q : RelV y u) : x = y := Option.some.inj (r.abs.symm.trans q.abs)
theorem Vals.inj : ∀ {xs ys : List V} {us : List Value}, Vals xs us → Vals ys us → xs = ys
  | _, _, _, .nil, .nil => rfl
  | _, _, _, .cons r t, .cons r' t' => by rw [r.inj r', Vals.inj t t']
section
variable {X : Cx} {pins : List (Addr × Obj)} {σ : St} {H : Hp} {s : Shared} {a : Addr} {xs ys : List V}
theorem SqL.of {K : PySem.W.Frag} (h : H a = some (.lst xs)) : SqL K H a xs := .inl (.inl h)
theorem SqT.of {K : PySem.W.Frag} (h : H a = some (.tup xs)) : SqT K H a xs := .inl (.inl h)
theorem Inv.list (I : Inv X pins σ H s) (h : SqL X.K H a xs) : ∃ its : List Value, Vals xs its ∧ PlainL s.heap a its.toArray ∧ xs.length ≤ sizeLine := by
  rcases h with h | ⟨o, its, n, hk, hc, hd, hs, hz, r⟩
  · obtain ⟨z, its, n, r, e⟩ := h.ok I.hok
    exact ⟨its, r, ⟨_, n, e, rfl, rfl, rfl⟩, z⟩
  · refine ⟨its.toList, r, ⟨o, n, I.kIn a o hk, hc, hd, by simpa using hs⟩, ?_⟩
    have e := r.length
    simp only [Array.length_toList] at e
    omega
theorem Inv.tuple (I : Inv X pins σ H s) (h : SqT X.K H a xs) : ∃ its : List Value, Vals xs its ∧ IsTup s.heap a its.toArray ∧ xs.length ≤ sizeLine := by
  rcases h with h | ⟨o, its, n, hk, hc, hs, hz, r⟩
  · obtain ⟨z, its, r, p⟩ := h.ok I.hok
    exact ⟨its, r, p, z⟩
  · refine ⟨its.toList, r, ⟨o, I.kIn a o hk, hc, n, by simpa using hs⟩, ?_⟩
    have e := r.length
    simp only [Array.length_toList] at e
    omega
theorem Inv.list_inj (I : Inv X pins σ H s) (h : SqL X.K H a xs) (h' : SqL X.K H a ys) : xs = ys := by
  obtain ⟨its, r, ⟨o, n, e, _, _, d⟩, _⟩ := I.list h
  obtain ⟨its', r', ⟨o', n', e', _, _, d'⟩, _⟩ := I.list h'
  rw [e] at e'; cases e'
  rw [d] at d'
  injection d' with d1 _
  have : its = its' := by simpa using congrArg Array.toList d1
  subst this
  exact r.inj r'
end

/-! ### another wish about exceptions -/
abbrev Cx.wish (X : Cx) (E : Value → Shared → Prop) : Cx := { X with xe := E }
/-- no exception leaves -/
abbrev Cx.nox (X : Cx) : Cx := X.wish fun _ _ => False
theorem Cx.Ok.wish {X : Cx} (ok : X.Ok) (E : Value → Shared → Prop) : (X.wish E).Ok :=
  ⟨ok.mod, ok.kind, ok.glob, ok.blt, ok.above, ok.inj, ok.has, ok.cab, ok.hd, ok.frames, ok.stk, ok.exf, ok.bs, ok.bsz, ok.noex, ok.exfs, ok.funs, ok.frf⟩
theorem Cx.Ok.unwish {X : Cx} {E : Value → Shared → Prop} (ok : (X.wish E).Ok) : X.Ok :=
  ⟨ok.mod, ok.kind, ok.glob, ok.blt, ok.above, ok.inj, ok.has, ok.cab, ok.hd, ok.frames, ok.stk, ok.exf, ok.bs, ok.bsz, ok.noex, ok.exfs, ok.funs, ok.frf⟩
section
variable {X : Cx} {pins : List (Addr × Obj)} {σ : St} {H : Hp} {s : Shared} {E : Value → Shared → Prop}
theorem Inv.wish (I : Inv X pins σ H s) (E : Value → Shared → Prop) : Inv (X.wish E) pins σ H s := ⟨I.ok.wish E, I.os, I.bare, I.base, I.loc, I.cell, I.free, I.freeC, I.pin, I.hok, I.len⟩
theorem Inv.unwish (I : Inv (X.wish E) pins σ H s) : Inv X pins σ H s := ⟨I.ok.unwish, I.os, I.bare, I.base, I.loc, I.cell, I.free, I.freeC, I.pin, I.hok, I.len⟩
theorem SP.unwish {D : Ends} {f : Flow} {s' : Shared} (h : SP (X.wish E) pins D f s') : SP X pins D f s' := by
  cases f with
  | next => obtain ⟨σ', H', I, q⟩ := h; exact ⟨σ', H', I.unwish, q⟩
  | brk => obtain ⟨σ', H', I, q⟩ := h; exact ⟨σ', H', I.unwish, q⟩
  | cont => obtain ⟨σ', H', I, q⟩ := h; exact ⟨σ', H', I.unwish, q⟩
  | ret u => obtain ⟨v, σ', H', I, r, q⟩ := h; exact ⟨v, σ', H', I.unwish, r, q⟩
theorem PE.nox {e : Expr} {t : TE} (h : PE X.nox e t) : PE X e t := fun pins s σ H Q I hw =>
  wpAny_mono (h pins s σ H Q (I.wish _) hw) (fun _ _ ⟨v, H', I', r, q⟩ => ⟨v, H', I'.unwish, r, q⟩) fun _ _ z => False.elim z
theorem PT.nox {e : Expr} {t : TT} (h : PT X.nox e t) : PT X e t := fun pins s σ H Q I hw =>
  wpAny_mono (h pins s σ H Q (I.wish _) hw) (fun _ _ ⟨H', I', q⟩ => ⟨H', I'.unwish, q⟩) fun _ _ z => False.elim z
theorem PSs.nox {st : List Stmt} {t : TS} (h : PSs X.nox st t) : PSs X st t := fun pins s σ H D I hw =>
  wpAny_mono (h pins s σ H D (I.wish _) hw) (fun _ _ q => q.unwish) fun _ _ z => False.elim z
end

/-! ### blocks and small statements -/
section
variable {X : Cx} {st : Stmt} {rest : List Stmt} {t u : TS} {e : Expr} {te : TE} {pos : Pos}
def tNext : TS := fun D σ H => D.nx σ H
def tSeq (t u : TS) : TS := fun D σ H => t { D with nx := u D } σ H
theorem pss_nil : PSs X [] tNext := fun _ _ σ H _ I h => wpAny_execs_nil ⟨σ, H, I, h⟩
theorem pss_cons (h1 : PS X st t) (h2 : PSs X rest u) : PSs X (st :: rest) (tSeq t u) := by
  intro pins s σ H D I h
  refine wpAny_execs_cons (thn (h1 pins s σ H { D with nx := u D } I h) fun f s1 q => ?_)
  cases f with
  | next =>
    obtain ⟨σ', H', I', q⟩ := q
    exact h2 pins s1 σ' H' D I' q
  | ret v => exact q
  | brk => exact q
  | cont => exact q
theorem pss_one (h1 : PS X st t) : PSs X [st] t := by
  intro pins s σ H D I h
  refine wpAny_execs_cons (thn (h1 pins s σ H D I h) fun f s1 q => ?_)
  cases f with
  | next => exact wpAny_execs_nil q
  | ret v => exact q
  | brk => exact q
  | cont => exact q
/-- in a def's body nothing is shown -/
theorem Inv.quiet {pins : List (Addr × Obj)} {σ : St} {H : Hp} {s : Shared} (I : Inv X pins σ H s) : interactive X.env = false := by simp [interactive, I.ok.kind]
/-- an expression whose value is dropped -/
def tDrop (te : TE) : TS := fun D σ H => te σ H fun _ H1 => D.nx σ H1
theorem ps_expr (he : PE X e te) (hs : swapsWith e none pos.line X.env = pure false := by rfl) : PS X (.Expr e pos) (tDrop te) := by
  intro pins s σ H D I h
  exact wpAny_Expr_any (thn (he pins s σ H _ I h) fun v s1 ⟨x, H1, I1, r1, q1⟩ => ⟨σ, H1, I1, q1⟩) I.quiet hs
def tRet (te : TE) : TS := fun D σ H => te σ H D.rt
theorem ps_ret (he : PE X e te) : PS X (.Return (some e) pos) (tRet te) := by
  intro pins s σ H D I h
  exact wpAny_Return_some (thn (he pins s σ H _ I h) fun v s1 ⟨x, H1, I1, r1, q1⟩ => ⟨x, σ, H1, I1, r1, q1⟩)
def tIfS (c : TT) (t u : TS) : TS := fun D σ H => c σ H fun b H1 => if b = true then t D σ H1 else u D σ H1
theorem ps_if {c : Expr} {a b : List Stmt} {tc : TT} (hc : PT X c tc) (ha : PSs X a t) (hb : PSs X b u) : PS X (.If c a b pos) (tIfS tc t u) := by
  intro pins s σ H D I h
  refine wpAny_If (thn (hc pins s σ H _ I h) fun d s1 ⟨H1, I1, q1⟩ => ?_)
  cases d with
  | true => exact ha pins s1 σ H1 D I1 q1
  | false => exact hb pins s1 σ H1 D I1 q1
end

/-! ### targets -/
abbrev TG := V → St → Hp → (St → Hp → Prop) → Prop
def PG (X : Cx) (target : Expr) (t : TG) : Prop :=
  ∀ (pins : List (Addr × Obj)) (s : Shared) (σ : St) (H : Hp) (v : V) (u : Value) (Q : St → Hp → Prop), Inv X pins σ H s → RelV v u → t v σ H Q →
    wpAny (model X.prog X.w) X.A (assign target X.env u) (fun _ s' => ∃ σ' H', Inv X pins σ' H' s' ∧ Q σ' H') X.xe s
/-- o[i] = v, by values -/
abbrev TSet := V → V → V → Hp → (Hp → Prop) → Prop
def PSet (X : Cx) (t : TSet) : Prop :=
  ∀ (pins : List (Addr × Obj)) (s : Shared) (σ : St) (H : Hp) (o i v : V) (ov iv u : Value) (Q : Hp → Prop), Inv X pins σ H s → RelV o ov → RelV i iv → RelV v u → t o i v H Q →
    wpAny (model X.prog X.w) X.A (setItem ov iv u) (fun _ s' => ∃ H', Inv X pins σ H' s' ∧ Q H') X.xe s
section
variable {X : Cx} {pos : Pos}
def gName (i : Nat) : TG := fun v σ H Q => Q (σ.set i (some v)) H
theorem pg_name {i : Nat} {x : Str} (hN : X.N.Nodup) (hi : X.N[i]? = some x) (hx : Loc X.env.scope x) (hf : X.fn x = true ∨ X.env.scope.names.lookup x = some .local := by first | exact .inl rfl | exact .inr rfl | assumption) : PG X (.Name x pos) (gName i) := by
  intro pins s σ H v u Q I r h
  exact wpAny_assign_Name (store_ok I hN hi hx r (fun s' I' => ⟨_, H, I', h⟩) hf)
/-- o[i] = .. -/
def gSub (to ti : TE) (t : TSet) : TG := fun v σ H Q => to σ H fun o H1 => ti σ H1 fun i H2 => t o i v H2 fun H3 => Q σ H3
theorem pg_sub {o i : Expr} {to ti : TE} {t : TSet} (ho : PE X o to) (hi : PE X i ti) (hs : PSet X t)
    (ha : ∀ v, assign (.Subscript o i pos) X.env v = (do
      let ov ← holding [v] (eval o X.env)
      let iv ← holding [v, ov] (eval i X.env)
      standAt pos
      holding [v, ov, iv] (setItem ov iv v)
      release [v, ov, iv] []) := by intro _; rfl) : PG X (.Subscript o i pos) (gSub to ti t) := by
  intro pins s σ H v u Q I r h
  rw [ha]
  refine wpAny_bind (wpAny_holding (thn (ho pins s σ H _ I h) fun ov s1 ⟨x, H1, I1, r1, q1⟩ => ?_))
  refine wpAny_bind (wpAny_holding (thn (hi pins s1 σ H1 _ I1 q1) fun iv s2 ⟨y, H2, I2, r2, q2⟩ => ?_))
  refine wpAny_bind (wpAny_standAt (wpAny_bind (wpAny_holding (thn (hs pins s2 σ H2 x y v ov iv u _ I2 r1 r2 r q2) fun _ s3 ⟨H3, I3, q3⟩ => ?_))))
  exact wpAny_release ⟨σ, H3, I3, q3⟩
/-- target = value -/
def tAsg (te : TE) (g : TG) : TS := fun D σ H => te σ H fun x H1 => g x σ H1 D.nx
theorem ps_asg {tg e : Expr} {te : TE} {g : TG} (he : PE X e te) (hg : PG X tg g) (hs : swapsWithSole [tg] e pos.line X.env = pure false := by rfl) (hw : swappedStores [tg] e X.env = pure none := by rfl)
    (h1 : (assignEach [tg] X.env).map (·.2) = [assign tg X.env] := by rfl) : PS X (.Assign [tg] e pos) (tAsg te g) := by
  intro pins s σ H D I h
  refine wpAny_Assign_stores (thn (he pins s σ H _ I h) fun v s1 ⟨x, H1, I1, r1, q1⟩ => ?_) hs hw
  rw [h1]
  exact thn (hg pins s1 σ H1 x v _ I1 r1 q1) fun _ s2 q => q
/-- name = value -/
theorem ps_set {i : Nat} {x : Str} {e : Expr} {te : TE} {pos' : Pos} (hN : X.N.Nodup) (hi : X.N[i]? = some x) (hx : Loc X.env.scope x) (he : PE X e te) (hs : swapsWith e (some (.Name x pos')) pos.line X.env = pure false := by rfl) (hf : X.fn x = true ∨ X.env.scope.names.lookup x = some .local := by first | exact .inl rfl | exact .inr rfl | assumption) :
    PS X (.Assign [.Name x pos'] e pos) (tAsg te (gName i)) := by
  intro pins s σ H D I h
  refine wpAny_Assign_Name (thn (he pins s σ H _ I h) fun v s1 ⟨y, H1, I1, r1, q1⟩ => ?_) hs
  exact store_ok I1 hN hi hx r1 (fun s2 I2 => ⟨_, H1, I2, q1⟩) hf
end

/-! ### while -/
section
variable {X : Cx} {pos : Pos}
end

/-! ### what a loop or a comprehension walks -/
/-- at turn i: it yields x (the heap may grow), or it stops -/
structure It where
  go : Nat → Hp → Prop
  yld : Nat → Hp → V → Hp → Prop
  stop : Nat → Hp → Prop
/-- the iterator's own objects may turn: they are not the frame's, not pinned, younger than the entry (or a comprehension's own) -/
def FpOk (X : Cx) (pins : List (Addr × Obj)) (H : Hp) (b : Addr) : Prop :=
  H b = none ∧ b ≠ X.env.locals ∧ b ∉ X.fs ∧ (b ∈ X.ex ∨ X.s₀.heap.objs.size ≤ b) ∧ (∀ x c, X.env.cells.lookup x = some c → c ≠ b) ∧ ∀ p ∈ X.pn ++ pins, p.1 ≠ b
theorem Inv.fpOk {X : Cx} {pins : List (Addr × Obj)} {σ : St} {H H' : Hp} {s : Shared} {b : Addr} (I : Inv X pins σ H s) (hb : s.heap.objs.size ≤ b) (hn : H' b = none) : FpOk X pins H' b := by
  refine ⟨hn, Nat.ne_of_gt (Nat.lt_of_lt_of_le I.lt hb), I.nofs hb, .inr (Nat.le_trans I.sz hb), fun x c e z => ?_, fun p hp z => ?_⟩
  · obtain ⟨v, q⟩ := I.cell x c e
    exact absurd (Nat.lt_of_lt_of_le q.lt (by rw [z]; exact hb)) (Nat.lt_irrefl _)
  · exact absurd (Nat.lt_of_lt_of_le (Heap.lt_size (I.pin p hp).1) (by rw [z]; exact hb)) (Nat.lt_irrefl _)
structure Turn (P : Program) (w : World) (K : PySem.W.Frag) (tg : Expr) (J : It) (fp : List Addr) (it : Addr) (tn : Nat → Heap → Prop) : Prop where
  mem : it ∈ fp
  obj : ∀ i h, tn i h → ∀ b ∈ fp, ∃ o, h.get? b = some o ∧ ∀ v, o.data ≠ .cell v
  keep : ∀ i h h', tn i h → (∀ b ∈ fp, ∀ o, h.get? b = some o → h'.get? b = some o) → tn i h'
  item : ∀ (X : Cx), X.prog = P → X.w = w → X.K = K → X.calm = true → ∀ (i : Nat) (pins : List (Addr × Obj)) (s : Shared) (σ : St) (H : Hp) (E : Value → Shared → Prop), Inv X pins σ H s → (∀ b ∈ fp, FpOk X pins H b) → tn i s.heap → J.go i H →
    wpAny (model P w) X.A (pyNext (.ref it)) (fun r s1 => ∃ u, r = some u ∧
      wpAny (model P w) X.A (letOwnedTupleGo tg (.ref it) u) (fun _ s2 => ∃ x H', Inv X pins σ H' s2 ∧ RelV x u ∧ J.yld i H x H' ∧ tn (i + 1) s2.heap ∧ ∀ b ∈ fp, H' b = none) E s1) E s
  done : ∀ (X : Cx), X.prog = P → X.w = w → X.K = K → X.calm = true → ∀ (i : Nat) (pins : List (Addr × Obj)) (s : Shared) (σ : St) (H : Hp) (E : Value → Shared → Prop), Inv X pins σ H s → (∀ b ∈ fp, FpOk X pins H b) → tn i s.heap → J.stop i H →
    wpAny (model P w) X.A (pyNext (.ref it)) (fun r s1 => r = none ∧ Inv X pins σ H s1) E s
  self : ∀ (A : Around) (i : Nat) (s : Shared) (Q : Value → Shared → Prop) (E : Value → Shared → Prop), tn i s.heap → Q (.ref it) s → wpAny (model P w) A (pyIter (.ref it)) Q E s
abbrev TI := St → Hp → (It → Hp → Prop) → Prop
/-- an iterator has come -/
def PIE (X : Cx) (pins : List (Addr × Obj)) (σ : St) (tg : Expr) (R : It → Hp → Prop) (itv : Value) (s2 : Shared) : Prop :=
  ∃ (it : Addr) (fp : List Addr) (tn : Nat → Heap → Prop) (J : It) (H' : Hp), itv = .ref it ∧ Inv X pins σ H' s2 ∧ Turn X.prog X.w X.K tg J fp it tn ∧ tn 0 s2.heap ∧ (∀ b ∈ fp, FpOk X pins H' b) ∧ R J H'
def PI (X : Cx) (tg iter : Expr) (wi : TI) : Prop :=
  ∀ (pins : List (Addr × Obj)) (s : Shared) (σ : St) (H : Hp) (R : It → Hp → Prop), Inv X pins σ H s → wi σ H R →
    wpAny (model X.prog X.w) X.A (eval iter X.env) (fun v s1 => wpAny (model X.prog X.w) X.A (pyIter v) (PIE X pins σ tg R) X.xe s1) X.xe s

/-- the step ahead of the store is nothing for an iterator that keeps no tuple -/
theorem go_of {M : Model} {A : Around} {E : Value → Shared → Prop} {s : Shared} {tg : Expr} {it : Addr} {u : Value} {o : Obj} {n : String} {vs : Array Value} {Q : Unit → Shared → Prop} (ho : s.heap.get? it = some o) (hc : o.cls = .type n) (hd : o.data = .fields vs)
    (hn : ["enumerate", "zip", "dict_itemiterator", "dict_reverseitemiterator", "odict_iterator", "itertools.zip_longest", "itertools.pairwise"].contains n = false) (hQ : Q () s) : wpAny M A (letOwnedTupleGo tg (.ref it) u) Q E s := by
  unfold letOwnedTupleGo
  cases tg <;> first
    | exact wpAny_pure hQ
    | (cases u <;> first
        | exact wpAny_pure hQ
        | (refine wpAny_bind (wpAny_load ho ?_)
           rw [hc, hd]
           show wpAny M A (if (["enumerate", "zip", "dict_itemiterator", "dict_reverseitemiterator", "odict_iterator", "itertools.zip_longest", "itertools.pairwise"].contains n && vs[0]? == some (rawInt _)) = true then _ else _) Q E s
           rw [if_neg (by intro h; rw [hn, Bool.false_and] at h; cases h)]
           exact wpAny_pure hQ))

/-- the list at a, as it stands at each turn (a loop may append to it) -/
def Itl (K : PySem.W.Frag) (a : Addr) : It :=
  ⟨fun i H => ∃ xs x, SqL K H a xs ∧ xs[i]? = some x, fun i H x H' => H' = H ∧ ∀ xs, SqL K H a xs → xs[i]? = some x, fun i H => ∃ xs, SqL K H a xs ∧ xs.length ≤ i⟩
/-- lo, lo + 1, .. (n of them) -/
def Itr (lo : Int) (n : Nat) : It := ⟨fun i _ => i < n, fun i H x H' => H' = H ∧ x = .int (lo + i), fun i _ => n ≤ i⟩
theorem turn_list {P : Program} {w : World} {K : PySem.W.Frag} {tg : Expr} (a it : Addr) : Turn P w K tg (Itl K a) [it] it (fun i h => h.IsListIter it a i) where
  mem := by simp
  obj := fun i h st b hb => by
    have e : b = it := by simpa using hb
    subst e
    obtain ⟨o, e, c, d⟩ := st
    exact ⟨o, e, fun v z => by rw [d] at z; cases z⟩
  keep := fun i h h' st k => st.at fun o e => k it (by simp) o e
  item := by
    intro X hP hw hK hc i pins s σ H E I hf st hg
    subst hP hw hK
    obtain ⟨xs, x, hq, hx⟩ := hg
    obtain ⟨its, rv, p, hz⟩ := I.list hq
    obtain ⟨u, hu, ru⟩ := rv.get hx
    obtain ⟨f0, f1, f2, f3, f4, f5⟩ := hf it (by simp)
    refine wpAny_pyNext_list_item st p.isList (x := u) (by simpa using hu) fun h' st' sb => ?_
    have I1 : Inv X pins σ H { s with heap := h' } := I.turned (t' := s.toks) (fun b o hb e => (sb.2 b hb).trans e) f0 f1 f3 f4 f5
    obtain ⟨o, e, c, d⟩ := id st'
    exact ⟨u, rfl, go_of (s := { s with heap := h' }) e c d (by decide) ⟨x, H, I1, ru, ⟨rfl, fun ys hy => by rw [I.list_inj hy hq]; exact hx⟩, st', fun b hb => (hf b hb).1⟩⟩
  done := by
    intro X hP hw hK hc i pins s σ H E I hf st hg
    subst hP hw hK
    obtain ⟨xs, hq, hx⟩ := hg
    obtain ⟨its, rv, p, hz⟩ := I.list hq
    obtain ⟨f0, f1, f2, f3, f4, f5⟩ := hf it (by simp)
    have hl := rv.length
    exact wpAny_pyNext_list_end (I.ok.hd hc) st p.isList (by simp; omega) fun h' eb => ⟨rfl, I.turned (t' := s.toks) (fun b o hb e => eb b o hb e) f0 f1 f3 f4 f5⟩
  self := fun _ _ _ _ _ st h => wpAny_pyIter_listiter st h
theorem turn_range {P : Program} {w : World} {K : PySem.W.Frag} {tg : Expr} (it : Addr) (lo : Int) (n : Nat) : Turn P w K tg (Itr lo n) [it] it (fun i h => IsRangeIter h it (lo + (i : Nat) * 1) ((n : Int) - (i : Nat)) 1) where
  mem := by simp
  obj := fun i h st b hb => by
    have e : b = it := by simpa using hb
    subst e
    exact ⟨_, st, fun v z => by
      have z' : Data.fields _ = Data.cell v := z
      cases z'⟩
  keep := fun i h h' st k => k it (by simp) _ st
  item := by
    intro X hP hw hK hc i pins s σ H E I hf st hg
    subst hP hw hK
    obtain ⟨f0, f1, f2, f3, f4, f5⟩ := hf it (by simp)
    have W := Walks.range (prog := X.prog) (w := X.w) (I.ok.hd hc) it lo 1 n
    refine W.item i s _ _ hg st fun v h' tk hv st' kk => ?_
    obtain ⟨t, rfl⟩ := hv
    have I1 : Inv X pins σ H { s with heap := h', toks := tk } := I.turned (fun b o hb e => kk b o (by simpa using hb) e) f0 f1 f3 f4 f5
    refine ⟨_, rfl, go_of (s := { s with heap := h', toks := tk }) (n := "range_iterator") st' rfl rfl (by decide) ⟨.int (lo + i), H, I1, ⟨t, ?_⟩, ⟨rfl, rfl⟩, st', fun b hb => (hf b hb).1⟩⟩
    rw [Int.mul_one]
  done := by
    intro X hP hw hK hc i pins s σ H E I hf st hg
    subst hP hw hK
    obtain ⟨f0, f1, f2, f3, f4, f5⟩ := hf it (by simp)
    exact wpAny_pyNext_range_end (I.ok.hd hc) st (by have : n ≤ i := hg; omega) fun h' eb => ⟨rfl, I.turned (t' := s.toks) (fun b o hb e => eb b o hb e) f0 f1 f3 f4 f5⟩
  self := fun _ _ _ _ _ st h => wpAny_pyIter_rangeiter st h
end L2

namespace L2
open PySem PySem.Spec PyProof.Rows
section
variable {X : Cx} {tg : Expr}
def iList (K : PySem.W.Frag) (tl : TE) : TI := fun σ H R => tl σ H fun x H1 => ∃ a, x = .ref a ∧ (∃ xs, SqL K H1 a xs) ∧ R (Itl K a) H1
theorem pi_list {l : Expr} {tl : TE} (hl : PE X l tl) : PI X tg l (iList X.K tl) := by
  intro pins s σ H R I h
  refine thn (hl pins s σ H _ I h) fun v s1 ⟨x, H1, I1, r1, q1⟩ => ?_
  obtain ⟨a, e, ⟨xs, hq⟩, q⟩ := q1
  subst e
  cases r1
  obtain ⟨its, rv, p, hz⟩ := I1.list hq
  refine wpAny_pyIter_list p.isList ?_
  refine ⟨s1.heap.objs.size, [s1.heap.objs.size], _, _, H1, rfl, I1.kept (t' := s1.toks) fun b o e => Heap.get?_push_of_some _ e, turn_list a _, ⟨_, Heap.get?_push_size _ rfl, rfl, rfl⟩, fun b hb => ?_, q⟩
  have e : b = s1.heap.objs.size := by simpa using hb
  subst e
  exact I1.fpOk (Nat.le_refl _) (I1.hok.fresh (Nat.le_refl _))
/-- a range object just made, walked -/
theorem range_it {pins : List (Addr × Obj)} {σ : St} {H : Hp} {s : Shared} {R : It → Hp → Prop} {E : Value → Shared → Prop} {lo hi : Int} {t u v : Tok} {tk : Nat} (I : Inv X pins σ H s) (h1 : -(2 ^ 62) ≤ lo) (h2 : lo < 2 ^ 62) (h3 : -(2 ^ 62) ≤ hi) (h4 : hi < 2 ^ 62)
    (q : R (Itr lo (hi - lo).toNat) H) : wpAny (model X.prog X.w) X.A (pyIter (.ref s.heap.objs.size)) (PIE X pins σ tg R) E { s with heap := s.heap.push { cls := .type "range", data := .fields #[.int lo t, .int hi u, .int 1 v] }, toks := tk } := by
  refine wpAny_pyIter_range (IsRange.new ..) (small_one h1 h2 h3 h4) ?_
  have I1 : Inv X pins σ H { s with heap := s.heap.push { cls := .type "range", data := .fields #[.int lo t, .int hi u, .int 1 v] }, toks := tk } := I.kept fun b o e => Heap.get?_push_of_some _ e
  refine ⟨(s.heap.push { cls := .type "range", data := .fields #[.int lo t, .int hi u, .int 1 v] }).objs.size, [(s.heap.push { cls := .type "range", data := .fields #[.int lo t, .int hi u, .int 1 v] }).objs.size], _, _, H, rfl,
    I1.kept (t' := tk) fun b o e => Heap.get?_push_of_some _ e, turn_range _ lo (hi - lo).toNat, ?_, fun b hb => ?_, q⟩
  · have e1 : lo + ((0 : Nat) : Int) * 1 = lo := by simp
    have e2 : (((hi - lo).toNat : Nat) : Int) - ((0 : Nat) : Int) = Builtin.Range.rangeSize lo hi 1 := by rw [rangeSize_one]; split <;> omega
    show IsRangeIter _ _ (lo + ((0 : Nat) : Int) * 1) ((((hi - lo).toNat : Nat) : Int) - ((0 : Nat) : Int)) 1
    rw [e1, e2]
    exact Heap.get?_push_size _ rfl
  · have e : b = (s.heap.push { cls := .type "range", data := .fields #[.int lo t, .int hi u, .int 1 v] }).objs.size := by simpa using hb
    subst e
    exact I1.fpOk (Nat.le_refl _) (I1.hok.fresh (Nat.le_refl _))
def iRng1 (ta : TA) : TI := fun σ H R => ta σ H fun vs H1 => ∃ j : Int, vs = [.int j] ∧ -(2 ^ 62) ≤ j ∧ j < 2 ^ 62 ∧ R (Itr 0 j.toNat) H1
theorem pi_range1 {a : Expr} {ta : TA} {p pos : Pos} (hg : Gl X "range") (hm : X.mg "range" = none) (ha : PA X [a] ta) (hs : starEach [a] X.env = [(false, eval a X.env)] := by rfl) : PI X tg (.Call (.Name "range" p) [a] [] pos) (iRng1 ta) := by
  intro pins s σ H R I h
  refine Call_ (ld_blt I hg hm boot_range (PyProof.Rows.callWith_type1 (thn (ha pos pins s σ H _ I h) fun us s1 ⟨vs, H1, I1, r1, q1⟩ => ?_) hs rfl))
  obtain ⟨j, e, q1, q2, q⟩ := q1
  subst e
  cases r1 with
  | cons r rr =>
    cases rr
    obtain ⟨t, rfl⟩ := r
    exact call_range_1 (range_it I1 (by omega) (by omega) q1 q2 (by simpa using q))
/-! ### for -/
/-- W: the invariant by the turn and a measure; N: what the body is to reach -/
def tFor (wi : TI) (g : TG) (tb : TS) : TS := fun D σ H => wi σ H fun J H1 => ∃ W : Nat → Nat → St → Hp → Prop, (∃ m, W 0 m σ H1) ∧ ∀ i m σ H, W i m σ H →
  (J.stop i H ∧ D.nx σ H) ∨ (J.go i H ∧ ∃ N : St → Hp → Prop, (∀ σ' H', N σ' H' → ∃ m', m' < m ∧ W (i + 1) m' σ' H') ∧ ∀ x H', J.yld i H x H' → g x σ H' fun σ2 H2 => tb { D with nx := N, ct := N, bk := D.nx } σ2 H2)
/-- the records at fp as they stand -/
def pinsAt (fp : List Addr) (h : Heap) : List (Addr × Obj) := fp.filterMap fun b => (h.get? b).map fun o => (b, o)
theorem mem_pinsAt {fp : List Addr} {h : Heap} {b : Addr} {o : Obj} (hb : b ∈ fp) (e : h.get? b = some o) : (b, o) ∈ pinsAt fp h := List.mem_filterMap.mpr ⟨b, hb, by rw [e]; rfl⟩
theorem of_pinsAt {fp : List Addr} {h : Heap} {p : Addr × Obj} (hp : p ∈ pinsAt fp h) : p.1 ∈ fp ∧ h.get? p.1 = some p.2 := by
  obtain ⟨b, hb, e⟩ := List.mem_filterMap.mp hp
  cases q : h.get? b with
  | none => rw [q] at e; cases e
  | some o =>
    rw [q] at e
    have e' : (b, o) = p := Option.some.inj e
    subst e'
    exact ⟨hb, q⟩
theorem Inv.pinned {pins : List (Addr × Obj)} {σ : St} {H : Hp} {s : Shared} {fp : List Addr} (I : Inv X pins σ H s) (hf : ∀ b ∈ fp, FpOk X pins H b) (ho : ∀ b ∈ fp, ∃ o, s.heap.get? b = some o ∧ ∀ v, o.data ≠ .cell v) : Inv X (pins ++ pinsAt fp s.heap) σ H s :=
  I.pins_of fun p hp => (List.mem_append.mp hp).elim (fun z => I.pin p (List.mem_append_right _ z)) fun z => by
    obtain ⟨hb, e⟩ := of_pinsAt z
    obtain ⟨f0, f1, f2, _⟩ := hf p.1 hb
    obtain ⟨o, e', d⟩ := ho p.1 hb
    rw [e] at e'; cases e'
    exact ⟨e, f0, f1, f2, d⟩
theorem Inv.unpinned {pins pl : List (Addr × Obj)} {σ : St} {H : Hp} {s : Shared} (I : Inv X (pins ++ pl) σ H s) : Inv X pins σ H s := I.pins_of fun p hp => I.pin p (List.mem_append_right _ (List.mem_append_left _ hp))
theorem ps_for {iter : Expr} {body : List Stmt} {wi : TI} {g : TG} {tb : TS} {pos : Pos} (hp : PassesOwn (model X.prog X.w) X.A X.env X.xe) (hc : X.calm = true) (hi : PI X tg iter wi) (hg : PG X tg g) (hb : PSs X body tb)
    (hs : ∀ x, foldedSetIterable iter X.env x = pure x := by intro _; rfl) : PS X (.For tg iter body [] pos) (tFor wi g tb) := by
  intro pins s σ H D I h
  refine wpAny_For (thn (hi pins s σ H _ I h) fun v s1 h1 => thn h1 fun itv s2 h2 => ?_) hs
  obtain ⟨it, fp, tn, J, H2, e, I2, T, st2, f2, W, ⟨m0, w0⟩, turn⟩ := h2
  subst e
  -- what stays true of the iterator's objects through the loop
  have stat : ∀ {H' : Hp}, (∀ b ∈ fp, H' b = none) → ∀ b ∈ fp, FpOk X pins H' b := fun hn b hb => ⟨hn b hb, (f2 b hb).2⟩
  refine codeAny_forLoop_any (fun n s' => ∃ i σ' H', Inv X pins σ' H' s' ∧ tn i s'.heap ∧ (∀ b ∈ fp, H' b = none) ∧ W i n σ' H') ?_ m0 ⟨0, σ, H2, I2, st2, fun b hb => (f2 b hb).1, w0⟩
  rintro n s3 ⟨i, σ3, H3, I3, st3, fr3, w3⟩
  rcases turn i n σ3 H3 w3 with ⟨stop, qn⟩ | ⟨go, N, hN, step⟩
  · refine wpAny_passesOwn hp (thn (T.done X rfl rfl rfl hc i pins s3 σ3 H3 X.xe I3 (stat fr3) st3 stop) fun r s4 ⟨hr, I4⟩ => ?_)
    subst hr
    exact wpAny_execs_nil ⟨σ3, H3, I4, qn⟩
  · refine wpAny_passesOwn hp (thn (T.item X rfl rfl rfl hc i pins s3 σ3 H3 X.xe I3 (stat fr3) st3 go) fun r s4 ⟨u, hr, h4⟩ => ?_)
    subst hr
    refine wpAny_passesOwn hp (thn h4 fun _ s5 ⟨x, H5, I5, r5, y5, st5, fr5⟩ => ?_)
    have I5' := I5.pinned (stat fr5) (T.obj _ _ st5)
    refine wpAny_passesOwn hp (thn (hg _ s5 σ3 H5 x u _ I5' r5 (step x H5 y5)) fun _ s6 ⟨σ6, H6, I6, q6⟩ => ?_)
    refine wpAny_passesOwn hp (thn (hb _ s6 σ6 H6 _ I6 q6) fun f s7 q7 => ?_)
    have again : ∀ {σ7 : St} {H7 : Hp}, Inv X (pins ++ pinsAt fp s5.heap) σ7 H7 s7 → N σ7 H7 → ∃ m, m < n ∧ ∃ i σ' H', Inv X pins σ' H' s7 ∧ tn i s7.heap ∧ (∀ b ∈ fp, H' b = none) ∧ W i m σ' H' := fun {σ7 H7} I7 n7 => by
      obtain ⟨m', hm, w7⟩ := hN σ7 H7 n7
      refine ⟨m', hm, i + 1, σ7, H7, I7.unpinned, T.keep _ _ _ st5 fun b hb o e => (I7.pin (b, o) (List.mem_append_right _ (List.mem_append_right _ (mem_pinsAt hb e)))).1, fun b hb => ?_, w7⟩
      obtain ⟨o, e, d⟩ := T.obj _ _ st5 b hb
      exact (I7.pin (b, o) (List.mem_append_right _ (List.mem_append_right _ (mem_pinsAt hb e)))).2.1
    cases f with
    | next => obtain ⟨σ7, H7, I7, n7⟩ := q7; exact again I7 n7
    | cont => obtain ⟨σ7, H7, I7, n7⟩ := q7; exact again I7 n7
    | brk => obtain ⟨σ7, H7, I7, q7⟩ := q7; exact ⟨σ7, H7, I7.unpinned, q7⟩
    | ret v => obtain ⟨x7, σ7, H7, I7, r7, q7⟩ := q7; exact ⟨x7, σ7, H7, I7.unpinned, r7, q7⟩
end

/-! ### the forms one uses -/
/-- over a list that the body leaves as it is -/
theorem for_list {K : PySem.W.Frag} {a : Addr} {xs : List V} {g : TG} {tb : TS} {D : Ends} {σ : St} {H : Hp} (Pv : Nat → St → Hp → Prop) (h0 : Pv 0 σ H) (hl : ∀ i σ H, i ≤ xs.length → Pv i σ H → SqL K H a xs)
    (hs : ∀ i x σ H, xs[i]? = some x → Pv i σ H → g x σ H fun σ2 H2 => tb { D with nx := Pv (i + 1), ct := Pv (i + 1), bk := D.nx } σ2 H2) (hd : ∀ σ H, Pv xs.length σ H → D.nx σ H) :
    ∃ W : Nat → Nat → St → Hp → Prop, (∃ m, W 0 m σ H) ∧ ∀ i m σ H, W i m σ H →
      ((Itl K a).stop i H ∧ D.nx σ H) ∨ ((Itl K a).go i H ∧ ∃ N : St → Hp → Prop, (∀ σ' H', N σ' H' → ∃ m', m' < m ∧ W (i + 1) m' σ' H') ∧ ∀ x H', (Itl K a).yld i H x H' → g x σ H' fun σ2 H2 => tb { D with nx := N, ct := N, bk := D.nx } σ2 H2) := by
  refine ⟨fun i m σ H => m = xs.length - i ∧ i ≤ xs.length ∧ Pv i σ H, ⟨xs.length, by simp, Nat.zero_le _, h0⟩, ?_⟩
  rintro i m σ H ⟨rfl, hi, p⟩
  have q := hl i σ H hi p
  by_cases hlt : i < xs.length
  · refine .inr ⟨⟨xs, xs[i], q, by simp [hlt]⟩, Pv (i + 1), fun σ' H' p' => ⟨xs.length - (i + 1), by omega, rfl, hlt, p'⟩, fun x H' y => ?_⟩
    obtain ⟨e, y⟩ := y
    subst e
    exact hs i x σ _ (y xs q) p
  · have e : i = xs.length := by omega
    subst e
    exact .inl ⟨⟨xs, q, Nat.le_refl _⟩, hd σ H p⟩
theorem for_range {lo : Int} {n : Nat} {g : TG} {tb : TS} {D : Ends} {σ : St} {H : Hp} (Pv : Nat → St → Hp → Prop) (h0 : Pv 0 σ H)
    (hs : ∀ i σ H, i < n → Pv i σ H → g (.int (lo + i)) σ H fun σ2 H2 => tb { D with nx := Pv (i + 1), ct := Pv (i + 1), bk := D.nx } σ2 H2) (hd : ∀ σ H, Pv n σ H → D.nx σ H) :
    ∃ W : Nat → Nat → St → Hp → Prop, (∃ m, W 0 m σ H) ∧ ∀ i m σ H, W i m σ H →
      ((Itr lo n).stop i H ∧ D.nx σ H) ∨ ((Itr lo n).go i H ∧ ∃ N : St → Hp → Prop, (∀ σ' H', N σ' H' → ∃ m', m' < m ∧ W (i + 1) m' σ' H') ∧ ∀ x H', (Itr lo n).yld i H x H' → g x σ H' fun σ2 H2 => tb { D with nx := N, ct := N, bk := D.nx } σ2 H2) := by
  refine ⟨fun i m σ H => m = n - i ∧ i ≤ n ∧ Pv i σ H, ⟨n, by simp, Nat.zero_le _, h0⟩, ?_⟩
  rintro i m σ H ⟨rfl, hi, p⟩
  by_cases hlt : i < n
  · refine .inr ⟨hlt, Pv (i + 1), fun σ' H' p' => ⟨n - (i + 1), by omega, rfl, hlt, p'⟩, fun x H' y => ?_⟩
    obtain ⟨e, y⟩ := y
    subst e y
    exact hs i σ _ hlt p
  · have e : i = n := by omega
    subst e
    exact .inl ⟨Nat.le_refl _, hd σ H p⟩
end L2

namespace L2
open PySem PySem.Spec PyProof.Rows

abbrev R2 := V → V → Hp → VK → Prop
/-- a two-place operation on values: f is binaryOp op, inplaceOp op or compareOp op -/
def OpR (X : Cx) (f : Value → Value → Sem Value) (r : R2) : Prop :=
  ∀ (pins : List (Addr × Obj)) (s : Shared) (σ : St) (H : Hp) (x y : V) (v u : Value) (Q : VK), Inv X pins σ H s → RelV x v → RelV y u → r x y H Q →
    wpAny (model X.prog X.w) X.A (f v u) (EP X pins σ Q) X.xe s
/-- a call of a value that is known (a builtin, a type) with values -/
def CallR (X : Cx) (f : Value) (r : List V → Hp → VK → Prop) : Prop :=
  ∀ (pins : List (Addr × Obj)) (s : Shared) (σ : St) (H : Hp) (xs : List V) (us : List Value) (Q : VK), Inv X pins σ H s → Vals xs us → r xs H Q →
    wpAny (model X.prog X.w) X.A (call f us) (EP X pins σ Q) X.xe s
def tOp (r : R2) (ta tb : TE) : TE := fun σ H Q => ta σ H fun x H1 => tb σ H1 fun y H2 => r x y H2 Q
/-- ints in, under C, and a value out -/
def rI (C : Int → Int → Prop) (g : Int → Int → V) : R2 := fun x y H Q => ∃ i j, x = .int i ∧ y = .int j ∧ C i j ∧ Q (g i j) H
def rI0 (g : Int → Int → V) : R2 := fun x y H Q => ∃ i j, x = .int i ∧ y = .int j ∧ Q (g i j) H
section
variable {X : Cx} {a b c : Expr} {ta tb tc : TE} {pos : Pos}

theorem binT (ha : PE X a ta) (hb : PE X b tb) {pins : List (Addr × Obj)} {s : Shared} {σ : St} {H : Hp} {R : V → V → Hp → Prop} (I : Inv X pins σ H s)
    (h : ta σ H fun x H1 => tb σ H1 fun y H2 => R x y H2) {Q : Value → Shared → Prop} {f : Value → Value → Sem Value}
    (hf : ∀ v u s2 x y H2, Inv X pins σ H2 s2 → RelV x v → RelV y u → R x y H2 → wpAny (model X.prog X.w) X.A (f v u) Q X.xe s2) :
    wpAny (model X.prog X.w) X.A (eval a X.env) (fun v s₁ => wpAny (model X.prog X.w) X.A (eval b X.env) (fun u s₂ => wpAny (model X.prog X.w) X.A (f v u) Q X.xe s₂) X.xe s₁) X.xe s := by
  refine thn (ha pins s σ H _ I h) fun v s1 ⟨x, H1, I1, r1, q1⟩ => ?_
  refine thn (hb pins s1 σ H1 _ I1 q1) fun u s2 ⟨y, H2, I2, r2, q2⟩ => ?_
  exact hf v u s2 x y H2 I2 r1 r2 q2

theorem pe_op {op : Operator} {r : R2} (ho : OpR X (binaryOp op) r) (ha : PE X a ta) (hb : PE X b tb) : PE X (.BinOp a op b pos) (tOp r ta tb) := by
  intro pins s σ H Q I h
  exact wpAny_BinOp (binT ha hb I h fun v u s2 x y H2 I2 rx ry q => ho pins s2 σ H2 x y v u Q I2 rx ry q)
/-! ### ints -/
theorem opI {f : Value → Value → Sem Value} {C : Int → Int → Prop} {g : Int → Int → Int}
    (rule : ∀ (i j : Int) (t u : Tok) (s : Shared) (Q : Value → Shared → Prop) (E : Value → Shared → Prop), C i j → Q (.int (g i j) s.toks) { s with toks := s.toks + 1 } → wpAny (model X.prog X.w) X.A (f (.int i t) (.int j u)) Q E s) :
    OpR X f (rI C fun i j => .int (g i j)) := by
  intro pins s σ H x y v u Q I rx ry h
  obtain ⟨i, j, rfl, rfl, hc, q⟩ := h
  obtain ⟨t, rfl⟩ := rx
  obtain ⟨t', rfl⟩ := ry
  exact rule i j t t' s _ _ hc ⟨.int (g i j), H, I.tok _, ⟨_, rfl⟩, q⟩
theorem opI0 {f : Value → Value → Sem Value} {g : Int → Int → Int}
    (rule : ∀ (i j : Int) (t u : Tok) (s : Shared) (Q : Value → Shared → Prop) (E : Value → Shared → Prop), Q (.int (g i j) s.toks) { s with toks := s.toks + 1 } → wpAny (model X.prog X.w) X.A (f (.int i t) (.int j u)) Q E s) :
    OpR X f (rI0 fun i j => .int (g i j)) := by
  intro pins s σ H x y v u Q I rx ry h
  obtain ⟨i, j, rfl, rfl, q⟩ := h
  obtain ⟨t, rfl⟩ := rx
  obtain ⟨t', rfl⟩ := ry
  exact rule i j t t' s _ _ ⟨.int (g i j), H, I.tok _, ⟨_, rfl⟩, q⟩
theorem opB0 {f : Value → Value → Sem Value} {g : Int → Int → Bool}
    (rule : ∀ (i j : Int) (t u : Tok) (s : Shared) (Q : Value → Shared → Prop) (E : Value → Shared → Prop), Q (.bool (g i j)) s → wpAny (model X.prog X.w) X.A (f (.int i t) (.int j u)) Q E s) :
    OpR X f (rI0 fun i j => .bl (g i j)) := by
  intro pins s σ H x y v u Q I rx ry h
  obtain ⟨i, j, rfl, rfl, q⟩ := h
  obtain ⟨t, rfl⟩ := rx
  obtain ⟨t', rfl⟩ := ry
  exact rule i j t t' s _ _ ⟨.bl (g i j), H, I, rfl, q⟩

def CDiv (i j : Int) : Prop := 0 < j ∧ j < 1073741824
def CPow (i j : Int) : Prop := 0 ≤ j ∧ j ≤ 1000000 ∧ i.natAbs < 2 ^ 64
def CMul (i j : Int) : Prop := (-(2 ^ 64) < i ∧ i < 2 ^ 64) ∨ (-(2 ^ 64) < j ∧ j < 2 ^ 64)
theorem CMul.ok {i j : Int} (h : CMul i j) : IntMulOk i j := by
  rcases h with ⟨h1, h2⟩ | ⟨h1, h2⟩
  · exact .of_left (intBits_le_64 h1 h2)
  · exact .of_right (intBits_le_64 h1 h2)
theorem op_add : OpR X (binaryOp .Add) (rI0 fun i j => .int (i + j)) := opI0 fun _ _ _ _ _ _ _ q => add_int q
theorem op_sub : OpR X (binaryOp .Sub) (rI0 fun i j => .int (i - j)) := opI0 fun _ _ _ _ _ _ _ q => sub_int q
/-- // by a positive divisor -/
theorem op_fdiv : OpR X (binaryOp .FloorDiv) (rI CDiv fun i j => .int (i / j)) := opI fun i j _ _ _ _ _ hc q => by
  have h1 : (0 : Int) < j := hc.1
  have h2 : j < 1073741824 := hc.2
  exact floordiv_int (by omega) (by rw [Int.fdiv_eq_ediv_of_nonneg i (by omega)]; exact q) (.inl (PyProof.noPylong_small (by omega)))
/-- % by a positive divisor of any size -/
theorem op_mod : OpR X (binaryOp .Mod) (rI (fun _ j => 0 < j) fun i j => .int (i % j)) := opI fun i j _ _ _ _ _ hc q => by
  have h1 : (0 : Int) < j := hc
  exact mod_int' (by omega) (by rw [Int.fmod_eq_emod_of_nonneg i (by omega)]; exact q)
theorem op_pow : OpR X (binaryOp .Pow) (rI CPow fun i j => .int (i ^ j.toNat)) := opI fun _ _ _ _ _ _ _ hc q => pow_int_small hc.1 hc.2.1 hc.2.2 q
/-! ### bools among ints: n += (a < b) -/
end

/-! ### comparisons -/
/-- the scalars that == tells apart as data does -/
def scal : V → V → Bool
  | .non, .non => true | .non, .int _ => true | .int _, .non => true | .non, .bl _ => true | .bl _, .non => true | .non, .str _ => true | .str _, .non => true
  | .int _, .int _ => true | .bl _, .bl _ => true | .str _, .str _ => true | .byt _, .byt _ => true
  | .int _, .str _ => true | .str _, .int _ => true | .bl _, .str _ => true | .str _, .bl _ => true
  | _, _ => false
def rEq : R2 := fun x y H Q => scal x y = true ∧ Q (.bl (decide (x = y))) H
def rNe : R2 := fun x y H Q => scal x y = true ∧ Q (.bl (!decide (x = y))) H

theorem dec_int {i j : Int} : decide (V.int i = V.int j) = (i == j) := by
  rw [Bool.eq_iff_iff]
  simp
theorem dec_bl {i j : Bool} : decide (V.bl i = V.bl j) = (i == j) := by
  rw [Bool.eq_iff_iff]
  simp
theorem dec_str {i j : Str} : decide (V.str i = V.str j) = (i == j) := by
  rw [Bool.eq_iff_iff]
  simp
theorem dec_byt {i j : Array UInt8} : decide (V.byt i = V.byt j) = (i.toList == j.toList) := by
  rw [Bool.eq_iff_iff]
  cases i
  cases j
  simp

section
variable {X : Cx} {a b c : Expr} {ta tb tc : TE} {pos : Pos}
theorem fin_bl {pins : List (Addr × Obj)} {σ : St} {H : Hp} {s : Shared} {Q : VK} {k k' : Bool} (I : Inv X pins σ H s) (q : Q (.bl k) H) (e : k = k') : EP X pins σ Q (.bool k') s := by
  subst e
  exact ⟨.bl k, H, I, rfl, q⟩
theorem op_eq : OpR X (compareOp .Eq) rEq := by
  intro pins s σ H x y v u Q I rx ry h
  obtain ⟨hs, q⟩ := h
  cases x with
  | non =>
    cases rx
    cases y with
    | non => cases ry; exact PySem.EqNone.eq_none_none (fin_bl I q (by simp))
    | bl j => cases ry; exact PySem.EqNone.eq_none_bool (fin_bl I q (by simp))
    | int j => obtain ⟨t', rfl⟩ := ry; exact PySem.EqNone.eq_none_int (fin_bl I q (by simp))
    | str j => obtain ⟨t', rfl⟩ := ry; exact PySem.EqNone.eq_none_str (fin_bl I q (by simp))
    | _ => exact absurd (show false = true from hs) Bool.false_ne_true
  | bl i =>
    cases rx
    cases y with
    | non => cases ry; exact PySem.EqNone.eq_bool_none (fin_bl I q (by simp))
    | bl j => cases ry; exact eq_bool (fin_bl I q dec_bl)
    | str j => obtain ⟨t', rfl⟩ := ry; exact PySem.EqMixed.eq_bool_str (fin_bl I q (by simp))
    | _ => exact absurd (show false = true from hs) Bool.false_ne_true
  | int i =>
    obtain ⟨t, rfl⟩ := rx
    cases y with
    | non => cases ry; exact PySem.EqNone.eq_int_none (fin_bl I q (by simp))
    | int j => obtain ⟨t', rfl⟩ := ry; exact eq_int (fin_bl I q dec_int)
    | str j => obtain ⟨t', rfl⟩ := ry; exact PySem.EqMixed.eq_int_str (fin_bl I q (by simp))
    | _ => exact absurd (show false = true from hs) Bool.false_ne_true
  | str i =>
    obtain ⟨t, rfl⟩ := rx
    cases y with
    | non => cases ry; exact PySem.EqNone.eq_str_none (fin_bl I q (by simp))
    | bl j => cases ry; exact PySem.EqMixed.eq_str_bool (fin_bl I q (by simp))
    | int j => obtain ⟨t', rfl⟩ := ry; exact PySem.EqMixed.eq_str_int (fin_bl I q (by simp))
    | str j => obtain ⟨t', rfl⟩ := ry; exact eq_str (fin_bl I q dec_str)
    | _ => exact absurd (show false = true from hs) Bool.false_ne_true
  | byt i =>
    obtain ⟨t, rfl⟩ := rx
    cases y with
    | byt j => obtain ⟨t', rfl⟩ := ry; exact PySem.W.eq_bytes (fin_bl I q dec_byt)
    | _ => exact absurd (show false = true from hs) Bool.false_ne_true
  | _ => cases y <;> exact absurd (show false = true from hs) Bool.false_ne_true
theorem op_ne : OpR X (compareOp .NotEq) rNe := by
  intro pins s σ H x y v u Q I rx ry h
  obtain ⟨hs, q⟩ := h
  cases x with
  | non =>
    cases rx
    cases y with
    | non => cases ry; exact PySem.EqNone.ne_none_none (fin_bl I q (by simp))
    | bl j => cases ry; exact PySem.EqNone.ne_none_bool (fin_bl I q (by simp))
    | int j => obtain ⟨t', rfl⟩ := ry; exact PySem.EqNone.ne_none_int (fin_bl I q (by simp))
    | str j => obtain ⟨t', rfl⟩ := ry; exact PySem.EqNone.ne_none_str (fin_bl I q (by simp))
    | _ => exact absurd (show false = true from hs) Bool.false_ne_true
  | bl i =>
    cases rx
    cases y with
    | non => cases ry; exact PySem.EqNone.ne_bool_none (fin_bl I q (by simp))
    | bl j => cases ry; exact ne_bool (fin_bl I q (congrArg not dec_bl))
    | str j => obtain ⟨t', rfl⟩ := ry; exact PySem.EqMixed.ne_bool_str (fin_bl I q (by simp))
    | _ => exact absurd (show false = true from hs) Bool.false_ne_true
  | int i =>
    obtain ⟨t, rfl⟩ := rx
    cases y with
    | non => cases ry; exact PySem.EqNone.ne_int_none (fin_bl I q (by simp))
    | int j => obtain ⟨t', rfl⟩ := ry; exact ne_int (fin_bl I q (congrArg not dec_int))
    | str j => obtain ⟨t', rfl⟩ := ry; exact PySem.EqMixed.ne_int_str (fin_bl I q (by simp))
    | _ => exact absurd (show false = true from hs) Bool.false_ne_true
  | str i =>
    obtain ⟨t, rfl⟩ := rx
    cases y with
    | non => cases ry; exact PySem.EqNone.ne_str_none (fin_bl I q (by simp))
    | bl j => cases ry; exact PySem.EqMixed.ne_str_bool (fin_bl I q (by simp))
    | int j => obtain ⟨t', rfl⟩ := ry; exact PySem.EqMixed.ne_str_int (fin_bl I q (by simp))
    | str j => obtain ⟨t', rfl⟩ := ry; exact ne_str (fin_bl I q (congrArg not dec_str))
    | _ => exact absurd (show false = true from hs) Bool.false_ne_true
  | byt i =>
    obtain ⟨t, rfl⟩ := rx
    cases y with
    | byt j => obtain ⟨t', rfl⟩ := ry; exact PySem.W.ne_bytes (fin_bl I q (congrArg not dec_byt))
    | _ => exact absurd (show false = true from hs) Bool.false_ne_true
  | _ => cases y <;> exact absurd (show false = true from hs) Bool.false_ne_true

theorem op_lt : OpR X (compareOp .Lt) (rI0 fun i j => .bl (decide (i < j))) := opB0 fun _ _ _ _ _ _ _ q => lt_int q
/-- is None, is not None: the right side a value none -/
theorem op_isN : OpR X (compareOp .Is) (fun x y H Q => y = .non ∧ Q (.bl (decide (x = .non))) H) := by
  intro pins s σ H x y v u Q I rx ry h
  obtain ⟨rfl, q⟩ := h
  cases ry
  refine is_none_gen (fin_bl I q ?_)
  cases x <;> first
    | (cases rx; rfl)
    | (obtain ⟨t, rfl⟩ := rx; rfl)
theorem op_notN : OpR X (compareOp .IsNot) (fun x y H Q => y = .non ∧ Q (.bl (!decide (x = .non))) H) := by
  intro pins s σ H x y v u Q I rx ry h
  obtain ⟨rfl, q⟩ := h
  cases ry
  refine isnot_none_gen (fin_bl I q ?_)
  cases x <;> first
    | (cases rx; rfl)
    | (obtain ⟨t, rfl⟩ := rx; rfl)

/-- two rules for one operation: by cases -/
theorem OpR.or {f : Value → Value → Sem Value} {r r' : R2} (h : OpR X f r) (h' : OpR X f r') : OpR X f (fun x y H Q => r x y H Q ∨ r' x y H Q) := by
  intro pins s σ H x y v u Q I rx ry q
  rcases q with q | q
  · exact h pins s σ H x y v u Q I rx ry q
  · exact h' pins s σ H x y v u Q I rx ry q

theorem nomark (b : Expr) {op : CmpOp} (h : op ≠ .In := by decide) (h2 : op ≠ .NotIn := by decide) : behindInMarks op b = false := by
  have e1 : (op == CmpOp.In) = false := by cases op <;> first | rfl | exact absurd rfl h
  have e2 : (op == CmpOp.NotIn) = false := by cases op <;> first | rfl | exact absurd rfl h2
  cases b <;> simp [behindInMarks, e1, e2]
/-- a comparison as a value; hm: nomark b, or (for in, not in) by with_unfolding_all rfl -/
theorem pe_cmpR {op : CmpOp} {r : R2} (ho : OpR X (compareOp op) r) (ha : PE X a ta) (hb : PE X b tb) (hm : behindInMarks op b = false) : PE X (.Compare a [op] [b] pos) (tOp r ta tb) := by
  intro pins s σ H Q I h
  exact wpAny_Compare1 (binT ha hb I h fun v u s2 x y H2 I2 rx ry q => ho pins s2 σ H2 x y v u Q I2 rx ry q) hm
/-- a reading of a value as a test -/
def tTest (t : TE) : TT := fun σ H Q => t σ H fun x H' => ∃ k, x = .bl k ∧ Q k H'
theorem pt_cmpR {op : CmpOp} {r : R2} (ho : OpR X (compareOp op) r) (ha : PE X a ta) (hb : PE X b tb) (hm : behindInMarks op b = false) : PT X (.Compare a [op] [b] pos) (tTest (tOp r ta tb)) := by
  intro pins s σ H Q I h
  refine wpAny_isTrue_Compare1 (thn (ha pins s σ H _ I h) fun v s1 ⟨x, H1, I1, r1, q1⟩ => thn (hb pins s1 σ H1 _ I1 q1) fun u s2 ⟨y, H2, I2, r2, q2⟩ =>
    thn (ho pins s2 σ H2 x y v u _ I2 r1 r2 q2) fun c s3 ⟨z, H3, I3, r3, k, e, q3⟩ => ?_) hm
  subst e
  cases r3
  exact wpAny_truthy_bool ⟨H3, I3, q3⟩
/-! ### truth -/
theorem line63 : (sizeLine : Nat) < 2 ^ 63 := by rw [sizeLine_eq]; decide
/-! ### strs and bytes -/
theorem op_add_str : OpR X (binaryOp .Add) (fun x y H Q => ∃ i j, x = .str i ∧ y = .str j ∧ i.length + j.length ≤ sizeLine ∧ Q (.str (i ++ j)) H) := by
  intro pins s σ H x y v u Q I rx ry h
  obtain ⟨i, j, rfl, rfl, hz, q⟩ := h
  obtain ⟨t, rfl⟩ := rx
  obtain ⟨t', rfl⟩ := ry
  exact add_str (fun t' tk => ⟨.str (i ++ j), H, I.tok _, ⟨_, rfl⟩, q⟩) hz
/-! ### scalar builtins, by CallR -/
theorem vals1 {x : V} {us : List Value} (r : Vals [x] us) : ∃ u, us = [u] ∧ RelV x u := by
  cases r with
  | cons r1 r2 => cases r2; exact ⟨_, rfl, r1⟩
theorem vals2 {x y : V} {us : List Value} (r : Vals [x, y] us) : ∃ u w', us = [u, w'] ∧ RelV x u ∧ RelV y w' := by
  cases r with
  | cons r1 r2 =>
    cases r2 with
    | cons r3 r4 => cases r4; exact ⟨_, _, rfl, r1, r3⟩
theorem call_max2 (hc : X.calm = true) : CallR X (.builtin "max") (fun xs H Q => ∃ i j, xs = [.int i, .int j] ∧ Q (.int (if j > i then j else i)) H) := by
  intro pins s σ H xs us Q I r h
  obtain ⟨i, j, rfl, q⟩ := h
  obtain ⟨u, w', rfl, ⟨t, rfl⟩, ⟨t', rfl⟩⟩ := vals2 r
  refine max_two_ints (I.ok.hd hc) fun h' tk k => ⟨_, H, I.kept k, ?_, q⟩
  by_cases hj : j > i
  · rw [if_pos hj, if_pos hj]; exact ⟨_, rfl⟩
  · rw [if_neg hj, if_neg hj]; exact ⟨_, rfl⟩
end
end L2

namespace L2
open PySem PySem.Spec PyProof.Rows

/-! ### an instance, its attributes a map -/
structure ObjM (h : Heap) (x dx C : Addr) (mA : Str → Option Value) : Prop where
  obj : h.get? x = some (PySem.W.instObj C dx)
  ns : h.Ns1 dx mA
  ne : dx ≠ x

theorem lookIn_ns {h : Heap} {dx : Addr} {mA : Str → Option Value} (n : h.Ns1 dx mA) : ∃ od, h.get? dx = some od ∧ ∀ name, PySem.W.lookIn name od = some (mA name) := by
  obtain ⟨o, es, ep, ho, hd, hk, _, hm⟩ := n
  refine ⟨o, ho, fun name => ?_⟩
  have e := hm name
  unfold nsFind findBy at e
  rw [← Array.find?_toList] at e
  unfold PySem.W.lookIn
  rw [hd]
  dsimp only
  split
  · rename_i y q
    rw [q] at e
    exact congrArg some e
  · rename_i q
    rw [q] at e
    have a : es.toList.any (·.refKey) = false := by
      rw [List.any_eq_false]
      intro y hy
      obtain ⟨z, t, hkey⟩ := hk y (Array.mem_toList_iff.mp hy)
      simp [DictEntry.refKey, hkey]
    have a' : ¬ es.toList.any (·.refKey) = true := by rw [a]; exact Bool.false_ne_true
    rw [if_neg a']
    exact congrArg some e

theorem ObjM.look {h : Heap} {x dx C : Addr} {mA : Str → Option Value} (I : ObjM h x dx C mA) : ∃ od, PySem.W.InstAt h x (PySem.W.instObj C dx) C (some od) ∧ ∀ name, PySem.W.lookIn name od = some (mA name) :=
  let ⟨od, ho, hl⟩ := lookIn_ns I.ns
  ⟨od, ⟨I.obj, rfl, rfl, ho⟩, hl⟩

section
variable {prog : Program} {w : World} {A : Around} {E : Value → Shared → Prop} {s : Shared} {K : PySem.W.Frag} {x dx C f : Addr} {mA : Str → Option Value} {name : Str} {v : Value}

theorem get_map {expr : Bool} {Q : Value → Shared → Prop} (X : K.In s.heap) (I : ObjM s.heap x dx C mA) (hg : PySem.W.plainGet K C name = true) (hh : PySem.W.hasDictIn K C = true)
    (ha : PySem.W.findIn K (.ref C) name = some none) (hv : mA name = some v) (hv' : PySem.W.handedIn v = true) (h : Q v { s with toks := s.toks + 1 }) :
    wpAny (model prog w) A (getAttr (.ref x) name expr) Q E s := by
  obtain ⟨od, J, hl⟩ := I.look
  exact PySem.W.get_value X J (PySem.W.plainGet_of hg).1 (PySem.W.findObj_own hh ha rfl (by rw [hl, hv])) hv' h

theorem get_meth {pl : Sem Bool} {Q : Value × List Value → Shared → Prop} (X : K.In s.heap) (I : ObjM s.heap x dx C mA) (hg : PySem.W.plainGet K C name = true)
    (hf : PySem.W.findIn K (.ref C) name = some (some (.ref f))) (ht : PySem.W.isFn K (.ref f) = true) (hv : mA name = none) (h : Q (.ref f, [.ref x]) s) :
    wpAny (model prog w) A (getMethod (.ref x) name pl) Q E s := by
  obtain ⟨od, J, hl⟩ := I.look
  exact PySem.W.method_fn X J (PySem.W.plainGet_of hg).1 (PySem.W.plainGet_of hg).2 hf (beq_iff_eq.mp ht) (by show (PySem.W.lookIn name od).map (·.isSome) = some false; rw [hl, hv]; rfl) h

theorem set_map {ns : List Str} {Q : Unit → Shared → Prop} (X : K.In s.heap) (I : ObjM s.heap x dx C mA)
    (hs : PySem.W.findIn K (.ref C) "__setattr__" = some (some (.builtin "object.__setattr__"))) (hp : PySem.W.plainOver K C = true) (ht : PySem.W.takerIn K C name = some none) (hh : PySem.W.hasDictIn K C = true)
    (hw : PySem.Within mA ns) (hsz : ns.length ≤ sizeLine)
    (h : ∀ h', ObjM h' x dx C (fun y => if y = name then some v else mA y) → Heap.SameBut dx s.heap h' → Q () { s with heap := h', toks := s.toks + 2 }) :
    wpAny (model prog w) A (setAttr (.ref x) name v) Q E s := by
  obtain ⟨od, J, hl⟩ := I.look
  refine PySem.W.set_plain X J hs (PySem.W.osa_open (s := { s with toks := s.toks + 1 }) (r := none) X J hp ht fun b => ?_)
  obtain ⟨cd, hc, hd'⟩ := PySem.W.any_some hh
  have hx : s.heap.get? x = some ⟨.ref C, some dx, .plain, #[]⟩ := I.obj
  refine wpAny_bind (wpAny_pure (wpAny_bind (wpAny_bind (wpAny_loadPart hx (wpAny_bind (PySem.W.Looks.here (s := { s with toks := s.toks + 1 }) (PySem.W.looks_clsIn X hc) ?_))))))
  rw [hd']
  refine wpAny_pure (a := some dx) (wpAny_bind (wpAny_pure (wpAny_bind ?_)))
  refine wpAny_nsSet1 (s := { s with toks := s.toks + 1 }) I.ns fun h' hn2 hs2 => ?_
  obtain ⟨oD, esD, epD, hoD, hdD, hcD⟩ := hn2.count (PySem.Within.cons name v hw)
  refine wpAny_bind (wpAny_lookBehind hoD (by rw [hdD]; exact pastItsLine_dict (Nat.le_trans hcD (by rw [List.length_cons]; omega))) ?_)
  exact wpAny_pure (h _ ⟨(hs2.2 _ (Ne.symm I.ne)).trans I.obj, hn2, I.ne⟩ hs2)

/-- C(..): the dict at the heap's end, the instance behind it; then its __init__ -/
theorem make_map {R : Result → Shared → Prop} {vs : List Value} {kw : List (Str × Value)} (X : K.In s.heap) (hm : PySem.W.makesIn K C = true)
    (hi : PySem.W.findIn K (.ref C) "__init__" = some (some (.ref f))) (hf : PySem.W.typeIn K (.ref f) = some (.type "function"))
    (h : codeAny (model prog w) (A.under (.builtin "type.__call__" ⟨.ref C :: vs, kw⟩)) (.call (.ref f) ⟨.ref (s.heap.objs.size + 1) :: vs, kw⟩) (PySem.W.InitBack (s.heap.objs.size + 1) R)
      { s with heap := (s.heap.push PySem.W.emptyDict).push (PySem.W.instObj C s.heap.objs.size) }) :
    codeAny (model prog w) A (.call (.ref C) ⟨vs, kw⟩) R s := by
  obtain ⟨hh, g, d, t, os⟩ := s
  exact PySem.W.make_core (PySem.W.makes_of X hm) (PySem.W.looks_findIn X hi) (fun self => PySem.W.bind_fn X self hf) (.inl rfl) h
end

/-! ### the attributes as a list of pairs -/
def putF (f : Str) (v : V) : List (Str × V) → List (Str × V)
  | [] => [(f, v)]
  | (g, x) :: r => if g = f then (g, v) :: r else (g, x) :: putF f v r
theorem lookup_putF (f g : Str) (v : V) : ∀ fs : List (Str × V), (putF f v fs).lookup g = if g = f then some v else fs.lookup g
  | [] => by
    show List.lookup g [(f, v)] = _
    by_cases h : g = f
    · have hb : (g == f) = true := beq_iff_eq.mpr h
      simp only [List.lookup, hb, if_pos h]
    · have hb : (g == f) = false := beq_eq_false_iff_ne.mpr h
      simp only [List.lookup, hb, if_neg h]
  | (k, x) :: r => by
    have ih := lookup_putF f g v r
    rw [show putF f v ((k, x) :: r) = (if k = f then (k, v) :: r else (k, x) :: putF f v r) from rfl]
    by_cases hk : k = f
    · rw [if_pos hk]
      by_cases h : g = k
      · have hb : (g == k) = true := beq_iff_eq.mpr h
        simp only [List.lookup, hb, if_pos (h.trans hk)]
      · have hb : (g == k) = false := beq_eq_false_iff_ne.mpr h
        simp only [List.lookup, hb, if_neg (fun e : g = f => h (e.trans hk.symm))]
    · rw [if_neg hk]
      by_cases h : g = k
      · have hb : (g == k) = true := beq_iff_eq.mpr h
        simp only [List.lookup, hb, if_neg (fun e : g = f => hk (h.symm.trans e))]
      · have hb : (g == k) = false := beq_eq_false_iff_ne.mpr h
        simp only [List.lookup, hb]
        exact ih
theorem keys_putF (f : Str) (v : V) : ∀ fs : List (Str × V), f ∈ (putF f v fs).map (·.1) ∧ ∀ g, g ∈ fs.map (·.1) → g ∈ (putF f v fs).map (·.1)
  | [] => ⟨by simp [putF], fun g h => by simp at h⟩
  | (k, x) :: r => by
    obtain ⟨i1, i2⟩ := keys_putF f v r
    rw [show putF f v ((k, x) :: r) = (if k = f then (k, v) :: r else (k, x) :: putF f v r) from rfl]
    by_cases hk : k = f
    · rw [if_pos hk]
      subst hk
      exact ⟨by simp, fun g h => by simpa using h⟩
    · rw [if_neg hk]
      refine ⟨?_, fun g h => ?_⟩
      · rw [List.map_cons]
        exact List.mem_cons_of_mem _ i1
      · rw [List.map_cons] at h ⊢
        rcases List.mem_cons.mp h with e | e
        · exact List.mem_cons.mpr (.inl e)
        · exact List.mem_cons_of_mem _ (i2 g e)
theorem length_putF (f : Str) (v : V) : ∀ fs : List (Str × V), (putF f v fs).length ≤ fs.length + 1
  | [] => by simp [putF]
  | (k, x) :: r => by
    have ih := length_putF f v r
    rw [show putF f v ((k, x) :: r) = (if k = f then (k, v) :: r else (k, x) :: putF f v r) from rfl]
    by_cases hk : k = f
    · rw [if_pos hk, List.length_cons, List.length_cons]; omega
    · rw [if_neg hk, List.length_cons, List.length_cons]; omega

theorem RelO.some_of {v : V} {o : Option Value} (r : RelO (some v) o) : ∃ u, o = some u ∧ RelV v u := by
  cases o with
  | none => exact (show False from r).elim
  | some u => exact ⟨u, rfl, r⟩
theorem RelO.none_of {o : Option Value} (r : RelO none o) : o = none := by
  cases o with
  | none => rfl
  | some u => exact (show False from r).elim
theorem handed_of {v : V} {u : Value} (r : RelV v u) : PySem.W.handedIn u = true := by
  cases v with
  | non => cases (show u = Value.none from r); rfl
  | bl b => cases (show u = Value.bool b from r); rfl
  | int i => obtain ⟨t, e⟩ := (show ∃ t, u = Value.int i t from r); cases e; rfl
  | str x => obtain ⟨t, e⟩ := (show ∃ t, u = Value.str x t from r); cases e; rfl
  | byt b => obtain ⟨t, e⟩ := (show ∃ t, u = Value.bytes b t from r); cases e; rfl
  | flt b => obtain ⟨t, e⟩ := (show ∃ t, u = Value.float b t from r); cases e; rfl
  | ref a => cases (show u = Value.ref a from r); rfl
  | ty n => cases (show u = Value.type n from r); rfl

section
variable {P : Program} {w : World} {H H' : Hp} {h h' : Heap} {a C dx : Addr} {fs fs' : List (Str × V)}
theorem ins_get (hok : HOk P w H h) (e : H a = some (.ins C dx fs)) : ∃ mA, ObjM h a dx C mA ∧ (∀ f, RelO (fs.lookup f) (mA f)) ∧ PySem.Within mA (fs.map (·.1)) ∧ fs.length ≤ 1000 ∧ H dx = some (.own a) := by
  obtain ⟨d, z, ne, ob, mA, n, r, q⟩ := (show ObjOk P w H h a (.ins C dx fs) from hok a _ e)
  exact ⟨mA, ⟨ob, n, ne⟩, r, q, z, d⟩
end

/-! ### what of the text a class must have -/
structure Cls (K : PySem.W.Frag) (C : Addr) : Prop where
  pg : PySem.W.plainGet K C Str.empty = true
  hd : PySem.W.hasDictIn K C = true
  po : PySem.W.plainOver K C = true
  sa : PySem.W.findIn K (.ref C) "__setattr__" = some (some (.builtin "object.__setattr__"))
theorem Cls.get {K : PySem.W.Frag} {C : Addr} (c : Cls K C) (f : Str) : PySem.W.plainGet K C f = true := c.pg
/-- no class of it has the name -/
def NoAttr (K : PySem.W.Frag) (C : Addr) (f : Str) : Prop := PySem.W.findIn K (.ref C) f = some none
theorem NoAttr.taker {K : PySem.W.Frag} {C : Addr} {f : Str} (n : NoAttr K C f) : PySem.W.takerIn K C f = some none := by
  unfold PySem.W.takerIn
  rw [show PySem.W.findIn K (.ref C) f = some none from n]
  rfl
/-- a constant of the class -/
structure Con (K : PySem.W.Frag) (C : Addr) (f : Str) (v : V) (u : Value) : Prop where
  at_ : PySem.W.findIn K (.ref C) f = some (some u)
  rel : RelV v u
  get : PySem.W.specialIn K u "__get__" = some none
  cp : PySem.W.copiedNames.contains f = false
/-- a method: a plain def of the class or of one above it -/
structure Meth (K : PySem.W.Frag) (C : Addr) (m : Str) (f : Addr) : Prop where
  at_ : PySem.W.findIn K (.ref C) m = some (some (.ref f))
  fn : PySem.W.isFn K (.ref f) = true
  kp : PySem.W.keepIn K (.ref f) = true

section
variable {X : Cx} {pins : List (Addr × Obj)} {σ : St} {H : Hp} {s : Shared} {a C dx : Addr} {fs : List (Str × V)} {f : Str} {v : V} {A : Around} {E : Value → Shared → Prop}

theorem getattr_ok {b : Bool} {Q : Value → Shared → Prop} (I : Inv X pins σ H s) (e : H a = some (.ins C dx fs)) (c : Cls X.K C) (n : NoAttr X.K C f) (l : fs.lookup f = some v)
    (h : ∀ u s', Inv X pins σ H s' → RelV v u → Q u s') : wpAny (model X.prog X.w) A (getAttr (.ref a) f b) Q E s := by
  obtain ⟨mA, O, r, _, _, _⟩ := ins_get I.hok e
  obtain ⟨u, hu, ru⟩ := RelO.some_of (v := v) (o := mA f) (by rw [← l]; exact r f)
  exact get_map I.kIn O (c.get f) c.hd n hu (handed_of ru) (h u _ (I.tok _) ru)

theorem getmeth_ok {m : Str} {g : Addr} {pl : Sem Bool} {Q : Value × List Value → Shared → Prop} (I : Inv X pins σ H s) (e : H a = some (.ins C dx fs)) (c : Cls X.K C) (k : Meth X.K C m g) (l : fs.lookup m = none)
    (h : Q (.ref g, [.ref a]) s) : wpAny (model X.prog X.w) A (getMethod (.ref a) m pl) Q E s := by
  obtain ⟨mA, O, r, _, _, _⟩ := ins_get I.hok e
  have hn : mA m = none := RelO.none_of (by rw [← l]; exact r m)
  exact get_meth I.kIn O (c.get m) k.at_ k.fn hn h

theorem setattr_ok {y : V} {u : Value} {Q : Unit → Shared → Prop} (I : Inv X pins σ H s) (e : H a = some (.ins C dx fs)) (c : Cls X.K C) (n : NoAttr X.K C f) (hl : fs.length < 1000) (ry : RelV y u)
    (h : ∀ s', Inv X pins σ (upd H a (.ins C dx (putF f y fs))) s' → Q () s') : wpAny (model X.prog X.w) A (setAttr (.ref a) f u) Q E s := by
  obtain ⟨mA, O, r, wi, _, ho⟩ := ins_get I.hok e
  have hz : (fs.map (·.1)).length ≤ sizeLine := by rw [List.length_map, sizeLine_eq]; omega
  refine set_map I.kIn O c.sa c.po n.taker c.hd wi hz fun h' O' sb => h _ ?_
  have hd : ∃ o, h'.get? dx = some o := let ⟨o, _, _, e', _⟩ := O'.ns; ⟨o, e'⟩
  refine I.write (x := a) (e := dx) (by rw [e]; exact True.intro) (.inr ho) (fun b q hb z => (sb.2 b hb).trans z) hd ?_
  refine ⟨by rw [upd_ne O.ne]; exact ho, ?_, O.ne, O'.obj, _, O'.ns, fun g => ?_, fun g hg => ?_⟩
  · have := length_putF f y fs; omega
  · show RelO ((putF f y fs).lookup g) (if g = f then some u else mA g)
    rw [lookup_putF]
    by_cases q : g = f
    · rw [if_pos q, if_pos q]; exact ry
    · rw [if_neg q, if_neg q]; exact r g
  · by_cases q : g = f
    · rw [q]; exact (keys_putF f y fs).1
    · refine (keys_putF f y fs).2 g (wi g fun z => hg ?_)
      show (if g = f then some u else mA g) = none
      rw [if_neg q]; exact z

/-- a new instance, tracked, without attributes -/
theorem Inv.made (I : Inv X pins σ H s) : Inv X pins σ (upd (upd H s.heap.objs.size (.own (s.heap.objs.size + 1))) (s.heap.objs.size + 1) (.ins C s.heap.objs.size []))
    { s with heap := (s.heap.push PySem.W.emptyDict).push (PySem.W.instObj C s.heap.objs.size) } := by
  have e1 : (s.heap.push PySem.W.emptyDict).get? s.heap.objs.size = some PySem.W.emptyDict := Heap.get?_push_size s.heap rfl
  have e2 : ((s.heap.push PySem.W.emptyDict).push (PySem.W.instObj C s.heap.objs.size)).get? (s.heap.objs.size + 1) = some (PySem.W.instObj C s.heap.objs.size) := by
    have := Heap.get?_push_size (s.heap.push PySem.W.emptyDict) (o := PySem.W.instObj C s.heap.objs.size) rfl
    rwa [Heap.size_push] at this
  have e3 : (s.heap.push PySem.W.emptyDict).Ns s.heap.objs.size (fun _ => none) := ⟨PySem.W.emptyDict, #[], _, e1, rfl, (fun e he => absurd he (by simp)), fun _ => rfl⟩
  have I1 := I.laid (a := s.heap.objs.size) (o := .own (s.heap.objs.size + 1)) (h' := s.heap.push PySem.W.emptyDict) (t' := s.toks) (fun b u q => Heap.get?_push_of_some _ q) (Nat.le_refl _) ⟨_, e1⟩
  refine I1.laid (a := s.heap.objs.size + 1) (o := .ins C s.heap.objs.size []) (t' := s.toks) (fun b u q => Heap.get?_push_of_some _ q) (Nat.le_of_eq (Heap.size_push _ _)) ?_
  have ne : s.heap.objs.size ≠ s.heap.objs.size + 1 := Nat.ne_of_lt (Nat.lt_succ_self _)
  refine ⟨by rw [upd_ne ne, upd_same], Nat.zero_le _, ne, e2, fun _ => none, (Heap.Ns1.of_empty e3).at fun o q => Heap.get?_push_of_some _ q, fun _ => True.intro, fun y hy => absurd rfl hy⟩

/-- e.f where nothing but the object is asked: through attributeBase (super) and the last hold -/
theorem attr_of {prog : Program} {w : World} {env : Env} {e : Expr} {f : Str} {pos : Pos} {s : Shared} {Q : Value → Shared → Prop} (hb : attributeBase e f env (eval e env) = eval e env)
    (h : wpAny (model prog w) A (eval e env) (fun o s₁ => wpAny (model prog w) A (getAttr o f true) Q E s₁) E s) : wpAny (model prog w) A (eval (.Attribute e f pos) env) Q E s :=
  Attribute_any_ h (by rw [arm_eval_Attribute, hb])
end

/-! ### readings and rules -/
/-- e.f, an attribute of the instance -/
def tFld (K : PySem.W.Frag) (ta : TE) (f : Str) : TE := fun σ H Q => ta σ H fun x H1 => ∃ a C dx fs v, x = .ref a ∧ H1 a = some (.ins C dx fs) ∧ Cls K C ∧ NoAttr K C f ∧ fs.lookup f = some v ∧ Q v H1
/-- e.f = value -/
def sFld (K : PySem.W.Frag) (ta tv : TE) (f : Str) : TS := fun D σ H => tv σ H fun y H1 => ta σ H1 fun x H2 => ∃ a C dx fs, x = .ref a ∧ H2 a = some (.ins C dx fs) ∧ Cls K C ∧ NoAttr K C f ∧ fs.length < 1000 ∧
  D.nx σ (upd H2 a (.ins C dx (putF f y fs)))
section
variable {X : Cx} {o e value : Expr} {f : Str} {pos pos' tpos : Pos} {ta tv : TE}
theorem pe_fld (he : PE X e ta) (hb : attributeBase e f X.env (eval e X.env) = eval e X.env) : PE X (.Attribute e f pos) (tFld X.K ta f) := by
  intro pins s σ H Q I h
  refine attr_of hb (thn (he pins s σ H _ I h) fun u s1 ⟨x, H1, I1, rx, a, C, dx, fs, v, ex, ea, c, n, l, q⟩ => ?_)
  subst ex
  obtain rfl : u = Value.ref a := rx
  exact getattr_ok I1 ea c n l fun u' s2 I2 ru => ⟨v, H1, I2, ru, q⟩
theorem ps_fld (ha : PE X o ta) (hv : PE X value tv) (hs : swapsWith value (some (.Attribute o f pos')) pos.line X.env = pure false) : PS X (.Assign [.Attribute o f pos'] value pos) (sFld X.K ta tv f) := by
  intro pins s σ H D I h
  refine plainObj_wpAny_Assign_Attribute (thn (hv pins s σ H _ I h) fun u s1 ⟨y, H1, I1, ry, q⟩ => thn (ha pins s1 σ H1 _ I1 q) fun ov s2 ⟨x, H2, I2, rx, a, C, dx, fs, ex, ea, c, n, l, q2⟩ => ?_) hs
  subst ex
  obtain rfl : ov = Value.ref a := rx
  exact setattr_ok I2 ea c n l ry fun s3 I3 => ⟨σ, _, I3, q2⟩
end

/-! ### isinstance -/
section
variable {X : Cx} {pins : List (Addr × Obj)} {σ : St} {H : Hp} {s : Shared} {A : Around} {E : Value → Shared → Prop} {Q : Value → Shared → Prop} {c : Value} {b : Bool}
/-- the type of a value, as the fragment's deciders take it; for an instance its class -/
inductive TyOf (K : PySem.W.Frag) (H : Hp) : V → Value → Prop where
  | non : TyOf K H .non (.type "NoneType")
  | bl (x : Bool) : TyOf K H (.bl x) (.type "bool")
  | int (i : Int) : TyOf K H (.int i) (.type "int")
  | str (x : Str) : TyOf K H (.str x) (.type "str")
  | flt (x : UInt64) : TyOf K H (.flt x) (.type "float")
  | lst {a : Addr} {xs : List V} (e : H a = some (.lst xs)) : TyOf K H (.ref a) (.type "list")
  | frz {a : Addr} {o : Obj} {xs : List V} (e : H a = some (.frz o (.lst xs))) : TyOf K H (.ref a) (.type "list")
  | tup {a : Addr} {xs : List V} (e : H a = some (.tup xs)) : TyOf K H (.ref a) (.type "tuple")
  | dK {a : Addr} {kvs : List (Key × V)} (e : H a = some (.dK kvs)) : TyOf K H (.ref a) (.type "dict")
  | dT {a : Addr} {kvs : List (List Key × V)} (e : H a = some (.dT kvs)) : TyOf K H (.ref a) (.type "dict")
  | ins {a C dx : Addr} {fs : List (Str × V)} (e : H a = some (.ins C dx fs)) (cl : Cls K C) (ha : PySem.W.findIn K (.ref C) "__class__" = some (some (.builtin "object.__class__")))
      (hn : PySem.W.specialIn K (.builtin "object.__class__") "__get__" = some (some (.builtin "getset_descriptor.__get__"))) (htk : PySem.W.takesIn K (.builtin "object.__class__") = some true)
      (hm : PySem.W.mroIn K C (.type "object") = some true) : TyOf K H (.ref a) (.ref C)
/-- isinstance(x, c) for one class c, a built-in or an own one: kitOne's answer -/
theorem isinst_ok {x : V} {u t : Value} (I : Inv X pins σ H s) (rx : RelV x u) (ty : TyOf X.K H x t) (e : PySem.W.kitOne X.K t c = some b) (h : ∀ tk, Q (.bool b) { s with toks := tk }) :
    wpAny (model X.prog X.w) A (call (.builtin "isinstance") [u, c]) Q E s := by
  cases ty with
  | non => cases (show u = Value.none from rx); exact PySem.W.kia_one PySem.W.kitx_none I.kIn True.intro e (fun z => nomatch z) h
  | bl y => cases (show u = Value.bool y from rx); exact PySem.W.kia_one PySem.W.kitx_bool I.kIn True.intro e (fun z => nomatch z) h
  | int i => obtain ⟨t, q⟩ := (show ∃ t, u = Value.int i t from rx); cases q; exact PySem.W.kia_one PySem.W.kitx_int I.kIn True.intro e (fun z => nomatch z) h
  | str y => obtain ⟨t, q⟩ := (show ∃ t, u = Value.str y t from rx); cases q; exact PySem.W.kia_one PySem.W.kitx_str I.kIn True.intro e (fun z => nomatch z) h
  | flt y => obtain ⟨t, q⟩ := (show ∃ t, u = Value.float y t from rx); cases q; exact PySem.W.kia_one PySem.W.kitx_float I.kIn True.intro e (fun z => nomatch z) h
  | @lst a xs ea =>
    cases (show u = Value.ref a from rx)
    obtain ⟨_, _, n, _, h1⟩ := (show ObjOk X.prog X.w H s.heap a (.lst xs) from I.hok a _ ea)
    exact PySem.W.kia_one PySem.W.kitx_list I.kIn ⟨_, h1, rfl⟩ e (fun z => nomatch z) h
  | @frz a ob xs ea =>
    cases (show u = Value.ref a from rx)
    obtain ⟨_, _, _, n, _, h1⟩ := (show ObjOk X.prog X.w H s.heap a (.frz ob (.lst xs)) from I.hok a _ ea)
    exact PySem.W.kia_one PySem.W.kitx_list I.kIn ⟨_, h1, rfl⟩ e (fun z => nomatch z) h
  | @tup a xs ea =>
    cases (show u = Value.ref a from rx)
    obtain ⟨_, _, _, p⟩ := (show ObjOk X.prog X.w H s.heap a (.tup xs) from I.hok a _ ea)
    obtain ⟨o, h1, h2, _⟩ := p
    exact PySem.W.kia_one PySem.W.kitx_tuple I.kIn ⟨o, h1, h2⟩ e (fun z => nomatch z) h
  | @dK a kvs ea =>
    cases (show u = Value.ref a from rx)
    obtain ⟨_, _, vs, _, p⟩ := (show ObjOk X.prog X.w H s.heap a (.dK kvs) from I.hok a _ ea)
    obtain ⟨o, es, ep, h1, h2, _⟩ := p
    exact PySem.W.kia_one PySem.W.kitx_dict I.kIn ⟨o, h1, h2.1⟩ e (fun z => nomatch z) h
  | @dT a kvs ea =>
    cases (show u = Value.ref a from rx)
    obtain ⟨_, _, xs, _, o, es, ep, h1, h2, _⟩ := (show ObjOk X.prog X.w H s.heap a (.dT kvs) from I.hok a _ ea)
    exact PySem.W.kia_one PySem.W.kitx_dict I.kIn ⟨o, h1, h2.1⟩ e (fun z => nomatch z) h
  | @ins a C dx fs ea cl ha hn htk hm =>
    cases (show u = Value.ref a from rx)
    obtain ⟨mA, O, _⟩ := ins_get I.hok ea
    obtain ⟨od, J, _⟩ := O.look
    exact PySem.W.kia_one (PySem.W.kitx_own (cl.get _) cl.hd ha hn htk hm) I.kIn J e (fun z => nomatch z) h
end
end L2

namespace L2
open PySem PySem.Spec PyProof.Rows

/-! ### room -/
structure Room (k : Nat) (A : Around) : Prop where
  hd : A.handled = none
  dp : A.depth + 3 * k + 5 < recursionLimit
  un : A.units + 16 * k + 200 < cLine
theorem Room.mono {j k : Nat} {A : Around} (r : Room k A) (h : j ≤ k) : Room j A := ⟨r.hd, by have := r.dp; omega, by have := r.un; omega⟩
theorem Room.deeper {k : Nat} {A : Around} (r : Room (k + 1) A) (env : Env) : Room k (A.deeper env) :=
  ⟨r.hd, by have := r.dp; show A.depth + 1 + 3 * k + 5 < _; omega, by have := r.un; show A.units + 3 + 16 * k + 200 < _; omega⟩
theorem Room.in1 {k : Nat} {A : Around} (r : Room (k + 1) A) : Room k A.in1 :=
  ⟨r.hd, by have := r.dp; show A.depth + 3 * k + 5 < _; omega, by have := r.un; show A.units + 1 + 16 * k + 200 < _; omega⟩
theorem make_depth {A : Around} {C : Addr} {us : List Value} {kw : List (Str × Value)} : (A.under (.builtin "type.__call__" ⟨.ref C :: us, kw⟩)).depth = A.depth + 1 := by
  first | rfl | simp [Around.under, Code.weight, Code.isCreation, Code.isGuard, Code.isCaller, Code.frames, Code.isFrame, guardIds]
theorem make_units {A : Around} {C : Addr} {us : List Value} {kw : List (Str × Value)} : (A.under (.builtin "type.__call__" ⟨.ref C :: us, kw⟩)).units = A.units + 1 := by
  first | rfl | simp [Around.under, Code.cUnits, Code.frames, Code.isFrame]
theorem Room.make {k : Nat} {A : Around} (r : Room (k + 1) A) (C : Addr) (us : List Value) (kw : List (Str × Value)) : Room k (A.under (.builtin "type.__call__" ⟨.ref C :: us, kw⟩)) :=
  ⟨r.hd, by have := r.dp; rw [make_depth]; omega, by have := r.un; rw [make_units]; omega⟩
theorem Room.depth {k : Nat} {A : Around} (r : Room k A) : A.depth < recursionLimit := by have := r.dp; omega
theorem Room.units {k : Nat} {A : Around} (r : Room k A) : A.units + 64 < cLine := by have := r.un; omega
theorem Room.units0 {k : Nat} {A : Around} (r : Room k A) : A.units < cLine := by have := r.un; omega

/-! ### argument lists and displays -/
def tNil : TA := fun _ H Q => Q [] H
def tCons (ta : TE) (tr : TA) : TA := fun σ H Q => ta σ H fun x H1 => tr σ H1 fun xs H2 => Q (x :: xs) H2
section
variable {X : Cx} {e : Expr} {es : List Expr} {te : TE} {t : TA} {pos : Pos}
theorem pa_nil : PA X [] tNil := fun _ _ _ _ H Q I h => Calls.spliced_nil ⟨[], H, I, .nil, h⟩
theorem pa_cons (ha : PE X e te) (hr : PA X es t) (hs : starEach (e :: es) X.env = (false, eval e X.env) :: starEach es X.env := by rfl) : PA X (e :: es) (tCons te t) := by
  intro pos pins s σ H Q I h
  rw [hs]
  show wpAny _ _ (spliced ((false, eval e X.env) :: backTo pos (starEach es X.env))) _ _ s
  refine Calls.spliced_cons (thn (ha pins s σ H _ I h) fun u s1 ⟨x, H1, I1, r1, q1⟩ => ?_)
  exact thn (hr pos pins s1 σ H1 _ I1 q1) fun us s2 ⟨xs, H2, I2, r2, q2⟩ => ⟨x :: xs, H2, I2, .cons r1 r2, q2⟩

/-- a tuple, a list of written items -/
def tTup (t : TA) : TE := fun σ H Q => t σ H fun xs H1 => xs.length ≤ sizeLine ∧ ∀ p, H1 p = none → Q (.ref p) (upd H1 p (.tup xs))
def tLst (t : TA) : TE := fun σ H Q => t σ H fun xs H1 => xs.length ≤ sizeLine ∧ ∀ p, H1 p = none → Q (.ref p) (upd H1 p (.lst xs))
theorem pe_tup {x1} (h : PA X es t) : PE X (.Tuple es x1 pos) (tTup t) := by
  intro pins s σ H Q I hq
  refine wpAny_Tuple_spliced (thn (h pos pins s σ H _ I hq) fun us s1 ⟨xs, H1, I1, r, z, q⟩ => ⟨by rw [← r.length]; exact z, ?_⟩)
  have hf : H1 s1.heap.objs.size = none := I1.hok.fresh (Nat.le_refl _)
  refine ⟨.ref s1.heap.objs.size, upd H1 s1.heap.objs.size (.tup xs), I1.laid (t' := s1.toks) (fun b u e => Heap.get?_push_of_some _ e) (Nat.le_refl _) ?_, rfl, q _ hf⟩
  exact ⟨z, us, r, ⟨_, Heap.get?_push_size _ rfl, rfl, _, rfl⟩⟩
theorem pe_lst (h : PA X es t) : PE X (.List es pos) (tLst t) := by
  intro pins s σ H Q I hq
  refine wpAny_List_spliced (thn (h pos pins s σ H _ I hq) fun us s1 ⟨xs, H1, I1, r, z, q⟩ => ⟨by rw [← r.length]; exact z, ?_⟩)
  have hf : H1 s1.heap.objs.size = none := I1.hok.fresh (Nat.le_refl _)
  refine ⟨.ref s1.heap.objs.size, upd H1 s1.heap.objs.size (.lst xs), I1.laid (t' := s1.toks) (fun b u e => Heap.get?_push_of_some _ e) (Nat.le_refl _) ?_, rfl, q _ hf⟩
  exact ⟨z, us, 0, r, Heap.get?_push_size _ rfl⟩
end

/-! ### what a def promises -/
/-- a def's promise: the bound arguments in the parameters' order, the heap, the wanted end, the wanted exception -/
abbrev Sp := List V → Hp → VK → XK → Prop
/-- how an exception lies behind a call (file 08 gives it): the callers' frames, abstract heap and state ahead of the call, the wish, the exception, the state -/
abbrev CXT := List Env → Hp → Shared → XK → Value → Shared → Prop

/-- the state at a call -/
structure Env0 (P : Program) (w : World) (K : PySem.W.Frag) (mg : Str → Option Value) (base : Heap) (A : Around) (outer : List Env) (s : Shared) (H : Hp) : Prop where
  frames : A.frames = some outer
  mod : Mod K mg base
  bs : ∀ b o, base.get? b = some o → s.heap.get? b = some o ∧ H b = none
  bsz : base.objs.size ≤ s.heap.objs.size
  funs : s.heap.FunFrames base outer
  frf : ∀ b ∈ frs outer, H b = none
  hok : HOk P w H s.heap
  bare : AllBare s.gens
/-- a call's end -/
def CE (outer : List Env) (P : Program) (w : World) (H : Hp) (s : Shared) (Q : VK) (u : Value) (s' : Shared) : Prop :=
  ∃ v H', s'.os = s.os ∧ AllBare s'.gens ∧ Un (frs outer) [] H H' s.heap s'.heap ∧ HOk P w H' s'.heap ∧ RelV v u ∧ Q v H'
def CR (CX : CXT) (outer : List Env) (P : Program) (w : World) (H : Hp) (s : Shared) (Q : VK) (E : XK) (r : Result) (s' : Shared) : Prop :=
  match r with
  | .ok (.ret u) => CE outer P w H s Q u s'
  | .ok _ => False
  | .error e => CX outer H s E e s'
structure FnOk (P : Program) (w : World) (K : PySem.W.Frag) (mg : Str → Option Value) (base : Heap) (CX : CXT) (k : Nat) (f : Addr) (fd : FuncData) (ps : List Str) (sp : Sp) : Prop where
  len : ∀ vs H Q E, sp vs H Q E → vs.length = ps.length
  run : ∀ (A : Around) (outer : List Env) (s : Shared) (H : Hp) (args : Args) (us : List Value) (vs : List V) (Q : VK) (E : XK), Room k A → Env0 P w K mg base A outer s H → BindsTo s fd args (ps.zip us) → Vals vs us → sp vs H Q E →
    codeAny (model P w) A (.call (.ref f) args) (CR CX outer P w H s Q E) s
theorem FnOk.mono {P : Program} {w : World} {K : PySem.W.Frag} {mg : Str → Option Value} {base : Heap} {CX : CXT} {j k : Nat} {f : Addr} {fd : FuncData} {ps : List Str} {sp : Sp} (F : FnOk P w K mg base CX j f fd ps sp) (h : j ≤ k) :
    FnOk P w K mg base CX k f fd ps sp := ⟨F.len, fun A outer s H args us vs Q E hr => F.run A outer s H args us vs Q E (hr.mono h)⟩
/-- a weaker promise -/
theorem FnOk.imp {P : Program} {w : World} {K : PySem.W.Frag} {mg : Str → Option Value} {base : Heap} {CX : CXT} {k : Nat} {f : Addr} {fd : FuncData} {ps : List Str} {sp sp' : Sp} (F : FnOk P w K mg base CX k f fd ps sp)
    (h : ∀ vs H Q E, sp' vs H Q E → sp vs H Q E) : FnOk P w K mg base CX k f fd ps sp' :=
  ⟨fun vs H Q E q => F.len vs H Q E (h _ _ _ _ q), fun A outer s H args us vs Q E hr he hb hv hs => F.run A outer s H args us vs Q E hr he hb hv (h _ _ _ _ hs)⟩

theorem Env0.make {P : Program} {w : World} {K : PySem.W.Frag} {mg : Str → Option Value} {base : Heap} {A : Around} {outer : List Env} {s : Shared} {H : Hp} (e : Env0 P w K mg base A outer s H) (C : Addr) (us : List Value) (kw : List (Str × Value)) :
    Env0 P w K mg base (A.under (.builtin "type.__call__" ⟨.ref C :: us, kw⟩)) outer s H := ⟨by first | exact e.frames | (simpa [Around.under, Code.envs, Code.isFrame, pushEnvs] using e.frames), e.mod, e.bs, e.bsz, e.funs, e.frf, e.hok, e.bare⟩
theorem Env0.in1 {P : Program} {w : World} {K : PySem.W.Frag} {mg : Str → Option Value} {base : Heap} {A : Around} {outer : List Env} {s : Shared} {H : Hp} (e : Env0 P w K mg base A outer s H) :
    Env0 P w K mg base A.in1 outer s H := ⟨e.frames, e.mod, e.bs, e.bsz, e.funs, e.frf, e.hok, e.bare⟩

section
variable {X : Cx} {pins : List (Addr × Obj)} {σ : St} {H : Hp} {s s' : Shared}
/-- from a body: what a callee wants -/
theorem Inv.env0 (I : Inv X pins σ H s) : Env0 X.prog X.w X.K X.mg X.base X.A X.stack s H :=
  ⟨I.ok.frames, I.ok.mod, I.bs, Nat.le_trans I.ok.bsz I.sz, I.stack, I.stkFree, I.hok, I.bare⟩
/-- behind a call -/
theorem Inv.after {Q : VK} {u : Value} (I : Inv X pins σ H s) (h : CE X.stack X.prog X.w H s Q u s') : EP X pins σ Q u s' := by
  obtain ⟨v, H', os, bare, un, hok, r, q⟩ := h
  obtain ⟨hh, g, d, t, os'⟩ := s'
  obtain rfl : os' = s.os := os
  exact ⟨v, H', I.call (h' := hh) (g' := g) (d' := d) (t' := t) (ch := []) un hok bare (fun b z => absurd z (by simp)), r, q⟩
end

/-! ### calls -/
/-- f(..): the written arguments, then the defaults dvs; E: what is wanted of an exception -/
def tCall (sp : Sp) (dvs : List V) (E : XK) (t : TA) : TE := fun σ H Q => t σ H fun vs H1 => sp (vs ++ dvs) H1 Q E
/-- o.m(..) of an instance of the class at C -/
def tMeth (C : Addr) (m : Str) (sp : Sp) (dvs : List V) (E : XK) (ta : TE) (t : TA) : TE := fun σ H Q => ta σ H fun x H1 => ∃ a dx fs, x = .ref a ∧ H1 a = some (.ins C dx fs) ∧ fs.lookup m = none ∧
  t σ H1 fun vs H2 => sp (x :: (vs ++ dvs)) H2 Q E
/-- C(..): a new instance and its dict, then __init__ -/
def tMake (C : Addr) (sp : Sp) (dvs : List V) (E : XK) (t : TA) : TE := fun σ H Q => t σ H fun vs H1 => ∀ x dx, H1 x = none → H1 dx = none → dx ≠ x →
  sp (.ref x :: (vs ++ dvs)) (upd (upd H1 dx (.own x)) x (.ins C dx [])) (fun v H2 => v = .non ∧ Q (.ref x) H2) E

/-- how the parameters are bound: us the positional arguments, kw the keywords' values by name, ds the defaults that fill up -/
def Binds (K : PySem.W.Frag) (fd : FuncData) (ps : List Str) (ds : List Value) : Prop :=
  ∀ (s : Shared) (us : List Value), K.In s.heap → (us ++ ds).length = ps.length → BindsTo s fd ⟨us, []⟩ (ps.zip (us ++ ds))
/-- every parameter is given -/
theorem Binds.all {K : PySem.W.Frag} {fd : FuncData} {ps : List Str} (h : ∀ us : List Value, us.length = ps.length → bindArgs fd ⟨us, []⟩ = pure (ps.zip us)) : Binds K fd ps [] := fun s us _ hl => by
  rw [List.append_nil] at hl ⊢
  exact .of_eq (h us hl)

/-- an exception of a callee reaches what this body wants of exceptions -/
def Passes (CX : CXT) (X : Cx) (E : XK) : Prop := ∀ (pins : List (Addr × Obj)) (σ : St) (H : Hp) (s : Shared) (e : Value) (s' : Shared), Inv X pins σ H s → CX X.stack H s E e s' → X.xe e s'

section
variable {X : Cx} {CX : CXT} {k : Nat} {f C : Addr} {fd : FuncData} {ps : List Str} {sp : Sp} {dvs : List V} {ds : List Value} {E : XK} {x m : Str} {p pos apos : Pos} {e o : Expr} {es : List Expr} {ta : TE} {t : TA}

/-- the callee runs -/
theorem run_fn {pins : List (Addr × Obj)} {σ : St} {H : Hp} {s : Shared} {Q : VK} {us : List Value} {vs : List V} (F : FnOk X.prog X.w X.K X.mg X.base CX k f fd ps sp) (hr : Room k X.A) (hb : Binds X.K fd ps ds) (hd : Vals dvs ds) (hx : Passes CX X E)
    (I : Inv X pins σ H s) (r : Vals vs us) (h : sp (vs ++ dvs) H Q E) : wpAny (model X.prog X.w) X.A (call (.ref f) us) (EP X pins σ Q) X.xe s := by
  have r2 : Vals (vs ++ dvs) (us ++ ds) := r.append hd
  have hl : (us ++ ds).length = ps.length := by rw [← r2.length]; exact F.len _ _ _ _ h
  refine wpAny_call (codeAny_mono (F.run X.A X.stack s H ⟨us, []⟩ (us ++ ds) (vs ++ dvs) Q E hr I.env0 (hb s us I.kIn hl) r2 h) fun r s' hq => ?_)
  cases r with
  | error e => exact hx pins σ H s e s' I hq
  | ok fl =>
    cases fl with
    | ret u => exact I.after hq
    | next => exact False.elim hq
    | brk => exact False.elim hq
    | cont => exact False.elim hq

theorem pe_call (F : FnOk X.prog X.w X.K X.mg X.base CX k f fd ps sp) (hr : Room k X.A) (hg : Gl X x) (hm : X.mg x = some (.ref f)) (hk : PySem.W.keepIn X.K (.ref f) = true) (hb : Binds X.K fd ps ds) (hd : Vals dvs ds) (hx : Passes CX X E)
    (ha : PA X (e :: es) t) (hdb : (x == ("__debug__" : Str)) = false := by decide) (he : starEach (e :: es) X.env = (false, eval e X.env) :: starEach es X.env := by rfl) (hpl : (backTo pos (starEach es X.env)).any (·.1) = false := by rfl) :
    PE X (.Call (.Name x p) (e :: es) [] pos) (tCall sp dvs E t) := by
  intro pins s σ H Q I h
  refine wpAny_Call_Name_kw (ld_glob I hg hm ?_ hdb)
  refine PySem.W.callWith_K (h₀ := X.base) I.ok.mod.kin hk (thn (ha pos pins s σ H _ I h) fun us s1 ⟨vs, H1, I1, r, q⟩ => ⟨I1.kIn, ?_⟩) he hpl
  exact run_fn F hr hb hd hx I1 r q
/-- o.m(e, ..) -/
theorem pe_meth {pl : Sem Bool} (he : PE X o ta) (c : Cls X.K C) (hm : Meth X.K C m f) (F : FnOk X.prog X.w X.K X.mg X.base CX k f fd ps sp) (hr : Room k X.A) (hb : Binds X.K fd ps ds) (hd : Vals dvs ds) (hx : Passes CX X E) (ha : PA X (e :: es) t)
    (hst : starEach (e :: es) X.env = (false, eval e X.env) :: starEach es X.env := by rfl) (hpl : (backTo pos (starEach es X.env)).any (·.1) = false := by rfl)
    (ht : eval (.Call (.Attribute o m apos) (e :: es) [] pos) X.env = (do
      let ov ← eval o X.env
      standAt apos.atName
      let (f, first) ← holding [ov] (getMethod ov m pl)
      callWith pos f first (backTo pos (starEach (e :: es) X.env)) (backToKw pos (keywordEach [] X.env))) := by rfl) :
    PE X (.Call (.Attribute o m apos) (e :: es) [] pos) (tMeth C m sp dvs E ta t) := by
  intro pins s σ H Q I h
  refine PySem.W.methodCall_KW (pl := pl) (thn (he pins s σ H _ I h) fun u s1 ⟨x, H1, I1, rx, a, dx, fs, ex, ea, l, q⟩ => ?_) ht
  subst ex
  obtain rfl : u = Value.ref a := rx
  refine getmeth_ok I1 ea c hm l ?_
  refine PySem.W.callWith_K (first := [.ref a]) (h₀ := X.base) I.ok.mod.kin hm.kp (thn (ha pos pins s1 σ H1 _ I1 q) fun us s2 ⟨vs, H2, I2, r, q2⟩ => ⟨I2.kIn, ?_⟩) hst hpl
  exact run_fn (us := .ref a :: us) (vs := .ref a :: vs) F hr hb hd hx I2 (.cons rfl r) q2
/-- o.m() -/
theorem pe_meth0 {pl : Sem Bool} (he : PE X o ta) (c : Cls X.K C) (hm : Meth X.K C m f) (F : FnOk X.prog X.w X.K X.mg X.base CX k f fd ps sp) (hr : Room k X.A) (hb : Binds X.K fd ps ds) (hd : Vals dvs ds) (hx : Passes CX X E)
    (ht : eval (.Call (.Attribute o m apos) [] [] pos) X.env = (do
      let ov ← eval o X.env
      standAt apos.atName
      let (f, first) ← holding [ov] (getMethod ov m pl)
      callWith pos f first (backTo pos (starEach [] X.env)) (backToKw pos (keywordEach [] X.env))) := by rfl) :
    PE X (.Call (.Attribute o m apos) [] [] pos) (tMeth C m sp dvs E ta tNil) := by
  intro pins s σ H Q I h
  refine PySem.W.methodCall_KW (pl := pl) (thn (he pins s σ H _ I h) fun u s1 ⟨x, H1, I1, rx, a, dx, fs, ex, ea, l, q⟩ => ?_) ht
  subst ex
  obtain rfl : u = Value.ref a := rx
  refine getmeth_ok I1 ea c hm l ?_
  exact PySem.W.callWith_K0 (first := [.ref a]) I1.kIn hm.kp (run_fn (us := [.ref a]) (vs := [.ref a]) F hr hb hd hx I1 (.cons rfl .nil) q)

/-- what a class must have to be made -/
structure Mk (K : PySem.W.Frag) (C f : Addr) : Prop where
  makes : PySem.W.makesIn K C = true
  init : PySem.W.findIn K (.ref C) "__init__" = some (some (.ref f))
  fn : PySem.W.isFn K (.ref f) = true
  kp : PySem.W.keepIn K (.ref C) = true

theorem run_make {pins : List (Addr × Obj)} {σ : St} {H : Hp} {s : Shared} {Q : VK} {us : List Value} {vs : List V} (M : Mk X.K C f) (F : FnOk X.prog X.w X.K X.mg X.base CX k f fd ps sp) (hr : Room (k + 1) X.A) (hb : Binds X.K fd ps ds) (hd : Vals dvs ds)
    (hx : Passes CX X E) (I : Inv X pins σ H s) (r : Vals vs us)
    (h : ∀ x dx, H x = none → H dx = none → dx ≠ x → sp (.ref x :: (vs ++ dvs)) (upd (upd H dx (.own x)) x (.ins C dx [])) (fun v H2 => v = .non ∧ Q (.ref x) H2) E) :
    wpAny (model X.prog X.w) X.A (call (.ref C) us) (EP X pins σ Q) X.xe s := by
  have hq := h (s.heap.objs.size + 1) s.heap.objs.size (I.hok.fresh (Nat.le_succ _)) (I.hok.fresh (Nat.le_refl _)) (Nat.ne_of_lt (Nat.lt_succ_self _))
  have I2 := Inv.made (C := C) I
  have r2 : Vals (V.ref (s.heap.objs.size + 1) :: (vs ++ dvs)) (Value.ref (s.heap.objs.size + 1) :: (us ++ ds)) := .cons rfl (r.append hd)
  have hl : (Value.ref (s.heap.objs.size + 1) :: us ++ ds).length = ps.length := by
    have e := r2.length
    rw [F.len _ _ _ _ hq] at e
    exact e.symm
  refine wpAny_call (make_map (f := f) I.kIn M.makes M.init (beq_iff_eq.mp M.fn) (codeAny_mono (F.run _ X.stack _ _ ⟨Value.ref (s.heap.objs.size + 1) :: us, []⟩ (Value.ref (s.heap.objs.size + 1) :: (us ++ ds)) _ _ E (hr.make C us [])
    (I2.env0.make C us []) (hb _ (Value.ref (s.heap.objs.size + 1) :: us) I2.kIn hl) r2 hq) fun r s' hq' => ?_))
  cases r with
  | error e => exact hx pins σ _ _ e s' I2 hq'
  | ok fl =>
    cases fl with
    | ret u =>
      obtain ⟨v, H', I3, rv, ev, q3⟩ := I2.after hq'
      subst ev
      exact ⟨rv, ⟨V.ref (s.heap.objs.size + 1), H', I3, rfl, q3⟩⟩
    | next => exact False.elim hq'
    | brk => exact False.elim hq'
    | cont => exact False.elim hq'
theorem pe_make (M : Mk X.K C f) (F : FnOk X.prog X.w X.K X.mg X.base CX k f fd ps sp) (hr : Room (k + 1) X.A) (hg : Gl X x) (hm : X.mg x = some (.ref C)) (hb : Binds X.K fd ps ds) (hd : Vals dvs ds) (hx : Passes CX X E)
    (ha : PA X (e :: es) t) (hdb : (x == ("__debug__" : Str)) = false := by decide) (he : starEach (e :: es) X.env = (false, eval e X.env) :: starEach es X.env := by rfl) (hpl : (backTo pos (starEach es X.env)).any (·.1) = false := by rfl) :
    PE X (.Call (.Name x p) (e :: es) [] pos) (tMake C sp dvs E t) := by
  intro pins s σ H Q I h
  refine wpAny_Call_Name_kw (ld_glob I hg hm ?_ hdb)
  refine PySem.W.callWith_K (h₀ := X.base) I.ok.mod.kin M.kp (thn (ha pos pins s σ H _ I h) fun us s1 ⟨vs, H1, I1, r, q⟩ => ⟨I1.kIn, ?_⟩) he hpl
  exact run_make M F hr hb hd hx I1 r q
end

/-! ### keywords -/
section
variable {X : Cx} {CX : CXT} {k : Nat} {f C : Addr} {fd : FuncData} {ps ks : List Str} {sp : Sp} {E : XK} {x m : Str} {p pos apos kpos : Pos} {e o : Expr} {es : List Expr} {kws : List Keyword} {te ta : TE} {t tk : TA} {nm : Option Str}
/-- how a call with keywords binds: g puts the positional values us and the keywords' values ws (names ks) in the parameters' order, defaults among them -/
structure KBinds (K : PySem.W.Frag) (fd : FuncData) (ps ks : List Str) (g : List Value → List Value → List Value) (gV : List V → List V → List V) : Prop where
  to : ∀ (s : Shared) (us ws : List Value), K.In s.heap → (g us ws).length = ps.length → BindsTo s fd ⟨us, ks.zip ws⟩ (ps.zip (g us ws))
  rel : ∀ {vs : List V} {us : List Value} {zs : List V} {ws : List Value}, Vals vs us → Vals zs ws → Vals (gV vs zs) (g us ws)
variable {g : List Value → List Value → List Value} {gV : List V → List V → List V}
end

/-! ### a def's body keeps its promise -/
/-- names: the parameters first -/
structure FnScope (N P : List Str) (sc : Scope) : Prop where
  kind : sc.kind = .function
  co : sc.isCoroutine = false
  gen : sc.isGenerator = false
  nd : N.Nodup
  pre : N.take P.length = P
  par : ∀ x ∈ P, sc.names.lookup x = some .local ∨ sc.names.lookup x = some .cell
  nofree : ∀ y ∈ sc.names, y.2 ≠ .free

theorem bindL_out {kindOf : Str → Option NameKind} {x : Str} : ∀ {binds : List (Str × Value)} {m : Str → Option Value}, (∀ v, (x, v) ∉ binds) → bindL kindOf binds m x = m x
  | [], _, _ => rfl
  | (n, v) :: r, m, h => by
    unfold bindL
    rw [bindL_out fun w hw => h w (List.mem_cons_of_mem _ hw)]
    split
    · have : x ≠ n := by rintro rfl; exact h v List.mem_cons_self
      simp [this]
    · rfl
theorem bindC_out {kindOf : Str → Option NameKind} {x : Str} : ∀ {binds : List (Str × Value)} {m : Str → Option Value}, (∀ v, (x, v) ∉ binds) → bindC kindOf binds m x = m x
  | [], _, _ => rfl
  | (n, v) :: r, m, h => by
    unfold bindC
    rw [bindC_out fun w hw => h w (List.mem_cons_of_mem _ hw)]
    split
    · rfl
    · have : x ≠ n := by rintro rfl; exact h v List.mem_cons_self
      simp [this]
theorem bindL_get {kindOf : Str → Option NameKind} {x : Str} {v : Value} : ∀ {P : List Str} {vs : List Value} {i : Nat} {m : Str → Option Value}, P.Nodup → P[i]? = some x → vs[i]? = some v → kindOf x = some .local →
    bindL kindOf (P.zip vs) m x = some v
  | [], _, _, _, _, h, _, _ => by simp at h
  | _ :: _, [], _, _, _, _, h, _ => by simp at h
  | p :: P, w :: vs, 0, m, nd, h1, h2, hk => by
    simp at h1 h2; subst h1; subst h2
    show bindL kindOf ((p, w) :: P.zip vs) m p = _
    unfold bindL
    rw [bindL_out fun v hv => (List.nodup_cons.mp nd).1 (List.of_mem_zip hv).1, if_pos hk]
    simp
  | p :: P, w :: vs, i + 1, m, nd, h1, h2, hk => by
    show bindL kindOf ((p, w) :: P.zip vs) m x = _
    unfold bindL
    exact bindL_get (i := i) (List.nodup_cons.mp nd).2 (by simpa using h1) (by simpa using h2) hk
theorem bindC_get {kindOf : Str → Option NameKind} {x : Str} {v : Value} : ∀ {P : List Str} {vs : List Value} {i : Nat} {m : Str → Option Value}, P.Nodup → P[i]? = some x → vs[i]? = some v → kindOf x ≠ some .local →
    bindC kindOf (P.zip vs) m x = some v
  | [], _, _, _, _, h, _, _ => by simp at h
  | _ :: _, [], _, _, _, _, h, _ => by simp at h
  | p :: P, w :: vs, 0, m, nd, h1, h2, hk => by
    simp at h1 h2; subst h1; subst h2
    show bindC kindOf ((p, w) :: P.zip vs) m p = _
    unfold bindC
    rw [bindC_out fun v hv => (List.nodup_cons.mp nd).1 (List.of_mem_zip hv).1, if_neg hk]
    simp
  | p :: P, w :: vs, i + 1, m, nd, h1, h2, hk => by
    show bindC kindOf ((p, w) :: P.zip vs) m x = _
    unfold bindC
    exact bindC_get (i := i) (List.nodup_cons.mp nd).2 (by simpa using h1) (by simpa using h2) hk

/-- the names' values at the entry -/
def start (N : List Str) (vs : List V) : St := vs.map some ++ List.replicate (N.length - vs.length) none

/-- the context of a def's body, at its entry; an exception leaves the frame, then lies as CX says -/
def cxOf (CX : CXT) (P : Program) (w : World) (K : PySem.W.Frag) (mg : Str → Option Value) (base : Heap) (N : List Str) (qual : Str) (scope : Scope) (f : Addr) (cd : Value) (A : Around) (outer : List Env) (s : Shared) (H : Hp) (E : XK) : Cx where
  prog := P
  w := w
  K := K
  mg := mg
  base := base
  A := A.deeper (envOfC qual scope s.heap.objs.size f cd)
  N := N
  s₀ := s
  H₀ := H
  env := envOfC qual scope s.heap.objs.size f cd
  outer := outer
  stack := envOfC qual scope s.heap.objs.size f cd :: outer
  ex := []
  calm := true
  fn := fun _ => true
  pn := []
  xe := fun e s' => wpAny (model P w) (A.deeper (envOfC qual scope s.heap.objs.size f cd)) (leaving (envOfC qual scope s.heap.objs.size f cd) e) (fun _ s'' => CX outer H s E e s'') (fun e' s'' => CX outer H s E e' s'') s'

theorem cell_has {sc : Scope} {n : Nat} {x : Str} (h : sc.names.lookup x = some .cell) : ∃ c, (cellsFrom n sc.names []).lookup x = some c := by
  have q := PySem.W.cellsFrom_some sc.names n [] (.inl h)
  exact Option.isSome_iff_exists.mp q

theorem inv_start {CX : CXT} {P : Program} {w : World} {K : PySem.W.Frag} {mg : Str → Option Value} {base : Heap} {N ps : List Str} {qual : Str} {scope : Scope} {f : Addr} {cd : Value} {A : Around} {outer : List Env} {s s1 : Shared} {H : Hp} {E : XK} {us : List Value} {vs : List V}
    (S : FnScope N ps scope) (hd : A.handled = none) (e0 : Env0 P w K mg base A outer s H) (hl : vs.length = ps.length) (r : Vals vs us)
    (x : InCallC s s.heap.objs.size (bindL (envOfC qual scope s.heap.objs.size f cd).kindOf (ps.zip us) fun _ => none) (cellsFrom (s.heap.objs.size + 1) scope.names []) (bindC (envOfC qual scope s.heap.objs.size f cd).kindOf (ps.zip us) fun _ => none) s1) :
    Inv (cxOf CX P w K mg base N qual scope f cd A outer s H E) [] (start N vs) H s1 := by
  have hpl : ps.length ≤ N.length := by have := congrArg List.length S.pre; rw [List.length_take] at this; omega
  obtain ⟨h1, tk, rfl, hk⟩ := x.done
  have noA : ∀ b : Addr, b ∉ (cxOf CX P w K mg base N qual scope f cd A outer s H E).ex := fun b z => absurd (show b ∈ ([] : List Addr) from z) (by simp)
  refine ⟨⟨e0.mod, S.kind, rfl, rfl, Nat.le_refl _, fun y z c h1 h2 => ?_, fun y hy => ?_, fun y c _ h => ?_, fun _ => hd, Around.frames_deeper e0.frames, .inr ⟨rfl, rfl⟩, fun b z => absurd z (noA b), e0.bs, e0.bsz, fun b _ _ => noA b, fun b z => absurd z (noA b), e0.funs, e0.frf⟩,
    rfl, e0.bare, Un.kept hk, ⟨_, x.toInCall.ns, fun i y v h1 h2 h3 => ?_⟩, fun y c h => ⟨_, x.cell y c h⟩, e0.hok.fresh (Nat.le_refl _), fun y c h => ?_, fun p hp => absurd (show p ∈ ([] : List (Addr × Obj)) from hp) (by simp), e0.hok.kept hk, ?_⟩
  · exact name_of_addr x.apart (PySem.mem_of_lookup h1) (PySem.mem_of_lookup h2)
  · have hy : scope.names.lookup y = some .cell ∨ scope.names.lookup y = some .free := hy
    rcases hy with hy | hy
    · exact cell_has hy
    · exact absurd rfl (S.nofree _ (PySem.mem_of_lookup hy))
  · exact Nat.le_of_lt (x.above y c (PySem.mem_of_lookup h))
  · have hi : i < vs.length := by
      unfold start at h2
      by_cases hi : i < vs.length
      · exact hi
      · rw [List.getElem?_append_right (by simpa using hi)] at h2
        rw [List.getElem?_replicate] at h2
        split at h2 <;> cases h2
    have ha : vs[i]? = some v := by
      unfold start at h2
      rw [List.getElem?_append_left (by simpa using hi), List.getElem?_map] at h2
      cases e : vs[i]? with
      | none => rw [e] at h2; cases h2
      | some a => rw [e] at h2; cases h2; rfl
    obtain ⟨u, hu, rv⟩ := r.get ha
    have hp : ps[i]? = some y := by
      rw [← S.pre, List.getElem?_take_of_lt (by omega)]; exact h1
    have ndP : ps.Nodup := by rw [← S.pre]; exact S.nd.sublist (List.take_sublist _ _)
    refine ⟨u, rv, ?_⟩
    rcases S.par y (List.mem_of_getElem? hp) with k | k
    · exact .inl ⟨k, bindL_get ndP hp hu k⟩
    · obtain ⟨c, e⟩ := cell_has (n := s.heap.objs.size + 1) k
      refine .inr ⟨.inl k, c, e, ?_⟩
      have q := x.cell y c e
      rw [bindC_get ndP hp hu (by show scope.names.lookup y ≠ _; rw [k]; decide)] at q
      exact q
  · exact e0.hok.fresh (Nat.le_of_lt (x.above y c (PySem.mem_of_lookup h)))
  · unfold start
    show _ = N.length
    rw [List.length_append, List.length_map, List.length_replicate]
    omega

/-- THE RULE: a def (or a method) of the text, by its body. The body's reading t is chosen for each entry; it is run at the parameters' values -/
theorem fn_of {CX : CXT} {P : Program} {w : World} {K : PySem.W.Frag} {mg : Str → Option Value} {base : Heap} {k : Nat} {f : Addr} {name qual : Str} {params : Arguments} {body : List Stmt} {scope : Scope} {dV kV doc pm cdv ct oc : Value} {an od : Option Addr}
    {osl : Array (Option Value)} {N ps : List Str} {sp : Sp} (lk : K.lookup f = some ⟨oc, od, .func (PySem.W.fnOf name qual params body scope dV kV doc pm an cdv ct), osl⟩) (hcd : PySem.W.codeIn K cdv qual = true) (S : FnScope N ps scope)
    (len : ∀ vs H Q E, sp vs H Q E → vs.length = ps.length)
    (hbody : ∀ (A : Around) (outer : List Env) (s : Shared) (H : Hp) (vs : List V) (Q : VK) (E : XK), Room k (A.deeper (envOfC qual scope s.heap.objs.size f cdv)) → sp vs H Q E →
      ∃ t, PSs (cxOf CX P w K mg base N qual scope f cdv A outer s H E) body t ∧ t { nx := fun _ H' => Q .non H', rt := Q } (start N vs) H) :
    FnOk P w K mg base CX (k + 1) f (PySem.W.fnOf name qual params body scope dV kV doc pm an cdv ct) ps sp := by
  refine ⟨len, fun A outer s H args us vs Q E hr e0 hb r hsp => ?_⟩
  have hl := len _ _ _ _ hsp
  have KX : K.In s.heap := e0.mod.kin.keeps fun b o e => (e0.bs b o e).1
  have lim : s.heap.NoLimit := e0.mod.nolimit.keeps fun b o e => (e0.bs b o e).1
  have hkind : ∀ y ∈ ps.zip us, scope.names.lookup y.1 = some .local ∨ (scope.names.lookup y.1 = some .cell ∧ ((cellsFrom (s.heap.objs.size + 1) scope.names []).lookup y.1).isSome = true) := fun ⟨n, v⟩ hy => by
    rcases S.par n (List.of_mem_zip hy).1 with q | q
    · exact .inl q
    · exact .inr ⟨q, PySem.W.cellsFrom_some _ _ _ (.inl q)⟩
  refine codeAny_call_function hr.depth (KX _ _ lk) rfl S.co S.gen rfl (PySem.W.codeRec_of KX hcd) (hb _ _ _ _ ?_)
  refine wpAny_newFunctionEnv_cells S.kind hkind fun env he s1 x => ?_
  subst he
  refine ⟨lim.keeps x.toInCall.keep, codeAny_func ?_⟩
  obtain ⟨t, ht, hq⟩ := hbody A outer s H vs Q E (hr.deeper _) hsp
  have I : Inv (cxOf CX P w K mg base N qual scope f cdv A outer s H E) [] (start N vs) H s1 := inv_start S hr.hd e0 hl r x
  refine wpAny_mono (ht [] s1 (start N vs) H _ I hq) (fun fl s' hs => ?_) fun e s' hs => hs
  have fin : ∀ {σ' : St} {H' : Hp} {v : V} {u : Value}, Inv (cxOf CX P w K mg base N qual scope f cdv A outer s H E) [] σ' H' s' → RelV v u → Q v H' → CE outer P w H s Q u s' :=
    fun {σ' H' v u} J rv q => ⟨v, H', J.os, J.bare, J.base, J.hok, rv, q⟩
  cases fl with
  | ret u =>
    obtain ⟨v, σ', H', J, rv, q⟩ := hs
    exact fin J rv q
  | next =>
    obtain ⟨σ', H', J, q⟩ := hs
    exact fin (v := V.non) (u := Value.none) J rfl q
  | brk =>
    obtain ⟨_, _, _, q⟩ := hs
    exact False.elim q
  | cont =>
    obtain ⟨_, _, _, q⟩ := hs
    exact False.elim q
end L2

namespace L2
open PySem PySem.Spec PyProof.Rows
section
variable {X : Cx} {x : Str} {p pos : Pos} {e : Expr} {es : List Expr} {t : TA} {id T : String} {r : List V → Hp → VK → Prop}

def tCB (r : List V → Hp → VK → Prop) (t : TA) : TE := fun σ H Q => t σ H fun vs H1 => r vs H1 Q
/-- f(e, ..), f a built-in function -/
theorem pe_callB (hc : CallR X (.builtin id) r) (hg : Gl X x) (hm : X.mg x = none) (hv : bootBuiltins x = some (.builtin id)) (ha : PA X (e :: es) t) (hn : x ≠ "__name__" := by decide) (hdb : (x == ("__debug__" : Str)) = false := by decide)
    (he : starEach (e :: es) X.env = (false, eval e X.env) :: starEach es X.env := by rfl) (hpl : (backTo pos (starEach es X.env)).any (·.1) = false := by rfl) : PE X (.Call (.Name x p) (e :: es) [] pos) (tCB r t) := by
  intro pins s σ H Q I h
  refine wpAny_Call_Name_kw (ld_blt I hg hm hv ?_ hn hdb)
  exact PyProof.Rows.callWith_builtin1 (thn (ha pos pins s σ H _ I h) fun us s1 ⟨vs, H1, I1, r1, q1⟩ => hc pins s1 σ H1 vs us Q I1 r1 q1) he hpl
/-- T(e, ..), T a built-in type -/
theorem pe_callTy (hc : CallR X (.type T) r) (hg : Gl X x) (hm : X.mg x = none) (hv : bootBuiltins x = some (.type T)) (ha : PA X (e :: es) t) (hn : x ≠ "__name__" := by decide) (hdb : (x == ("__debug__" : Str)) = false := by decide)
    (he : starEach (e :: es) X.env = (false, eval e X.env) :: starEach es X.env := by rfl) (hpl : (backTo pos (starEach es X.env)).any (·.1) = false := by rfl) : PE X (.Call (.Name x p) (e :: es) [] pos) (tCB r t) := by
  intro pins s σ H Q I h
  refine wpAny_Call_Name_kw (ld_blt I hg hm hv ?_ hn hdb)
  exact PyProof.Rows.callWith_type1 (thn (ha pos pins s σ H _ I h) fun us s1 ⟨vs, H1, I1, r1, q1⟩ => hc pins s1 σ H1 vs us Q I1 r1 q1) he hpl
end
end L2

namespace HT
open PySem PyProof.Rows

section
open PySem.SeqAt
open PySem.AutoSeq1 (wpAny_loadPart')
open PySem.MeetsSeq PySem.MeetsSeq2 PySem.MeetsSeq3

end

section
variable {prog : Program} {w : World} {A : Around} {E : Value → Shared → Prop} {s : Shared}

/-! ### t[a:b], not the whole -/
/-- a slice's bound as a place among n (d where it is left out) -/
def sIx (n d : Nat) : Option Int → Nat
  | none => d
  | some v => if v < 0 then (v + (n : Int)).toNat else min v.toNat n
end
end HT

namespace L2
open PySem PySem.Spec PyProof.Rows

/-! ### the parts of a slice -/
abbrev TO := St → Hp → (Option Int → Hp → Prop) → Prop
/-- a slice's part (left out, or an int) -/
def PO (X : Cx) (e : Option Expr) (t : TO) : Prop :=
  ∀ (pins : List (Addr × Obj)) (s : Shared) (σ : St) (H : Hp) (Q : Option Int → Hp → Prop), Inv X pins σ H s → t σ H Q →
    wpAny (model X.prog X.w) X.A (evalPart e X.env) (fun u s' => ∃ o H', Inv X pins σ H' s' ∧ IsPart u o ∧ Q o H') X.xe s
def tNoPart : TO := fun _ H Q => Q none H
def tPart (t : TE) : TO := fun σ H Q => t σ H fun x H1 => ∃ i, x = .int i ∧ Q (some i) H1

section
variable {X : Cx} {e : Expr} {te : TE} {lo hi : Option Expr} {tl th : TO} {pos p2 : Pos}

theorem po_none : PO X none tNoPart := by
  intro pins s σ H Q I h
  rw [evalPart_none]
  exact wpAny_pure ⟨none, H, I, .none, h⟩
theorem po_some (h : PE X e te) : PO X (some e) (tPart te) := by
  intro pins s σ H Q I hw
  rw [evalPart_some]
  refine thn (h pins s σ H _ I hw) fun u s1 ⟨x, H1, I1, r1, q1⟩ => ?_
  obtain ⟨i, rfl, q⟩ := q1
  obtain ⟨t, rfl⟩ := r1
  exact ⟨some i, H1, I1, .int i t, q⟩

/-- what a slice of a value is, by values: the slice object stands at sl -/
def SlR (X : Cx) (r : V → Option Int → Option Int → Hp → VK → Prop) : Prop :=
  ∀ (pins : List (Addr × Obj)) (s : Shared) (σ : St) (H : Hp) (x : V) (v vl vu : Value) (lo hi : Option Int) (sl : Addr) (Q : VK), Inv X pins σ H s → RelV x v → s.heap.IsSliceOf sl vl vu .none → IsPart vl lo → IsPart vu hi → r x lo hi H Q →
    ∃ T id, typeLookup (.type T) "__getitem__" = pure (some (.builtin id)) ∧ s.TypeIs v T ∧ wpAny (model X.prog X.w) X.A (getItem v (.ref sl)) (EP X pins σ Q) X.xe s
theorem SlR.or {r r' : V → Option Int → Option Int → Hp → VK → Prop} (h : SlR X r) (h' : SlR X r') : SlR X (fun x lo hi H Q => r x lo hi H Q ∨ r' x lo hi H Q) := by
  intro pins s σ H x v vl vu lo hi sl Q I rx hs pl pu q
  rcases q with q | q
  · exact h pins s σ H x v vl vu lo hi sl Q I rx hs pl pu q
  · exact h' pins s σ H x v vl vu lo hi sl Q I rx hs pl pu q
def tSl (r : V → Option Int → Option Int → Hp → VK → Prop) (te : TE) (tl th : TO) : TE := fun σ H Q => te σ H fun x H1 => tl σ H1 fun l H2 => th σ H2 fun u H3 => r x l u H3 Q
/-- a[lo:hi], any a -/
theorem pe_slice {r : V → Option Int → Option Int → Hp → VK → Prop} (hr : SlR X r) (he : PE X e te) (hl : PO X lo tl) (hu : PO X hi th) : PE X (.Subscript e (.Slice lo hi none p2) pos) (tSl r te tl th) := by
  intro pins s σ H Q I h
  refine Subscript_ (thn (he pins s σ H _ I h) fun v s1 ⟨x, H1, I1, r1, q1⟩ => ?_)
  refine wpAny_Slice (thn (hl pins s1 σ H1 _ I1 q1) fun vl s2 ⟨l, H2, I2, pl, q2⟩ => thn (hu pins s2 σ H2 _ I2 q2) fun vu s3 ⟨u, H3, I3, pu, q3⟩ => ?_)
  rw [evalPart_none]
  refine wpAny_pure ?_
  have I4 : Inv X pins σ H3 { s3 with heap := s3.heap.push { cls := .type "slice", data := .fields #[vl, vu, .none] } } := I3.kept (t' := s3.toks) fun b ob q => Heap.get?_push_of_some _ q
  obtain ⟨T, id, hT, ht, hg⟩ := hr pins { s3 with heap := s3.heap.push { cls := .type "slice", data := .fields #[vl, vu, .none] } } σ H3 x v vl vu l u s3.heap.objs.size Q I4 r1 (Heap.IsSliceOf.new ..) pl pu q3
  show wpAny (model X.prog X.w) X.A (subscriptTail e (.Slice lo hi none p2) v (.ref s3.heap.objs.size)) (EP X pins σ Q) X.xe { s3 with heap := s3.heap.push { cls := .type "slice", data := .fields #[vl, vu, .none] } }
  exact tail_any (ops := [.ref s3.heap.objs.size, v]) ht hT hg (by with_unfolding_all rfl)

/-- the items of xs[lo:hi] -/
def cutV (xs : List V) (lo hi : Option Int) : List V := (xs.drop (HT.sIx xs.length 0 lo)).take (HT.sIx xs.length xs.length hi - HT.sIx xs.length 0 lo)
theorem cutV_length (xs : List V) (lo hi : Option Int) : (cutV xs lo hi).length ≤ xs.length := by
  unfold cutV
  rw [List.length_take, List.length_drop]
  omega
/-! ### t < u, t + u -/
end
end L2

namespace L2
open PySem PySem.Spec PyProof.Rows

/-! ### places -/
/-- the place that an index of any sign means -/
def ixN (n : Nat) (i : Int) : Option Nat := if 0 ≤ i then (if i < n then some i.toNat else none) else if -(n : Int) ≤ i then some (i + n).toNat else none
def atI {α : Type} (xs : List α) (i : Int) : Option α := (ixN xs.length i).bind fun j => xs[j]?
theorem ixN_seq {n : Nat} {i : Int} {j : Nat} (h : ixN n i = some j) : seqIndex? i n = some j ∧ j < n ∧ -(n : Int) ≤ i ∧ i < n := by
  unfold ixN at h
  by_cases h0 : 0 ≤ i
  · rw [if_pos h0] at h
    by_cases h1 : i < n
    · rw [if_pos h1] at h
      have e : i.toNat = j := Option.some.inj h
      exact ⟨by rw [seqIndex_of h0 h1, e], by omega, by omega, h1⟩
    · rw [if_neg h1] at h; cases h
  · rw [if_neg h0] at h
    by_cases h1 : -(n : Int) ≤ i
    · rw [if_pos h1] at h
      have e : (i + n).toNat = j := Option.some.inj h
      exact ⟨by rw [seqIndex_neg (by omega) h1, e], by omega, h1, by omega⟩
    · rw [if_neg h1] at h; cases h
theorem atI_get {α : Type} {xs : List α} {i : Int} {v : α} (h : atI xs i = some v) : ∃ j, seqIndex? i xs.length = some j ∧ xs[j]? = some v ∧ j < xs.length ∧ -(xs.length : Int) ≤ i ∧ i < xs.length := by
  unfold atI at h
  cases e : ixN xs.length i with
  | none => rw [e] at h; cases h
  | some j =>
    rw [e] at h
    obtain ⟨h1, h2, h3, h4⟩ := ixN_seq e
    exact ⟨j, h1, h, h2, h3, h4⟩
theorem atI_nat {α : Type} {xs : List α} {j : Nat} {v : α} (h : xs[j]? = some v) : atI xs (j : Int) = some v := by
  have hj : j < xs.length := (List.getElem?_eq_some_iff.mp h).1
  have e : ixN xs.length (j : Int) = some j := by
    unfold ixN
    rw [if_pos (by omega), if_pos (by omega)]; simp
  unfold atI; rw [e]; exact h
/-! ### what may be subscripted -/
/-- what stands as an index of a plain subscript -/
def PlainIx (b : Expr) : Prop := ∀ o i, subscripted b false o i = operate [o, i] (getItem o i)
/-- a subscript by values -/
def IxR (X : Cx) (r : R2) : Prop :=
  ∀ (value slice : Expr) (pins : List (Addr × Obj)) (s : Shared) (σ : St) (H : Hp) (x y : V) (v u : Value) (Q : VK), Inv X pins σ H s → RelV x v → RelV y u → r x y H Q →
    subscripted slice false v u = operate [v, u] (getItem v u) → wpAny (model X.prog X.w) X.A (subscriptTail value slice v u) (EP X pins σ Q) X.xe s
/-- a call of a builtin's method by values: the receiver, the arguments -/
def MtR (X : Cx) (id : String) (r : V → List V → Hp → VK → Prop) : Prop :=
  ∀ (pins : List (Addr × Obj)) (s : Shared) (σ : St) (H : Hp) (x : V) (xs : List V) (v : Value) (us : List Value) (Q : VK), Inv X pins σ H s → RelV x v → Vals xs us → r x xs H Q →
    wpAny (model X.prog X.w) X.A (call (.builtin id) (v :: us)) (EP X pins σ Q) X.xe s
section
variable {X : Cx} {a b : Expr} {ta tb : TE} {pos : Pos}
theorem IxR.or {r r' : R2} (h : IxR X r) (h' : IxR X r') : IxR X (fun x y H Q => r x y H Q ∨ r' x y H Q) := by
  intro value slice pins s σ H x y v u Q I rx ry q hs
  rcases q with q | q
  · exact h value slice pins s σ H x y v u Q I rx ry q hs
  · exact h' value slice pins s σ H x y v u Q I rx ry q hs
theorem MtR.or {id : String} {r r' : V → List V → Hp → VK → Prop} (h : MtR X id r) (h' : MtR X id r') : MtR X id (fun x xs H Q => r x xs H Q ∨ r' x xs H Q) := by
  intro pins s σ H x xs v us Q I rx rs q
  rcases q with q | q
  · exact h pins s σ H x xs v us Q I rx rs q
  · exact h' pins s σ H x xs v us Q I rx rs q
/-- a[b] -/
theorem pe_ix {r : R2} (hr : IxR X r) (ha : PE X a ta) (hb : PE X b tb) (hs : PlainIx b) : PE X (.Subscript a b pos) (tOp r ta tb) := by
  intro pins s σ H Q I h
  exact Subscript_ (binT ha hb I h fun v u s2 x y H2 I2 rx ry q => hr a b pins s2 σ H2 x y v u Q I2 rx ry q (hs _ _))

def rIxL (K : PySem.W.Frag) : R2 := fun x y H Q => ∃ p xs i v, x = .ref p ∧ y = .int i ∧ SqL K H p xs ∧ atI xs i = some v ∧ Q v H
def rIxT (K : PySem.W.Frag) : R2 := fun x y H Q => ∃ p xs i v, x = .ref p ∧ y = .int i ∧ SqT K H p xs ∧ atI xs i = some v ∧ Q v H
def rIxS : R2 := fun x y H Q => ∃ z i c, x = .str z ∧ y = .int i ∧ z.length ≤ sizeLine ∧ atI z.cps.toList i = some c ∧ Q (.str ⟨#[c]⟩) H
theorem ix_list : IxR X (rIxL X.K) := by
  intro value slice pins s σ H x y v u Q I rx ry h hs
  obtain ⟨p, xs, i, z, rfl, rfl, hq, he, q⟩ := h
  cases rx
  obtain ⟨t, rfl⟩ := ry
  obtain ⟨its, r, pl, hz⟩ := I.list hq
  obtain ⟨j, h1, h2, h3, h4, h5⟩ := atI_get he
  obtain ⟨w, ew, rw'⟩ := r.get h2
  have hl := r.length
  have hn := line63
  have fin : EP X pins σ Q w s := ⟨z, H, I, rw', q⟩
  by_cases h0 : 0 ≤ i
  · have hj : i.toNat = j := by
      rw [seqIndex_of h0 h5] at h1
      exact Option.some.inj h1
    exact item_listR pl.isList h0 (by omega) (by rw [hj]; simpa using ew) fin hs
  · have hj : (i + (its.toArray.size : Int)).toNat = j := by
      rw [seqIndex_neg (by omega) h4] at h1
      rw [List.size_toArray, ← hl]
      exact Option.some.inj h1
    exact subscriptTail_builtinR (x := w) pl.isList.typeIs slot_list_getitem.lookup
      (wpAny_getItem_list_neg (Q := fun r s' => r = w ∧ EP X pins σ Q r s') pl.isList (by omega) (by rw [List.size_toArray] <;> omega) (by omega) (by rw [hj]; simpa using ew) ⟨rfl, fin⟩) hs
theorem ix_tup : IxR X (rIxT X.K) := by
  intro value slice pins s σ H x y v u Q I rx ry h hs
  obtain ⟨p, xs, i, z, rfl, rfl, hq, he, q⟩ := h
  cases rx
  obtain ⟨t, rfl⟩ := ry
  obtain ⟨its, r, pl, hz⟩ := I.tuple hq
  obtain ⟨j, h1, h2, h3, h4, h5⟩ := atI_get he
  obtain ⟨w, ew, rw'⟩ := r.get h2
  have hl := r.length
  have hn := line63
  have fin : EP X pins σ Q w s := ⟨z, H, I, rw', q⟩
  exact subscriptTail_builtinR (x := w) pl.typeIs slot_tuple_getitem.lookup
    (getItem_tuple (j := j) (Q := fun r s' => r = w ∧ EP X pins σ Q r s') pl (by omega) (by omega) (by rw [List.size_toArray, ← hl]; exact h1) (by simpa using ew) ⟨rfl, fin⟩) hs
theorem ix_str : IxR X rIxS := by
  intro value slice pins s σ H x y v u Q I rx ry h hs
  obtain ⟨z, i, c, rfl, rfl, hz, he, q⟩ := h
  obtain ⟨t, rfl⟩ := rx
  obtain ⟨t', rfl⟩ := ry
  obtain ⟨j, h1, h2, h3, h4, h5⟩ := atI_get he
  have hl : z.cps.toList.length = z.length := by simp [Str.length]
  rw [hl] at h1 h4 h5
  have hn := line63
  exact tail_any (typeIs_str s z t) slot_str_getitem.lookup (getItem_str (c := c) (by
    have e1 : decide (i < -(2 ^ 63 : Int)) = false := decide_eq_false (by omega)
    have e2 : decide (i ≥ 2 ^ 63) = false := decide_eq_false (by omega)
    rw [e1, e2, Bool.or_false]) (by rw [h1]; simpa using h2) ⟨.str ⟨#[c]⟩, H, I.tok _, ⟨_, rfl⟩, q⟩) hs
/-! ### xs[i] = v, any sign -/
/-- the list's object behind a store -/
theorem mapSeq_set (its : List Value) (n j : Nat) (u : Value) : Obj.mapSeq (·.setIfInBounds j u) { cls := .type "list", data := .seq its.toArray n } = { cls := .type "list", data := .seq (its.set j u).toArray n } := by
  simp [Obj.mapSeq]
theorem Inv.lst {pins : List (Addr × Obj)} {σ : St} {H : Hp} {s : Shared} {p : Addr} {xs : List V} (I : Inv X pins σ H s) (h : H p = some (.lst xs)) :
    ∃ (its : List Value) (n : Nat), Vals xs its ∧ s.heap.get? p = some { cls := .type "list", data := .seq its.toArray n } ∧ xs.length ≤ sizeLine := by
  obtain ⟨z, its, n, r, e⟩ := I.hok p _ h
  exact ⟨its, n, r, e, z⟩
/-- the list at p is written by an update of its object -/
theorem Inv.lstUpd {pins : List (Addr × Obj)} {σ : St} {H : Hp} {s : Shared} {p : Addr} {xs ys : List V} {its its' : List Value} {n n' : Nat} {f : Obj → Obj} (I : Inv X pins σ H s) (h : H p = some (.lst xs))
    (ho : s.heap.get? p = some { cls := .type "list", data := .seq its.toArray n }) (hf : f { cls := .type "list", data := .seq its.toArray n } = { cls := .type "list", data := .seq its'.toArray n' }) (r : Vals ys its') (hz : ys.length ≤ sizeLine) (t : Nat) :
    Inv X pins σ (upd H p (.lst ys)) { s with heap := s.heap.update p f, toks := t } := by
  have e : (s.heap.update p f).get? p = some { cls := .type "list", data := .seq its'.toArray n' } := by
    rw [Heap.get?_update_self f ho (by rw [hf] <;> rfl), hf]
  refine I.write (x := p) (e := p) (by rw [h]; trivial) (.inl rfl) (fun b u hb q => (Heap.get?_update_other _ _ (Ne.symm hb)).trans q) ⟨_, e⟩ ?_
  exact ⟨hz, its', n', r, e⟩
def rSetL : V → V → V → Hp → (Hp → Prop) → Prop := fun o i v H Q => ∃ p xs k j, o = .ref p ∧ i = .int k ∧ H p = some (.lst xs) ∧ ixN xs.length k = some j ∧ Q (upd H p (.lst (xs.set j v)))
theorem set_list : PSet X rSetL := by
  intro pins s σ H o i v ov iv u Q I ro ri rv h
  obtain ⟨p, xs, k, j, rfl, rfl, hp, hj, q⟩ := h
  cases ro
  obtain ⟨t, rfl⟩ := ri
  obtain ⟨its, n, r, ho, hz⟩ := I.lst hp
  obtain ⟨h1, h2, h3, h4⟩ := ixN_seq hj
  have hl := r.length
  have hn := line63
  have I' : Inv X pins σ (upd H p (.lst (xs.set j v))) { s with heap := s.heap.update p (Obj.mapSeq (·.setIfInBounds j u)) } :=
    I.lstUpd hp ho (mapSeq_set its n j u) (r.set rv j) (by rw [List.length_set]; exact hz) s.toks
  by_cases h0 : 0 ≤ k
  · have hk : k.toNat = j := by
      rw [seqIndex_of h0 h4] at h1
      exact Option.some.inj h1
    exact PySem.W.ki_setAt ho h0 (by omega) (by rw [List.size_toArray, ← hl]; exact h4) (by rw [hk]; exact ⟨_, I', q⟩)
  · have hk : (k + (its.toArray.size : Int)).toNat = j := by
      rw [seqIndex_neg (by omega) h3] at h1
      rw [List.size_toArray, ← hl]
      exact Option.some.inj h1
    exact PySem.W.ki_setBack ho (by omega) (by rw [List.size_toArray, ← hl]; exact h3) (by omega) (by rw [hk]; exact ⟨_, I', q⟩)

/-! ### slices -/
theorem slice_bounds (lo hi : Option Int) (n : Nat) : (sliceBounds lo hi none n).1 = ((HT.sIx n 0 lo : Nat) : Int) ∧ (sliceBounds lo hi none n).2.1 = ((HT.sIx n n hi : Nat) : Int) ∧ (sliceBounds lo hi none n).2.2 = 1 := by
  refine ⟨?_, ?_, rfl⟩
  · cases lo with
    | none => simp [sliceBounds, HT.sIx]
    | some i =>
      simp only [sliceBounds, HT.sIx, Option.getD_none, show (1 : Int) > 0 by decide, if_true]
      by_cases h : i < 0
      · simp only [h, if_true] <;> omega
      · simp only [h, if_false] <;> omega
  · cases hi with
    | none => simp [sliceBounds, HT.sIx]
    | some i =>
      simp only [sliceBounds, HT.sIx, Option.getD_none, show (1 : Int) > 0 by decide, if_true]
      by_cases h : i < 0
      · simp only [h, if_true] <;> omega
      · simp only [h, if_false] <;> omega
theorem slicePick_cut (its : List Value) (lo hi : Option Int) : slicePick its.toArray lo hi none = ((its.drop (HT.sIx its.length 0 lo)).take (HT.sIx its.length its.length hi - HT.sIx its.length 0 lo)).toArray := by
  obtain ⟨h1, h2, h3⟩ := slice_bounds lo hi its.toArray.size
  unfold slicePick
  rw [h1, h2, h3]
  simp only [sliceRange_one, pick_run, List.size_toArray] <;> rfl
/-- xs[lo:hi] of a list: a new list -/
def rSlL (K : PySem.W.Frag) : V → Option Int → Option Int → Hp → VK → Prop := fun x lo hi H Q => ∃ a xs, x = .ref a ∧ SqL K H a xs ∧ ∀ p, H p = none → Q (.ref p) (upd H p (.lst (cutV xs lo hi)))
theorem sl_list : SlR X (rSlL X.K) := by
  intro pins s σ H x v vl vu lo hi sl Q I rx hs pl pu h
  obtain ⟨a, xs, rfl, hx, q⟩ := h
  cases rx
  obtain ⟨its, r, ht, hz⟩ := I.list hx
  have hlen := r.length
  refine ⟨"list", _, slot_list_getitem.lookup, ht.isList.typeIs, ?_⟩
  refine wpAny_getItem_list_slice ht.isList hs pl pu .none (by simp) ?_ (by rw [List.size_toArray] <;> omega)
  rw [slicePick_cut, ← hlen]
  refine ⟨.ref s.heap.objs.size, _, I.laid (t' := s.toks) (o := .lst (cutV xs lo hi)) (fun b ob q => Heap.get?_push_of_some _ q) (Nat.le_refl _) ?_, rfl, q _ (I.hok.fresh (Nat.le_refl _))⟩
  exact ⟨Nat.le_trans (cutV_length xs lo hi) hz, _, 0, (r.drop (HT.sIx xs.length 0 lo)).take (HT.sIx xs.length xs.length hi - HT.sIx xs.length 0 lo), Heap.get?_push_size _ rfl⟩

/-! ### in, not in: flat items -/
def flatV : V → Bool
  | .non => true
  | .bl _ => true
  | .int _ => true
  | .str _ => true
  | _ => false
/-- == of flat values -/
def eqV : V → V → Bool
  | .non, .non => true
  | .bl a, .bl b => a == b
  | .bl a, .int b => (if a then 1 else 0) == b
  | .int a, .bl b => a == (if b then 1 else 0)
  | .int a, .int b => a == b
  | .str a, .str b => a == b
  | _, _ => false
theorem eqAt_V {A : Around} {s : Shared} {y x : V} {u v : Value} (ry : RelV y u) (rx : RelV x v) (fy : flatV y = true) (fx : flatV x = true) : SeqAt.EqAt A s u v (eqV y x) := by
  cases y with
  | non =>
    cases ry
    cases x with
    | non => cases rx; exact SeqAt.EqAt.same _
    | bl b => cases rx; exact SeqAt.EqAt.none_bool b
    | int b => obtain ⟨t, rfl⟩ := rx; exact SeqAt.EqAt.none_int b t
    | str b => obtain ⟨t, rfl⟩ := rx; exact SeqAt.EqAt.none_str b t
    | _ => exact absurd (show false = true from fx) Bool.false_ne_true
  | bl a =>
    cases ry
    cases x with
    | non => cases rx; exact SeqAt.EqAt.bool_none a
    | bl b => cases rx; exact SeqAt.EqAt.bool_bool a b
    | int b => obtain ⟨t, rfl⟩ := rx; exact SeqAt.EqAt.bool_int a b t
    | str b => obtain ⟨t, rfl⟩ := rx; exact SeqAt.EqAt.bool_str a b t
    | _ => exact absurd (show false = true from fx) Bool.false_ne_true
  | int a =>
    obtain ⟨t', rfl⟩ := ry
    cases x with
    | non => cases rx; exact SeqAt.EqAt.int_none a t'
    | bl b => cases rx; exact SeqAt.EqAt.int_bool a t' b
    | int b => obtain ⟨t, rfl⟩ := rx; exact SeqAt.EqAt.int_int a t' b t
    | str b => obtain ⟨t, rfl⟩ := rx; exact SeqAt.EqAt.int_str a t' b t
    | _ => exact absurd (show false = true from fx) Bool.false_ne_true
  | str a =>
    obtain ⟨t', rfl⟩ := ry
    cases x with
    | non => cases rx; exact SeqAt.EqAt.str_none a t'
    | bl b => cases rx; exact SeqAt.EqAt.str_bool a t' b
    | int b => obtain ⟨t, rfl⟩ := rx; exact SeqAt.EqAt.str_int a t' b t
    | str b => obtain ⟨t, rfl⟩ := rx; exact SeqAt.EqAt.str_str a t' b t
    | _ => exact absurd (show false = true from fx) Bool.false_ne_true
  | _ => exact absurd (show false = true from fy) Bool.false_ne_true
/-! ### len, list(x), tuple(x) of any list or tuple that is read -/
theorem call_len_seq : CallR X (.builtin "len") (fun xs H Q => ∃ p ys, xs = [.ref p] ∧ (SqL X.K H p ys ∨ SqT X.K H p ys) ∧ Q (.int ys.length) H) := by
  intro pins s σ H xs us Q I r h
  obtain ⟨p, ys, rfl, hq, q⟩ := h
  obtain ⟨u, rfl, rx⟩ := vals1 r
  cases rx
  have hn := line63
  rcases hq with hq | hq
  · obtain ⟨its, r', pl, hz⟩ := I.list hq
    have hlen := r'.length
    exact Calls.call_len_list pl.isList (by simp only [List.size_toArray] <;> omega) ⟨.int ys.length, H, I.tok _, ⟨s.toks + 1, by rw [List.size_toArray, hlen]⟩, q⟩
  · obtain ⟨its, r', pl, hz⟩ := I.tuple hq
    have hlen := r'.length
    exact len_tuple pl (by simp only [List.size_toArray] <;> omega) ⟨.int ys.length, H, I.tok _, ⟨s.toks + 1, by rw [List.size_toArray, hlen]⟩, q⟩
theorem CallR.or {f : Value} {r r' : List V → Hp → VK → Prop} (h : CallR X f r) (h' : CallR X f r') : CallR X f (fun xs H Q => r xs H Q ∨ r' xs H Q) := by
  intro pins s σ H xs us Q I rs q
  rcases q with q | q
  · exact h pins s σ H xs us Q I rs q
  · exact h' pins s σ H xs us Q I rs q
theorem call_list_of : CallR X (.type "list") (fun xs H Q => ∃ p ys, xs = [.ref p] ∧ (SqL X.K H p ys ∨ SqT X.K H p ys) ∧ ∀ l, H l = none → Q (.ref l) (upd H l (.lst ys))) := by
  intro pins s σ H xs us Q I r h
  obtain ⟨p, ys, rfl, hq, q⟩ := h
  obtain ⟨u, rfl, rx⟩ := vals1 r
  cases rx
  have fin : ∀ (its : List Value), Vals ys its → ys.length ≤ sizeLine → ∀ (h' : Heap) (c' : Nat), (∀ b o', s.heap.get? b = some o' → h'.get? b = some o') →
      h'.get? s.heap.objs.size = some { cls := .type "list", dict := none, data := .seq its.toArray c', slots := #[] } → EP X pins σ Q (.ref s.heap.objs.size) { s with heap := h' } := fun its r' hz h' c' kp e =>
    ⟨.ref s.heap.objs.size, _, I.laid (t' := s.toks) kp (Nat.le_refl _) (show ObjOk X.prog X.w _ h' _ (.lst ys) from ⟨hz, its, c', r', e⟩), rfl, q _ (I.hok.fresh (Nat.le_refl _))⟩
  rcases hq with hq | hq
  · obtain ⟨its, r', pl, hz⟩ := I.list hq
    have hlen := r'.length
    obtain ⟨o, ho, hc, n, hd⟩ := pl.isList
    exact call_list_seq p (.inl rfl) ho hc hd (fun h' c' kp e => fin its r' hz h' c' kp e) (by simp only [List.size_toArray] <;> omega)
  · obtain ⟨its, r', pl, hz⟩ := I.tuple hq
    have hlen := r'.length
    obtain ⟨o, ho, hc, n, hd⟩ := pl
    exact call_list_seq p (.inr rfl) ho hc hd (fun h' c' kp e => fin its r' hz h' c' kp e) (by simp only [List.size_toArray] <;> omega)
/-! ### the call of a builtin's method: o.m(..) -/
/-- the value is of that builtin type -/
def tyV (K : PySem.W.Frag) (T : String) (x : V) (H : Hp) : Prop := match x with
  | .str _ => T = "str"
  | .int _ => T = "int"
  | .ref p => (T = "list" ∧ ∃ xs, SqL K H p xs) ∨ (T = "tuple" ∧ ∃ o, K.lookup p = some o ∧ o.cls = .type "tuple" ∧ o.dict = none) ∨
      (T = "dict" ∧ ((∃ kvs, H p = some (.dK kvs)) ∨ ∃ kvs, H p = some (.dT kvs))) ∨ (T = "set" ∧ ∃ S n, H p = some (.set S n))
  | _ => False
theorem tyV_is {pins : List (Addr × Obj)} {σ : St} {H : Hp} {s : Shared} {T : String} {x : V} {v : Value} (I : Inv X pins σ H s) (r : RelV x v) (ty : tyV X.K T x H) :
    s.TypeIs v T ∧ ∀ a, v = .ref a → ∃ ob, s.heap.get? a = some ob ∧ ob.dict = none := by
  cases x with
  | str z =>
    obtain ⟨t, rfl⟩ := r
    cases (show T = "str" from ty)
    exact ⟨typeIs_str s z t, fun _ e => nomatch e⟩
  | int i =>
    obtain ⟨t, rfl⟩ := r
    cases (show T = "int" from ty)
    exact ⟨typeIs_int s i t, fun _ e => nomatch e⟩
  | ref p =>
    cases r
    rcases ty with ⟨rfl, xs, hq⟩ | ⟨rfl, o, hk, hc, hd⟩ | ⟨rfl, hk⟩ | ⟨rfl, S, n, hk⟩
    · obtain ⟨its, _, pl, _⟩ := I.list hq
      refine ⟨pl.isList.typeIs, fun a e => ?_⟩
      cases e
      obtain ⟨o, n, e, c, hd, _⟩ := pl
      exact ⟨o, e, hd⟩
    · refine ⟨⟨o, I.kIn p o hk, hc⟩, fun a e => ?_⟩
      cases e
      exact ⟨o, I.kIn _ o hk, hd⟩
    · have z : ∃ o, s.heap.get? p = some o ∧ o.ExactDict := by
        rcases hk with ⟨kvs, hk⟩ | ⟨kvs, hk⟩
        · obtain ⟨_, _, _, _, o, _, _, e, ex, _⟩ := I.hok p _ hk
          exact ⟨o, e, ex⟩
        · obtain ⟨_, _, _, _, o, _, _, e, ex, _⟩ := I.hok p _ hk
          exact ⟨o, e, ex⟩
      obtain ⟨o, e, ex⟩ := z
      refine ⟨⟨o, e, ex.1⟩, fun a e2 => ?_⟩
      cases e2
      exact ⟨o, e, ex.2.1⟩
    · obtain ⟨o, _, _, _, e, ex, _⟩ := I.hok p _ hk
      refine ⟨⟨o, e, ex.1⟩, fun a e2 => ?_⟩
      cases e2
      exact ⟨o, e, ex.2.1⟩
  | _ => exact False.elim ty
def tBM (K : PySem.W.Frag) (T : String) (r : V → List V → Hp → VK → Prop) (to : TE) (t : TA) : TE := fun σ H Q => to σ H fun x H1 => tyV K T x H1 ∧ t σ H1 fun xs H2 => r x xs H2 Q
variable {o e : Expr} {es : List Expr} {to : TE} {t : TA} {name : Str} {apos cpos : Pos} {T id : String} {r : V → List V → Hp → VK → Prop}
theorem pe_bm (pa : PlainAttrs T) (slot : Slot T name id) (hty : typeOf (.builtin id) = pure (.type "method_descriptor")) (hm : MtR X id r) (ho : PE X o to) (ha : PA X (e :: es) t)
    (hbase : attributeBase o name X.env (eval o X.env) = eval o X.env := by rfl)
    (hfew : ((backTo cpos (starEach (e :: es) X.env)).all (fun x => !x.1) && (backToKw cpos (keywordEach [] X.env)).all (fun x => x.1.isSome)
      && decide ((e :: es).length + ([] : List Keyword).length + (if ([] : List Keyword).isEmpty then 0 else 1) < 30)) = true := by rfl)
    (hline : (apos.endLine == cpos.line) = true := by rfl) (hs : starEach (e :: es) X.env = (false, eval e X.env) :: starEach es X.env := by rfl) (hplain : (backTo cpos (starEach es X.env)).any (·.1) = false := by rfl) :
    PE X (.Call (.Attribute o name apos) (e :: es) [] cpos) (tBM X.K T r to t) := by
  intro pins s σ H Q I h
  refine wpAny_Call_method_late hbase hfew hline rfl (thn (ho pins s σ H _ I h) fun v s1 ⟨x, H1, I1, r1, ty, q1⟩ => ?_)
  obtain ⟨h1, h2⟩ := tyV_is I1 r1 ty
  refine ⟨T, id, pa, slot, hty, h1, h2, ?_⟩
  have hA := ha cpos pins s1 σ H1 _ I1 q1
  rw [hs] at hA ⊢
  refine Calls.callWith_builtin (by show (false || (backTo cpos (starEach es X.env)).any (·.1)) = false; rw [hplain] <;> rfl) (Calls.evalArgs_plain ?_)
  exact thn hA fun us s2 ⟨vs, H2, I2, r2, q2⟩ => hm pins s2 σ H2 x vs v us Q I2 r1 r2 q2
/- xs.append(e), list.index on a module's tuple .. are MtR facts of 06m -/
end
end L2

namespace L2
open PySem PySem.Spec PyProof.Rows

def MtM (X : Cx) (id : String) (r : V → List V → Hp → VK → Prop) : Prop :=
  ∀ (pins : List (Addr × Obj)) (s : Shared) (σ : St) (H : Hp) (x : V) (xs : List V) (v : Value) (us : List Value) (Q : VK), Inv X pins σ H s → RelV x v → Vals xs us → r x xs H Q →
    wpAny (model X.prog X.w) X.A (call (.builtin id) (v :: us)) (EP X pins σ Q) X.xe s

/-! ### lists of values -/
theorem Vals.one : ∀ {x : V} {us : List Value}, Vals [x] us → ∃ u, us = [u] ∧ RelV x u
  | _, _, .cons r .nil => ⟨_, rfl, r⟩
theorem Vals.two : ∀ {x y : V} {us : List Value}, Vals [x, y] us → ∃ u v, us = [u, v] ∧ RelV x u ∧ RelV y v
  | _, _, _, .cons r (.cons q .nil) => ⟨_, _, rfl, r, q⟩
theorem Vals.zero : ∀ {us : List Value}, Vals [] us → us = []
  | _, .nil => rfl
theorem Vals.reverse {xs : List V} {us : List Value} (h : Vals xs us) : Vals xs.reverse us.reverse := by
  induction h with
  | nil => exact .nil
  | cons r t ih => rw [List.reverse_cons, List.reverse_cons]; exact Vals.append ih (.cons r .nil)
section
variable {X : Cx} {pins : List (Addr × Obj)} {σ : St} {H : Hp} {s : Shared} {l b : Addr} {xs ys zs : List V}

/-! ### the two steps: a tracked list is rewritten, a new list is laid -/
theorem Inv.lset {its its' : List Value} {n : Nat} {f : Array Value → Array Value} {t' : Nat} (I : Inv X pins σ H s) (hH : H l = some (.lst xs))
    (e : s.heap.get? l = some { cls := .type "list", data := .seq its.toArray n }) (hf : f its.toArray = its'.toArray) (hv : Vals ys its') (hz : ys.length ≤ sizeLine) :
    Inv X pins σ (upd H l (.lst ys)) { s with heap := s.heap.update l (Obj.mapSeq f), toks := t' } := by
  have q := PySem.IsL.update e f
  rw [hf] at q
  refine I.write (x := l) (e := l) (by rw [hH]; exact trivial) (.inl rfl) (fun b' u hb hu => (Heap.get?_update_other s.heap (Obj.mapSeq f) (Ne.symm hb)).trans hu) ⟨_, q⟩ ?_
  exact ⟨hz, its', _, hv, q⟩
theorem Inv.lnew {its : List Value} {t' : Nat} (I : Inv X pins σ H s) (hv : Vals ys its) (hz : ys.length ≤ sizeLine) :
    Inv X pins σ (upd H s.heap.objs.size (.lst ys)) { s with heap := s.heap.push { cls := .type "list", data := .seq its.toArray }, toks := t' } :=
  I.laid (fun _ _ q => Heap.get?_push_of_some _ q) (Nat.le_refl _) ⟨hz, its, 0, hv, Heap.get?_push_size _ rfl⟩
theorem Inv.fresh (I : Inv X pins σ H s) : H s.heap.objs.size = none := I.hok.fresh (Nat.le_refl _)
theorem Inv.lstM (I : Inv X pins σ H s) (hH : H l = some (.lst xs)) : xs.length ≤ sizeLine ∧ ∃ (its : List Value) (n : Nat), Vals xs its ∧ xs.length = its.length ∧ s.heap.get? l = some { cls := .type "list", data := .seq its.toArray n } := by
  obtain ⟨z, its, n, r, e⟩ := I.hok l _ hH
  exact ⟨z, its, n, r, r.length, e⟩

end

section
variable {X : Cx}

/-! ### methods -/
def rAppend : V → List V → Hp → VK → Prop := fun x vs H Q => ∃ l xs y, x = .ref l ∧ vs = [y] ∧ H l = some (.lst xs) ∧ xs.length < sizeLine ∧ Q .non (upd H l (.lst (xs ++ [y])))
theorem mt_append : MtM X "list.append" rAppend := by
  intro pins s σ H x vs v us Q I rx rv h
  obtain ⟨l, xs, y, rfl, rfl, hH, hz, q⟩ := h
  cases rx
  obtain ⟨u, rfl, ru⟩ := rv.one
  obtain ⟨z, its, n, r, hl, e⟩ := I.lstM hH
  refine call_meets F.slot_list_append ⟨_, e, rfl⟩ F.entry_list_append (F.args_list_append_2 _ _) (PySem.list_append l its.toArray n u (by rw [List.size_toArray]; omega)) ⟨e, ?_⟩
  refine ⟨.non, _, I.lset (its' := its ++ [u]) hH e (by simp) (r.append (.cons ru .nil)) ?_, rfl, q⟩
  rw [List.length_append, List.length_singleton]
  omega

/-! ### list + list, list += list, list * int -/
def rCat : R2 := fun x y H Q => ∃ l b xs zs, x = .ref l ∧ y = .ref b ∧ H l = some (.lst xs) ∧ H b = some (.lst zs) ∧ xs.length + zs.length ≤ sizeLine ∧ ∀ p, H p = none → Q (.ref p) (upd H p (.lst (xs ++ zs)))
theorem op_cat : OpR X (binaryOp .Add) rCat := by
  intro pins s σ H x y v u Q I rx ry h
  obtain ⟨l, b, xs, zs, rfl, rfl, hH, hB, hz, q⟩ := h
  cases rx
  cases ry
  obtain ⟨z, its, n, r, hl, e⟩ := I.lstM hH
  obtain ⟨z2, its2, n2, r2, hl2, e2⟩ := I.lstM hB
  refine PySem.P.add_list e e2 ?_ (by rw [List.size_toArray, List.size_toArray]; omega)
  have ea : its.toArray ++ its2.toArray = (its ++ its2).toArray := by simp
  rw [ea]
  exact ⟨.ref _, _, I.lnew (t' := s.toks) (r.append r2) (by rw [List.length_append]; omega), rfl, q _ I.fresh⟩
/-! ### del xs[i] -/
end

/-! ### xs[a:b] = ys -/
section
variable {prog : Program} {w : World} {A : Around} {E : Value → Shared → Prop} {s : Shared}
set_option maxRecDepth 100000 in
end

section
variable {X : Cx}
end
end L2

namespace Att
open PySem PySem.W PySem.Calls PyProof.Rows

/-! ### the script -/
theorem ints_of_wellAll {P : Params} {h : Heap} : ∀ (ns : List Int) (vs : List Value), WellAll P h vs (ns.map WData.int) → IntsAre vs ns := by
  intro ns
  induction ns with
  | nil =>
    intro vs w
    rw [List.map_nil] at w
    cases w
    exact .nil
  | cons n ns ih =>
    intro vs w
    rw [List.map_cons] at w
    cases w with
    | cons a b =>
      cases a
      exact .cons _ _ (ih _ b)

theorem script_of {l : OpenLaw} {n : Nat} (hn : l.most = some n) {P : Params} {h : Heap} {args : List WData} {vals : List Value}
    (hpre : l.row.toRowW.claim.pre args = true) (hwl : WellAll P h vals args) :
    ∃ a vs ns, vals = [Value.ref a] ∧ args = [WData.list (ns.map WData.int)] ∧ h.get? a = some { cls := .type "list", data := .seq vs.toArray } ∧ IntsAre vs ns ∧ ns.length ≤ n := by
  have hsh : WShape.hasAll [] args [.list .int] = true := (pre_splitW hpre).1
  have hc : l.pre.holds [] { args := args } = true := (pre_splitW hpre).2
  obtain ⟨d, r, rfl, h1, h2⟩ := hasAllW_cons hsh
  obtain rfl := hasAllW_nil h2
  obtain ⟨xs, rfl, h3⟩ := hasW_list h1
  obtain ⟨ns, rfl⟩ := items_int h3
  have hlen : ns.length ≤ n := by
    unfold OpenLaw.pre at hc
    have h4 : (WTm.not (.lt (.lit (.int (n : Int))) (.len (.arg 0)))).holds [] { args := [.list (ns.map .int)] } = true := by
      have h4 := (holds_andW hc).1
      rw [hn] at h4
      exact h4
    have h5 := condW_of h4 (w_not (w_lt w_lit (w_len_list (w_arg rfl))))
    rw [List.length_map] at h5
    refine Nat.le_of_not_lt fun q => ?_
    have q' : (n : Int) < ((ns.length : Nat) : Int) := by omega
    first
      | (rw [decide_eq_true q'] at h5; exact absurd h5 (by decide))
      | (simp at h5; omega)
  cases hwl with
  | cons w1 w2 =>
    cases w2
    cases w1 with
    | list ho hall => exact ⟨_, _, ns, rfl, rfl, ho, ints_of_wellAll ns _ hall, hlen⟩

theorem post_true (l : OpenLaw) (args : List WData) : l.row.toRowW.claim.post args (.bool true) args = true :=
  postW_of (r := l.row.toRowW) (X := (true == true))
    (show WShape.has [] (.bool true) .bool = true by first | rfl | decide | simp [WShape.has, WShape.arms, WShape.armsAll])
    (show (WTm.eq .res (.lit (.bool true))).value [] { args := args, res := some (.bool true), after := args } = some (.bool (true == true)) from w_eq_bool (w_res rfl) w_lit) rfl

/-! ### the attachment: holds_open's last premise (the goal 'hc' behind k_head) from a wpAny of the law's body -/
/-- the same from a codeAny of the CALL (for a layer whose function contracts speak of calls) -/
theorem attach_call {l : OpenLaw} {n : Nat} {q : Program} {loose : List Str} {XP : (Str → Option Value) → Heap → Prop} {YP : World → Heap → Prop} {d : DefRec}
    (hn : l.most = some n) (hdf : d.params.defaults = [])
    (call : ∀ (w : World) (s₀ s₁ : Shared) (mg mb : Str → Option Value) (fa : Addr) (o : Obj) (pm cd doc : Value) (a : Addr) (vs : List Value) (ns : List Int),
      Ground q loose [] XP w s₀ mg mb s₁.heap → YP w s₁.heap →
      s₁.heap.get? fa = some o → o.data = .func (docDef d.name d.params d.body d.scope pm cd doc) → s₁.heap.CodeRec cd d.name → mg d.name = some (.ref fa) →
      s₁.heap.get? a = some { cls := .type "list", data := .seq vs.toArray } → IntsAre vs ns → ns.length ≤ n → s₁.gens = #[] →
      codeAny (model l.prog w) callerA (.call (.ref fa) ⟨[.ref a], []⟩) (fun r s' => r = .ok (.ret (.bool true)) ∧ OldK s₁.heap s'.heap ∧ s'.os = s₁.os ∧ AllBare s'.gens) s₁) :
    WalkO q loose XP YP l.row.toRowW d [] (fun f vs => PySem.call f vs) := by
  intro w s₀ s₁ mg mb G Y fa o pm cd doc dV kV ho hd hcd hD hmg hg args vals as hpre hlay hrd hwl hlo
  obtain rfl : dV = .none := Dflts.none hD hdf
  obtain rfl : kV = .none := Dflts.noKw hD
  obtain ⟨a, vs, ns, rfl, rfl, hobj, hints, hlen⟩ := script_of hn hpre hwl
  refine enter_call (codeAny_mono (call w s₀ s₁ mg mb fa o pm cd doc a vs ns G Y ho (fd_plain hd) hcd hmg hobj hints hlen hg) fun r s' hq => ?_)
  obtain ⟨rfl, h2, h3, h4⟩ := hq
  exact ⟨.inl ⟨.bool true, .bool true, [], rfl, fun _ => rfl, .bool true, post_true l _, fun _ => ⟨List.Pairwise.nil, fun _ hm => (nomatch hm)⟩⟩, h2, h3, h4⟩

/-! ### rules over ANY heap (no ledger) from facts about the written part K: the library's own take a ledger (News) for what they write -/
section
variable {prog : Program} {w : World} {A : Around} {E : Value → Shared → Prop} {s : Shared} {K : Frag}

/-! the whole heap as the ledger: makes every rule that writes through a ledger a rule over any heap -/
def ledger (h : Heap) (L d : Addr) : List (Addr × Obj) := (List.range h.objs.size).filterMap fun a => if a = L ∨ a = d then none else (h.get? a).map fun o => (a, o)
end
end Att

namespace L2
open PySem PySem.Spec PyProof.Rows

theorem vals_ints : ∀ {vs : List Value} {ns : List Int}, IntsAre vs ns → Vals (ns.map V.int) vs
  | _, _, .nil => .nil
  | _, _, .cons n t h => .cons ⟨t, rfl⟩ (vals_ints h)

/-- nothing is tracked but the script, known to the object (or it is an object of the module) -/
def Only (H : Hp) : Prop := ∀ b, H b = none ∨ ∃ o xs, H b = some (.frz o (.lst xs))

/-- THE HEAD: the law's promise, at the heap behind the top. F, the promise of the law's def, may use that base is part of the heap (so K.In base, base.Ns mainGlobals mg stand in Mod) -/
theorem law_call {P : Program} {w : World} {K : PySem.W.Frag} {mg mb : Str → Option Value} {CX : CXT} {k : Nat} {fa a : Addr} {fd : FuncData} {x : Str} {sp : Sp} {s₁ : Shared} {vs : List Value} {ns : List Int}
    (KX : K.In s₁.heap) (hns : s₁.heap.Ns mainGlobals mg) (hb : s₁.heap.Ns builtinsNs mb) (hbb : ∀ x : Str, x ≠ "__name__" → mb x = bootBuiltins x) (hlim : s₁.heap.NoLimit) (hg : s₁.gens = #[])
    (ha : s₁.heap.get? a = some { cls := .type "list", data := .seq vs.toArray }) (hi : IntsAre vs ns) (hl : ns.length ≤ sizeLine) (hr : Room k callerA)
    (F : ∀ base : Heap, K.In base → base.Ns mainGlobals mg → FnOk P w K mg base CX k fa fd [x] sp) (hbind : ∀ (s : Shared) (u : Value), BindsTo s fd ⟨[u], []⟩ [(x, u)])
    (hsp : ∀ H : Hp, Only H → SqL K H a (ns.map V.int) → sp [.ref a] H (fun v _ => v = .bl true) fun _ _ _ => False)
    (hCX : ∀ H e s', CX [] H s₁ (fun _ _ _ => False) e s' → False) :
    codeAny (model P w) callerA (.call (.ref fa) ⟨[.ref a], []⟩) (fun r s' => r = .ok (.ret (.bool true)) ∧ OldK s₁.heap s'.heap ∧ s'.os = s₁.os ∧ AllBare s'.gens) s₁ := by
  have rv := vals_ints hi
  have lenV := hi.length
  -- from an abstract heap in which nothing but the script may be tracked
  have core : ∀ H : Hp, Only H → SqL K H a (ns.map V.int) → HOk P w H s₁.heap → (∀ b, H b ≠ none → b = a) → (H a ≠ none → K.lookup a = none) →
      codeAny (model P w) callerA (.call (.ref fa) ⟨[.ref a], []⟩) (fun r s' => r = .ok (.ret (.bool true)) ∧ OldK s₁.heap s'.heap ∧ s'.os = s₁.os ∧ AllBare s'.gens) s₁ := by
    intro H hO hS hok hA hK
    have base_of : ∀ {b : Addr} {o : Obj}, s₁.heap.get? b = some o → H b = none → (hidT s₁.heap H).get? b = some o := fun e n => hidT_get e n
    have noA : ∀ {b : Addr} {o : Obj} {es : Array DictEntry} {ep : Nat}, s₁.heap.get? b = some o → o.data = .dict es ep → H b = none := fun {b o es ep} e d => by
      cases q : H b with
      | none => rfl
      | some u =>
        have e' : b = a := hA b (by rw [q]; simp)
        subst e'
        rw [ha] at e; cases e
        have d' : Data.seq vs.toArray _ = Data.dict es ep := d
        cases d'
    have nsK : ∀ {b : Addr} {m : Str → Option Value}, s₁.heap.Ns b m → (hidT s₁.heap H).Ns b m := fun {b m} ⟨o, es, ep, e, d, r⟩ => ⟨o, es, ep, base_of e (noA e d), d, r⟩
    have hKb : K.In (hidT s₁.heap H) := fun b o e => base_of (KX b o e) (by
      cases q : H b with
      | none => rfl
      | some u =>
        have e' : b = a := hA b (by rw [q]; simp)
        subst e'
        rw [hK (by rw [q]; simp)] at e; cases e)
    have hM : Mod K mg (hidT s₁.heap H) := ⟨hKb, nsK hns, ⟨mb, nsK hb, hbb⟩, let ⟨mc, h1, h2⟩ := hlim; ⟨mc, nsK h1, h2⟩⟩
    have e0 : Env0 P w K mg (hidT s₁.heap H) callerA [] s₁ H := ⟨rfl, hM, fun b o e => of_hidT e, Nat.le_of_eq (hidT_size _ _), trivial, fun b hb => absurd (show b ∈ ([] : List Addr) from hb) (by simp), hok, .of_eq hg⟩
    refine codeAny_mono ((F _ hKb (nsK hns)).run callerA [] s₁ H ⟨[.ref a], []⟩ [.ref a] [.ref a] _ _ hr e0 (hbind s₁ (.ref a)) (.cons rfl .nil) (hsp H hO hS)) fun r s' h => ?_
    cases r with
    | error e => exact (hCX H e s' h).elim
    | ok fl =>
      cases fl with
      | next => exact False.elim h
      | brk => exact False.elim h
      | cont => exact False.elim h
      | ret u =>
        obtain ⟨v, H', os, bare, un, hok', r', q⟩ := h
        have q' : v = .bl true := q
        subst q'
        obtain rfl : u = Value.bool true := r'
        refine ⟨rfl, OldK.of_keep fun b o e => ?_, os, bare⟩
        cases q : H b with
        | none => exact un.keep b o e q (by intro z; exact absurd (show b ∈ ([] : List Addr) from z) (by simp)) (by simp)
        | some u =>
          rcases hO b with z | ⟨ob, xs, z⟩
          · rw [q] at z; cases z
          · have z2 := un.frzs b ob _ z
            obtain ⟨e1, _⟩ := hok b _ z
            obtain ⟨e2, _⟩ := hok' b _ z2
            rw [e] at e1; cases e1
            exact e2
  cases hk : K.lookup a with
  | some o =>
    -- the script is one of the module's own objects
    have e := KX a o hk
    rw [ha] at e
    cases e
    refine core (fun _ => none) (fun _ => .inl rfl) (.inr ⟨_, vs.toArray, _, hk, rfl, rfl, rfl, by rw [List.size_toArray, lenV]; exact hl, by simpa using rv⟩) (fun b u z => by have z' : (none : Option HO) = some u := z; cases z') (fun b z => absurd rfl z) fun z => absurd rfl z
  | none =>
    refine core (fun b => if b = a then some (.frz { cls := .type "list", data := .seq vs.toArray } (.lst (ns.map V.int))) else none) (fun b => ?_) (.inl (.inr ⟨{ cls := .type "list", data := .seq vs.toArray }, if_pos rfl⟩)) (fun b u z => ?_) (fun b z => ?_) fun _ => hk
    · by_cases hb : b = a
      · exact .inr ⟨_, _, if_pos hb⟩
      · exact .inl (if_neg hb)
    · by_cases hb : b = a
      · have z' := (if_pos hb).symm.trans z
        cases z'
        subst hb
        exact ⟨ha, by rw [List.length_map]; exact hl, vs, _, rv, ha⟩
      · have z' := (if_neg hb).symm.trans z
        cases z'
    · by_cases hb : b = a
      · exact hb
      · exact absurd (if_neg hb) z
end L2

namespace L2
open PySem PySem.Spec PyProof.Rows

abbrev KOf {K : PySem.W.Frag} {h : Heap} (_ : K.In h) : PySem.W.Frag := K

/-- the goal that k_head leaves (case hc), from the law's promise. F gives the function object fd (K's own) once, then the promise over every base -/
theorem walk_of {l : PySem.W.OpenLaw} {n k : Nat} {q : Program} {loose : List Str} {XP : (Str → Option Value) → Heap → Prop} {YP : World → Heap → Prop} {d : DefRec} {K : Params → PySem.W.Frag} {CX : World → CXT} {sp : World → Sp} {x : Str}
    (hn : l.most = some n) (hn2 : n ≤ sizeLine) (hdf : d.params.defaults = []) (hr : Room k callerA)
    (hY : ∀ (w : World) (h : Heap), YP w h → (K w.params).In h)
    (F : ∀ (w : World) (mg : Str → Option Value) (fa : Addr) (h : Heap), (K w.params).In h → h.Ns mainGlobals mg → mg d.name = some (.ref fa) →
      ∃ fd : FuncData, (∀ (s : Shared) (u : Value), BindsTo s fd ⟨[u], []⟩ [(x, u)]) ∧
        ∀ base : Heap, (K w.params).In base → base.Ns mainGlobals mg → FnOk l.prog w (K w.params) mg base (CX w) k fa fd [x] (sp w))
    (hsp : ∀ (w : World) (H : Hp) (a : Addr) (ns : List Int), ns.length ≤ n → Only H → SqL (K w.params) H a (ns.map V.int) → sp w [.ref a] H (fun v _ => v = .bl true) fun _ _ _ => False)
    (hCX : ∀ (w : World) (H : Hp) (s : Shared) (e : Value) (s' : Shared), CX w [] H s (fun _ _ _ => False) e s' → False) :
    PySem.W.WalkO q loose XP YP l.row.toRowW d [] (fun f vs => PySem.call f vs) := by
  refine Att.attach_call hn hdf fun w s₀ s₁ mg mb fa o pm cd doc a vs ns G Y ho hd hcd hmg hobj hints hlen hg => ?_
  have KX := hY w _ Y
  obtain ⟨fd, hb, hF⟩ := F w mg fa _ KX G.T.g hmg
  exact law_call KX G.T.g G.T.b G.T.builtins G.T.nolimit hg hobj hints (Nat.le_trans hlen hn2) hr hF hb (fun H hO hS => hsp w H a ns hlen hO hS) fun H e s' => hCX w H s₁ e s'
end L2

/- THE LAST THEOREM (shape; LID, My.* are yours):
   My.Adr: a structure of the addresses that your layer names (classes, functions); My.Txt K t: a structure (Prop) of the equations over K;
   My.txt_mk : {K} {implicit addresses ..} (e1 : nsIn K mainGlobals "law" = some (some (.ref f))) (e2 : K.lookup f = some ⟨oc, od, .func (fnOf "law" "law" params body scope dV kV doc pm an cdv ct), sl⟩) (e3 : codeIn K cdv "law" = true) .. : ∃ t, My.Txt K t

set_option maxRecDepth 100000 in
set_option maxHeartbeats 0 in
theorem PySem.Challenge.cw_LID_holds : PySem.Challenge.rw_LID.Holds := by
  w_on; o_law; k_head; (case hw => w_witness2)
  k_fill
  refine L2.walk_of (l := PySem.Challenge.rw_LID) (n := 63) (k := 40) (x := "script") (CX := fun w => ..) (sp := fun _ => My.sp_law) rfl (by decide) rfl ⟨rfl, by decide, by decide⟩ (fun w h Y => PySem.W.kIn_of Y) ?F ?S ?C
  case F =>
    intro w mg fa h KX G hmg
    have T : ∃ t, My.Txt (L2.KOf KX) t := by
      dsimp only [L2.KOf]                          -- K must stand as «<heap const> w.params» for k_is
      refine' My.txt_mk ?e1 ?e2 ?e3 ..
      (case e1 => PySem.W.k_is)                    -- in the order: a name -> its address -> its object -> its parts
      (case e2 => PySem.W.k_is)
      ..
    obtain ⟨t, T⟩ := T
    have e0 := hmg.symm.trans (PySem.W.mg_of KX G T.law)
    cases e0                                       -- fa is the law's own address
    exact ⟨_, fun s u => .of_eq rfl, fun base kb nb => My.law_fn T kb nb⟩     -- if «.of_eq rfl» comes too early: refine' ⟨_, ?b, fun base kb nb => My.law_fn T kb nb⟩; exact fun s u => .of_eq rfl
  case S => exact fun w H a ns hl hO hS => ..
  case C => exact ..
(the tactic k_is has no namespace: write k_is) -/

/-! SHORT WORDS over the layer: a def of the text, its body, what a loop and a test want. -/
namespace L2
open PySem PySem.Spec PyProof.Rows

/-! ### the text by places -/
/-- the j-th statement of a class's body -/
def inClass (s : Stmt) (j : Nat) : Stmt := match s with
  | .ClassDef _ _ _ body _ _ _ _ _ _ _ => body.getD j (.Pass ⟨0, 0, 0, 0⟩)
  | _ => .Pass ⟨0, 0, 0, 0⟩
def defArgs (s : Stmt) : Arguments := match s with
  | .FunctionDef _ a _ _ _ _ _ _ _ _ => a
  | _ => { posonlyargs := [], args := [], vararg := none, kwonlyargs := [], kw_defaults := [], kwarg := none, defaults := [] }
def defBody (s : Stmt) : List Stmt := match s with
  | .FunctionDef _ _ b _ _ _ _ _ _ _ => b
  | _ => []
def defScope (s : Stmt) : Scope := match s with
  | .FunctionDef _ _ _ _ _ _ sc _ _ _ => sc
  | _ => { kind := .function, names := [], isGenerator := false, isCoroutine := false }

/-! ### no exception leaves a def -/
abbrev CX0 : CXT := fun _ _ _ _ _ _ => False
abbrev E0 : XK := fun _ _ _ => False
theorem pass0 {X : Cx} : Passes CX0 X E0 := fun _ _ _ _ _ _ _ h => h.elim

/-! ### a def (or method) of the text as it stands behind the top -/
structure Fun (K : PySem.W.Frag) (x qual : Str) (st : Stmt) (f : Addr) (fd : FuncData) : Prop where
  ex : ∃ (oc : Value) (od : Option Addr) (kV doc pm : Value) (an : Option Addr) (cdv ct : Value) (osl : Array (Option Value)),
    fd = PySem.W.fnOf x qual (defArgs st) (defBody st) (defScope st) .none kV doc pm an cdv ct ∧ K.lookup f = some ⟨oc, od, .func fd, osl⟩ ∧ PySem.W.codeIn K cdv qual = true
  kp : PySem.W.keepIn K (.ref f) = true
section
variable {P : Program} {w : World} {K : PySem.W.Frag} {mg : Str → Option Value} {base : Heap}
/-- THE RULE for a def: its body as a term of rules, and the reading of that term -/
theorem Fun.ok {x qual : Str} {st : Stmt} {f : Addr} {fd : FuncData} {N ps : List Str} {k : Nat} {sp : Sp} (F : Fun K x qual st f fd) (S : FnScope N ps (defScope st)) (len : ∀ vs H Q E, sp vs H Q E → vs.length = ps.length)
    (hbody : ∀ (cdv : Value) (A : Around) (outer : List Env) (s : Shared) (H : Hp) (vs : List V) (Q : VK) (E : XK), Room k (A.deeper (envOfC qual (defScope st) s.heap.objs.size f cdv)) → sp vs H Q E →
      ∃ t, PSs (cxOf CX0 P w K mg base N qual (defScope st) f cdv A outer s H E).nox (defBody st) t ∧ t { nx := fun _ H' => Q .non H', rt := Q } (start N vs) H) : FnOk P w K mg base CX0 (k + 1) f fd ps sp := by
  obtain ⟨oc, od, kV, doc, pm, an, cdv, ct, osl, rfl, lk, hcd⟩ := F.ex
  refine fn_of lk hcd S len fun A outer s H vs Q E hr hsp => ?_
  obtain ⟨t, h, q⟩ := hbody cdv A outer s H vs Q E hr hsp
  exact ⟨t, h.nox, q⟩
/-- how its arguments bind (no defaults): h is «fun _ _ _ _ _ _ us hl => match us, hl with | [_, _], _ => rfl», one _ a parameter -/
theorem Fun.binds {x qual : Str} {st : Stmt} {f : Addr} {fd : FuncData} {ps : List Str} (F : Fun K x qual st f fd)
    (h : ∀ (kV doc pm : Value) (an : Option Addr) (cdv ct : Value) (us : List Value), us.length = ps.length → bindArgs (PySem.W.fnOf x qual (defArgs st) (defBody st) (defScope st) .none kV doc pm an cdv ct) ⟨us, []⟩ = pure (ps.zip us)) : Binds K fd ps [] := by
  obtain ⟨oc, od, kV, doc, pm, an, cdv, ct, osl, rfl, lk, hcd⟩ := F.ex
  exact .all (h kV doc pm an cdv ct)
theorem fun_mk {x qual : Str} {st : Stmt} {f : Addr} {oc : Value} {od an : Option Addr} {osl : Array (Option Value)} {kV doc pm cdv ct : Value} (l : K.lookup f = some ⟨oc, od, .func (PySem.W.fnOf x qual (defArgs st) (defBody st) (defScope st) .none kV doc pm an cdv ct), osl⟩)
    (c : PySem.W.codeIn K cdv qual = true) (k : PySem.W.keepIn K (.ref f) = true) : Fun K x qual st f (PySem.W.fnOf x qual (defArgs st) (defBody st) (defScope st) .none kV doc pm an cdv ct) := ⟨⟨oc, od, kV, doc, pm, an, cdv, ct, osl, rfl, l, c⟩, k⟩
end
theorem hu_of {A : Around} {k : Nat} (hr : Room k A) : A.units + 1 < cLine := Nat.lt_of_le_of_lt (Nat.add_le_add_left (by decide : 1 ≤ 64) _) hr.units
/-! ### expressions in short: the name that stands in the i-th slot -/
section
variable {X : Cx}
theorem pv (i : Nat) {x : Str} {pos : Pos} (hN : X.N[i]? = some x := by rfl) (hv : Vis X.env.scope x := by first | exact Or.inl rfl | exact Or.inr (Or.inl rfl) | exact Or.inr (Or.inr rfl)) (hd : (x == ("__debug__" : Str)) = false := by decide)
    (hcd : (x == ("__classdict__" : Str)) = false := by decide) : PE X (.Name x pos) (tVar i) := pe_var hN hv hd hcd
end

/-! ### tests -/
theorem iteF {A B : Prop} (h : B) : if false = true then A else B := by
  rw [if_neg Bool.false_ne_true]
  exact h
theorem iteT {A B : Prop} (h : A) : if true = true then A else B := by
  rw [if_pos rfl]
  exact h
theorem ite2 {c A B : Prop} [Decidable c] (h1 : c → A) (h2 : ¬ c → B) : if c then A else B := by
  by_cases h : c
  · rw [if_pos h]
    exact h1 h
  · rw [if_neg h]
    exact h2 h
/-! ### heaps -/
/-- all that was tracked is as it was -/
def Same (H H' : Hp) : Prop := ∀ b o, H b = some o → H' b = some o
theorem Same.refl (H : Hp) : Same H H := fun _ _ h => h
theorem Same.trans {H H1 H2 : Hp} (a : Same H H1) (b : Same H1 H2) : Same H H2 := fun c o h => b c o (a c o h)
theorem Same.free {H H' : Hp} (e : Same H H') {l : Addr} (h : H' l = Option.none) : H l = Option.none := by
  cases q : H l with
  | none => rfl
  | some o =>
    rw [e l o q] at h
    cases h
theorem Same.seq {K : PySem.W.Frag} {H H' : Hp} {a : Addr} {xs : List V} (e : Same H H') (h : SqL K H a xs) : SqL K H' a xs := by
  rcases h with (h | ⟨o, h⟩) | h
  · exact .inl (.inl (e _ _ h))
  · exact .inl (.inr ⟨o, e _ _ h⟩)
  · exact .inr h

end L2
set_option Elab.async false
set_option linter.all false
set_option maxRecDepth 100000
set_option maxHeartbeats 4000000
namespace L2
open PySem PySem.Spec PyProof.Rows

/-! ### the cells that a comprehension's block takes over -/
def clo (cells : List (Str × Addr)) : List (Str × NameKind) → List (Str × Addr) → List (Str × Addr)
  | [], cs => cs
  | p :: r, cs => clo cells r (if (p.2 == NameKind.free) = true then (match cells.lookup p.1 with | some a => (p.1, a) :: cs | none => cs) else cs)

theorem clo_run {env : Env} {f : Str × NameKind → List (Str × Addr) → Sem (ForInStep (List (Str × Addr)))}
    (hf : ∀ p cs, f p cs = if (p.2 == NameKind.free) = true then (cellOf env p.1 >>= fun a => pure (ForInStep.yield ((p.1, a) :: cs))) else pure (ForInStep.yield cs)) :
    ∀ (names : List (Str × NameKind)) (cs : List (Str × Addr)), (∀ p ∈ names, p.2 = .free → ∃ a, env.cells.lookup p.1 = some a) →
      (forIn names cs f : Sem (List (Str × Addr))) = pure (clo env.cells names cs) := by
  intro names
  induction names with
  | nil => intro cs _; rfl
  | cons p r ih =>
    intro cs h
    have hr := fun cs => ih cs fun q hq => h q (List.mem_cons_of_mem _ hq)
    rw [List.forIn_cons, hf]
    by_cases hk : p.2 = .free
    · obtain ⟨a, ha⟩ := h p List.mem_cons_self hk
      have hb : (p.2 == NameKind.free) = true := by rw [hk]; rfl
      rw [if_pos hb]
      have hc : cellOf env p.1 = pure a := by unfold cellOf; rw [ha]
      rw [hc]
      show (forIn r ((p.1, a) :: cs) f : Sem _) = _
      rw [hr, clo, if_pos hb, ha]
    · have hb : ¬ (p.2 == NameKind.free) = true := by simpa using hk
      rw [if_neg hb]
      show (forIn r cs f : Sem _) = _
      rw [hr, clo, if_neg hb]
theorem clo_for {env : Env} {scope : Scope} (h : ∀ p ∈ scope.names, p.2 = .free → ∃ a, env.cells.lookup p.1 = some a) : closureFor scope env = pure (clo env.cells scope.names []) := by
  simp only [closureFor]
  rw [clo_run (env := env) (fun p cs => by obtain ⟨n, k⟩ := p; cases hk : (k == NameKind.free) <;> simp [hk] <;> rfl) scope.names [] h]
  rfl
theorem clo_old {cells : List (Str × Addr)} {x : Str} {c : Addr} : ∀ (names : List (Str × NameKind)) (cs : List (Str × Addr)), (clo cells names cs).lookup x = some c → cells.lookup x = some c ∨ cs.lookup x = some c := by
  intro names
  induction names with
  | nil => intro cs h; exact .inr h
  | cons p r ih =>
    intro cs h
    rw [clo] at h
    rcases ih _ h with e | e
    · exact .inl e
    · split at e
      · cases ha : cells.lookup p.1 with
        | none => rw [ha] at e; exact .inr e
        | some a =>
          rw [ha] at e
          rw [List.lookup_cons] at e
          cases hx : x == p.1 with
          | true =>
            rw [hx] at e
            have : x = p.1 := by simpa using hx
            subst this
            left
            rw [ha]; exact e
          | false => rw [hx] at e; exact .inr e
      · exact .inr e
theorem clo_new {cells : List (Str × Addr)} {x : Str} {a : Addr} (ha : cells.lookup x = some a) : ∀ (names : List (Str × NameKind)) (cs : List (Str × Addr)),
    ((x, NameKind.free) ∈ names ∨ cs.lookup x = some a) → (clo cells names cs).lookup x = some a := by
  intro names
  induction names with
  | nil => intro cs h; rcases h with h | h
           · cases h
           · exact h
  | cons p r ih =>
    intro cs h
    rw [clo]
    by_cases hr : (x, NameKind.free) ∈ r
    · exact ih _ (.inl hr)
    · refine ih _ (.inr ?_)
      by_cases hb : (p.2 == NameKind.free) = true
      · rw [if_pos hb]
        by_cases hx : x = p.1
        · subst hx
          rw [ha]
          simp [List.lookup_cons]
        · have h2 : cs.lookup x = some a := by
            rcases h with h | h
            · rcases List.mem_cons.mp h with e | e
              · exact absurd (congrArg Prod.fst e) hx
              · exact absurd e hr
            · exact h
          cases hc : cells.lookup p.1 with
          | none => exact h2
          | some b =>
            have hx' : (x == p.1) = false := by simpa using hx
            simp [List.lookup_cons, hx', h2]
      · rw [if_neg hb]
        rcases h with h | h
        · rcases List.mem_cons.mp h with e | e
          · exact absurd (by rw [← e]; rfl) hb
          · exact absurd e hr
        · exact h

theorem mem_lookup {α β : Type} [BEq α] [LawfulBEq α] {x : α} {y : β} : ∀ {l : List (α × β)}, l.lookup x = some y → (x, y) ∈ l
  | [], h => by cases h
  | p :: r, h => by
    rw [List.lookup_cons] at h
    cases hx : x == p.1 with
    | true =>
      rw [hx] at h
      have e : x = p.1 := by simpa using hx
      cases h
      rw [e]
      exact List.mem_cons_self
    | false => rw [hx] at h; exact List.mem_cons_of_mem _ (mem_lookup h)

/-- how a name of the block is seen behind the relabelling -/
theorem relabG {f : Str × NameKind → Str × NameKind} (hf : ∀ p, f p = p ∨ (p.2 = .free ∧ f p = (p.1, .cell))) {x : Str} : ∀ {names : List (Str × NameKind)}, (names.map f).lookup x = names.lookup x ∨ (names.lookup x = some .free ∧ (names.map f).lookup x = some .cell)
  | [] => .inl rfl
  | p :: r => by
    have ih := @relabG f hf x r
    rw [List.map_cons]
    rcases hf p with e | ⟨e1, e2⟩
    · rw [e, List.lookup_cons, List.lookup_cons]
      cases hx : x == p.1 with
      | true => exact .inl rfl
      | false => exact ih
    · rw [e2, List.lookup_cons, List.lookup_cons]
      cases hx : x == p.1 with
      | true => exact .inr ⟨congrArg some e1, rfl⟩
      | false => exact ih
theorem relab {env : Env} {x : Str} {names : List (Str × NameKind)} :
    ((names.map fun (n, k) => if (k == NameKind.free && env.scope.kind == .function && env.kindOf n == some .cell) then (n, NameKind.cell) else (n, k)).lookup x = names.lookup x) ∨
    (names.lookup x = some .free ∧ (names.map fun (n, k) => if (k == NameKind.free && env.scope.kind == .function && env.kindOf n == some .cell) then (n, NameKind.cell) else (n, k)).lookup x = some .cell) := by
  refine relabG (fun p => ?_)
  obtain ⟨n, k⟩ := p
  by_cases hc : (k == NameKind.free && env.scope.kind == .function && env.kindOf n == some .cell) = true
  · right
    have hk : k = .free := by
      simp only [Bool.and_eq_true, beq_iff_eq] at hc
      exact hc.1.1
    exact ⟨hk, by show (if _ then _ else _) = _; rw [if_pos hc]⟩
  · left
    show (if _ then _ else _) = _
    rw [if_neg hc]

/-! ### the block's context -/
def cxB (X : Cx) (NB : List Str) (scope : Scope) (cl : List (Str × Addr)) (C : Addr) (fp : List Addr) (s : Shared) (H : Hp) : Cx where
  prog := X.prog
  w := X.w
  K := X.K
  mg := X.mg
  base := X.base
  A := X.A
  N := NB
  s₀ := s
  H₀ := H
  env := compEnvC scope cl C X.env
  outer := X.stack
  stack := X.stack
  ex := fp
  fn := fun _ => false
  calm := X.calm
  pn := []
  xe := fun _ _ => False

/-- the tests of a clause -/
def PIfs (X : Cx) (ifs : List Expr) (t : TT) : Prop :=
  ∀ (pins : List (Addr × Obj)) (s : Shared) (σ : St) (H : Hp) (Q : Bool → Hp → Prop), Inv X pins σ H s → t σ H Q →
    wpAny (model X.prog X.w) X.A (forIn ifs true fun c r => if r = true then do let ok ← isTrue c X.env (eval c X.env); pure (ForInStep.yield ok) else pure (ForInStep.yield r)) (TP X pins σ Q) X.xe s
theorem pifs_one {X : Cx} {c : Expr} {t : TT} (h : PT X c t) : PIfs X [c] t := fun pins s σ H Q I q => wpAny_tests_one (h pins s σ H Q I q)

section
variable {prog : Program} {w : World} {A : Around} {R : Result → Shared → Prop} {s : Shared}
/-- the loop of a list's comprehension by an invariant; nothing is raised in it -/
theorem comp_loop {elt target iter : Expr} {ifs : List Expr} {scope : Scope} {pos : Pos} {it acc : Value} {env : Env} (I : Nat → Shared → Prop)
    (turn : ∀ n s, I n s → wpAny (model prog w) A (pyNext it) (fun r s1 => (r = none ∧ R (.ok .next) s1) ∨ ∃ v, r = some v ∧
      wpAny (model prog w) A (letOwnedTupleGo target it v) (fun _ s2 => wpAny (model prog w) A (assign target env v) (fun _ s3 =>
        wpAny (model prog w) A (forIn ifs true fun c r => if r = true then do let ok ← isTrue c env (eval c env); pure (ForInStep.yield ok) else pure (ForInStep.yield r)) (fun ok s4 =>
          if ok = true then wpAny (model prog w) A (eval elt env) (fun x s5 => wpAny (model prog w) A (call (.builtin "list.append") [acc, x]) (fun _ s6 => ∃ m, m < n ∧ I m s6) (fun _ _ => False) s5) (fun _ _ => False) s4
          else ∃ m, m < n ∧ I m s4) (fun _ _ => False) s3) (fun _ _ => False) s2) (fun _ _ => False) s1) (fun _ _ => False) s)
    (n : Nat) (h : I n s) : codeAny (model prog w) A (.compLoop (.ListComp elt [⟨target, iter, ifs, 0⟩] scope pos) 0 it acc env) R s := by
  refine codeAny_loop rfl I (fun k s0 hk => ?_) n h
  show wpAny _ A (Sem.onRaise (compTurn (.ListComp elt [⟨target, iter, ifs, 0⟩] scope pos) 0 it acc env) (fun x => do noteFrame x env; theTreesLotGoes x)) _ _ s0
  refine wpAny_noted ?_
  rw [compTurn_list]
  refine wpAny_bind (wpAny_standAt (wpAny_bind (wpAny_mono (turn k s0 hk) (fun r s1 h1 => ?_) fun _ _ z => z.elim)))
  rcases h1 with ⟨rfl, h1⟩ | ⟨v, rfl, h1⟩
  · exact wpAny_pure h1
  · refine wpAny_bind (wpAny_mono h1 (fun _ s2 h2 => wpAny_bind (wpAny_mono h2 (fun _ s3 h3 => wpAny_bind (wpAny_mono h3 (fun ok s4 h4 => ?_) fun _ _ z => z.elim)) fun _ _ z => z.elim)) fun _ _ z => z.elim)
    cases ok with
    | false => exact wpAny_pure ⟨rfl, h4⟩
    | true => exact wpAny_bind (wpAny_bind (wpAny_mono h4 (fun x s5 h5 => wpAny_bind (wpAny_mono h5 (fun _ s6 h6 => wpAny_pure (wpAny_pure ⟨rfl, h6⟩)) fun _ _ z => z.elim)) fun _ _ z => z.elim))
end

/-- the tracked things stay when an untracked one is changed -/
theorem HOk.but {P : Program} {w : World} {H : Hp} {h h' : Heap} {C : Addr} (x : HOk P w H h) (hC : H C = none) (k : ∀ b o, b ≠ C → h.get? b = some o → h'.get? b = some o) : HOk P w H h' := fun b u e => by
  have nit : ∀ c v, H c = some v → c ≠ C := fun c v q z => by rw [z, hC] at q; cases q
  refine (x b u e).stay (fun c v hc q => k c v ?_ q) (fun _ q => q) fun _ _ q => q
  rcases hc with z | z
  · rw [z]; exact nit b u e
  · exact nit c _ z

/-- what a comprehension's loop wants: W the invariant, by the turn and a measure; D the list that is made -/
def CompGo (frs : St) (g : TG) (tt : TT) (te : TE) (Q : VK) (J : It) (H1 : Hp) : Prop := ∀ D, H1 D = none →
  ∃ W : Nat → Nat → List V → St → Hp → Prop, (∃ m, W 0 m [] frs (upd H1 D (.lst []))) ∧
    ∀ i m ys σ' H', W i m ys σ' H' → H' D = some (.lst ys) →
      (J.stop i H' ∧ Q (.ref D) H') ∨
      (J.go i H' ∧ ys.length < sizeLine ∧ ∀ x H2, J.yld i H' x H2 → g x σ' H2 fun σ3 H3 => tt σ3 H3 fun b H4 =>
        if b = true then te σ3 H4 fun v H5 => H5 D = some (.lst ys) ∧ ∃ m', m' < m ∧ W (i + 1) m' (ys ++ [v]) σ3 (upd H5 D (.lst (ys ++ [v])))
        else H4 D = some (.lst ys) ∧ ∃ m', m' < m ∧ W (i + 1) m' ys σ3 H4)
def tComp (n : Nat) (fr : List Nat) (wi : TI) (g : TG) (tt : TT) (te : TE) : TE := fun σ H Q => wi σ H (CompGo (List.replicate n none ++ fr.map fun k => (σ[k]?).join) g tt te Q)

section
variable {X : Cx} {elt tg iter : Expr} {ifs : List Expr} {scope : Scope} {pos : Pos} {NB : List Str} {n : Nat} {fr : List Nat} {wi : TI} {g : TG} {tt : TT} {te : TE}

structure CompOk (X : Cx) (scope : Scope) (NB : List Str) (n : Nat) (fr : List Nat) : Prop where
  kind : scope.kind = .function
  nocell : ∀ y ∈ scope.names, y.2 ≠ .cell
  names : ∀ y ∈ scope.names, y.2 = .local → scope.names.lookup y.1 = some .local
  free : ∀ y ∈ scope.names, y.2 = .free → X.env.kindOf y.1 = some .cell ∨ X.env.kindOf y.1 = some .free
  len : NB.length = n + fr.length
  own : ∀ (j k : Nat), fr[j]? = some k → ∃ x, NB[n + j]? = some x ∧ X.N[k]? = some x ∧ scope.names.lookup x = some .free

theorem blk_ok {pins : List (Addr × Obj)} {σ : St} {H : Hp} {s : Shared} {fp : List Addr} {C : Addr} (O : CompOk X scope NB n fr) (I : Inv X pins σ H s) (hf : ∀ b ∈ fp, FpOk X pins H b) (hfl : ∀ b ∈ fp, b < s.heap.objs.size) (hC : s.heap.objs.size ≤ C) :
    (cxB X NB scope (clo X.env.cells scope.names []) C fp s H).Ok where
  mod := I.ok.mod
  kind := O.kind
  glob := I.ok.glob
  blt := I.ok.blt
  above := hC
  inj := fun x y c h1 h2 => by
    have e1 := (clo_old scope.names [] h1).resolve_right (by intro z; cases z)
    have e2 := (clo_old scope.names [] h2).resolve_right (by intro z; cases z)
    exact I.ok.inj x y c e1 e2
  has := fun x hx => by
    have hx' : (relabel scope X.env).names.lookup x = some .cell ∨ (relabel scope X.env).names.lookup x = some .free := hx
    have hfree : scope.names.lookup x = some .free := by
      have r := @relab X.env x scope.names
      rcases r with r | r
      · have hx2 : scope.names.lookup x = some .cell ∨ scope.names.lookup x = some .free := by rw [← r]; exact hx'
        rcases hx2 with e | e
        · exact absurd rfl (O.nocell _ (mem_lookup e))
        · exact e
      · exact r.1
    have hm := mem_lookup hfree
    obtain ⟨c, hc⟩ := I.ok.has x (O.free _ hm rfl)
    exact ⟨c, clo_new hc scope.names [] (.inl hm)⟩
  cab := fun x c h => nomatch h
  hd := fun h => I.ok.hd h
  frames := I.ok.frames
  stk := .inl rfl
  exf := fun b hb => ⟨Nat.ne_of_lt (Nat.lt_of_lt_of_le (hfl b hb) hC), fun x c h => by
    have e1 := (clo_old scope.names [] h).resolve_right (by intro z; cases z)
    exact (hf b hb).2.2.2.2.1 x c e1⟩
  bs := I.bs
  bsz := Nat.le_trans I.ok.bsz I.sz
  noex := fun b o e hb => by
    rcases (hf b hb).2.2.2.1 with z | z
    · exact I.ok.noex b o e z
    · exact absurd (Nat.lt_of_lt_of_le (Heap.lt_size e) (Nat.le_trans I.ok.bsz z)) (Nat.lt_irrefl _)
  exfs := fun b hb z => by
    rcases List.mem_cons.mp (I.stkSub b z) with e | e
    · exact (hf b hb).2.1 e
    · exact (hf b hb).2.2.1 e
  funs := I.stack
  frf := I.stkFree

/-- a state whose block's own names are let go -/
theorem Inv.but {pins : List (Addr × Obj)} {σ : St} {H : Hp} {s : Shared} {C : Addr} {h' : Heap} (I : Inv X pins σ H s) (hC : X.s₀.heap.objs.size ≤ C) (hH : H C = none) (hL : C ≠ X.env.locals) (hcl : ∀ x c, X.env.cells.lookup x = some c → c ≠ C) (hpn : ∀ p ∈ X.pn ++ pins, p.1 ≠ C) (sb : Heap.SameBut C s.heap h') :
    Inv X pins σ H { s with heap := h' } := by
  refine I.call' (s' := { s with heap := h' }) (ch := [C]) rfl ?_ (HOk.but I.hok hH fun b o hb e => sb.extBut b o hb e) I.bare (fun b hb => ?_)
  · have ne : ∀ {b : Addr}, b ∉ [C] → b ≠ C := fun {b} h z => h (by rw [z]; exact List.mem_cons_self)
    exact ⟨fun b o e _ _ hx => sb.extBut b o (ne hx) e, fun b o e _ _ hx => ⟨o.slots, sb.extBut b o (ne hx) e⟩, fun _ _ _ n _ => n, fun b o e hx => ⟨o, sb.extBut b o (ne hx) e⟩, fun _ _ q => q, fun _ _ _ q => q, fun _ ps q => ⟨#[], by rw [q]; simp⟩⟩
  · have e : b = C := by simpa using hb
    subst e
    exact ⟨.inr hC, hL, hcl, hpn⟩
/-- the block itself, with what is done with its list -/
theorem comp_core {use : Option (Value → Sem Unit)} {QQ : Value → Shared → Prop} {pins : List (Addr × Obj)} {s : Shared} {σ : St} {H : Hp} {Q : VK} {pos2 : Pos} (O : CompOk X scope NB n fr) (hc : X.calm = true) (hi : PI X tg iter wi)
    (hg : ∀ cl C fp s H, PG (cxB X NB scope cl C fp s H) tg g) (ht : ∀ cl C fp s H, PIfs (cxB X NB scope cl C fp s H) ifs tt) (he : ∀ cl C fp s H, PE (cxB X NB scope cl C fp s H) elt te)
    (hs : ∀ x, foldedSetIterable iter X.env x = pure x) (I : Inv X pins σ H s) (h : tComp n fr wi g tt te σ H Q)
    (fin0 : ∀ (D C : Addr) (H' : Hp) (s' : Shared) (m : Str → Option Value), s'.heap.Ns C m → Inv X pins σ H' s' → X.s₀.heap.objs.size ≤ C → H' C = none → C ≠ X.env.locals → (∀ x c, X.env.cells.lookup x = some c → c ≠ C) → (∀ p ∈ X.pn ++ pins, p.1 ≠ C) → Q (.ref D) H' →
      compPost (model X.prog X.w) X.A X.xe use QQ (.ref D) C (.ok .next) s') :
    wpAny (model X.prog X.w) X.A (comprehension (.ListComp elt [⟨tg, iter, ifs, 0⟩] scope pos) scope X.env pos2 (newList []) false (eval iter X.env) use) QQ X.xe s := by
  have hcl : closureFor scope X.env = pure (clo X.env.cells scope.names []) := clo_for fun p hp hk => I.ok.has p.1 (O.free p hp hk)
  refine wpAny_comprehension_free (use := use) rfl hs hcl O.kind O.names (thn (hi pins s σ H _ I h) fun v s1 h1 => thn h1 fun itv s2 h2 => ?_)
  obtain ⟨it, fp, tn, J, H2, e, I2, T, st2, f2, R⟩ := h2
  subst e
  have fpl : ∀ b ∈ fp, b < s2.heap.objs.size := fun b hb => by
    obtain ⟨o, ho, _⟩ := T.obj 0 _ st2 b hb
    exact Heap.lt_size ho
  refine wpAny_newObj_type (wpAny_newFunctionEnv O.nocell (fun y hy => absurd hy (by simp)) (fun h1 ns1 sb1 => ?_) O.kind)
  dsimp only at ns1 sb1 ⊢
  generalize hD2 : s2.heap.push { cls := .type "list", dict := none, data := .seq ([] : List Value).toArray } = hp2 at ns1 sb1 ⊢
  have zC : hp2.objs.size = s2.heap.objs.size + 1 := by rw [← hD2, Heap.size_push]
  have kept : ∀ b o, s2.heap.get? b = some o → h1.get? b = some o := fun b o q => by
    have lt := Heap.lt_size q
    refine sb1.extBut b o (by rw [zC]; exact Nat.ne_of_lt (Nat.lt_succ_of_lt lt)) (Heap.get?_push_of_some _ ?_)
    rw [← hD2]
    exact Heap.get?_push_of_some _ q
  have gD : h1.get? s2.heap.objs.size = some { cls := .type "list", data := .seq ([] : List Value).toArray 0 } := by
    refine sb1.extBut _ _ (by rw [zC]; exact Nat.ne_of_lt (Nat.lt_succ_self _)) (Heap.get?_push_of_some _ ?_)
    rw [← hD2]
    exact Heap.get?_push_size _ rfl
  generalize hD : s2.heap.objs.size = D at *
  have fD : H2 D = none := I2.hok.fresh (Nat.le_of_eq hD)
  have fC : H2 hp2.objs.size = none := I2.hok.fresh (by rw [hD, zC]; exact Nat.le_succ _)
  have nCD : hp2.objs.size ≠ D := by rw [zC]; exact Nat.succ_ne_self _
  have hCle : s2.heap.objs.size ≤ hp2.objs.size := by rw [hD, zC]; exact Nat.le_succ _
  have ok := blk_ok (C := hp2.objs.size) O I2 f2 (fun b hb => by rw [hD]; exact fpl b hb) hCle
  obtain ⟨W, ⟨m0, w0⟩, turn⟩ := R D fD
  generalize hY : cxB X NB scope (clo X.env.cells scope.names []) hp2.objs.size fp s2 H2 = Y at ok
  have eY : Y.env = compEnvC scope (clo X.env.cells scope.names []) hp2.objs.size X.env := by rw [← hY]; rfl
  have I0 : Inv Y [] (List.replicate n none ++ fr.map fun k => (σ[k]?).join) (upd H2 D (.lst [])) { s2 with heap := h1, toks := s2.toks + ([] : List (Str × Value)).length } := by
    subst hY
    refine ⟨ok, rfl, I2.bare, Un.laid kept (Nat.le_of_eq hD) fD, ⟨_, ns1, fun i x v e1 e2 e3 => ?_⟩, fun x c h => ?_, ?_, fun x c h => ?_, fun p hp => absurd (show p ∈ ([] : List (Addr × Obj)) from hp) (by simp), ?_, ?_⟩
    · have hin : n ≤ i := by
        refine Nat.le_of_not_lt fun z => ?_
        rw [List.getElem?_append_left (by simpa using z), List.getElem?_replicate] at e2
        split at e2 <;> cases e2
      obtain ⟨j, rfl⟩ := Nat.exists_eq_add_of_le hin
      rw [List.getElem?_append_right (by simp)] at e2
      simp only [List.length_replicate, Nat.add_sub_cancel_left, List.getElem?_map] at e2
      cases hk : fr[j]? with
      | none => rw [hk] at e2; cases e2
      | some k =>
        rw [hk] at e2
        obtain ⟨x', n1, n2, n3⟩ := O.own j k hk
        have e1' : NB[n + j]? = some x := e1
        rw [n1] at e1'
        cases e1'
        have e4 : (σ[k]?).join = some v := Option.some.inj e2
        have e5 : σ[k]? = some (some v) := by
          cases q : σ[k]? with
          | none => rw [q] at e4; cases e4
          | some z => rw [q] at e4; exact congrArg some e4
        have hm := mem_lookup n3
        have kd := O.free _ hm rfl
        obtain ⟨m, hn, hl⟩ := I2.loc
        obtain ⟨u, ru, lk⟩ := hl k x v n2 e5 (by rcases kd with z | z; exact .inr (.inl z); exact .inr (.inr z))
        refine ⟨u, ru, .inr ⟨?_, ?_⟩⟩
        · show (relabel scope X.env).names.lookup x = some .cell ∨ (relabel scope X.env).names.lookup x = some .free
          rcases @relab X.env x scope.names with r | r
          · exact .inr (Eq.trans r n3)
          · exact .inl r.2
        · rcases lk with ⟨z, _⟩ | ⟨_, c, hc1, hc2⟩
          · rcases kd with q | q <;> (rw [z] at q; cases q)
          · refine ⟨c, clo_new hc1 scope.names [] (.inl hm), ?_⟩
            obtain ⟨o, ho, hd⟩ := hc2
            exact ⟨o, kept c o ho, hd⟩
    · have e1 := (clo_old scope.names [] (show (clo X.env.cells scope.names []).lookup x = some c from h)).resolve_right (by intro z; cases z)
      obtain ⟨v, o, ho, hd⟩ := I2.cell x c e1
      exact ⟨v, o, kept c o ho, hd⟩
    · show upd H2 D (.lst []) hp2.objs.size = none
      rw [upd_ne nCD]; exact fC
    · have e1 := (clo_old scope.names [] (show (clo X.env.cells scope.names []).lookup x = some c from h)).resolve_right (by intro z; cases z)
      obtain ⟨v, o, ho, hd⟩ := I2.cell x c e1
      rw [upd_ne (by rw [← hD]; exact Nat.ne_of_lt (Heap.lt_size ho))]
      exact I2.freeC x c e1
    · exact I2.hok.laid kept (Nat.le_of_eq hD) ⟨by simp, [], 0, .nil, gD⟩
    · show _ = NB.length
      rw [O.len]; simp
  have fY : ∀ {H' : Hp}, (∀ b ∈ fp, H' b = none) → ∀ b ∈ fp, FpOk Y [] H' b := fun {H'} hn b hb => by
    subst hY
    refine ⟨hn b hb, (ok.exf b hb).1, ok.exfs b hb, .inl hb, fun x c z => (ok.exf b hb).2 x c z, fun p hp => absurd (show p ∈ ([] : List (Addr × Obj)) from hp) (by simp)⟩
  have pY : Y.prog = X.prog ∧ Y.w = X.w ∧ Y.K = X.K ∧ Y.A = X.A ∧ Y.calm = true ∧ Y.xe = fun _ _ => False := by subst hY; exact ⟨rfl, rfl, rfl, rfl, hc, rfl⟩
  obtain ⟨p1, p2, p3, p4, p5, p6⟩ := pY
  have fin : ∀ {σ' : St} {H' : Hp} {s' : Shared}, Inv Y [] σ' H' s' → Q (.ref D) H' → compPost (model X.prog X.w) X.A X.xe use QQ (.ref D) hp2.objs.size (.ok .next) s' := fun {σ' H' s'} J' q => by
    subst hY
    obtain ⟨m, hn, _⟩ := J'.loc
    have fr' : H' hp2.objs.size = none := J'.free
    have neC : ∀ b o, s2.heap.get? b = some o → b ≠ hp2.objs.size := fun b o e => Nat.ne_of_lt (Nat.lt_of_lt_of_le (Heap.lt_size e) hCle)
    have J : Inv X pins σ H' s' := I2.call' (s' := s') J'.os J'.base J'.hok J'.bare fun b hb => by
      obtain ⟨_, a2, _, a4, a5, a6⟩ := f2 b hb
      exact ⟨a4, a2, a5, a6⟩
    refine fin0 D _ H' s' m hn J (Nat.le_trans I2.sz hCle) fr' (Ne.symm (Nat.ne_of_lt (Nat.lt_of_lt_of_le I2.lt hCle))) (fun x c e => ?_) (fun p hp => ?_) q
    · obtain ⟨v, o, ho, _⟩ := I2.cell x c e
      exact neC c o ho
    · exact neC _ _ (I2.pin p hp).1
  have st0 : tn 0 h1 := T.keep 0 _ _ st2 fun b hb o q => kept b o q
  have fp0 : ∀ b ∈ fp, upd H2 D (.lst []) b = none := fun b hb => by
    rw [upd_ne (Nat.ne_of_lt (fpl b hb))]; exact (f2 b hb).1
  have loop : ∀ s3 : Shared, s3 = { s2 with heap := h1, toks := s2.toks + ([] : List (Str × Value)).length } →
      codeAny (model X.prog X.w) X.A (.compLoop (.ListComp elt [⟨tg, iter, ifs, 0⟩] scope pos) 0 (.ref it) (.ref D) (compEnvC scope (clo X.env.cells scope.names []) hp2.objs.size X.env))
        (compPost (model X.prog X.w) X.A X.xe use QQ (.ref D) hp2.objs.size) s3 := by
    rintro s3 rfl
    refine comp_loop (fun k s' => ∃ i ys σ' H', Inv Y [] σ' H' s' ∧ tn i s'.heap ∧ (∀ b ∈ fp, H' b = none) ∧ H' D = some (.lst ys) ∧ W i k ys σ' H') ?_ m0 ⟨0, [], _, _, I0, st0, fp0, upd_same, w0⟩
    rintro k s4 ⟨i, ys, σ4, H4, I4, t4, fr4, d4, w4⟩
    have hgY : PG Y tg g := by subst hY; exact hg _ _ _ _ _
    have htY : PIfs Y ifs tt := by subst hY; exact ht _ _ _ _ _
    have heY : PE Y elt te := by subst hY; exact he _ _ _ _ _
    rcases turn i k ys σ4 H4 w4 d4 with ⟨stop, q⟩ | ⟨go, hlen, step⟩
    · have z := T.done Y p1 p2 p3 p5 i [] s4 σ4 H4 (fun _ _ => False) I4 (fY fr4) t4 stop
      rw [p4] at z
      exact thn z fun r s5 ⟨hr, I5⟩ => .inl ⟨hr, fin I5 q⟩
    · have z := T.item Y p1 p2 p3 p5 i [] s4 σ4 H4 (fun _ _ => False) I4 (fY fr4) t4 go
      rw [p4] at z
      refine thn z fun r s5 ⟨u, hr, h5⟩ => .inr ⟨u, hr, thn h5 fun _ s6 ⟨x, H6, I6, r6, y6, t6, fr6⟩ => ?_⟩
      have I6' := I6.pinned (fY fr6) (T.obj _ _ t6)
      have back : ∀ {σ7 : St} {H7 : Hp} {s7 : Shared}, Inv Y ([] ++ pinsAt fp s6.heap) σ7 H7 s7 → Inv Y [] σ7 H7 s7 ∧ tn (i + 1) s7.heap ∧ ∀ b ∈ fp, H7 b = none := fun {σ7 H7 s7} I7 => by
        refine ⟨I7.unpinned, T.keep _ _ _ t6 fun b hb o e => (I7.pin (b, o) (List.mem_append_right _ (List.mem_append_right _ (mem_pinsAt hb e)))).1, fun b hb => ?_⟩
        obtain ⟨o, e, _⟩ := T.obj _ _ t6 b hb
        exact (I7.pin (b, o) (List.mem_append_right _ (List.mem_append_right _ (mem_pinsAt hb e)))).2.1
      have a7 := hgY _ s6 σ4 H6 x u _ I6' r6 (step x H6 y6)
      rw [p1, p2, p4, p6, eY] at a7
      refine thn a7 fun _ s7 ⟨σ7, H7, I7, q7⟩ => ?_
      have a8 := htY _ s7 σ7 H7 _ I7 q7
      rw [p1, p2, p4, p6, eY] at a8
      refine thn a8 fun b s8 ⟨H8, I8, q8⟩ => ?_
      cases b with
      | false =>
        obtain ⟨d8, m', hm, w8⟩ := q8
        rw [if_neg Bool.false_ne_true]
        obtain ⟨b1, b2, b3⟩ := back I8
        exact ⟨m', hm, i + 1, ys, σ7, H8, b1, b2, b3, d8, w8⟩
      | true =>
        rw [if_pos rfl]
        have a9 := heY _ s8 σ7 H8 _ I8 q8
        rw [p1, p2, p4, p6, eY] at a9
        refine thn a9 fun uv s9 ⟨v, H9, I9, r9, d9, m', hm, w9⟩ => ?_
        have a10 := mt_append (X := Y) _ s9 σ7 H9 (.ref D) [v] (.ref D) [uv] (fun x H' => H' = upd H9 D (.lst (ys ++ [v]))) I9 rfl (.cons r9 .nil) ⟨D, ys, v, rfl, rfl, d9, hlen, rfl⟩
        rw [p1, p2, p4, p6] at a10
        refine thn a10 fun _ s10 ⟨_, H10, I10, _, e10⟩ => ?_
        subst e10
        obtain ⟨b1, b2, b3⟩ := back I10
        exact ⟨m', hm, i + 1, _, σ7, _, b1, b2, b3, upd_same, w9⟩
  refine codeAny_compStart_list (loop _ rfl) ?_
  exact T.self _ 0 _ _ _ st0 (loop _ rfl)
theorem pe_comp (O : CompOk X scope NB n fr) (hc : X.calm = true) (hi : PI X tg iter wi)
    (hg : ∀ cl C fp s H, PG (cxB X NB scope cl C fp s H) tg g) (ht : ∀ cl C fp s H, PIfs (cxB X NB scope cl C fp s H) ifs tt) (he : ∀ cl C fp s H, PE (cxB X NB scope cl C fp s H) elt te)
    (hs : ∀ x, foldedSetIterable iter X.env x = pure x := by intro _; rfl) : PE X (.ListComp elt [⟨tg, iter, ifs, 0⟩] scope pos) (tComp n fr wi g tt te) := by
  intro pins s σ H Q I h
  rw [eval_ListComp]
  exact comp_core (QQ := EP X pins σ Q) O hc hi hg ht he hs I h fun D C H' s' m hn J h1 h2 h3 h4 h5 q => ⟨m, hn, fun h' sb => ⟨.ref D, H', J.but h1 h2 h3 h4 h5 sb, rfl, q⟩⟩
end
end L2
set_option Elab.async false
set_option linter.all false
set_option maxRecDepth 100000
set_option maxHeartbeats 4000000
namespace L2
open PySem PySem.Spec PyProof.Rows

/-! ### an iterator over a list (false) or a tuple (true), at place k -/
def Src (t : Bool) (h : Heap) (it l : Addr) (xs : Array Value) (k : Nat) : Prop := match t with
  | true => h.IsTupleIter it l k ∧ h.IsTuple l xs
  | false => h.IsListIter it l k ∧ h.IsList l xs
theorem Src.keep {t : Bool} {h h' : Heap} {it l : Addr} {xs : Array Value} {k : Nat} (x : Src t h it l xs k) (a : ∀ o, h.get? it = some o → h'.get? it = some o) (b : ∀ o, h.get? l = some o → h'.get? l = some o) : Src t h' it l xs k := by
  cases t with
  | true => obtain ⟨⟨o, h1, r1⟩, ⟨o2, h2, r2⟩⟩ := x; exact ⟨⟨o, a o h1, r1⟩, ⟨o2, b o2 h2, r2⟩⟩
  | false => obtain ⟨⟨o, h1, r1⟩, ⟨o2, h2, r2⟩⟩ := x; exact ⟨⟨o, a o h1, r1⟩, ⟨o2, b o2 h2, r2⟩⟩

section
variable {prog : Program} {w : World} {A : Around} {E : Value → Shared → Prop} {st : Shared}
theorem draw_tup_end {it l : Addr} {i : Nat} {its : Array Value} {Q : Value → Shared → Prop} (hh : A.handled = none) (hit : st.heap.IsTupleIter it l i) (hl : st.heap.IsTuple l its) (hx : its[i]? = none)
    (hE : ∀ h' e, Heap.ExtBut it st.heap h' → (∃ o, h'.get? e = some o ∧ o.cls = .type "StopIteration") → E (.ref e) { st with heap := h' }) : wpAny (model prog w) A (Builtin.SmallTypes.nextOf (.ref it)) Q E st := by
  obtain ⟨o, ho, hc, hd⟩ := id hit
  obtain ⟨o2, ho2, _, n2, hd2⟩ := hl
  unfold Builtin.SmallTypes.nextOf
  refine wpAny_bind (wpAny_callSpecial?_slot (name := Str.ofString "__next__") hit.typeIs F.slot_tuple_iterator_next (wpAny_call_entry F.slot_tuple_iterator_next hit.typeIs F.entry_tuple_iterator_next ?_ (F.args_tuple_iterator_next_1 _)))
  show wpAny _ A.in1 (field (.ref it) 0 >>= _) _ _ st
  refine wpAny_bind (wpAny_field ho hd (x := .ref l) rfl ?_)
  show wpAny _ A.in1 (if (Value.ref l == Value.none) = true then _ else _) _ _ st
  rw [if_neg (fun z : (Value.ref l == Value.none) = true => Bool.false_ne_true z)]
  show wpAny _ A.in1 (field (.ref it) 1 >>= _) _ _ st
  refine wpAny_bind (wpAny_field (x := .int i 0) ho hd rfl ?_)
  show wpAny _ A.in1 (seqItems? (.ref l) >>= _) _ _ st
  refine wpAny_bind (wpAny_seqItems ho2 hd2 ?_)
  simp only [Int.toNat_natCast, hx]
  refine wpAny_bind (wpAny_rule (wpAny_bind (wpAny_setField ho hd (by simp) (wpAny_bind ?_))))
  show wpAny _ A.in1 (newExc (.type "StopIteration") []) _ _ _
  simp only [newTuple, newExc]
  refine wpAny_bind (wpAny_newObj_type (wpAny_bind (m := firstArgMember _ _) (wpAny_of_eq (a := Value.none) (by first | rfl | (simp only [firstArgMember]; rfl)) (wpAny_newObj_type ?_ (by size_fits)))) (by size_fits))
  simp only [raiseNew]
  refine wpAny_bind (wpAny_handled ?_)
  first | rw [hh] | rw [show A.in1.handled = none from hh]
  exact wpAny_bind (wpAny_pure (wpAny_throw (hE _ _ (((Heap.SameBut.update ..).extBut.push _).push _) ⟨_, Heap.get?_push_size _ rfl, rfl⟩)))

theorem Src.none {t : Bool} {it l : Addr} {i : Nat} {its : Array Value} {Q : Value → Shared → Prop} (hh : A.handled = none) (S : Src t st.heap it l its i) (hx : its[i]? = none)
    (hE : ∀ h' e, Heap.ExtBut it st.heap h' → (∃ o, h'.get? e = some o ∧ o.cls = .type "StopIteration") → E (.ref e) { st with heap := h' }) : wpAny (model prog w) A (Builtin.SmallTypes.nextOf (.ref it)) Q E st := by
  cases t with
  | true => exact draw_tup_end hh S.1 S.2 hx hE
  | false => exact wpAny_nextOf_list_end hh S.1 S.2 hx hE

/-- the five own records of a zip stand apart, and from what it walks -/
structure Apart (z TI TO i1 i2 l1 l2 : Addr) : Prop where
  a : TI ≠ z ∧ TO ≠ z ∧ i1 ≠ z ∧ i2 ≠ z
  b : TI ≠ TO ∧ TI ≠ i1 ∧ TI ≠ i2 ∧ TO ≠ i1 ∧ TO ≠ i2 ∧ i1 ≠ i2
  c : l1 ≠ z ∧ l1 ≠ TO ∧ l1 ≠ i1 ∧ l1 ≠ i2
  d : l2 ≠ z ∧ l2 ≠ TO ∧ l2 ≠ i1 ∧ l2 ≠ i2

end
section
def SqK (t : Bool) (h : Heap) (l : Addr) (xs : Array Value) : Prop := match t with
  | true => h.IsTuple l xs
  | false => h.IsList l xs
def itObj (t : Bool) (l : Addr) : Obj := { cls := .type (if t then "tuple_iterator" else "list_iterator"), data := .fields #[.ref l, .int 0 0] }
theorem SqK.push {t : Bool} {h : Heap} {l : Addr} {xs : Array Value} (x : SqK t h l xs) (o : Obj) : SqK t (h.push o) l xs := by
  cases t with
  | true => exact Heap.IsTuple.push x o
  | false => exact Heap.IsList.push x o
theorem Src.new {t : Bool} {h : Heap} {it l : Addr} {xs : Array Value} (e : h.get? it = some (itObj t l)) (q : SqK t h l xs) : Src t h it l xs 0 := by
  cases t with
  | true => exact ⟨⟨_, e, rfl, rfl⟩, q⟩
  | false => exact ⟨⟨_, e, rfl, rfl⟩, q⟩
variable {prog : Program} {w : World} {A : Around} {E : Value → Shared → Prop} {st : Shared}
end
end L2
set_option Elab.async false
set_option linter.all false
set_option maxRecDepth 100000
set_option maxHeartbeats 4000000
namespace L2
open PySem PySem.Spec PyProof.Rows

/-! ### for sign in text -/
/-! ### for a, b in zip(x, y) -/
def SqB (t : Bool) (K : PySem.W.Frag) (H : Hp) (a : Addr) (xs : List V) : Prop := match t with
  | true => SqT K H a xs
  | false => SqL K H a xs
section
variable {X : Cx} {pins : List (Addr × Obj)} {σ : St} {H : Hp} {s : Shared}
theorem Inv.sq {t : Bool} {a : Addr} {xs : List V} (I : Inv X pins σ H s) (h : SqB t X.K H a xs) : ∃ its : List Value, Vals xs its ∧ SqK t s.heap a its.toArray ∧ xs.length ≤ sizeLine := by
  cases t with
  | true => obtain ⟨its, r, p, z⟩ := I.tuple h; exact ⟨its, r, p, z⟩
  | false => obtain ⟨its, r, p, z⟩ := I.list h; exact ⟨its, r, p.isList, z⟩
end
def ItB (t : Bool) (h : Heap) (it l : Addr) (k : Nat) : Prop := match t with
  | true => h.IsTupleIter it l k
  | false => h.IsListIter it l k
theorem Src.it {t : Bool} {h : Heap} {it l : Addr} {k : Nat} {xs : Array Value} (a : Src t h it l xs k) : ItB t h it l k := by cases t <;> exact a.1
theorem ItB.ob {t : Bool} {h : Heap} {it l : Addr} {k : Nat} (a : ItB t h it l k) : ∃ o, h.get? it = some o ∧ ∀ v, o.data ≠ .cell v := by
  cases t <;> (obtain ⟨o, e, _, d⟩ := a; exact ⟨o, e, fun v z => by rw [d] at z; cases z⟩)
theorem ItB.keep {t : Bool} {h h' : Heap} {it l : Addr} {k : Nat} (a : ItB t h it l k) (e : ∀ o, h.get? it = some o → h'.get? it = some o) : ItB t h' it l k := by
  cases t <;> (obtain ⟨o, q, r⟩ := a; exact ⟨o, e o q, r⟩)

end L2
set_option Elab.async false
set_option linter.all false
set_option maxRecDepth 100000
set_option maxHeartbeats 4000000
namespace L2
open PySem PySem.Spec PyProof.Rows
section
variable {X : Cx} {a b : Expr} {ta tb : TE} {pos : Pos}

/-! ### all(list of truths) -/
/-! ### isinstance(x, T) -/
def rIsi (K : PySem.W.Frag) : List V → Hp → VK → Prop := fun xs H Q => ∃ x c t k, xs = [x, .ty c] ∧ TyOf K H x t ∧ PySem.W.kitOne K t (.type c) = some k ∧ Q (.bl k) H
theorem call_isi : CallR X (.builtin "isinstance") (rIsi X.K) := by
  intro pins s σ H xs us Q I r h
  obtain ⟨x, c, t, k, rfl, ty, e, q⟩ := h
  obtain ⟨u, u', rfl, rx, rc⟩ := vals2 r
  cases rc
  exact isinst_ok I rx ty e fun tk => ⟨.bl k, H, I.tok tk, rfl, q⟩

/-! ### f(e, ..) where f is a name that holds a def -/
/-! ### texts -/
/-! ### two lists of flat things compared -/
def eqVs : List V → List V → Bool
  | [], [] => true
  | x :: xs, y :: ys => eqV x y && eqVs xs ys
  | _, _ => false
theorem eqVs_len : ∀ {xs ys : List V}, xs.length ≠ ys.length → eqVs xs ys = false
  | [], [], h => absurd rfl h
  | [], _ :: _, _ => rfl
  | _ :: _, [], _ => rfl
  | x :: xs, y :: ys, h => by
    rw [eqVs, eqVs_len (fun e => h (by simp [e])), Bool.and_false]
theorem eqVs_range : ∀ {xs ys : List V}, xs.length = ys.length → (List.range xs.length).all (fun j => eqV (xs.getD j .non) (ys.getD j .non)) = eqVs xs ys
  | [], [], _ => rfl
  | x :: xs, y :: ys, h => by
    have h' : xs.length = ys.length := by simpa using h
    rw [eqVs, ← eqVs_range h', List.length_cons, List.range_succ_eq_map, List.all_cons, List.all_map]
    rfl
theorem op_eqL (hu : X.A.units < cLine) : OpR X (compareOp .Eq) (fun x y H Q => ∃ p q xs ys, x = .ref p ∧ y = .ref q ∧ SqL X.K H p xs ∧ SqL X.K H q ys ∧ xs.all flatV = true ∧ ys.all flatV = true ∧ Q (.bl (eqVs xs ys)) H) := by
  intro pins s σ H x y v u Q I rx ry h
  obtain ⟨p, q', xs, ys, rfl, rfl, h1, h2, f1, f2, q⟩ := h
  cases rx
  cases ry
  obtain ⟨its, r1, pl1, _⟩ := I.list h1
  obtain ⟨jts, r2, pl2, _⟩ := I.list h2
  by_cases hl : xs.length = ys.length
  · refine SeqAt.eq_listAt (e := fun j => eqV (xs.getD j .non) (ys.getD j .non)) pl1.isList pl2.isList (by simp [← r1.length, ← r2.length, hl]) hu (fun j g1 g2 => ?_) ⟨.bl (eqVs xs ys), H, I, ?_, q⟩
    · have j1 : j < xs.length := by rw [r1.length]; simpa using g1
      have j2 : j < ys.length := by rw [r2.length]; simpa using g2
      obtain ⟨u1, e1, ru1⟩ := r1.get (i := j) (x := xs[j]) (by simp [j1])
      obtain ⟨u2, e2, ru2⟩ := r2.get (i := j) (x := ys[j]) (by simp [j2])
      have z1 : its.toArray[j] = u1 := by
        have := (List.getElem?_eq_some_iff.mp e1).2
        simpa using this
      have z2 : jts.toArray[j] = u2 := by
        have := (List.getElem?_eq_some_iff.mp e2).2
        simpa using this
      rw [z1, z2]
      have w1 : xs.getD j .non = xs[j] := by simp [j1]
      have w2 : ys.getD j .non = ys[j] := by simp [j2]
      show SeqAt.EqAt _ _ _ _ (eqV (xs.getD j .non) (ys.getD j .non))
      rw [w1, w2]
      exact eqAt_V ru1 ru2 (List.all_eq_true.mp f1 _ (List.getElem_mem j1)) (List.all_eq_true.mp f2 _ (List.getElem_mem j2))
    · rw [List.size_toArray, ← r1.length, eqVs_range hl]; rfl
  · refine SeqAt.eq_list_lengthsAt pl1.isList pl2.isList (by simp [← r1.length, ← r2.length, hl]) hu ⟨.bl (eqVs xs ys), H, I, ?_, q⟩
    rw [eqVs_len hl]; rfl
end

/-! ### t[::-1] of a tuple -/
section
variable {prog : Program} {w : World} {A : Around} {E : Value → Shared → Prop} {s : Shared}
end
end L2
namespace L2
open PySem PySem.Spec PyProof.Rows
/-! ### t + u of two tuples, either may be empty -/
theorem PT.weak {X : Cx} {e : Expr} {t t' : TT} (h : PT X e t) (w : ∀ σ H Q, t' σ H Q → t σ H Q) : PT X e t' := fun pins s σ H Q I q => h pins s σ H Q I (w σ H Q q)
theorem PE.weak {X : Cx} {e : Expr} {t t' : TE} (h : PE X e t) (w : ∀ σ H Q, t' σ H Q → t σ H Q) : PE X e t' := fun pins s σ H Q I q => h pins s σ H Q I (w σ H Q q)
end L2
set_option Elab.async false
set_option linter.all false
namespace Kp
open PySem PyProof.Rows
/-- a thing, as data -/
inductive D where
  | non | bl (b : Bool) | int (i : Int) | str (x : Str) | tup (xs : List D) | lst (xs : List D)

/-! ### names -/
/-! ### seats -/
def keeper : D → Bool
  | .int i => decide (0 ≤ i) && decide (i ≤ 8)
  | _ => false
end Kp
set_option Elab.async false
set_option linter.all false
set_option maxRecDepth 100000
set_option maxHeartbeats 4000000
namespace Kp
open PySem L2

mutual
/-- v is the thing d in the heap H; its texts and rows are of at most B parts -/
inductive Is (B : Nat) (H : Hp) : V → D → Prop
  | non : Is B H .non .non
  | bl (b : Bool) : Is B H (.bl b) (.bl b)
  | int (i : Int) : Is B H (.int i) (.int i)
  | str (x : Str) (h : x.length ≤ B) : Is B H (.str x) (.str x)
  | tup {a : Addr} {vs : List V} {ds : List D} (e : H a = some (.tup vs)) (l : vs.length ≤ B) (r : IsL B H vs ds) : Is B H (.ref a) (.tup ds)
  | lst {a : Addr} {vs : List V} {ds : List D} (e : H a = some (.lst vs)) (l : vs.length ≤ B) (r : IsL B H vs ds) : Is B H (.ref a) (.lst ds)
inductive IsL (B : Nat) (H : Hp) : List V → List D → Prop
  | nil : IsL B H [] []
  | cons {v : V} {d : D} {vs : List V} {ds : List D} (h : Is B H v d) (t : IsL B H vs ds) : IsL B H (v :: vs) (d :: ds)
end
mutual
theorem Is.mono {B B' : Nat} {H H' : Hp} (hB : B ≤ B') (s : Same H H') : ∀ {v d}, Is B H v d → Is B' H' v d
  | _, _, .non => .non
  | _, _, .bl b => .bl b
  | _, _, .int i => .int i
  | _, _, .str x h => .str x (Nat.le_trans h hB)
  | _, _, .tup e l r => .tup (s _ _ e) (Nat.le_trans l hB) (IsL.mono hB s r)
  | _, _, .lst e l r => .lst (s _ _ e) (Nat.le_trans l hB) (IsL.mono hB s r)
theorem IsL.mono {B B' : Nat} {H H' : Hp} (hB : B ≤ B') (s : Same H H') : ∀ {vs ds}, IsL B H vs ds → IsL B' H' vs ds
  | _, _, .nil => .nil
  | _, _, .cons h t => .cons (Is.mono hB s h) (IsL.mono hB s t)
end
theorem Is.same {B : Nat} {H H' : Hp} {v : V} {d : D} (h : Is B H v d) (s : Same H H') : Is B H' v d := h.mono (Nat.le_refl _) s
theorem IsL.same {B : Nat} {H H' : Hp} {v : List V} {d : List D} (h : IsL B H v d) (s : Same H H') : IsL B H' v d := h.mono (Nat.le_refl _) s
theorem IsL.length {B : Nat} {H : Hp} : ∀ {vs ds}, IsL B H vs ds → vs.length = ds.length
  | _, _, .nil => rfl
  | _, _, .cons _ t => by simp [IsL.length t]
theorem IsL.get {B : Nat} {H : Hp} : ∀ {vs ds} {i : Nat} {v : V}, IsL B H vs ds → vs[i]? = some v → ∃ d, ds[i]? = some d ∧ Is B H v d
  | _, _, _, _, .nil, h => by simp at h
  | _, _, 0, _, .cons h _, e => by simp at e; subst e; exact ⟨_, rfl, h⟩
  | _, _, i + 1, v, .cons _ t, e => by
    obtain ⟨d, e', h⟩ := IsL.get (i := i) (v := v) t (by simpa using e)
    exact ⟨d, by simpa using e', h⟩
theorem IsL.append {B : Nat} {H : Hp} : ∀ {vs ds vs' ds'}, IsL B H vs ds → IsL B H vs' ds' → IsL B H (vs ++ vs') (ds ++ ds')
  | _, _, _, _, .nil, h => h
  | _, _, _, _, .cons h t, h' => .cons h (IsL.append t h')
theorem IsL.take {B : Nat} {H : Hp} : ∀ (n : Nat) {vs ds}, IsL B H vs ds → IsL B H (vs.take n) (ds.take n)
  | 0, _, _, _ => .nil
  | _ + 1, _, _, .nil => .nil
  | n + 1, _, _, .cons h t => .cons h (IsL.take n t)
theorem IsL.drop {B : Nat} {H : Hp} : ∀ (n : Nat) {vs ds}, IsL B H vs ds → IsL B H (vs.drop n) (ds.drop n)
  | 0, _, _, h => h
  | _ + 1, _, _, .nil => .nil
  | n + 1, _, _, .cons _ t => IsL.drop n t
theorem IsL.reverse {B : Nat} {H : Hp} {vs ds} (h : IsL B H vs ds) : IsL B H vs.reverse ds.reverse := by
  induction vs generalizing ds with
  | nil => cases h; exact .nil
  | cons v vs ih =>
    cases h with
    | cons h t => rw [List.reverse_cons, List.reverse_cons]; exact (ih t).append (.cons h .nil)
theorem IsL.ints {B : Nat} {H : Hp} : ∀ (ns : List Int), IsL B H (ns.map V.int) (ns.map D.int)
  | [] => .nil
  | n :: r => .cons (.int n) (IsL.ints r)
/-- some thing of at most B parts -/
def Th (B : Nat) (H : Hp) (v : V) : Prop := ∃ d, Is B H v d
def ThL (B : Nat) (H : Hp) (vs : List V) : Prop := ∃ ds, IsL B H vs ds
theorem Th.mono {B B' : Nat} {H H' : Hp} {v : V} (h : Th B H v) (hB : B ≤ B') (s : Same H H') : Th B' H' v := let ⟨d, q⟩ := h; ⟨d, q.mono hB s⟩
theorem ThL.mono {B B' : Nat} {H H' : Hp} {v : List V} (h : ThL B H v) (hB : B ≤ B') (s : Same H H') : ThL B' H' v := let ⟨d, q⟩ := h; ⟨d, q.mono hB s⟩
theorem ThL.nil {B : Nat} {H : Hp} : ThL B H [] := ⟨[], .nil⟩
theorem ThL.cons {B : Nat} {H : Hp} {v : V} {vs : List V} (h : Th B H v) (t : ThL B H vs) : ThL B H (v :: vs) := let ⟨d, q⟩ := h; let ⟨ds, r⟩ := t; ⟨d :: ds, .cons q r⟩
theorem ThL.append {B : Nat} {H : Hp} {vs us : List V} (h : ThL B H vs) (t : ThL B H us) : ThL B H (vs ++ us) := let ⟨_, q⟩ := h; let ⟨_, r⟩ := t; ⟨_, q.append r⟩
theorem ThL.take {B : Nat} {H : Hp} {vs : List V} (n : Nat) (h : ThL B H vs) : ThL B H (vs.take n) := let ⟨_, q⟩ := h; ⟨_, q.take n⟩
theorem ThL.drop {B : Nat} {H : Hp} {vs : List V} (n : Nat) (h : ThL B H vs) : ThL B H (vs.drop n) := let ⟨_, q⟩ := h; ⟨_, q.drop n⟩
theorem ThL.reverse {B : Nat} {H : Hp} {vs : List V} (h : ThL B H vs) : ThL B H vs.reverse := let ⟨_, q⟩ := h; ⟨_, q.reverse⟩
theorem ThL.get {B : Nat} {H : Hp} {vs : List V} {i : Nat} {v : V} (h : ThL B H vs) (e : vs[i]? = some v) : Th B H v := let ⟨_, q⟩ := h; let ⟨d, _, r⟩ := q.get e; ⟨d, r⟩
theorem Th.tup {B : Nat} {H : Hp} {a : Addr} {vs : List V} (e : H a = some (.tup vs)) (l : vs.length ≤ B) (h : ThL B H vs) : Th B H (.ref a) := let ⟨_, q⟩ := h; ⟨_, .tup e l q⟩
theorem Th.lst {B : Nat} {H : Hp} {a : Addr} {vs : List V} (e : H a = some (.lst vs)) (l : vs.length ≤ B) (h : ThL B H vs) : Th B H (.ref a) := let ⟨_, q⟩ := h; ⟨_, .lst e l q⟩
theorem Th.int {B : Nat} {H : Hp} (i : Int) : Th B H (.int i) := ⟨_, .int i⟩
theorem Th.bl {B : Nat} {H : Hp} (i : Bool) : Th B H (.bl i) := ⟨_, .bl i⟩
theorem Th.non {B : Nat} {H : Hp} : Th B H .non := ⟨_, .non⟩
theorem Th.str {B : Nat} {H : Hp} (x : Str) (h : x.length ≤ B) : Th B H (.str x) := ⟨_, .str x h⟩
/-- a new object leaves all as it was -/
theorem same_upd {H : Hp} {p : Addr} {o : HO} (h : H p = none) : Same H (upd H p o) := fun b u e => by rw [upd_ne (ne_of_none e h)]; exact e

/-! ### the kinds -/
def tyN : D → String
  | .non => "NoneType" | .bl _ => "bool" | .int _ => "int" | .str _ => "str" | .tup _ => "tuple" | .lst _ => "list"
theorem Is.ty {B : Nat} {H : Hp} {K : PySem.W.Frag} {v : V} {d : D} (h : Is B H v d) : TyOf K H v (.type (tyN d)) := by
  cases h with
  | non => exact .non
  | bl b => exact .bl b
  | int i => exact .int i
  | str x _ => exact .str x
  | tup e _ _ => exact .tup e
  | lst e _ _ => exact .lst e
def isInt : D → Bool | .int _ => true | .bl _ => true | _ => false
def isBool : D → Bool | .bl _ => true | _ => false
theorem kit_int (K : PySem.W.Frag) : ∀ d : D, PySem.W.kitOne K (.type (tyN d)) (.type "int") = some (isInt d)
  | .non => by with_unfolding_all rfl
  | .bl _ => by with_unfolding_all rfl
  | .int _ => by with_unfolding_all rfl
  | .str _ => by with_unfolding_all rfl
  | .tup _ => by with_unfolding_all rfl
  | .lst _ => by with_unfolding_all rfl
theorem kit_bool (K : PySem.W.Frag) : ∀ d : D, PySem.W.kitOne K (.type (tyN d)) (.type "bool") = some (isBool d)
  | .non => by with_unfolding_all rfl
  | .bl _ => by with_unfolding_all rfl
  | .int _ => by with_unfolding_all rfl
  | .str _ => by with_unfolding_all rfl
  | .tup _ => by with_unfolding_all rfl
  | .lst _ => by with_unfolding_all rfl
theorem boot_isi : bootBuiltins "isinstance" = some (.builtin "isinstance") := by decide +kernel
theorem boot_int : bootBuiltins "int" = some (.type "int") := by decide +kernel
theorem boot_bool : bootBuiltins "bool" = some (.type "bool") := by decide +kernel
theorem boot_list : bootBuiltins "list" = some (.type "list") := by decide +kernel
theorem pe_ty {X : Cx} {x : Str} {n : String} {pos : Pos} (hg : Gl X x) (hm : X.mg x = none) (hv : bootBuiltins x = some (.type n)) (hn : x ≠ "__name__" := by decide) (hd : (x == ("__debug__" : Str)) = false := by decide) : PE X (.Name x pos) (tC (.ty n)) := pe_bltn (v := .ty n) hg hm hv rfl hn hd
end Kp
set_option Elab.async false
set_option linter.all false
set_option maxRecDepth 100000
set_option maxHeartbeats 4000000
namespace Kp
open PySem L2

/-! ### rules whose reading names the written part, for a block -/
section
variable {X : Cx} {K : PySem.W.Frag} {pos : Pos}
theorem ix_listK (hK : X.K = K) : IxR X (rIxL K) := by subst hK; exact ix_list
end

/-! ### a comprehension's names -/
def compChk (outer scope : Scope) : Bool := scope.kind == .function && scope.names.all fun y => y.2 != .cell && (y.2 != .local || scope.names.lookup y.1 == some .local) && (y.2 != .free || outer.names.lookup y.1 == some .cell)
theorem compOkN {X : Cx} {outer scope : Scope} {NB : List Str} {n : Nat} {fr : List Nat} (hX : X.env.scope = outer) (h : compChk outer scope = true) (hl : NB.length = n + fr.length)
    (ho : ∀ (j k : Nat), fr[j]? = some k → ∃ x, NB[n + j]? = some x ∧ X.N[k]? = some x ∧ scope.names.lookup x = some .free) : CompOk X scope NB n fr := by
  unfold compChk at h
  rw [Bool.and_eq_true, List.all_eq_true] at h
  obtain ⟨h1, h2⟩ := h
  refine ⟨by simpa using h1, fun y hy => ?_, fun y hy hk => ?_, fun y hy hk => ?_, hl, ho⟩
  · have := h2 y hy
    simp only [Bool.and_eq_true, bne_iff_ne, ne_eq] at this
    exact this.1.1
  · have := h2 y hy
    simp only [Bool.and_eq_true, Bool.or_eq_true, bne_iff_ne, ne_eq, beq_iff_eq] at this
    exact this.1.2.resolve_left (fun z => z hk)
  · have := h2 y hy
    simp only [Bool.and_eq_true, Bool.or_eq_true, bne_iff_ne, ne_eq, beq_iff_eq] at this
    refine .inl ?_
    show X.env.scope.names.lookup y.1 = some .cell
    rw [hX]
    exact this.2.resolve_left (fun z => z hk)
theorem compOk0 {X : Cx} {outer scope : Scope} {NB : List Str} {n : Nat} (hX : X.env.scope = outer) (h : compChk outer scope = true) (hl : NB.length = n + 0) : CompOk X scope NB n [] :=
  compOkN hX h hl fun j k e => by simp at e
/-! ### a comprehension that changes nothing -/
theorem comp_pure {J : It} {H1 : Hp} {n k : Nat} {frs : St} {g : TG} {tt : TT} {te : TE} {Q : VK} (p : Nat → Bool) (f : Nat → V) (hn : n < sizeLine)
    (go : ∀ i H, i < n → Same H1 H → J.go i H) (stop : ∀ H, Same H1 H → J.stop n H)
    (turn : ∀ i H t x H2 (R : St → Hp → Option V → Prop), i < n → Same H1 H → t.length = k → J.yld i H x H2 →
      (∀ t' H', t'.length = k → Same H H' → R (t' ++ frs) H' (if p i = true then some (f i) else none)) →
      g x (t ++ frs) H2 fun σ3 H3 => tt σ3 H3 fun b H4 => if b = true then te σ3 H4 fun v H5 => R σ3 H5 (some v) else R σ3 H4 none)
    (hq : ∀ D H', Same H1 H' → H1 D = none → H' D = some (.lst (((List.range n).filter p).map f)) → Q (.ref D) H') : CompGo (List.replicate k none ++ frs) g tt te Q J H1 := by
  intro D hD
  refine ⟨fun i m ys σ H => i ≤ n ∧ m = n - i ∧ ys = ((List.range i).filter p).map f ∧ Same H1 H ∧ ∃ t, t.length = k ∧ σ = t ++ frs, ⟨n, Nat.zero_le _, rfl, rfl, same_upd hD, _, by simp, rfl⟩, ?_⟩
  rintro i m ys σ H ⟨hi, rfl, rfl, s1, t, ht, rfl⟩ hd
  by_cases hlt : i < n
  · right
    refine ⟨go i H hlt s1, ?_, fun x H2 y => ?_⟩
    · refine Nat.lt_of_le_of_lt ?_ hn
      rw [List.length_map]
      exact Nat.le_trans (List.length_filter_le _ _) (by simpa using hi)
    · have h := turn i H t x H2 (fun σ3 H5 r => match r with
        | some v => H5 D = some (.lst (((List.range i).filter p).map f)) ∧ ∃ m', m' < n - i ∧ (i + 1 ≤ n ∧ m' = n - (i + 1) ∧ ((List.range i).filter p).map f ++ [v] = ((List.range (i + 1)).filter p).map f ∧ Same H1 (upd H5 D (.lst (((List.range i).filter p).map f ++ [v]))) ∧ ∃ t, t.length = k ∧ σ3 = t ++ frs)
        | none => H5 D = some (.lst (((List.range i).filter p).map f)) ∧ ∃ m', m' < n - i ∧ (i + 1 ≤ n ∧ m' = n - (i + 1) ∧ ((List.range i).filter p).map f = ((List.range (i + 1)).filter p).map f ∧ Same H1 H5 ∧ ∃ t, t.length = k ∧ σ3 = t ++ frs)) hlt s1 ht y ?_
      · exact h
      · intro t' H' ht' s2
        cases hp : p i with
        | true =>
          rw [if_pos rfl]
          refine ⟨s2 _ _ hd, n - (i + 1), by omega, by omega, rfl, ?_, fun b o e => ?_, t', ht', rfl⟩
          · rw [List.range_succ, List.filter_append, List.map_append]
            simp [hp]
          · rw [upd_ne (ne_of_none e hD)]; exact s2 _ _ (s1 _ _ e)
        | false =>
          rw [if_neg Bool.false_ne_true]
          refine ⟨s2 _ _ hd, n - (i + 1), by omega, by omega, rfl, ?_, s1.trans s2, t', ht', rfl⟩
          rw [List.range_succ, List.filter_append, List.map_append]
          simp [hp]
  · have e : i = n := by omega
    subst e
    exact .inl ⟨stop H s1, hq D H s1 hD hd⟩

/-! ### promises -/
/-- a teller: of a thing, a truth; nothing is changed -/
def spP (f : D → Bool) : Sp := fun vs H Q _ => ∃ B v d, B ≤ 1000 ∧ vs = [v] ∧ Is B H v d ∧ ∀ H', Same H H' → Q (.bl (f d)) H'
/-- a def of the text that keeps its promise, as a caller sees it -/
structure Cal (P : Program) (w : World) (K : PySem.W.Frag) (mg : Str → Option Value) (base : Heap) (name : Str) (k : Nat) (ps : List Str) (sp : Sp) : Prop where
  ex : ∃ f fd, FnOk P w K mg base CX0 k f fd ps sp ∧ mg name = some (.ref f) ∧ PySem.W.keepIn K (.ref f) = true ∧ Binds K fd ps []
def whole (d : D) : Bool := isInt d && !isBool d
end Kp
set_option Elab.async false
set_option linter.all false
namespace Kp
open PySem L2
section
variable {X : Cx} {es : List Expr} {te : TE} {t : TA} {pos : Pos}
/-! ### argument lists by the first one's form: that it is no star is known once -/
theorem pa_i {c : Const} {k : Nat} (ha : PE X (.Constant c k pos) te) (hr : PA X es t) : PA X (.Constant c k pos :: es) (tCons te t) := pa_cons ha hr rfl
theorem pa_n {x : Str} (ha : PE X (.Name x pos) te) (hr : PA X es t) : PA X (.Name x pos :: es) (tCons te t) := pa_cons ha hr rfl
theorem pa_t {l : List Expr} {k : Nat} (ha : PE X (.Tuple l k pos) te) (hr : PA X es t) : PA X (.Tuple l k pos :: es) (tCons te t) := pa_cons ha hr rfl
theorem pa_l {l : List Expr} (ha : PE X (.List l pos) te) (hr : PA X es t) : PA X (.List l pos :: es) (tCons te t) := pa_cons ha hr rfl
theorem pa_b {o : Operator} {a b : Expr} (ha : PE X (.BinOp a o b pos) te) (hr : PA X es t) : PA X (.BinOp a o b pos :: es) (tCons te t) := pa_cons ha hr rfl
theorem pa_k {f : Expr} {as : List Expr} {ks : List Keyword} (ha : PE X (.Call f as ks pos) te) (hr : PA X es t) : PA X (.Call f as ks pos :: es) (tCons te t) := pa_cons ha hr rfl
theorem pa_s {a b : Expr} (ha : PE X (.Subscript a b pos) te) (hr : PA X es t) : PA X (.Subscript a b pos :: es) (tCons te t) := pa_cons ha hr rfl
end
end Kp
namespace Kp
open PySem L2
theorem px_b {a b : Expr} {o : Operator} {pos : Pos} : PlainIx (.BinOp a o b pos) := fun _ _ => rfl
theorem px_n {x : Str} {pos : Pos} : PlainIx (.Name x pos) := fun _ _ => rfl
theorem px_i {c : Const} {k : Nat} {pos : Pos} : PlainIx (.Constant c k pos) := fun _ _ => rfl
end Kp
namespace Kp
open PySem L2
end Kp
namespace Kp
open PySem L2
/-! ### displays of written things -/
structure QA (X : Cx) (es : List Expr) (t : TA) : Prop where
  h : PA X es t
section
variable {X : Cx} {es l : List Expr} {t u : TA} {p p' : Pos} {j : Nat}
theorem qa_nil : QA X [] tNil := ⟨pa_nil⟩
theorem qa_str {i : Str} (r : QA X es t) : QA X (.Constant (.str i) j p :: es) (tCons (tC (.str i)) t) := ⟨pa_cons pe_str r.h rfl⟩
theorem qa_non (r : QA X es t) : QA X (.Constant .none j p :: es) (tCons (tC .non) t) := ⟨pa_cons pe_non r.h rfl⟩
end
end Kp
namespace Kp
open PySem L2
/-! ### judgements in boxes: the elaborator looks into the bare ones, and runs a written display -/
structure QE (X : Cx) (e : Expr) (t : TE) : Prop where
  h : PE X e t
structure QS (X : Cx) (st : Stmt) (t : TS) : Prop where
  h : PS X st t
structure QB (X : Cx) (sts : List Stmt) (t : TS) : Prop where
  h : PSs X sts t
section
variable {X : Cx} {es : List Expr} {t : TA} {p p' pos : Pos} {j : Nat}
theorem qx_lst (a : QA X es t) : QE X (.List es p) (tLst t) := ⟨pe_lst a.h⟩
end
end Kp
set_option Elab.async false
set_option linter.all false
set_option maxRecDepth 100000
set_option maxHeartbeats 4000000
namespace Kp
open PySem L2 PyProof.Rows

/-! ### D.get(word) of a dict of the module -/
/-! ### a teller that is known by its address only -/
structure Tl (P : Program) (w : World) (K : PySem.W.Frag) (mg : Str → Option Value) (base : Heap) (k : Nat) (g : Addr) (p : D → Bool) : Prop where
  ex : ∃ k' fd px, k' ≤ k ∧ FnOk P w K mg base CX0 k' g fd [px] (spP p) ∧ PySem.W.keepIn K (.ref g) = true ∧ Binds K fd [px] []
section
variable {P : Program} {w : World} {K : PySem.W.Frag} {mg : Str → Option Value} {base : Heap}
theorem Tl.mono {k k' : Nat} {g : Addr} {p : D → Bool} (h : Tl P w K mg base k g p) (hk : k ≤ k') : Tl P w K mg base k' g p := let ⟨j, fd, px, a, b⟩ := h.ex; ⟨j, fd, px, Nat.le_trans a hk, b⟩
/-- tellers and what they tell -/
inductive Tls (P : Program) (w : World) (K : PySem.W.Frag) (mg : Str → Option Value) (base : Heap) (k : Nat) : List V → List (D → Bool) → Prop
  | nil : Tls P w K mg base k [] []
  | cons {g : Addr} {p : D → Bool} {gs : List V} {ps : List (D → Bool)} (h : Tl P w K mg base k g p) (t : Tls P w K mg base k gs ps) : Tls P w K mg base k (.ref g :: gs) (p :: ps)
theorem Tls.length {k : Nat} : ∀ {gs ps}, Tls P w K mg base k gs ps → gs.length = ps.length
  | _, _, .nil => rfl
  | _, _, .cons _ t => by simp [Tls.length t]
theorem Tls.get {k : Nat} : ∀ {gs ps} {i : Nat} {v : V}, Tls P w K mg base k gs ps → gs[i]? = some v → ∃ g p, v = .ref g ∧ ps[i]? = some p ∧ Tl P w K mg base k g p
  | _, _, _, _, .nil, e => by simp at e
  | _, _, 0, _, .cons h _, e => by simp at e; subst e; exact ⟨_, _, rfl, rfl, h⟩
  | _, _, i + 1, v, .cons _ t, e => by
    obtain ⟨g, p, a, b, c⟩ := Tls.get (i := i) (v := v) t (by simpa using e)
    exact ⟨g, p, a, by simpa using b, c⟩
theorem Tls.mono {k k' : Nat} (hk : k ≤ k') : ∀ {gs ps}, Tls P w K mg base k gs ps → Tls P w K mg base k' gs ps
  | _, _, .nil => .nil
  | _, _, .cons h t => .cons (h.mono hk) (Tls.mono hk t)

/-! ### a table of tellers by words -/
inductive Tbl (P : Program) (w : World) (K : PySem.W.Frag) (mg : Str → Option Value) (base : Heap) (k : Nat) : List DictEntry → List (Str × List (D → Bool)) → Prop
  | nil : Tbl P w K mg base k [] []
  | cons {x : Str} {tk : Tok} {t : Addr} {gs : List V} {ps : List (D → Bool)} {es : List DictEntry} {tb : List (Str × List (D → Bool))} (hs : ∀ H : Hp, SqT K H t gs) (ht : Tls P w K mg base k gs ps) (r : Tbl P w K mg base k es tb) :
      Tbl P w K mg base k (⟨PyData.keyHash w.params x, .str x tk, .ref t⟩ :: es) ((x, ps) :: tb)
theorem Tbl.keys {k : Nat} : ∀ {es tb}, Tbl P w K mg base k es tb → PySem.W.KeysLit w.params es
  | _, _, .nil => trivial
  | _, _, .cons _ _ r => ⟨⟨_, _, rfl, rfl⟩, Tbl.keys r⟩
theorem Tbl.find {k : Nat} {x : Str} : ∀ {es tb}, Tbl P w K mg base k es tb → ∃ v, RelV v (((es.find? fun e => Value.isStrOf x e.key).map (·.val)).getD .none) ∧
    ((tb.lookup x = none ∧ v = .non) ∨ ∃ ps t gs, tb.lookup x = some ps ∧ v = .ref t ∧ (∀ H : Hp, SqT K H t gs) ∧ Tls P w K mg base k gs ps)
  | _, _, .nil => ⟨.non, rfl, .inl ⟨rfl, rfl⟩⟩
  | _, _, @Tbl.cons _ _ _ _ _ _ y tk t gs ps es tb hs ht r => by
    rw [List.find?_cons, List.lookup_cons]
    have e : Value.isStrOf x (Value.str y tk) = (x == y) := by
      show (y == x) = (x == y)
      rw [Bool.eq_iff_iff, beq_iff_eq, beq_iff_eq]
      exact eq_comm
    dsimp only
    rw [e]
    cases hx : x == y with
    | true => exact ⟨.ref t, rfl, .inr ⟨ps, t, gs, rfl, rfl, hs, ht⟩⟩
    | false => exact Tbl.find r
end
end Kp
set_option Elab.async false
set_option linter.all false
set_option maxRecDepth 100000
set_option maxHeartbeats 4000000
namespace Kp
open PySem

/-! ### tuples by tellers, things by their first word -/
/-! ### the law's -/
def one (p : D → Bool) : List D → Bool
  | [a] => p a
  | _ => false
def two (p q : D → Bool) : List D → Bool
  | [a, b] => p a && q b
  | _ => false
end Kp
set_option Elab.async false
set_option linter.all false
set_option maxRecDepth 100000
set_option maxHeartbeats 4000000
namespace K1
open PySem L2 Kp
def top (i : Nat) : Stmt := PySem.Challenge.pw_keeplog_k51_a_caller.main.body.getD i (.Pass ⟨0, 0, 0, 0⟩)
abbrev s_Caller___init__ : Stmt := inClass (top 1) 0
abbrev s_Caller_wish : Stmt := inClass (top 1) 1
abbrev s_Caller_again : Stmt := inClass (top 1) 2
abbrev s_Caller_take_told : Stmt := inClass (top 1) 3
abbrev s_Caller_take_away : Stmt := inClass (top 1) 4
abbrev sCell : Stmt := top 3
abbrev s__law_whole : Stmt := top 4
abbrev sNameBy : Stmt := top 5
abbrev s__law_bounded : Stmt := top 6
abbrev s__law_deed_by : Stmt := top 7
abbrev s__law_gone : Stmt := top 8
abbrev s__law_letters : Stmt := top 9
abbrev s__law_done : Stmt := top 10
abbrev s__law_is : Stmt := top 11
abbrev sLaw : Stmt := top 12
end K1
set_option Elab.async false
set_option linter.all false
set_option maxRecDepth 100000
namespace Kp
open PySem L2
theorem tiny {n : Nat} (h : n ≤ 1000) : n ≤ sizeLine := by rw [sizeLine_eq]; omega
section
variable {X : Cx} {es l : List Expr} {te : TE} {t u : TA} {p p' pos : Pos} {j : Nat}
theorem qa_n {x : Str} (ha : PE X (.Name x p) te) (r : QA X es t) : QA X (.Name x p :: es) (tCons te t) := ⟨pa_n ha r.h⟩
theorem qa_k {f : Expr} {as : List Expr} {ks : List Keyword} (ha : PE X (.Call f as ks p) te) (r : QA X es t) : QA X (.Call f as ks p :: es) (tCons te t) := ⟨pa_k ha r.h⟩
theorem qa_s {a b : Expr} (ha : PE X (.Subscript a b p) te) (r : QA X es t) : QA X (.Subscript a b p :: es) (tCons te t) := ⟨pa_s ha r.h⟩
theorem qa_b {o : Operator} {a b : Expr} (ha : PE X (.BinOp a o b p) te) (r : QA X es t) : QA X (.BinOp a o b p :: es) (tCons te t) := ⟨pa_b ha r.h⟩
theorem qx_tup (a : QA X es t) : QE X (.Tuple es j p) (tTup t) := ⟨pe_tup a.h⟩
theorem qx_ix {a b : Expr} {ta tb : TE} {r : R2} (hx : IxR X r) (ha : QE X a ta) (hb : PE X b tb) (px : PlainIx b) : QE X (.Subscript a b pos) (tOp r ta tb) := ⟨pe_ix hx ha.h hb px⟩
end
end Kp
set_option Elab.async false
set_option linter.all false
set_option maxRecDepth 100000
set_option maxHeartbeats 4000000
namespace Kp
open PySem L2
/-! ### displays of written things, by «things of at most 16 parts» -/
theorem PA.weak {X : Cx} {es : List Expr} {t t' : TA} (h : PA X es t) (w : ∀ σ H Q, t' σ H Q → t σ H Q) : PA X es t' := fun pos pins s σ H Q I q => h pos pins s σ H Q I (w σ H Q q)
def tAnyA (n : Nat) : TA := fun _ H Q => ∀ vs H', ThL 16 H' vs → vs.length = n → Same H H' → Q vs H'
structure DA (X : Cx) (es : List Expr) (n : Nat) : Prop where
  h : PA X es (tAnyA n)
section
variable {X : Cx} {es l : List Expr} {n m : Nat} {p p' : Pos} {j : Nat}
/-- a display of tuples alone -/
def TupV (H : Hp) (v : V) : Prop := ∃ a xs, v = .ref a ∧ H a = some (.tup xs) ∧ xs.length ≤ 16 ∧ ThL 16 H xs
theorem TupV.mono {H H' : Hp} {v : V} (h : TupV H v) (s : Same H H') : TupV H' v := let ⟨a, xs, e, ha, l, t⟩ := h; ⟨a, xs, e, s _ _ ha, l, t.mono (Nat.le_refl _) s⟩
def tTupA (n : Nat) : TA := fun _ H Q => ∀ vs H', (∀ v ∈ vs, TupV H' v) → vs.length = n → Same H H' → Q vs H'
structure DT (X : Cx) (es : List Expr) (n : Nat) : Prop where
  h : PA X es (tTupA n)
end
end Kp
set_option Elab.async false
set_option linter.all false
set_option maxRecDepth 100000
namespace Kp
open PySem L2
section
variable {es l : List Expr} {te : TE} {t u : TA} {p p' pos : Pos} {j : Nat}
/- written with @ and holes for the rest: what is under them is built first, and met with the goal at the end -/
theorem pss_p {X : Cx} {st : Stmt} {rest : List Stmt} {t u : TS} (h1 : PS X st t) (h2 : PSs X rest u) : PSs X (st :: rest) (tSeq t u) := pss_cons h1 h2
theorem pss_o {X : Cx} {st : Stmt} {t : TS} (h1 : PS X st t) : PSs X [st] t := pss_one h1
end
end Kp
set_option Elab.async false
set_option linter.all false
set_option maxRecDepth 100000
set_option maxHeartbeats 4000000
namespace L2
open PySem PySem.Spec PyProof.Rows
/-! ### for k, x in enumerate(list) -/
/-! ### sorted(list of texts), list.count(text) -/
section
variable {X : Cx}
end
end L2
set_option Elab.async false
set_option linter.all false
set_option maxRecDepth 100000
set_option maxHeartbeats 4000000
namespace Kp
open PySem

/-! ### rows by the alphabet -/
/-! ### the law's -/
end Kp
set_option Elab.async false
set_option linter.all false
set_option maxRecDepth 100000
set_option maxHeartbeats 4000000
namespace Kp
open PySem L2
/-! ### a comprehension whose items are known by a property only -/
/-- tuples stay -/
def SameT (H H' : Hp) : Prop := ∀ b xs, H b = some (.tup xs) → H' b = some (.tup xs)
/-- a short text -/
def ShortS (_ : Hp) (v : V) : Prop := ∃ x : Str, v = .str x ∧ x.length ≤ 16
theorem ShortS.list {H : Hp} : ∀ {ys : List V}, (∀ v ∈ ys, ShortS H v) → ∃ ws : List Str, ys = ws.map V.str ∧ ∀ x ∈ ws, x.length ≤ 16
  | [], _ => ⟨[], rfl, fun x hx => (List.not_mem_nil hx).elim⟩
  | y :: ys, h => by
    obtain ⟨x, rfl, hx⟩ := h y List.mem_cons_self
    obtain ⟨ws, rfl, hw⟩ := ShortS.list (fun v hv => h v (List.mem_cons_of_mem _ hv))
    exact ⟨x :: ws, rfl, fun z hz => by
      rcases List.mem_cons.mp hz with rfl | hz
      · exact hx
      · exact hw z hz⟩
theorem one_slot {t : St} (h : t.length = 1) : ∃ t0, t = [t0] := by
  match t, h with
  | [t0], _ => exact ⟨t0, rfl⟩
end Kp
set_option Elab.async false
set_option linter.all false
set_option maxRecDepth 100000
set_option maxHeartbeats 4000000
namespace L2
open PySem PySem.Spec PyProof.Rows
/-! ### lists of pairs as tables -/
section
variable {κ : Type} [DecidableEq κ]
def valV (kvs : List (κ × V)) (k : κ) : Option V := (kvs.find? fun kv => decide (kv.1 = k)).map (·.2)
/-- in its place, or at the end -/
def putK (kvs : List (κ × V)) (k : κ) (v : V) : List (κ × V) :=
  if (kvs.any fun kv => decide (kv.1 = k)) = true then kvs.map (fun kv => if kv.1 = k then (kv.1, v) else kv) else kvs ++ [(k, v)]
def dropK (kvs : List (κ × V)) (k : κ) : List (κ × V) := kvs.filter fun kv => decide (kv.1 ≠ k)

theorem valV_pos {p : κ × V} {r : List (κ × V)} {k : κ} (e : p.1 = k) : valV (p :: r) k = some p.2 := by simp [valV, List.find?_cons, e]
theorem valV_neg {p : κ × V} {r : List (κ × V)} {k : κ} (e : ¬ p.1 = k) : valV (p :: r) k = valV r k := by simp [valV, List.find?_cons, e]
theorem valV_any (k : κ) : ∀ kvs : List (κ × V), (kvs.any fun kv => decide (kv.1 = k)) = (valV kvs k).isSome
  | [] => rfl
  | p :: r => by
    rw [List.any_cons]
    by_cases e : p.1 = k
    · simp only [valV_pos e, decide_eq_true e, Bool.true_or, Option.isSome_some]
    · rw [valV_neg e, decide_eq_false e, Bool.false_or]; exact valV_any k r
theorem valV_map (k j : κ) (y : V) : ∀ kvs : List (κ × V), valV (kvs.map fun kv => if kv.1 = k then (kv.1, y) else kv) j = (valV kvs j).map fun x => if j = k then y else x
  | [] => rfl
  | p :: r => by
    have ih := valV_map k j y r
    rw [List.map_cons]
    by_cases h : p.1 = k
    · rw [if_pos h]
      by_cases e : p.1 = j
      · rw [valV_pos (p := (p.1, y)) e, valV_pos e, Option.map_some, if_pos (e.symm.trans h)]
      · rw [valV_neg (p := (p.1, y)) e, valV_neg e, ih]
    · rw [if_neg h]
      by_cases e : p.1 = j
      · rw [valV_pos (p := p) e, valV_pos e, Option.map_some, if_neg (fun z => h (e.trans z))]
      · rw [valV_neg (p := p) e, valV_neg e, ih]
theorem valV_snoc (k j : κ) (y : V) : ∀ kvs : List (κ × V), valV kvs k = none → valV (kvs ++ [(k, y)]) j = if j = k then some y else valV kvs j
  | [], _ => by
    by_cases e : k = j
    · rw [if_pos e.symm]; exact valV_pos (p := (k, y)) e
    · rw [if_neg (fun z => e z.symm)]; exact valV_neg (p := (k, y)) e
  | p :: r, hn => by
    rw [List.cons_append]
    have hk : ¬ p.1 = k := fun z => by rw [valV_pos z] at hn; cases hn
    rw [valV_neg hk] at hn
    have ih := valV_snoc k j y r hn
    by_cases e : p.1 = j
    · rw [valV_pos e, valV_pos e, if_neg (fun z => hk (e.trans z))]
    · rw [valV_neg e, valV_neg e, ih]
theorem valV_put (kvs : List (κ × V)) (k j : κ) (y : V) : valV (putK kvs k y) j = if j = k then some y else valV kvs j := by
  unfold putK
  by_cases a : (kvs.any fun kv => decide (kv.1 = k)) = true
  · rw [if_pos a, valV_map]
    rw [valV_any] at a
    by_cases e : j = k
    · obtain ⟨x, hx⟩ := Option.isSome_iff_exists.mp a
      rw [if_pos e, e, hx, Option.map_some, if_pos rfl]
    · rw [if_neg e]
      cases valV kvs j with
      | none => rfl
      | some x => rw [Option.map_some, if_neg e]
  · rw [if_neg a]
    refine valV_snoc k j y kvs ?_
    rw [valV_any] at a
    cases q : valV kvs k with
    | none => rfl
    | some x => rw [q] at a; exact (a rfl).elim
theorem length_putK (kvs : List (κ × V)) (k : κ) (v : V) : (putK kvs k v).length ≤ kvs.length + 1 := by
  unfold putK
  split
  · rw [List.length_map]; omega
  · rw [List.length_append, List.length_cons, List.length_nil]; omega
theorem RelO.isSome_eq {o : Option V} {u : Option Value} (r : RelO o u) : o.isSome = u.isSome := by
  cases o with
  | none => cases u with
    | none => rfl
    | some _ => exact (show False from r).elim
  | some _ => cases u with
    | none => exact (show False from r).elim
    | some _ => rfl
theorem RelO.getD {o : Option V} {u : Option Value} {d : V} {d' : Value} (r : RelO o u) (rd : RelV d d') : RelV (o.getD d) (u.getD d') := by
  cases o with
  | none => cases u with
    | none => exact rd
    | some _ => exact (show False from r).elim
  | some _ => cases u with
    | none => exact (show False from r).elim
    | some _ => exact r

/-- raw tables of the same keys -/
theorem KV.val {kvs : List (κ × V)} {vs : List (κ × Value)} (r : KV kvs vs) (k : κ) : RelO (valV kvs k) (valueAt vs k) := by
  unfold KV at r
  induction r with
  | nil => exact True.intro
  | @cons p q ps qs h t ih =>
    obtain ⟨h1, h2⟩ := h
    by_cases e : p.1 = k
    · have e' : q.1 = k := h1.symm.trans e
      have b : valueAt (q :: qs) k = some q.2 := by simp [valueAt, List.find?_cons, e']
      rw [valV_pos e, b]; exact h2
    · have e' : ¬ q.1 = k := fun z => e (h1.trans z)
      have b : valueAt (q :: qs) k = valueAt qs k := by simp [valueAt, List.find?_cons, e']
      rw [valV_neg e, b]; exact ih
theorem KV.any {kvs : List (κ × V)} {vs : List (κ × Value)} (r : KV kvs vs) (k : κ) : (kvs.any fun kv => decide (kv.1 = k)) = vs.any fun kv => decide (kv.1 = k) := by
  unfold KV at r
  induction r with
  | nil => rfl
  | cons h t ih => rw [List.any_cons, List.any_cons, ih, h.1]
theorem KV.repl {kvs : List (κ × V)} {vs : List (κ × Value)} (r : KV kvs vs) (k : κ) {y : V} {u : Value} (ry : RelV y u) :
    KV (kvs.map fun kv => if kv.1 = k then (kv.1, y) else kv) (vs.map fun kv => if kv.1 = k then (kv.1, u) else kv) := by
  unfold KV at r ⊢
  induction r with
  | nil => exact .nil
  | @cons p q ps qs h t ih =>
    rw [List.map_cons, List.map_cons]
    refine .cons ?_ ih
    obtain ⟨h1, h2⟩ := h
    by_cases e : p.1 = k
    · rw [if_pos e, if_pos (h1.symm.trans e)]; exact ⟨h1, ry⟩
    · rw [if_neg e, if_neg (fun z => e (h1.trans z))]; exact ⟨h1, h2⟩
theorem KV.put {kvs : List (κ × V)} {vs : List (κ × Value)} (r : KV kvs vs) (k : κ) {y : V} {u : Value} (ry : RelV y u) : KV (putK kvs k y) (stored vs k u) := by
  unfold putK stored
  rw [r.any k]
  by_cases e : (vs.any fun kv => decide (kv.1 = k)) = true
  · rw [if_pos e, if_pos e]; exact r.repl k ry
  · rw [if_neg e, if_neg e]; exact Paired.snoc r ⟨rfl, ry⟩
theorem KV.drop {kvs : List (κ × V)} {vs : List (κ × Value)} (r : KV kvs vs) (k : κ) : KV (dropK kvs k) (without vs k) := by
  unfold KV at r ⊢
  unfold dropK without
  induction r with
  | nil => exact .nil
  | @cons p q ps qs h t ih =>
    obtain ⟨h1, h2⟩ := h
    rw [List.filter_cons, List.filter_cons]
    by_cases e : p.1 = k
    · have a : ¬ decide (p.1 ≠ k) = true := by simp [e]
      have b : ¬ decide (q.1 ≠ k) = true := by simp [h1.symm.trans e]
      rw [if_neg a, if_neg b]; exact ih
    · have e' : ¬ q.1 = k := fun z => e (h1.trans z)
      have a : decide (p.1 ≠ k) = true := by simp [e]
      have b : decide (q.1 ≠ k) = true := by simp [e']
      rw [if_pos a, if_pos b]; exact .cons ⟨h1, h2⟩ ih
theorem KV.keys {kvs : List (κ × V)} {vs : List (κ × Value)} (r : KV kvs vs) : kvs.map (·.1) = vs.map (·.1) := by
  unfold KV at r
  induction r with
  | nil => rfl
  | cons h t ih => rw [List.map_cons, List.map_cons, ih, h.1]
theorem KV.length {kvs : List (κ × V)} {vs : List (κ × Value)} (r : KV kvs vs) : kvs.length = vs.length := Paired.length r
end


/-! ### a tracked dict, its keys ints and texts or tuples of these -/
theorem kV_is {P : Program} {w : World} {k : Key} {u : Value} (r : RelV (kV k) u) : (mixKind P w).is k u = true := by
  cases k with
  | inl i => obtain ⟨t, e⟩ := (show ∃ t, u = Value.int i t from r); subst e; exact mixKind_int P w i t
  | inr x => obtain ⟨t, e⟩ := (show ∃ t, u = Value.str x t from r); subst e; exact mixKind_str P w x t
theorem items_are {P : Program} {w : World} : ∀ {ks : List Key} {us : List Value}, Vals (ks.map kV) us → ItemsAre (mixKind P w) ks us
  | [], _, r => by rw [List.map_nil] at r; cases r; exact .nil
  | k :: ks, _, r => by
    rw [List.map_cons] at r
    cases r with
    | cons h t => exact .cons (kV_is h) (items_are t)

/-- raw entries of a dict with tuple keys -/
abbrev KT (H : Hp) : List (List Key × V) → List (List Key × Addr × Value) → Prop := Paired fun p q => p.1 = q.1 ∧ H q.2.1 = some (.tup (p.1.map kV)) ∧ RelV p.2 q.2.2
theorem KT.val {H : Hp} {kvs : List (List Key × V)} {xs : List (List Key × Addr × Value)} (r : KT H kvs xs) (k : List Key) : RelO (valV kvs k) ((atKey xs k).map (·.2)) := by
  induction r with
  | nil => exact True.intro
  | @cons p q ps qs h t ih =>
    obtain ⟨h1, _, h2⟩ := h
    by_cases e : p.1 = k
    · have e' : q.1 = k := h1.symm.trans e
      have b : atKey (q :: qs) k = some q.2 := by simp [atKey, List.find?_cons, e']
      rw [valV_pos e, b]; exact h2
    · have e' : ¬ q.1 = k := fun z => e (h1.trans z)
      have b : atKey (q :: qs) k = atKey qs k := by simp [atKey, List.find?_cons, e']
      rw [valV_neg e, b]; exact ih
theorem KT.repl {H : Hp} {kvs : List (List Key × V)} {xs : List (List Key × Addr × Value)} (r : KT H kvs xs) (k : List Key) {y : V} {u : Value} (ry : RelV y u) :
    KT H (kvs.map fun kv => if kv.1 = k then (kv.1, y) else kv) (xs.map (putAt k u)) := by
  induction r with
  | nil => exact .nil
  | @cons p q ps qs h t ih =>
    rw [List.map_cons, List.map_cons]
    refine .cons ?_ ih
    obtain ⟨h1, h2, h3⟩ := h
    unfold putAt
    by_cases e : p.1 = k
    · rw [if_pos e, if_pos (h1.symm.trans e)]; exact ⟨h1, h2, ry⟩
    · rw [if_neg e, if_neg (fun z => e (h1.trans z))]; exact ⟨h1, h2, h3⟩
theorem KT.put {H : Hp} {kvs : List (List Key × V)} {xs : List (List Key × Addr × Value)} (r : KT H kvs xs) (k : List Key) {b : Addr} {y : V} {u : Value} (hb : H b = some (.tup (k.map kV))) (ry : RelV y u) :
    KT H (putK kvs k y) (storedH xs k b u) := by
  have e : (kvs.any fun kv => decide (kv.1 = k)) = (atKey xs k).isSome := by
    rw [valV_any, (r.val k).isSome_eq, Option.isSome_map]
  unfold putK storedH
  rw [e]
  by_cases q : (atKey xs k).isSome = true
  · rw [if_pos q, if_pos q]; exact r.repl k ry
  · rw [if_neg q, if_neg q]; exact Paired.snoc r ⟨rfl, hb, ry⟩
theorem KT.keeps {H H' : Hp} {kvs : List (List Key × V)} {xs : List (List Key × Addr × Value)} (r : KT H kvs xs) (ht : ∀ b ys, H b = some (.tup ys) → H' b = some (.tup ys)) : KT H' kvs xs :=
  Paired.mapP r fun _ _ z => ⟨z.1, ht _ _ z.2.1, z.2.2⟩

section
variable {P : Program} {w : World} {H : Hp} {h : Heap} {a : Addr}
theorem rd_of {u : HO} (ok : HOk P w H h) (e : Rd H a u) : ObjOk P w H h a u := e.ok ok
theorem dk_rd {kvs : List (Key × V)} (ok : HOk P w H h) (e : Rd H a (.dK kvs)) : kvs.length ≤ sizeLine ∧ (a == sysModules) = false ∧ ∃ vs, KV kvs vs ∧ h.DictOf (mixKind P w) a vs :=
  show ObjOk P w H h a (.dK kvs) from rd_of ok e
theorem dk_of {kvs : List (Key × V)} (ok : HOk P w H h) (e : H a = some (.dK kvs)) : kvs.length ≤ sizeLine ∧ (a == sysModules) = false ∧ ∃ vs, KV kvs vs ∧ h.DictOf (mixKind P w) a vs := dk_rd ok (.inl e)
/-- a tracked tuple of ints and texts is a key -/
theorem key_of {ks : List Key} (ok : HOk P w H h) (e : H a = some (.tup (ks.map kV))) : (tupleKind (mixKind P w)).is h ks a := by
  obtain ⟨_, its, r, o, h1, h2, n, h3⟩ := (show ObjOk P w H h a (.tup (ks.map kV)) from ok a _ e)
  exact ⟨o, its.toArray, n, h1, h2, h3, by simpa using items_are r⟩
theorem dt_rd {kvs : List (List Key × V)} (ok : HOk P w H h) (e : Rd H a (.dT kvs)) : kvs.length ≤ sizeLine ∧ (a == sysModules) = false ∧
    ∃ xs, KT H kvs xs ∧ h.DictOfH (tupleKind (mixKind P w)) a xs := by
  obtain ⟨z, y, xs, r, o, es, ep, h1, h2, h3, h4, h5⟩ := (show ObjOk P w H h a (.dT kvs) from rd_of ok e)
  refine ⟨z, y, xs, r, o, es, ep, h1, h2, h3, h4, fun x hx => ?_, h5⟩
  have all : ∀ {l : List (List Key × V)} {m : List (List Key × Addr × Value)}, KT H l m → ∀ x ∈ m, (tupleKind (mixKind P w)).is h x.1 x.2.1 := by
    intro l m q
    induction q with
    | nil => intro x hx; exact nomatch hx
    | @cons p q ps qs hq t ih =>
      intro x hx
      rcases List.mem_cons.mp hx with e | hx
      · subst e
        exact key_of ok (by rw [← hq.1]; exact hq.2.1)
      · exact ih x hx
  exact all r x hx
theorem dt_of {kvs : List (List Key × V)} (ok : HOk P w H h) (e : H a = some (.dT kvs)) : kvs.length ≤ sizeLine ∧ (a == sysModules) = false ∧
    ∃ xs, KT H kvs xs ∧ h.DictOfH (tupleKind (mixKind P w)) a xs := dt_rd ok (.inl e)
end

/-- what the dict at a holds at the key y -/
def DGet (H : Hp) (a : Addr) (y : V) (r : Option V) : Prop :=
  (∃ kvs k, Rd H a (.dK kvs) ∧ y = kV k ∧ r = valV kvs k) ∨ ∃ kvs k b, Rd H a (.dT kvs) ∧ y = .ref b ∧ H b = some (.tup (k.map kV)) ∧ r = valV kvs k
/-- the heap behind a[y] = v -/
def DPut (H : Hp) (a : Addr) (y v : V) (H' : Hp) : Prop :=
  (∃ kvs k, H a = some (.dK kvs) ∧ y = kV k ∧ kvs.length < sizeLine ∧ H' = upd H a (.dK (putK kvs k v))) ∨
  ∃ kvs k b, H a = some (.dT kvs) ∧ y = .ref b ∧ H b = some (.tup (k.map kV)) ∧ kvs.length < sizeLine ∧ H' = upd H a (.dT (putK kvs k v))
theorem DGet.k {H : Hp} {a : Addr} {kvs : List (Key × V)} {k : Key} (e : H a = some (.dK kvs)) : DGet H a (kV k) (valV kvs k) := .inl ⟨kvs, k, .inl e, rfl, rfl⟩
theorem DGet.t {H : Hp} {a b : Addr} {kvs : List (List Key × V)} {k : List Key} (e : H a = some (.dT kvs)) (eb : H b = some (.tup (k.map kV))) : DGet H a (.ref b) (valV kvs k) := .inr ⟨kvs, k, b, .inl e, rfl, eb, rfl⟩
theorem DPut.k {H : Hp} {a : Addr} {kvs : List (Key × V)} {k : Key} {v : V} (e : H a = some (.dK kvs)) (hl : kvs.length < sizeLine) : DPut H a (kV k) v (upd H a (.dK (putK kvs k v))) := .inl ⟨kvs, k, e, rfl, hl, rfl⟩
theorem DPut.t {H : Hp} {a b : Addr} {kvs : List (List Key × V)} {k : List Key} {v : V} (e : H a = some (.dT kvs)) (eb : H b = some (.tup (k.map kV))) (hl : kvs.length < sizeLine) :
    DPut H a (.ref b) v (upd H a (.dT (putK kvs k v))) := .inr ⟨kvs, k, b, e, rfl, eb, hl, rfl⟩


section
variable {X : Cx} {pins : List (Addr × Obj)} {σ : St} {H : Hp} {s : Shared} {a : Addr} {y v : V} {u r : Value} {o : Option V} {A : Around} {E : Value → Shared → Prop}

theorem Inv.big (I : Inv X pins σ H s) : sysModules < s.heap.objs.size := by
  have h : mainGlobals < s.heap.objs.size := (I.mod.glob.keeps I.bk).lt
  exact Nat.lt_trans (by decide) h

/-- d[y], there -/
theorem d_getItem {Q : Value → Shared → Prop} (hu : A.units + 1 < cLine) (I : Inv X pins σ H s) (g : DGet H a y (some v)) (ry : RelV y u) (h : ∀ w' s', Inv X pins σ H s' → RelV v w' → Q w' s') :
    wpAny (model X.prog X.w) A (getItem (.ref a) u) Q E s := by
  rcases g with ⟨kvs, k, e, ey, l⟩ | ⟨kvs, k, b, e, ey, eb, l⟩
  · subst ey
    obtain ⟨z, hd, vs, rel, dd⟩ := dk_rd I.hok e
    obtain ⟨w', hw, rw'⟩ := RelO.some_of (v := v) (o := valueAt vs k) (by rw [l]; exact rel.val k)
    exact wpAny_getItem_of (kV_is ry) dd.mapOf hw (h w' _ (I.tok _) rw')
  · subst ey
    cases (show u = Value.ref b from ry)
    obtain ⟨z, hd, xs, rel, dd⟩ := dt_rd I.hok e
    obtain ⟨w', hw, rw'⟩ := RelO.some_of (v := v) (o := (atKey xs k).map (·.2)) (by rw [l]; exact rel.val k)
    obtain ⟨p, hp, hp2⟩ := Option.map_eq_some_iff.mp hw
    refine wpAny_getItem_heap (tupleKind_room_in1 hu) (key_of I.hok eb) dd hp ?_
    rw [hp2]
    exact h w' _ (I.tok _) rw'
/-- a dict's object is replaced -/
theorem d_write {h' : Heap} {t' : Nat} {ob : HO} (I : Inv X pins σ H s) (mu : Mut (H a)) (hs : Heap.SameBut a s.heap h') (he : ∃ q, h'.get? a = some q) (new : ObjOk X.prog X.w (upd H a ob) h' a ob) :
    Inv X pins σ (upd H a ob) { s with heap := h', toks := t' } :=
  I.write (x := a) (e := a) mu (.inl rfl) (fun b q hb z => (hs.2 b hb).trans z) he new
theorem dk_new {P : Program} {w : World} {H' : Hp} {h' : Heap} {kvs : List (Key × V)} {vs : List (Key × Value)} (z : kvs.length ≤ sizeLine) (hd : (a == sysModules) = false) (rel : KV kvs vs) (dd : h'.DictOf (mixKind P w) a vs) :
    ObjOk P w H' h' a (.dK kvs) := ⟨z, hd, vs, rel, dd⟩
/-- d[y] = v -/
theorem d_setItem {H' : Hp} {Q : Unit → Shared → Prop} (hu : A.units + 1 < cLine) (I : Inv X pins σ H s) (g : DPut H a y v H') (ry : RelV y u) (rv : RelV v r) (h : ∀ s', Inv X pins σ H' s' → Q () s') :
    wpAny (model X.prog X.w) A (setItem (.ref a) u r) Q E s := by
  rcases g with ⟨kvs, k, e, ey, l, eH⟩ | ⟨kvs, k, b, e, ey, eb, l, eH⟩
  · subst ey eH
    obtain ⟨z, hd, vs, rel, dd⟩ := dk_of I.hok e
    have hz : vs.length ≤ sizeLine := by rw [← rel.length]; exact z
    have hl : (putK kvs k v).length ≤ sizeLine := by have := length_putK kvs k v; omega
    refine wpAny_setItem_pairs (hsz := hz) (kV_is ry) dd fun h' dd' hs => h _ ?_
    have he : ∃ q, h'.get? a = some q := let ⟨q, _, _, hq, _⟩ := dd'; ⟨q, hq⟩
    exact d_write I (by rw [e]; exact True.intro) hs he (dk_new hl hd (rel.put k rv) dd')
  · subst ey eH
    cases (show u = Value.ref b from ry)
    obtain ⟨z, hd, xs, rel, dd⟩ := dt_of I.hok e
    have hz : xs.length ≤ sizeLine := by rw [← Paired.length rel]; exact z
    have hl : (putK kvs k v).length ≤ sizeLine := by have := length_putK kvs k v; omega
    refine wpAny_setItem_heap (hsz := hz) (tupleKind_room_in1 hu) (key_of I.hok eb) dd fun h' dd' hs => h _ ?_
    obtain ⟨q, es, ep, hq, h2, h3, h4, _, h5⟩ := dd'
    refine d_write I (by rw [e]; exact True.intro) hs ⟨q, hq⟩ ⟨hl, hd, _, (rel.put k eb rv).keeps fun c ys ec => ?_, q, es, ep, hq, h2, h3, h4, h5⟩
    rw [upd_ne (ne_of ec e (fun z => nomatch z))]
    exact ec
end

section
variable {X : Cx} {pins : List (Addr × Obj)} {σ : St} {H : Hp} {s : Shared} {a : Addr} {kvs : List (Key × V)} {k : Key} {u : Value} {A : Around} {E : Value → Shared → Prop}
end


/-! ### readings and rules -/
/-- the element of a subscription, not a slice -/
def NoSl (i : Expr) : Prop := ∀ ov iv, subscripted i false ov iv = operate [ov, iv] (getItem ov iv)
theorem subD_of {prog : Program} {w : World} {A : Around} {E : Value → Shared → Prop} {s : Shared} {env : Env} {value slice : Expr} {pos : Pos} {T id : String} {Q : Value → Shared → Prop}
    (hl : typeLookup (.type T) "__getitem__" = pure (some (.builtin id))) (hs : NoSl slice)
    (h : wpAny (model prog w) A (eval value env) (fun o s₁ => wpAny (model prog w) A (eval slice env) (fun i s₂ => s₂.TypeIs o T ∧ wpAny (model prog w) A (getItem o i) Q E s₂) E s₁) E s) :
    wpAny (model prog w) A (eval (.Subscript value slice pos) env) Q E s := by
  refine Subscript_ (wpAny_mono h (fun o s₁ h₁ => wpAny_mono h₁ (fun i s₂ h₂ => ?_) fun _ _ x => x) fun _ _ x => x)
  obtain ⟨hT, h₂⟩ := h₂
  unfold subscriptTail
  refine wpAny_bind ?_
  rw [getitemInPython_of_ne hT.not_modules]
  refine wpAny_bind (wpAny_specialOf hT hl ?_)
  have fin : wpAny (model prog w) A (subscripted slice false o i) (fun r s₃ => wpAny (model prog w) A (letTemporaryGo value o r >>= fun _ => pure r) Q E s₃) E s₂ := by
    rw [hs o i]
    exact wpAny_operating (wpAny_mono h₂ (fun r s₃ h₃ => wpAny_bind (wpAny_letTemporaryGo (wpAny_pure h₃))) fun _ _ x => x)
  first
    | exact wpAny_pure (wpAny_bind fin)
    | exact wpAny_bind (wpAny_pure (wpAny_bind fin))
    | exact wpAny_bind fin

theorem dict_typeIs {X : Cx} {pins : List (Addr × Obj)} {σ : St} {H : Hp} {s : Shared} {a : Addr} {y : V} {o : Option V} (I : Inv X pins σ H s) (g : DGet H a y o) : s.TypeIs (.ref a) "dict" := by
  rcases g with ⟨kvs, k, e, _, _⟩ | ⟨kvs, k, b, e, _, _, _⟩
  · obtain ⟨_, _, vs, _, dd⟩ := dk_rd I.hok e
    exact dd.typeIs
  · obtain ⟨_, _, xs, _, dd⟩ := dt_rd I.hok e
    exact dd.typeIs
/-- d[y] -/
def tDGet (td ty : TE) : TE := fun σ H Q => td σ H fun x H1 => ty σ H1 fun y H2 => ∃ a v, x = .ref a ∧ DGet H2 a y (some v) ∧ Q v H2
/-- d[y] = v -/
def sDPut (td ty tv : TE) : TS := fun D σ H => tv σ H fun v H1 => td σ H1 fun x H2 => ty σ H2 fun y H3 => ∃ a H4, x = .ref a ∧ DPut H3 a y v H4 ∧ D.nx σ H4
section
variable {X : Cx} {o i e value : Expr} {pos pos' tpos : Pos} {td ty tv : TE}
theorem pe_dget (hu : X.A.units + 1 < cLine) (ho : PE X o td) (hi : PE X i ty) (hs : NoSl i) : PE X (.Subscript o i pos) (tDGet td ty) := by
  intro pins s σ H Q I h
  refine subD_of PySem.F.slot_dict_getitem.lookup hs (thn (ho pins s σ H _ I h) fun u s1 ⟨x, H1, I1, rx, q1⟩ => thn (hi pins s1 σ H1 _ I1 q1) fun iv s2 ⟨y, H2, I2, ry, a, v, ex, g, q2⟩ => ?_)
  subst ex
  obtain rfl : u = Value.ref a := rx
  exact ⟨dict_typeIs I2 g, d_getItem hu I2 g ry fun w' s3 I3 rw' => ⟨v, H2, I3, rw', q2⟩⟩
theorem ps_dput (hu : X.A.units + 1 < cLine) (ho : PE X o td) (hi : PE X i ty) (hv : PE X value tv) (hs : swapsWith value (some (.Subscript o i pos')) pos.line X.env = pure false) :
    PS X (.Assign [.Subscript o i pos'] value pos) (sDPut td ty tv) := by
  intro pins s σ H D I h
  refine wpAny_Assign_Subscript (thn (hv pins s σ H _ I h) fun r s1 ⟨v, H1, I1, rv, q1⟩ => thn (ho pins s1 σ H1 _ I1 q1) fun u s2 ⟨x, H2, I2, rx, q2⟩ => thn (hi pins s2 σ H2 _ I2 q2) fun iv s3 ⟨y, H3, I3, ry, a, H4, ex, g, q3⟩ => ?_) hs
  subst ex
  obtain rfl : u = Value.ref a := rx
  exact d_setItem hu I3 g ry rv fun s4 I4 => ⟨σ, H4, I4, q3⟩
end


/-! ### displays -/
theorem dk_empty {P : Program} {w : World} {H : Hp} (h : Heap) (hb : sysModules < h.objs.size) : ObjOk P w H (h.push { cls := .type "dict", data := .dict #[] }) h.objs.size (.dK []) :=
  ⟨Nat.zero_le _, beq_eq_false_iff_ne.mpr (Ne.symm (Nat.ne_of_lt hb)), [], .nil, Heap.DictOf.new h⟩
section
variable {X : Cx} {pos : Pos}
end

/-- the pairs of a display, from the left -/
def tPairs : List (TE × TE) → St → Hp → (List (V × V) → Hp → Prop) → Prop
  | [], _, H, Q => Q [] H
  | (tk, tv) :: r, σ, H, Q => tk σ H fun x H1 => tv σ H1 fun y H2 => tPairs r σ H2 fun ps H3 => Q ((x, y) :: ps) H3
abbrev VV : List (V × V) → List (Value × Value) → Prop := Paired fun p q => RelV p.1 q.1 ∧ RelV p.2 q.2
def PPs (X : Cx) (pos : Pos) (keys : List (Option Expr)) (values : List Expr) (trs : List (TE × TE)) : Prop :=
  ∀ (pins : List (Addr × Obj)) (s : Shared) (σ : St) (H : Hp) (Q : List (V × V) → Hp → Prop), Inv X pins σ H s → tPairs trs σ H Q →
    wpAny (model X.prog X.w) X.A (evalPairs (pairTrees keys values X.env pos)) (fun vs s' => ∃ ps H', Inv X pins σ H' s' ∧ VV ps vs ∧ Q ps H') X.xe s
theorem pps_nil {X : Cx} {pos : Pos} : PPs X pos [] [] [] := fun pins s σ H Q I h => pairTrees_nil_walk ⟨[], H, I, .nil, h⟩
theorem pps_cons {X : Cx} {pos : Pos} {k v : Expr} {ks : List (Option Expr)} {vs : List Expr} {tk tv : TE} {trs : List (TE × TE)} (hk : PE X k tk) (hv : PE X v tv) (hr : PPs X pos ks vs trs) :
    PPs X pos (some k :: ks) (v :: vs) ((tk, tv) :: trs) := fun pins s σ H Q I h =>
  pairTrees_cons_walk (thn (hk pins s σ H _ I h) fun u s1 ⟨x, H1, I1, rx, q1⟩ => thn (hv pins s1 σ H1 _ I1 q1) fun w2 s2 ⟨y, H2, I2, ry, q2⟩ =>
    thn (hr pins s2 σ H2 _ I2 q2) fun ws s3 ⟨ps, H3, I3, rel, q3⟩ => ⟨(x, y) :: ps, H3, I3, .cons ⟨rx, ry⟩ rel, q3⟩)

def mergeK (kvs more : List (Key × V)) : List (Key × V) := more.foldl (fun acc kv => putK acc kv.1 kv.2) kvs
theorem KV.merge : ∀ {more : List (Key × V)} {rs : List (Key × Value)} {kvs : List (Key × V)} {vs : List (Key × Value)}, KV more rs → KV kvs vs → KV (mergeK kvs more) (merged vs rs) := by
  intro more rs kvs vs r
  unfold KV at r
  induction r generalizing kvs vs with
  | nil => intro q; exact q
  | @cons p q ps qs h t ih =>
    intro r0
    have e : KV (putK kvs p.1 p.2) (stored vs q.1 q.2) := by
      have := r0.put p.1 h.2
      rw [← h.1]; exact this
    exact ih e
theorem length_mergeK : ∀ (more kvs : List (Key × V)), (mergeK kvs more).length ≤ kvs.length + more.length
  | [], kvs => by show kvs.length ≤ kvs.length + 0; omega
  | p :: r, kvs => by
    have h1 := length_mergeK r (putK kvs p.1 p.2)
    have h2 := length_putK kvs p.1 p.2
    show (mergeK (putK kvs p.1 p.2) r).length ≤ _
    rw [List.length_cons]; omega
theorem carries_of {P : Program} {w : World} : ∀ {kvs : List (Key × V)} {ws : List (Value × Value)}, VV (kvs.map fun kv => (kV kv.1, kv.2)) ws → ∃ rs, Carries (mixKind P w) ws rs ∧ KV kvs rs
  | [], _, r => by rw [List.map_nil] at r; cases r; exact ⟨[], True.intro, .nil⟩
  | p :: kvs, _, r => by
    rw [List.map_cons] at r
    cases r with
    | @cons a b as bs h t =>
      obtain ⟨rs, c, q⟩ := carries_of (P := P) (w := w) t
      obtain ⟨b1, b2⟩ := b
      exact ⟨(p.1, b2) :: rs, ⟨kV_is h.1, rfl, c⟩, .cons ⟨rfl, h.2⟩ q⟩
/-- {k: v, ..} with keys ints and texts; the new dict stands empty while the pairs are made -/
def tDisp (trs : List (TE × TE)) : TE := fun σ H Q => ∀ p, H p = none → tPairs trs σ (upd H p (.dK [])) fun ps H2 => H2 p = some (.dK []) ∧ ∃ kvs : List (Key × V), ps = kvs.map (fun kv => (kV kv.1, kv.2)) ∧ kvs.length ≤ 15 ∧ Q (.ref p) (upd H2 p (.dK (mergeK [] kvs)))
theorem pe_disp {X : Cx} {pos : Pos} {keys : List (Option Expr)} {values : List Expr} {trs : List (TE × TE)} (h : PPs X pos keys values trs) (hall : keys.all (·.isSome) = true) (hl : keys.length = values.length) (h0 : keys ≠ [])
    (h15 : keys.length ≤ 15) : PE X (.Dict keys values pos) (tDisp trs) := by
  intro pins s σ H Q I q
  have hn := I.hok.fresh (Nat.le_refl s.heap.objs.size)
  have I1 := I.laid (a := s.heap.objs.size) (o := .dK []) (h' := s.heap.push { cls := .type "dict", data := .dict #[] }) (t' := s.toks) (fun _ _ q => Heap.get?_push_of_some _ q) (Nat.le_refl _) (dk_empty s.heap I.big)
  refine wpAny_Dict_walk (knd := mixKind X.prog X.w) hall hl h0 h15 (thn (h pins _ σ _ _ I1 (q _ hn)) fun ws s2 ⟨ps, H2, I2, rel, e, kvs, ep, lk, q2⟩ => ?_)
  subst ep
  obtain ⟨rs, c, rk⟩ := carries_of (P := X.prog) (w := X.w) rel
  obtain ⟨z, hd, vs0, r0, dd⟩ := dk_of I2.hok e
  cases r0
  refine ⟨rs, c, dd, fun h' dd' hs => ⟨.ref s.heap.objs.size, _, ?_, rfl, q2⟩⟩
  have hz : (mergeK [] kvs).length ≤ sizeLine := by
    have h1 := length_mergeK kvs []
    rw [List.length_nil] at h1
    rw [sizeLine_eq]; omega
  have he : ∃ q, h'.get? s.heap.objs.size = some q := let ⟨q, _, _, hq, _⟩ := dd'; ⟨q, hq⟩
  exact d_write I2 (by rw [e]; exact True.intro) hs he (dk_new hz hd (rk.merge .nil) dd')


end L2
set_option Elab.async false
set_option linter.all false
set_option maxRecDepth 100000
set_option maxHeartbeats 4000000
namespace Kp
open PySem L2 PySem.Spec PyProof.Rows
/-- a list == [], whatever it holds -/
theorem op_eqE {X : Cx} (hu : X.A.units < cLine) : OpR X (compareOp .Eq) (fun x y H Q => ∃ p q xs, x = .ref p ∧ y = .ref q ∧ SqL X.K H p xs ∧ SqL X.K H q [] ∧ Q (.bl xs.isEmpty) H) := by
  intro pins s σ H x y v u Q I rx ry h
  obtain ⟨p, q', xs, rfl, rfl, h1, h2, q⟩ := h
  cases xs with
  | nil => exact op_eqL hu pins s σ H _ _ _ _ Q I rx ry ⟨p, q', [], [], rfl, rfl, h1, h2, rfl, rfl, q⟩
  | cons a r =>
    cases rx
    cases ry
    obtain ⟨its, r1, pl1, _⟩ := I.list h1
    obtain ⟨jts, r2, pl2, _⟩ := I.list h2
    exact SeqAt.eq_list_lengthsAt pl1.isList pl2.isList (by simp [← r1.length, ← r2.length]) hu ⟨.bl false, H, I, rfl, q⟩
end Kp
set_option Elab.async false
set_option linter.all false
set_option maxRecDepth 100000
set_option maxHeartbeats 4000000
namespace Kp
open PySem L2
/-! ### things without lists: they stay while tuples stay -/
mutual
inductive ThN (B : Nat) (H : Hp) : V → Prop
  | non : ThN B H .non
  | bl (b : Bool) : ThN B H (.bl b)
  | int (i : Int) : ThN B H (.int i)
  | str (x : Str) (h : x.length ≤ B) : ThN B H (.str x)
  | tup {a : Addr} {vs : List V} (e : H a = some (.tup vs)) (l : vs.length ≤ B) (r : ThNL B H vs) : ThN B H (.ref a)
inductive ThNL (B : Nat) (H : Hp) : List V → Prop
  | nil : ThNL B H []
  | cons {v : V} {vs : List V} (h : ThN B H v) (t : ThNL B H vs) : ThNL B H (v :: vs)
end
mutual
theorem ThN.sameT {B B' : Nat} {H H' : Hp} (hB : B ≤ B') (s : SameT H H') : ∀ {v}, ThN B H v → ThN B' H' v
  | _, .non => .non
  | _, .bl b => .bl b
  | _, .int i => .int i
  | _, .str x h => .str x (Nat.le_trans h hB)
  | _, .tup e l r => .tup (s _ _ e) (Nat.le_trans l hB) (ThNL.sameT hB s r)
theorem ThNL.sameT {B B' : Nat} {H H' : Hp} (hB : B ≤ B') (s : SameT H H') : ∀ {vs}, ThNL B H vs → ThNL B' H' vs
  | _, .nil => .nil
  | _, .cons h t => .cons (ThN.sameT hB s h) (ThNL.sameT hB s t)
end
mutual
theorem ThN.th {B : Nat} {H : Hp} : ∀ {v}, ThN B H v → Th B H v
  | _, .non => Th.non
  | _, .bl b => Th.bl b
  | _, .int i => Th.int i
  | _, .str x h => Th.str x h
  | _, .tup e l r => Th.tup e l (ThNL.th r)
theorem ThNL.th {B : Nat} {H : Hp} : ∀ {vs}, ThNL B H vs → ThL B H vs
  | _, .nil => ThL.nil
  | _, .cons h t => ThL.cons (ThN.th h) (ThNL.th t)
end
theorem sameT_of {H H' : Hp} (s : Same H H') : SameT H H' := fun b xs e => s _ _ e
theorem ThN.mono {B B' : Nat} {H H' : Hp} {v : V} (h : ThN B H v) (hB : B ≤ B') (s : Same H H') : ThN B' H' v := ThN.sameT hB (sameT_of s) h
theorem ThNL.mono {B B' : Nat} {H H' : Hp} {v : List V} (h : ThNL B H v) (hB : B ≤ B') (s : Same H H') : ThNL B' H' v := ThNL.sameT hB (sameT_of s) h
theorem ThNL.ints {B : Nat} {H : Hp} : ∀ (ns : List Int), ThNL B H (ns.map V.int)
  | [] => .nil
  | n :: r => .cons (.int n) (ThNL.ints r)
theorem ThNL.of {B : Nat} {H : Hp} : ∀ {vs : List V}, (∀ v ∈ vs, ThN B H v) → ThNL B H vs
  | [], _ => .nil
  | v :: vs, h => .cons (h v List.mem_cons_self) (ThNL.of fun u hu => h u (List.mem_cons_of_mem _ hu))
end Kp
set_option Elab.async false
set_option linter.all false
set_option maxRecDepth 100000
set_option maxHeartbeats 4000000
namespace HT
open PySem PySem.Spec PyProof.Rows L2
section
variable {prog : Program} {w : World} {A : Around} {E : Value → Shared → Prop} {s : Shared}
end
end HT
namespace L2
open PySem PySem.Spec PyProof.Rows L2
end L2
set_option Elab.async false
set_option linter.all false
set_option maxRecDepth 100000
set_option maxHeartbeats 4000000
namespace Kp
open PySem L2 PySem.Spec PyProof.Rows
/-! ### the same thing twice: == -/
theorem all_true (n : Nat) : ((List.range n).all fun _ => true) = true := by simp
theorem Vals.at {xs : List V} {us : List Value} (r : Vals xs us) {j : Nat} (h : j < us.toArray.size) : ∃ x, xs[j]? = some x ∧ RelV x us.toArray[j] := by
  have h' : j < us.length := by simpa using h
  have hx : j < xs.length := by rw [r.length]; exact h'
  obtain ⟨u, e, rv⟩ := r.get (i := j) (x := xs[j]) (by simp [hx])
  have e2 : us.toArray[j] = u := by
    have := (List.getElem?_eq_some_iff.mp e).2
    simpa using this
  exact ⟨xs[j], by simp [hx], e2 ▸ rv⟩
end Kp
set_option Elab.async false
set_option linter.all false
set_option maxRecDepth 100000
set_option maxHeartbeats 4000000
namespace K1
open PySem L2 Kp
structure Txt (mg : Str → Option Value) : Prop where
  isi : mg "isinstance" = none
  int : mg "int" = none
  bool : mg "bool" = none
  str : mg "str" = none
  tuple : mg "tuple" = none
  list : mg "list" = none
  all : mg "all" = none
  zip : mg "zip" = none
  len : mg "len" = none
  range : mg "range" = none
  max : mg "max" = none
  min : mg "min" = none
  sorted : mg "sorted" = none
  any : mg "any" = none
  sum : mg "sum" = none
section
variable {P : Program} {w : World} {K : PySem.W.Frag} {mg : Str → Option Value} {base : Heap}
theorem SqT.same {H H' : Hp} {a : Addr} {xs : List V} (h : SqT K H a xs) (s : Same H H') : SqT K H' a xs := by
  rcases h with h | h
  · exact .inl (h.elim (fun e => .inl (s _ _ e)) fun ⟨o, e⟩ => .inr ⟨o, s _ _ e⟩)
  · exact .inr h
theorem SqL.same {H H' : Hp} {a : Addr} {xs : List V} (h : SqL K H a xs) (s : Same H H') : SqL K H' a xs := by
  rcases h with h | h
  · exact .inl (h.elim (fun e => .inl (s _ _ e)) fun ⟨o, e⟩ => .inr ⟨o, s _ _ e⟩)
  · exact .inr h
def spCell (K : PySem.W.Frag) : Sp := fun vs H Q _ => ∃ (a : Addr) (ns : List Int) (k : Int), vs = [.ref a, .int k] ∧ SqL K H a (ns.map V.int) ∧ 0 ≤ k ∧ ∀ z, Q (.int z) H
theorem scC : FnScope ["_law_script", "_law_k"] ["_law_script", "_law_k"] (defScope sCell) := ⟨rfl, rfl, rfl, by decide +kernel, rfl, by decide +kernel, by decide +kernel⟩
theorem ok_cell {f : Addr} {fd : FuncData} (F : Fun K "_law_cell_at" "_law_cell_at" sCell f fd) (T : Txt mg) : FnOk P w K mg base CX0 1 f fd ["_law_script", "_law_k"] (spCell K) := by
  refine F.ok scC (fun vs H Q E ⟨_, _, _, e, _⟩ => by subst e; rfl) (fun cdv A outer s H vs Q E hr h => ?_)
  obtain ⟨a, ns, k, rfl, hS, h0, q⟩ := h
  refine ⟨_, pss_cons (ps_if (pt_cmpR op_lt (pv 1) (pe_callB call_len_seq rfl T.len PySem.boot_len (pa_cons (pv 0) pa_nil)) (nomark _)) (pss_one (ps_ret (pe_ix ix_list (pv 0) (pv 1) (fun _ _ => rfl)))) pss_nil) (pss_one (ps_ret pe_int)), ?_⟩
  refine ⟨_, rfl, _, rfl, a, _, rfl, .inl hS, k, _, rfl, rfl, _, rfl, ite2 (fun hlt => ?_) (fun _ => q 0)⟩
  have hlt' : k < ((ns.map V.int).length : Int) := of_decide_eq_true hlt
  obtain ⟨j, rfl⟩ := Int.eq_ofNat_of_zero_le h0
  have hj : j < ns.length := by rw [List.length_map] at hlt'; omega
  exact ⟨_, rfl, _, rfl, a, _, _, .int ns[j], rfl, rfl, hS, atI_nat (by simp [hj]), q _⟩

theorem emod_in (x : Int) {m : Int} (h : 0 < m) : 0 ≤ x % m ∧ x % m < m := ⟨Int.emod_nonneg _ (Int.ne_of_gt h), Int.emod_lt_of_pos _ h⟩
end
end K1
set_option Elab.async false
set_option linter.all false
set_option maxRecDepth 100000
set_option maxHeartbeats 4000000
namespace L2
open PySem PySem.Spec PyProof.Rows
/-! ### rows of ints -/
def isInt (z : Int) : Value → Bool
  | .int i _ => i == z
  | _ => false
end L2
set_option Elab.async false
set_option linter.all false
set_option maxRecDepth 100000
set_option maxHeartbeats 4000000
namespace L2
open PySem PySem.Spec PyProof.Rows
/-! ### a tuple whose methods may be called: it has no dict of its own -/
def TupF (H : Hp) (a : Addr) (ys : List V) : Prop := ∃ o : Obj, H a = some (.frz o (.tup ys)) ∧ o.cls = .type "tuple" ∧ o.dict = none
theorem TupF.sq {K : PySem.W.Frag} {H : Hp} {a : Addr} {ys : List V} (h : TupF H a ys) : SqT K H a ys := by
  obtain ⟨o, e, _⟩ := h
  exact .inl (.inr ⟨o, e⟩)
section
variable {X : Cx}
variable {o e : Expr} {es : List Expr} {to : TE} {t : TA} {name : Str} {apos cpos : Pos} {id : String} {r : V → List V → Hp → VK → Prop}
end
end L2
set_option Elab.async false
set_option linter.all false
set_option maxRecDepth 100000
set_option maxHeartbeats 4000000
namespace L2
open PySem PySem.Spec PyProof.Rows
/-! ### rows of ints: remove, sorted -/
section
variable {X : Cx}
end
end L2
namespace K1
open PySem L2 Kp
theorem PS.weakU {X : Cx} {st : Stmt} {t t' : TS} (h : PS X st t) (w : ∀ D σ H, t' D σ H → t D σ H) : PS X st t' := fun pins s σ H D I q => h pins s σ H D I (w D σ H q)
theorem boot_max : bootBuiltins "max" = some (.builtin "max") := by decide +kernel
end K1
set_option Elab.async false
set_option linter.all false
set_option maxRecDepth 100000
set_option maxHeartbeats 4000000
namespace L2
open PySem PySem.Spec PyProof.Rows
/-! ### two tuples of flat things compared -/
section
variable {X : Cx}
end
end L2
namespace K1
open PySem L2 Kp
theorem SqT.same' {K : PySem.W.Frag} {H H' : Hp} {a : Addr} {xs : List V} (h : SqT K H a xs) (s : Same H H') : SqT K H' a xs := by
  rcases h with h | h
  · exact .inl (h.elim (fun e => .inl (s _ _ e)) fun ⟨o, e⟩ => .inr ⟨o, s _ _ e⟩)
  · exact .inr h
theorem SqL.same' {K : PySem.W.Frag} {H H' : Hp} {a : Addr} {xs : List V} (h : SqL K H a xs) (s : Same H H') : SqL K H' a xs := by
  rcases h with h | h
  · exact .inl (h.elim (fun e => .inl (s _ _ e)) fun ⟨o, e⟩ => .inr ⟨o, s _ _ e⟩)
  · exact .inr h
end K1
set_option Elab.async false
set_option linter.all false
set_option maxRecDepth 100000
set_option maxHeartbeats 4000000
namespace K1
open PySem L2 Kp
section
variable {P : Program} {w : World} {K : PySem.W.Frag} {mg : Str → Option Value} {base : Heap}
/-! ### a whole number -/
def spWholeI : Sp := fun vs H Q _ => ∃ z : Int, vs = [.int z] ∧ Q (.bl true) H
theorem scWh : FnScope ["_law_found"] ["_law_found"] (defScope s__law_whole) := ⟨rfl, rfl, rfl, by decide +kernel, rfl, by decide +kernel, by decide +kernel⟩
theorem ok_wholeI {f : Addr} {fd : FuncData} (F : Fun K "_law_whole" "_law_whole" s__law_whole f fd) (T : Txt mg) : FnOk P w K mg base CX0 1 f fd ["_law_found"] spWholeI := by
  refine F.ok scWh (fun vs H Q E ⟨_, e, _⟩ => by subst e; rfl) (fun cdv A outer s H vs Q E hr h => ?_)
  obtain ⟨z, rfl, q⟩ := h
  refine ⟨_, @pss_o _ _ _ (ps_ret (pe_and (pe_callB call_isi (by rfl) T.isi boot_isi (pa_n (pv 0) (pa_n (pe_ty (by rfl) T.int boot_int) pa_nil))) (pe_one (pe_not (pe_callB call_isi (by rfl) T.isi boot_isi (pa_n (pv 0) (pa_n (pe_ty (by rfl) T.bool boot_bool) pa_nil))))))), ?_⟩
  exact ⟨_, rfl, _, _, _, _, rfl, .int _, kit_int K (.int z), _, rfl, iteT ⟨_, rfl, _, _, _, _, rfl, .int _, kit_bool K (.int z), _, rfl, q⟩⟩
end
end K1
set_option Elab.async false
set_option linter.all false
set_option maxRecDepth 100000
set_option maxHeartbeats 4000000
namespace L2
open PySem PySem.Spec PyProof.Rows
/-! ### dict(d): a copy -/
section
variable {X : Cx} {pins : List (Addr × Obj)} {σ : St} {H : Hp} {s : Shared} {a : Addr} {kvs : List (Key × V)} {A : Around} {E : Value → Shared → Prop}
theorem d_copyOf {Q : Value → Shared → Prop} (I : Inv X pins σ H s) (e : Rd H a (.dK kvs)) (h : ∀ p s', H p = none → Inv X pins σ (upd H p (.dK kvs)) s' → Q (.ref p) s') : wpAny (model X.prog X.w) A (call (.type "dict") [.ref a]) Q E s := by
  obtain ⟨z, hd, vs, rel, dd⟩ := dk_rd I.hok e
  refine kt_call_dict hd dd (by rw [← rel.length]; exact z) fun h' dd' hs => ?_
  refine h _ _ (I.hok.fresh (Nat.le_refl _)) (I.laid (a := s.heap.objs.size) (o := .dK kvs) (t' := s.toks) (fun b q hq => ?_) (Nat.le_refl _) (dk_new z (beq_eq_false_iff_ne.mpr (Ne.symm (Nat.ne_of_lt I.big))) rel dd'))
  exact (hs.2 b (Nat.ne_of_lt (Heap.lt_size hq))).trans (Heap.get?_push_of_some _ hq)
end
end L2
set_option Elab.async false
set_option linter.all false
set_option maxRecDepth 100000
set_option maxHeartbeats 4000000
namespace Kp
open PySem L2 PySem.Spec PyProof.Rows
/-! ### things that are the same at every part, however they are known: == is True -/
inductive Alike (K : PySem.W.Frag) (H : Hp) : Nat → V → V → Prop
  | flat {n : Nat} {v : V} (h : flatV v = true) : Alike K H n v v
  | ref {n : Nat} (a : Addr) : Alike K H n (.ref a) (.ref a)
  | tup {n : Nat} {a b : Addr} {xs ys : List V} (h1 : SqT K H a xs) (h2 : SqT K H b ys) (hl : xs.length = ys.length) (h : ∀ (i : Nat) (x y : V), xs[i]? = some x → ys[i]? = some y → Alike K H n x y) : Alike K H (n + 1) (.ref a) (.ref b)
theorem Alike.self {K : PySem.W.Frag} {H : Hp} {n B : Nat} {v : V} (t : ThN B H v) : Alike K H n v v := by
  cases t with
  | tup e l r => exact .ref _
  | _ => exact .flat rfl
theorem eqV_self {v : V} (h : flatV v = true) : eqV v v = true := by
  cases v with
  | bl b => cases b <;> rfl
  | int i => simp [eqV]
  | str x => simp [eqV]
  | non => rfl
  | _ => cases h
theorem eq_alike {X : Cx} {pins : List (Addr × Obj)} {σ : L2.St} {H : Hp} {s : Shared} (I : Inv X pins σ H s) : ∀ (n : Nat) (v u : V) (uv uu : Value) (A : Around), Alike X.K H n v u → RelV v uv → RelV u uu → A.units + n < cLine → SeqAt.EqAt A s uv uu true := by
  intro n
  induction n with
  | zero =>
    intro v u uv uu A h rv ru hu
    cases h with
    | flat f =>
      have := eqAt_V (A := A) (s := s) rv ru f f
      rw [eqV_self f] at this
      exact this
    | ref a => cases rv; cases ru; exact .same _
  | succ n ih =>
    intro v u uv uu A h rv ru hu
    cases h with
    | flat f =>
      have := eqAt_V (A := A) (s := s) rv ru f f
      rw [eqV_self f] at this
      exact this
    | ref a => cases rv; cases ru; exact .same _
    | @tup _ a b xs ys h1 h2 hl h =>
      cases rv
      cases ru
      by_cases hab : a = b
      · subst hab; exact .same _
      · refine SeqAt.EqAt.of_refs hab ?_
        have hu0 : A.units < cLine := by omega
        obtain ⟨its, q1, p1, _⟩ := I.tuple h1
        obtain ⟨jts, q2, p2, _⟩ := I.tuple h2
        have hl2 : its.toArray.size = jts.toArray.size := by simp [← q1.length, ← q2.length, hl]
        have z := SeqAt.RcAt.tuples (e := fun _ => true) (show s.heap.IsTuple a its.toArray from p1) (show s.heap.IsTuple b jts.toArray from p2) hu0 (fun j g1 g2 => by
          obtain ⟨x, ex, rx⟩ := Vals.at q1 g1
          obtain ⟨y, ey, ry⟩ := Vals.at q2 g2
          exact ih x y _ _ A.in1 (h j x y ex ey) rx ry (by show A.units + 1 + n < cLine; omega))
        rw [all_true, hl2, beq_self_eq_true] at z
        exact z
def rAl (K : PySem.W.Frag) (c : Bool) : R2 := fun x y H Q => ∃ p q xs ys n, x = .ref p ∧ y = .ref q ∧ SqT K H p xs ∧ SqT K H q ys ∧ xs.length = ys.length ∧ (∀ (i : Nat) (x y : V), xs[i]? = some x → ys[i]? = some y → Alike K H n x y) ∧ n ≤ 90 ∧ Q (.bl c) H
def rAlL (K : PySem.W.Frag) (c : Bool) : R2 := fun x y H Q => ∃ p q xs ys n, x = .ref p ∧ y = .ref q ∧ SqL K H p xs ∧ SqL K H q ys ∧ xs.length = ys.length ∧ (∀ (i : Nat) (x y : V), xs[i]? = some x → ys[i]? = some y → Alike K H n x y) ∧ n ≤ 90 ∧ Q (.bl c) H
theorem op_eqA {X : Cx} (hu : X.A.units + 100 < cLine) : OpR X (compareOp .Eq) (rAl X.K true) := by
  intro pins s σ H x y v u Q I rx ry h
  obtain ⟨p, q', xs, ys, n, rfl, rfl, h1, h2, hl, h, hn, q⟩ := h
  cases rx
  cases ry
  obtain ⟨its, q1, p1, _⟩ := I.tuple h1
  obtain ⟨jts, q2, p2, _⟩ := I.tuple h2
  have hl2 : its.toArray.size = jts.toArray.size := by simp [← q1.length, ← q2.length, hl]
  refine SeqAt.eq_tupleAt (e := fun _ => true) (show s.heap.IsTuple p its.toArray from p1) (show s.heap.IsTuple q' jts.toArray from p2) (by omega) (fun j g1 g2 => ?_) ⟨.bl true, H, I, ?_, q⟩
  · obtain ⟨x, ex, rx⟩ := Vals.at q1 g1
    obtain ⟨y, ey, ry⟩ := Vals.at q2 g2
    exact eq_alike I n x y _ _ X.A.in1 (h j x y ex ey) rx ry (by show X.A.units + 1 + n < cLine; omega)
  · rw [all_true, hl2, beq_self_eq_true]; rfl
theorem op_neA {X : Cx} (hu : X.A.units + 100 < cLine) : OpR X (compareOp .NotEq) (rAl X.K false) := by
  intro pins s σ H x y v u Q I rx ry h
  obtain ⟨p, q', xs, ys, n, rfl, rfl, h1, h2, hl, h, hn, q⟩ := h
  cases rx
  cases ry
  obtain ⟨its, q1, p1, _⟩ := I.tuple h1
  obtain ⟨jts, q2, p2, _⟩ := I.tuple h2
  have hl2 : its.toArray.size = jts.toArray.size := by simp [← q1.length, ← q2.length, hl]
  refine SeqAt.RcNeAt.tuples (e := fun _ => true) (show s.heap.IsTuple p its.toArray from p1) (show s.heap.IsTuple q' jts.toArray from p2) (by omega) (fun j g1 g2 => ?_) X.prog X.w X.xe _ ⟨.bl false, H, I, ?_, q⟩
  · obtain ⟨x, ex, rx⟩ := Vals.at q1 g1
    obtain ⟨y, ey, ry⟩ := Vals.at q2 g2
    exact eq_alike I n x y _ _ X.A.in1 (h j x y ex ey) rx ry (by show X.A.units + 1 + n < cLine; omega)
  · rw [all_true, hl2, beq_self_eq_true]; rfl
theorem op_neAL {X : Cx} (hu : X.A.units + 100 < cLine) : OpR X (compareOp .NotEq) (rAlL X.K false) := by
  intro pins s σ H x y v u Q I rx ry h
  obtain ⟨p, q', xs, ys, n, rfl, rfl, h1, h2, hl, h, hn, q⟩ := h
  cases rx
  cases ry
  obtain ⟨its, q1, p1, _⟩ := I.list h1
  obtain ⟨jts, q2, p2, _⟩ := I.list h2
  refine SeqAt.RcNeAt.lists (e := fun _ => true) p1.isList p2.isList (by simp [← q1.length, ← q2.length, hl]) (by omega) (fun j g1 g2 => ?_) _ _ _ _ ⟨.bl false, H, I, ?_, q⟩
  · obtain ⟨x, ex, rx⟩ := Vals.at q1 g1
    obtain ⟨y, ey, ry⟩ := Vals.at q2 g2
    exact eq_alike I n x y _ _ X.A.in1 (h j x y ex ey) rx ry (by show X.A.units + 1 + n < cLine; omega)
  · rw [all_true]; rfl
end Kp
namespace L2
open PySem
theorem Room.units100 {k : Nat} {A : Around} (r : Room k A) : A.units + 100 < cLine := by have := r.un; omega
end L2
set_option Elab.async false
set_option linter.all false
set_option maxRecDepth 100000
set_option maxHeartbeats 4000000
namespace Kp
open PySem L2 PySem.Spec PyProof.Rows
/-! ### a sort of fewer than 64 things whose keys are all unlike, by any kind of comparing -/
abbrev Ord := PyProof.Rows.KeyKind
section
variable {prog : Program} {w : World} {A : Around} {E : Value → Shared → Prop} {s : Shared} {a0 : Array Keyed} {κ : Ord} {kd : SortKind} {st : SortSt}
structure TB (κ : Ord) (kd : SortKind) (a0 : Array Keyed) (st : SortSt) : Prop where
  pm : (arrOf st).Perm a0
  kn : kindOf st = kd
  fl : failedOf st = none
  pe : pendingOf st = #[]
  un : ∀ i j, i < a0.size → j < a0.size → KK κ (arrOf st) i = KK κ (arrOf st) j → i = j
def Up (κ : Ord) (xs : Array Keyed) (k : Nat) : Prop := ∀ i j, i < j → j < k → κ.blt (KK κ xs i) (KK κ xs j) = true
def Dn (κ : Ord) (xs : Array Keyed) (k : Nat) : Prop := ∀ i j, i < j → j < k → κ.blt (KK κ xs j) (KK κ xs i) = true
theorem TB.sz (B : TB κ kd a0 st) : (arrOf st).size = a0.size := B.pm.size_eq
theorem TB.lt (B : TB κ kd a0 st) {i j : Nat} (hi : i < a0.size) (hj : j < a0.size) (hne : i ≠ j) (h : κ.blt (KK κ (arrOf st) i) (KK κ (arrOf st) j) = false) : κ.blt (KK κ (arrOf st) j) (KK κ (arrOf st) i) = true := by
  cases e : κ.blt (KK κ (arrOf st) j) (KK κ (arrOf st) i) with
  | true => rfl
  | false => exact absurd (B.un i j hi hj (κ.total _ _ h e)) hne
theorem Up.more (B : TB κ kd a0 st) {x : Nat} (h1 : 1 ≤ x) (hx : x < a0.size) (u : Up κ (arrOf st) x) (h : κ.blt (KK κ (arrOf st) x) (KK κ (arrOf st) (x - 1)) = false) : Up κ (arrOf st) (x + 1) := by
  intro i j hij hj
  by_cases hjx : j < x
  · exact u i j hij hjx
  · obtain rfl : j = x := by omega
    have t := B.lt hx (by omega) (by omega) h
    by_cases hi : i = j - 1
    · subst hi; exact t
    · exact κ.trans _ _ _ (u i (j - 1) (by omega) (by omega)) t
theorem Dn.more {x : Nat} {xs : Array Keyed} (h1 : 1 ≤ x) (u : Dn κ xs x) (h : κ.blt (KK κ xs x) (KK κ xs (x - 1)) = true) : Dn κ xs (x + 1) := by
  intro i j hij hj
  by_cases hjx : j < x
  · exact u i j hij hjx
  · obtain rfl : j = x := by omega
    by_cases hi : i = j - 1
    · subst hi; exact h
    · exact κ.trans _ _ _ h (u i (j - 1) (by omega) (by omega))
def TD (κ : Ord) (a0 : Array Keyed) (st : SortSt) : Prop := (arrOf st).Perm a0 ∧ failedOf st = none ∧ pendingOf st = #[(0, a0.size, 0)] ∧ Up κ (arrOf st) a0.size
theorem TB.td (B : TB κ kd a0 st) (u : Up κ (arrOf st) a0.size) : TD κ a0 (setPending st ((pendingOf st).push (0, a0.size, 0))) :=
  ⟨B.pm, B.fl, by show (pendingOf st).push _ = _; rw [B.pe]; rfl, u⟩
end
end Kp
set_option Elab.async false
set_option linter.all false
set_option maxRecDepth 100000
set_option maxHeartbeats 4000000
namespace Kp
open PySem L2 PySem.Spec PyProof.Rows
/-! ### sorted(list of tuples that begin with unlike texts) -/
def TupS (h : Heap) (v : Value) (k : Str) : Prop := ∃ (p : Addr) (t : Tok) (xs : List Value), v = .ref p ∧ h.IsTuple p (Value.str k t :: xs).toArray
theorem TupS.kept {h h' : Heap} {v : Value} {k : Str} (x : TupS h v k) (o : ∀ b u, h.get? b = some u → h'.get? b = some u) : TupS h' v k := by
  obtain ⟨p, t, xs, rfl, u, hu, e⟩ := x
  exact ⟨p, t, xs, rfl, u, o _ _ hu, e⟩
section
variable {prog : Program} {w : World} {A : Around} {E : Value → Shared → Prop} {s : Shared}
end
end Kp
set_option Elab.async false
set_option linter.all false
set_option maxRecDepth 100000
set_option maxHeartbeats 4000000
namespace Kp
open PySem L2 PySem.Spec PyProof.Rows
/-- the key of a tuple: its first text, in a heap -/
def headOf (h : Heap) : Value → Option (List Nat)
  | .ref p => match h.get? p with
    | some ⟨_, _, .seq xs _, _⟩ => match (xs[0]? : Option Value) with
      | some (.str k _) => some k.cps.toList
      | _ => none
    | _ => none
  | _ => none
theorem TupS.key {h : Heap} {v : Value} {k : Str} (x : TupS h v k) : headOf h v = some k.cps.toList := by
  obtain ⟨p, t, xs, rfl, ⟨cls, dd, data, sl⟩, ho, hc, n, hd⟩ := x
  simp only at hd
  subst hd
  unfold headOf
  simp only [ho]
  rfl
section
variable {prog : Program} {w : World} {A : Around} {E : Value → Shared → Prop} {s : Shared}
end
end Kp
set_option Elab.async false
set_option linter.all false
set_option maxRecDepth 100000
set_option maxHeartbeats 4000000
namespace Kp
open PySem L2 PySem.Spec PyProof.Rows
/-- a text before another by the alphabet -/
def before (a b : Str) : Prop := a.cps.toList < b.cps.toList
section
variable {X : Cx}
end
end Kp
set_option Elab.async false
set_option linter.all false
set_option maxRecDepth 100000
set_option maxHeartbeats 4000000
namespace Kp
open PySem L2 PySem.Spec PyProof.Rows
/-! ### sorted(dict of texts), sorted(list of texts): rising -/
section
variable {X : Cx}
end
end Kp
set_option Elab.async false
set_option linter.all false
set_option maxRecDepth 100000
set_option maxHeartbeats 4000000
namespace L2
open PySem PySem.Spec PyProof.Rows
/-! ### t + u of two tuples, however they are known -/
end L2
namespace K1
open PySem L2 Kp
/-! ### rows: a base, a last term, entries with their terms -/
inductive Ents (H : Hp) : List V → List Int → Prop
  | nil : Ents H [] []
  | cons {p : Addr} {x : V} {t : Int} {vs : List V} {ts : List Int} : H p = some (.tup [.int t, x]) → ThN 16 H x → Ents H vs ts → Ents H (.ref p :: vs) (t :: ts)
theorem Ents.same {H H' : Hp} (s : Same H H') : ∀ {vs ts}, Ents H vs ts → Ents H' vs ts
  | _, _, .nil => .nil
  | _, _, .cons e t r => .cons (s _ _ e) (t.mono (Nat.le_refl _) s) (Ents.same s r)
theorem Ents.refs {H : Hp} : ∀ {vs : List V} {ts : List Int}, Ents H vs ts → ∀ x ∈ vs, ∃ a, x = .ref a
  | _, _, .nil, x, hx => absurd hx List.not_mem_nil
  | _, _, .cons _ _ r, x, hx => by
    rcases List.mem_cons.mp hx with e | e
    · exact ⟨_, e⟩
    · exact Ents.refs r x e
theorem Ents.length {H : Hp} : ∀ {vs ts}, Ents H vs ts → vs.length = ts.length
  | _, _, .nil => rfl
  | _, _, .cons _ _ r => by rw [List.length_cons, List.length_cons, Ents.length r]
theorem Ents.append {H : Hp} : ∀ {vs ts us rs}, Ents H vs ts → Ents H us rs → Ents H (vs ++ us) (ts ++ rs)
  | _, _, _, _, .nil, r => r
  | _, _, _, _, .cons e t r, q => .cons e t (Ents.append r q)
theorem Ents.get {H : Hp} : ∀ {vs : List V} {ts : List Int} {i : Nat} (h : i < ts.length), Ents H vs ts → ∃ p x, vs[i]? = some (.ref p) ∧ H p = some (.tup [.int ts[i], x]) ∧ ThN 16 H x
  | _, _, _, h, .nil => absurd h (Nat.not_lt_zero _)
  | _, _, 0, _, .cons e t _ => ⟨_, _, rfl, e, t⟩
  | _, _, i + 1, h, .cons _ _ r => Ents.get (i := i) (by simpa using h) r
theorem Ents.take {H : Hp} : ∀ {vs : List V} {ts : List Int} (n : Nat), Ents H vs ts → Ents H (vs.take n) (ts.take n)
  | _, _, 0, _ => by rw [List.take_zero, List.take_zero]; exact .nil
  | _, _, _ + 1, .nil => .nil
  | _, _, n + 1, .cons e t r => .cons e t (Ents.take n r)
theorem Ents.drop {H : Hp} : ∀ {vs : List V} {ts : List Int} (n : Nat), Ents H vs ts → Ents H (vs.drop n) (ts.drop n)
  | _, _, 0, r => r
  | _, _, _ + 1, .nil => .nil
  | _, _, n + 1, .cons _ _ r => Ents.drop n r
structure RowX (K : PySem.W.Frag) (H : Hp) (v : V) (b l : Int) (es : List V) (ts : List Int) : Prop where
  ex : ∃ rb c, v = .ref rb ∧ H rb = some (.tup [.int b, .int l, .ref c]) ∧ H c = some (.tup es)
  ents : Ents H es ts
  few : ts.length ≤ 900
theorem RowX.same {K : PySem.W.Frag} {H H' : Hp} {v : V} {b l : Int} {es : List V} {ts : List Int} (r : RowX K H v b l es ts) (s : Same H H') : RowX K H' v b l es ts :=
  let ⟨rb, c, e, h1, h2⟩ := r.ex
  ⟨⟨rb, c, e, s _ _ h1, s _ _ h2⟩, r.ents.same s, r.few⟩
def RowV (K : PySem.W.Frag) (H : Hp) (v : V) (b l : Int) (ts : List Int) : Prop := ∃ es, RowX K H v b l es ts
theorem RowV.same {K : PySem.W.Frag} {H H' : Hp} {v : V} {b l : Int} {ts : List Int} (r : RowV K H v b l ts) (s : Same H H') : RowV K H' v b l ts :=
  let ⟨es, x⟩ := r
  ⟨es, x.same s⟩
end K1
set_option Elab.async false
set_option linter.all false
set_option maxRecDepth 100000
set_option maxHeartbeats 1000000
namespace L2
open PySem PySem.Spec PyProof.Rows
/-! ### max of a list of ints; min of one, with a default -/
section
variable {prog : Program} {w : World} {A : Around} {R : Result → Shared → Prop} {it : Addr} {fp wr : List Addr} {n : Nat} {Pv : Nat → Value → Prop} {St : Nat → Heap → Prop} {dv : Value}
end
section
variable {X : Cx}
theorem num_at {xs : List (Int × Tok)} {i : Nat} (h : i < xs.length) : numAt xs.toArray i = (xs.map (·.1))[i]'(by simpa using h) := by
  unfold numAt; simp [h]
end
end L2
namespace K1
open PySem L2 Kp
end K1
namespace Kp
open PySem L2
theorem Cal.mono {P : Program} {w : World} {K : PySem.W.Frag} {mg : Str → Option Value} {base : Heap} {x : Str} {k k' : Nat} {ps : List Str} {sp : Sp} (C : Cal P w K mg base x k ps sp) (h : k ≤ k') : Cal P w K mg base x k' ps sp :=
  let ⟨f, fd, F, a, b, c⟩ := C.ex
  ⟨⟨f, fd, F.mono h, a, b, c⟩⟩
end Kp
set_option Elab.async false
set_option linter.all false
set_option maxRecDepth 100000
set_option maxHeartbeats 4000000
namespace Kp
open PySem L2
end Kp
namespace K1
open PySem L2 Kp
/-! ### rows of a store: a name and whole numbers -/
abbrev Rw := Str × List Int
instance (a b : Str) : Decidable (before a b) := inferInstanceAs (Decidable (a.cps.toList < b.cps.toList))
theorem before_irrefl (a : Str) : ¬ before a a := List.lt_irrefl _
theorem before_ne {a b : Str} (h : before a b) : a ≠ b := fun e => before_irrefl _ (e ▸ h)
structure RwOk (W : List Str) (n : Nat) (rs : List Rw) : Prop where
  up : rs.Pairwise fun a b => before a.1 b.1
  inW : ∀ r ∈ rs, r.1 ∈ W
  sz : ∀ r ∈ rs, r.2.length = n
theorem nodup_len : ∀ (l W : List Str), l.Nodup → (∀ x ∈ l, x ∈ W) → l.length ≤ W.length
  | [], _, _, _ => Nat.zero_le _
  | x :: l, W, hn, h => by
    have hx := h x List.mem_cons_self
    rw [List.nodup_cons] at hn
    have := nodup_len l (W.erase x) hn.2 fun y hy => (List.mem_erase_of_ne (fun e : y = x => hn.1 (by rw [← e]; exact hy))).mpr (h y (List.mem_cons_of_mem _ hy))
    rw [List.length_erase_of_mem hx] at this
    have := List.length_pos_of_mem hx
    rw [List.length_cons]
    omega
theorem RwOk.nodup {W : List Str} {n : Nat} {rs : List Rw} (h : RwOk W n rs) : (rs.map (·.1)).Nodup := by
  unfold List.Nodup
  rw [List.pairwise_map]
  exact h.up.imp fun h => before_ne h
theorem RwOk.len {W : List Str} {n : Nat} {rs : List Rw} (h : RwOk W n rs) : rs.length ≤ W.length := by
  have := nodup_len _ W h.nodup fun x hx => by
    obtain ⟨r, hr, rfl⟩ := List.mem_map.mp hx
    exact h.inW r hr
  rwa [List.length_map] at this
/-- a row put at its place by the alphabet -/
def putF (rs : List Rw) (r : Rw) : List Rw := rs.filter (fun x => decide (before x.1 r.1)) ++ r :: rs.filter fun x => decide (before r.1 x.1)
inductive Deed | get (n : Str) | set (n : Str) (x : Int) | add (n : Str) (x : Int)
def Deed.nm : Deed → Str
  | .get n => n
  | .set n _ => n
  | .add n _ => n
abbrev Sto := List Rw × List Rw
structure StoOk (W C : List Str) (S : Sto) : Prop where
  ns : RwOk W 1 S.1
  cs : RwOk C 2 S.2
  ge : ∀ r ∈ S.2, 1 ≤ r.2.headD 0
/-! ### in the heap -/
inductive Rws (H : Hp) : List V → List Rw → Prop
  | nil : Rws H [] []
  | cons {p : Addr} {n : Str} {is : List Int} {vs : List V} {rs : List Rw} : H p = some (.tup (.str n :: is.map V.int)) → Rws H vs rs → Rws H (.ref p :: vs) ((n, is) :: rs)
theorem Rws.sameT {H H' : Hp} (s : SameT H H') : ∀ {vs rs}, Rws H vs rs → Rws H' vs rs
  | _, _, .nil => .nil
  | _, _, .cons e r => .cons (s _ _ e) (Rws.sameT s r)
theorem Rws.same {H H' : Hp} {vs : List V} {rs : List Rw} (h : Rws H vs rs) (s : Same H H') : Rws H' vs rs := h.sameT (sameT_of s)
theorem Rws.length {H : Hp} : ∀ {vs rs}, Rws H vs rs → vs.length = rs.length
  | _, _, .nil => rfl
  | _, _, .cons _ r => by rw [List.length_cons, List.length_cons, Rws.length r]
theorem Rws.get {H : Hp} : ∀ {vs : List V} {rs : List Rw} {i : Nat} (h : i < rs.length), Rws H vs rs → ∃ p, vs[i]? = some (.ref p) ∧ H p = some (.tup (.str (rs[i]).1 :: (rs[i]).2.map V.int))
  | _, _, _, h, .nil => absurd h (Nat.not_lt_zero _)
  | _, _, 0, _, .cons e _ => ⟨_, rfl, e⟩
  | _, _, i + 1, h, .cons _ r => Rws.get (i := i) (by simpa using h) r
theorem Rws.append {H : Hp} : ∀ {vs rs us qs}, Rws H vs rs → Rws H us qs → Rws H (vs ++ us) (rs ++ qs)
  | _, _, _, _, .nil, r => r
  | _, _, _, _, .cons e r, q => .cons e (Rws.append r q)
def RwT (H : Hp) (a : Addr) (rs : List Rw) : Prop := ∃ vs, H a = some (.tup vs) ∧ Rws H vs rs
theorem RwT.same {H H' : Hp} {a : Addr} {rs : List Rw} (h : RwT H a rs) (s : Same H H') : RwT H' a rs := let ⟨vs, e, r⟩ := h; ⟨vs, s _ _ e, r.same s⟩
def StV (H : Hp) (v : V) (S : Sto) : Prop := ∃ s a c, v = .ref s ∧ H s = some (.tup [.ref a, .ref c]) ∧ RwT H a S.1 ∧ RwT H c S.2
theorem StV.same {H H' : Hp} {v : V} {S : Sto} (h : StV H v S) (s : Same H H') : StV H' v S := let ⟨p, a, c, e, h1, h2, h3⟩ := h; ⟨p, a, c, e, s _ _ h1, h2.same s, h3.same s⟩
theorem RwT.alike {K : PySem.W.Frag} {H : Hp} {a c : Addr} {rs : List Rw} (h : RwT H a rs) (h' : RwT H c rs) : Alike K H 2 (.ref a) (.ref c) := by
  obtain ⟨vs, e, r⟩ := h
  obtain ⟨us, e', r'⟩ := h'
  refine .tup (SqT.of e) (SqT.of e') (by rw [r.length, r'.length]) fun i x y hx hy => ?_
  have hi : i < rs.length := by rw [← r.length]; exact (List.getElem?_eq_some_iff.mp hx).1
  obtain ⟨p, g, hp⟩ := r.get hi
  obtain ⟨q, g', hq⟩ := r'.get hi
  rw [g] at hx
  rw [g'] at hy
  cases hx
  cases hy
  refine .tup (SqT.of hp) (SqT.of hq) rfl fun j x y hx hy => ?_
  rw [hx] at hy
  cases hy
  cases j with
  | zero => cases hx; exact .flat rfl
  | succ j =>
    rw [List.getElem?_cons_succ, List.getElem?_map] at hx
    cases e2 : (rs[i]).2[j]? with
    | none => rw [e2] at hx; cases hx
    | some z => rw [e2] at hx; cases hx; exact .flat rfl
def DeedV (H : Hp) (v : V) : Deed → Prop
  | .get n => ∃ p, v = .ref p ∧ H p = some (.tup [.str "get", .str n])
  | .set n x => ∃ p, v = .ref p ∧ H p = some (.tup [.str "set", .str n, .int x])
  | .add n x => ∃ p, v = .ref p ∧ H p = some (.tup [.str "add", .str n, .int x])
theorem DeedV.same {H H' : Hp} {v : V} {d : Deed} (h : DeedV H v d) (s : Same H H') : DeedV H' v d := by
  cases d <;> (obtain ⟨p, e, hp⟩ := h; exact ⟨p, e, s _ _ hp⟩)
end K1
set_option Elab.async false
set_option linter.all false
set_option maxRecDepth 100000
set_option maxHeartbeats 4000000
namespace L2
open PySem PySem.Spec PyProof.Rows

/-! ### an exception that leaves a def: it lies in the heap, all untracked things but frames stand in B -/
def CXe (P : Program) (w : World) : CXT := fun outer H s E e s' => ∃ (a : Addr) (cls a0 : Value) (B : Heap) (H1 : Hp), e = .ref a ∧ s'.os = s.os ∧ AllBare s'.gens ∧ Heap.FlyingW B outer a cls a0 s'.heap ∧
  Un (frs outer) [] H H1 s.heap s'.heap ∧ (∀ b o, s.heap.get? b = some o → H b = none → b ∉ frs outer → B.get? b = some o) ∧ (∀ b o, s.heap.get? b = some o → b ∉ frs outer → ∃ o', B.get? b = some o') ∧ HOk P w H1 B ∧ H1 a = none ∧ E cls none H1
theorem ObjOk.there {P : Program} {w : World} {H : Hp} {h : Heap} {a : Addr} {o : HO} (x : ObjOk P w H h a o) : ∃ u, h.get? a = some u := by
  cases o with
  | lst xs => obtain ⟨_, _, _, _, e⟩ := x; exact ⟨_, e⟩
  | tup xs => obtain ⟨_, _, _, o, e, _⟩ := x; exact ⟨_, e⟩
  | dK kvs => obtain ⟨_, _, _, _, o, _, _, e, _⟩ := x; exact ⟨_, e⟩
  | dT kvs => obtain ⟨_, _, _, _, o, _, _, e, _⟩ := x; exact ⟨_, e⟩
  | set S n => obtain ⟨o, _, _, _, e, _⟩ := x; exact ⟨_, e⟩
  | ins C dx fs => obtain ⟨_, _, _, e, _⟩ := x; exact ⟨_, e⟩
  | own y => exact x
  | xd fs => obtain ⟨_, ⟨_, _, _, e, _⟩, _⟩ := x; exact ⟨_, e⟩
  | rng lo hi => obtain ⟨_, _, _, e⟩ := x; exact ⟨_, e⟩
  | frz ob u => obtain ⟨e, _⟩ := x; exact ⟨_, e⟩
  | tbl ps => exact ⟨_, x⟩
  | met f y => exact ⟨_, x⟩
  | ext φ => obtain ⟨_, e, _⟩ := x; exact e
section
variable {P : Program} {w : World} {K : PySem.W.Frag} {mg : Str → Option Value} {base : Heap} {N : List Str} {qual : Str} {scope : Scope} {f : Addr} {cd : Value} {A : Around} {outer : List Env} {s : Shared} {H : Hp} {E : XK}
end

/-! ### the module's own classes of exceptions -/
abbrev mroV : List Value := [.type "ValueError", .type "Exception", .type "BaseException", .type "object"]
end L2
set_option Elab.async false
set_option linter.all false
set_option maxRecDepth 100000
set_option maxHeartbeats 4000000
namespace L2
open PySem PySem.Spec PyProof.Rows

section
variable {X : Cx} {pins : List (Addr × Obj)} {σ : St} {H : Hp} {s : Shared}
/-- an except suite -/
abbrev Cx.suite (X : Cx) (a : Addr) : Cx := { X with A := X.A.mark (some (.ref a)), calm := false, xe := fun _ _ => False }
theorem Cx.Ok.suite {X : Cx} (ok : X.Ok) (a : Addr) : (X.suite a).Ok :=
  ⟨ok.mod, ok.kind, ok.glob, ok.blt, ok.above, ok.inj, ok.has, ok.cab, (fun z => by cases z), ok.frames, ok.stk, ok.exf, ok.bs, ok.bsz, ok.noex, ok.exfs, ok.funs, ok.frf⟩
theorem Inv.suite (I : Inv X pins σ H s) (a : Addr) : Inv (X.suite a) pins σ H s := ⟨I.ok.suite a, I.os, I.bare, I.base, I.loc, I.cell, I.free, I.freeC, I.pin, I.hok, I.len⟩
theorem Inv.unsuite {a : Addr} (ok : X.Ok) (I : Inv (X.suite a) pins σ H s) : Inv X pins σ H s := ⟨ok, I.os, I.bare, I.base, I.loc, I.cell, I.free, I.freeC, I.pin, I.hok, I.len⟩
theorem SP.unsuite {a : Addr} (ok : X.Ok) {D : Ends} {f : Flow} {s' : Shared} (h : SP (X.suite a) pins D f s') : SP X pins D f s' := by
  cases f with
  | next => obtain ⟨σ', H', I, q⟩ := h; exact ⟨σ', H', I.unsuite ok, q⟩
  | brk => obtain ⟨σ', H', I, q⟩ := h; exact ⟨σ', H', I.unsuite ok, q⟩
  | cont => obtain ⟨σ', H', I, q⟩ := h; exact ⟨σ', H', I.unsuite ok, q⟩
  | ret u => obtain ⟨v, σ', H', I, r, q⟩ := h; exact ⟨v, σ', H', I.unsuite ok, r, q⟩
/-- the locals are forgotten (a name of theirs went) -/
theorem Inv.lost {h' : Heap} {m' : Str → Option Value} {tk : Nat} (I : Inv X pins σ H s) (hn : h'.Ns X.env.locals m') (sb : Heap.SameBut X.env.locals s.heap h') : Inv X pins (List.replicate X.N.length none) H { s with heap := h', toks := tk } := by
  have low : ∀ {b : Addr} {o : Obj}, X.s₀.heap.get? b = some o → b ≠ X.env.locals := fun {b o} e => Nat.ne_of_lt (Nat.lt_of_lt_of_le (Heap.lt_size e) I.ok.above)
  refine ⟨I.ok, I.os, I.bare, ⟨fun b o e n hb hx => sb.extBut b o (low e) (I.base.keep b o e n hb hx), fun b o e n hb hx => ?_, I.base.free, fun b o e hx => ?_, I.base.tups, I.base.frzs, I.base.tbls⟩, ⟨m', hn, fun i x v _ e2 _ => ?_⟩, fun x c e => ?_, I.free, I.freeC, fun p hp => ?_, ?_, by simp⟩
  · obtain ⟨sl, e1⟩ := I.base.slot b o e n hb hx
    exact ⟨sl, sb.extBut b _ (low e) e1⟩
  · obtain ⟨o', e1⟩ := I.base.there b o e hx
    exact ⟨o', sb.extBut b _ (low e) e1⟩
  · rw [List.getElem?_replicate] at e2
    split at e2 <;> cases e2
  · obtain ⟨v, z⟩ := I.cell x c e
    exact ⟨v, z.sameBut sb (I.cne x c e)⟩
  · obtain ⟨e, n, ne, nf, d⟩ := I.pin p hp
    exact ⟨sb.extBut _ _ ne e, n, ne, nf, d⟩
  · exact HOk.but I.hok I.free fun b o hb e => sb.extBut b o hb e
/-- behind a suite whose name went -/
def Ends.lost (D : Ends) (n : Nat) : Ends := { D with nx := fun _ H => D.nx (List.replicate n none) H, bk := fun _ H => D.bk (List.replicate n none) H, ct := fun _ H => D.ct (List.replicate n none) H }
end

/-! ### try: return f(..) / x = f(..), with one clause -/
section
variable {X : Cx} {k : Nat} {f C : Addr} {fd : FuncData} {ps : List Str} {sp : Sp} {x y n : Str} {i j : Nat} {p pos rp tp np hp py : Pos} {e : Expr} {es : List Expr} {t : TA} {b₀ : Stmt} {suite : List Stmt} {ts : TS}
end
end L2
set_option Elab.async false
set_option linter.all false
set_option maxRecDepth 100000
set_option maxHeartbeats 4000000
namespace L2
open PySem PySem.Spec PyProof.Rows PySem.W PySem.Builtin PySem.Builtin.ObjectAttr PySem.Builtin.Getset_descriptor
section
variable {prog : Program} {w : World} {A : Around} {E : Value → Shared → Prop} {s : Shared} {K : Frag} {x C : Addr} {R : Result → Shared → Prop} {h : Heap} {g : Array GenState} {d : Drawn} {t : Nat} {os : OsState} {o : Obj} {name : Str}
structure ExcK (K : Frag) (C : Addr) : Prop where
  ga : findIn K (.ref C) "__getattribute__" = some (some (.builtin "BaseException.__getattribute__"))
  gn : findIn K (.ref C) "__getattr__" = some none
  cl : findIn K (.ref C) "__class__" = some (some (.builtin "object.__class__"))
  gt : specialIn K (.builtin "object.__class__") "__get__" = some (some (.builtin "getset_descriptor.__get__"))
  tk : takesIn K (.builtin "object.__class__") = some true
  mo : mroIn K C (.type "object") = some true
  mb : mroIn K C (.type "BaseException") = some true
end
end L2
set_option Elab.async false
set_option linter.all false
set_option maxRecDepth 100000
set_option maxHeartbeats 4000000
namespace L2
open PySem PySem.Spec PyProof.Rows
/-! ### defs that are called within an except suite -/
structure RoomH (k : Nat) (A : Around) : Prop where
  dp : A.depth + 3 * k + 5 < recursionLimit
  un : A.units + 16 * k + 200 < cLine
theorem Room.h {k : Nat} {A : Around} (r : Room k A) : RoomH k A := ⟨r.dp, r.un⟩
theorem RoomH.mono {j k : Nat} {A : Around} (r : RoomH k A) (h : j ≤ k) : RoomH j A := ⟨by have := r.dp; omega, by have := r.un; omega⟩
theorem RoomH.deeper {k : Nat} {A : Around} (r : RoomH (k + 1) A) (env : Env) : RoomH k (A.deeper env) :=
  ⟨by have := r.dp; show A.depth + 1 + 3 * k + 5 < _; omega, by have := r.un; show A.units + 3 + 16 * k + 200 < _; omega⟩
theorem RoomH.depth {k : Nat} {A : Around} (r : RoomH k A) : A.depth < recursionLimit := by have := r.dp; omega
theorem RoomH.units0 {k : Nat} {A : Around} (r : RoomH k A) : A.units < cLine := by have := r.un; omega
theorem RoomH.suite {k : Nat} {X : Cx} {a : Addr} (r : RoomH k X.A) : RoomH k (X.suite a).A := ⟨r.dp, r.un⟩
structure FnH (P : Program) (w : World) (K : PySem.W.Frag) (mg : Str → Option Value) (base : Heap) (k : Nat) (f : Addr) (fd : FuncData) (ps : List Str) (sp : Sp) : Prop where
  len : ∀ vs H Q, sp vs H Q E0 → vs.length = ps.length
  run : ∀ (A : Around) (outer : List Env) (s : Shared) (H : Hp) (args : Args) (us : List Value) (vs : List V) (Q : VK), RoomH k A → Env0 P w K mg base A outer s H → BindsTo s fd args (ps.zip us) → Vals vs us → sp vs H Q E0 →
    codeAny (model P w) A (.call (.ref f) args) (CR CX0 outer P w H s Q E0) s
section
variable {P : Program} {w : World} {K : PySem.W.Frag} {mg : Str → Option Value} {base : Heap}
end
section
variable {X : Cx} {k : Nat} {f : Addr} {fd : FuncData} {ps : List Str} {sp : Sp} {x : Str} {p pos : Pos} {e : Expr} {es : List Expr} {t : TA}
end
end L2
set_option Elab.async false
set_option linter.all false
set_option maxRecDepth 100000
set_option maxHeartbeats 4000000
namespace Kp
open PySem L2
/-- a def that may raise -/
structure CalE (P : Program) (w : World) (K : PySem.W.Frag) (mg : Str → Option Value) (base : Heap) (name : Str) (k : Nat) (ps : List Str) (sp : Sp) : Prop where
  ex : ∃ f fd, FnOk P w K mg base (CXe P w) k f fd ps sp ∧ mg name = some (.ref f) ∧ PySem.W.keepIn K (.ref f) = true ∧ Binds K fd ps []
/-- a def that an except suite calls -/
structure CalH (P : Program) (w : World) (K : PySem.W.Frag) (mg : Str → Option Value) (base : Heap) (name : Str) (k : Nat) (ps : List Str) (sp : Sp) : Prop where
  ex : ∃ f fd, FnH P w K mg base k f fd ps sp ∧ mg name = some (.ref f) ∧ PySem.W.keepIn K (.ref f) = true ∧ Binds K fd ps []
theorem CalE.mono {P : Program} {w : World} {K : PySem.W.Frag} {mg : Str → Option Value} {base : Heap} {x : Str} {k k' : Nat} {ps : List Str} {sp : Sp} (C : CalE P w K mg base x k ps sp) (h : k ≤ k') : CalE P w K mg base x k' ps sp :=
  let ⟨f, fd, F, a, b, c⟩ := C.ex
  ⟨⟨f, fd, F.mono h, a, b, c⟩⟩
/-- the classes of refusals, as the module has them -/
structure ExcF (K : PySem.W.Frag) (mg : Str → Option Value) (cP cL c1 c2 c3 c4 : Addr) : Prop where
  mP : mg "NoPlace" = some (.ref cP)
  mL : mg "LogError" = some (.ref cL)
  m1 : mg "NoLetter" = some (.ref c1)
  m2 : mg "NoKeeper" = some (.ref c2)
  m3 : mg "NoRoom" = some (.ref c3)
  m4 : mg "NoSchedule" = some (.ref c4)
  mV : mg "ValueError" = none
  xP : PySem.W.excIn K cP mroV "ValueError.__new__" = true
  ex : PySem.W.exmOne K (.ref cP) (.ref cL) = some true
  ek : ExcK K cP
  ci : (PySem.W.clsIn K cP).isSome = true
  k1 : PySem.W.kitOne K (.ref cP) (.ref cP) = some true
  k2 : PySem.W.kitOne K (.ref cP) (.type "ValueError") = some true
  k3 : PySem.W.kitAny K (.ref cP) ([c1, c2, c3, c4].map Value.ref) = some false
end Kp
namespace K1
open PySem L2 Kp
end K1
set_option Elab.async false
set_option linter.all false
set_option maxRecDepth 100000
set_option maxHeartbeats 4000000
namespace L2
open PySem PySem.Spec PyProof.Rows
section
variable {X : Cx} {k : Nat} {f C : Addr} {fd : FuncData} {ps : List Str} {sp : Sp} {x m : Str} {p pos apos : Pos} {e o : Expr} {es : List Expr} {ta : TE} {t : TA}
end
/-! ### try: if c: return a; return b, with one clause that has a name -/
section
variable {X : Cx} {C : Addr} {y n : Str} {j : Nat} {ip r1 r2 tp np hp : Pos} {c e1 e2 : Expr} {tc : TT} {t1 t2 : XK → TE} {b₀ : Stmt} {suite : List Stmt} {ts : TS}
end
end L2
set_option Elab.async false
set_option linter.all false
set_option maxRecDepth 100000
set_option maxHeartbeats 4000000
namespace Kp
open PySem L2 PySem.Spec PyProof.Rows
/-- two lists whose items are alike -/
theorem op_eqAL {X : Cx} (hu : X.A.units + 100 < cLine) : OpR X (compareOp .Eq) (rAlL X.K true) := by
  intro pins s σ H x y v u Q I rx ry h
  obtain ⟨p, q', xs, ys, n, rfl, rfl, h1, h2, hl, h, hn, q⟩ := h
  cases rx
  cases ry
  obtain ⟨its, q1, p1, _⟩ := I.list h1
  obtain ⟨jts, q2, p2, _⟩ := I.list h2
  refine SeqAt.eq_listAt (e := fun _ => true) p1.isList p2.isList (by simp [← q1.length, ← q2.length, hl]) (by omega) (fun j g1 g2 => ?_) ⟨.bl true, H, I, ?_, q⟩
  · obtain ⟨x, ex, rx⟩ := Vals.at q1 g1
    obtain ⟨y, ey, ry⟩ := Vals.at q2 g2
    exact eq_alike I n x y _ _ X.A.in1 (h j x y ex ey) rx ry (by show X.A.units + 1 + n < cLine; omega)
  · rw [all_true]; rfl
theorem kit_lst (K : PySem.W.Frag) : PySem.W.kitOne K (.type "list") (.type "list") = some true := by with_unfolding_all rfl
end Kp
namespace K1
open PySem L2 Kp
/-! ### a road: what it holds, and the addresses that are its own -/
abbrev Rd := Hp → Addr → (Addr → Prop) → List V → Prop
/-- all but what is owned stays -/
def Keeps (O : Addr → Prop) (H H' : Hp) : Prop := ∀ b o, ¬ O b → H b = some o → H' b = some o
/-- what is owned behind was owned ahead, or is new -/
def Grows (O O' : Addr → Prop) (H : Hp) : Prop := ∀ b, O' b → O b ∨ H b = none
structure RdL (R : Rd) (C : Addr) : Prop where
  frame : ∀ {H H' : Hp} {a : Addr} {O : Addr → Prop} {xs : List V}, R H a O xs → SameT H H' → (∀ b o, O b → H b = some o → H' b = some o) → R H' a O xs
  dom : ∀ {H : Hp} {a : Addr} {O : Addr → Prop} {xs : List V}, R H a O xs → ∀ b, O b → ∃ o, H b = some o
  notT : ∀ {H : Hp} {a : Addr} {O : Addr → Prop} {xs : List V}, R H a O xs → ∀ b vs, O b → H b = some (.tup vs) → False
  ins : ∀ {H : Hp} {a : Addr} {O : Addr → Prop} {xs : List V}, R H a O xs → ∃ dx fs, H a = some (.ins C dx fs) ∧ fs.lookup ("put" : Str) = none ∧ fs.lookup ("look" : Str) = none ∧ fs.lookup ("take" : Str) = none ∧ fs.lookup ("waiting" : Str) = none
theorem RdL.same {R : Rd} {C : Addr} (L : RdL R C) {H H' : Hp} {a : Addr} {O : Addr → Prop} {xs : List V} (r : R H a O xs) (s : Same H H') : R H' a O xs := L.frame r (sameT_of s) fun b o _ e => s _ _ e
theorem RdL.fresh {R : Rd} {C : Addr} (L : RdL R C) {H : Hp} {a b : Addr} {O : Addr → Prop} {xs : List V} (r : R H a O xs) (hb : H b = none) : ¬ O b := fun z => by
  obtain ⟨o, e⟩ := L.dom r b z
  rw [hb] at e
  cases e
def LtOk (H : Hp) (xs : List V) : Prop := ∀ x ∈ xs, ∃ p vs, x = .ref p ∧ H p = some (.tup vs)
theorem LtOk.sameT {H H' : Hp} {xs : List V} (h : LtOk H xs) (s : SameT H H') : LtOk H' xs := fun x hx => let ⟨p, vs, e, hp⟩ := h x hx; ⟨p, vs, e, s _ _ hp⟩
theorem LtOk.same {H H' : Hp} {xs : List V} (h : LtOk H xs) (s : Same H H') : LtOk H' xs := h.sameT (sameT_of s)
theorem LtOk.alike {K : PySem.W.Frag} {H : Hp} {xs : List V} (h : LtOk H xs) : ∀ (i : Nat) (x y : V), xs[i]? = some x → xs[i]? = some y → Alike K H 0 x y := fun i x y e1 e2 => by
  rw [e1] at e2
  cases e2
  obtain ⟨p, vs, rfl, _⟩ := h x (List.mem_of_getElem? e1)
  exact .ref p
def spRInit (R : Rd) (C : Addr) : Sp := fun vs H Q _ => ∃ x dx : Addr, vs = [.ref x] ∧ H x = some (.ins C dx []) ∧ ∀ (O : Addr → Prop) (H' : Hp), R H' x O [] → (∀ b, O b → b = x ∨ H b = none) → (∀ b o, b ≠ x → H b = some o → H' b = some o) → Q .non H'
def spRPut (R : Rd) : Sp := fun vs H Q _ => ∃ (a l : Addr) (O : Addr → Prop) (xs ys : List V), vs = [.ref a, .ref l] ∧ R H a O xs ∧ H l = some (.lst ys) ∧ ¬ O l ∧ LtOk H ys ∧ xs.length + ys.length ≤ 3000 ∧ ∀ (O' : Addr → Prop) (H' : Hp), R H' a O' (xs ++ ys) → Grows O O' H → Keeps O H H' → Q .non H'
def spRLook (R : Rd) (cP : Addr) : Sp := fun vs H Q E => ∃ (a : Addr) (O : Addr → Prop) (xs : List V) (i : Int), vs = [.ref a, .int i] ∧ R H a O xs ∧ LtOk H xs ∧ xs.length ≤ 3000 ∧ (∀ (j : Nat) (x : V), i = (j : Int) → xs[j]? = some x → ∀ H', Same H H' → Q x H') ∧ ((i < 0 ∨ (xs.length : Int) ≤ i) → ∀ H', Same H H' → E (.ref cP) none H')
def spRTake (R : Rd) (cP : Addr) : Sp := fun vs H Q E => ∃ (a : Addr) (O : Addr → Prop) (xs : List V) (i : Int), vs = [.ref a, .int i] ∧ R H a O xs ∧ LtOk H xs ∧ xs.length ≤ 3000 ∧ (∀ (j : Nat) (x : V), i = (j : Int) → xs[j]? = some x → ∀ (O' : Addr → Prop) (H' : Hp), R H' a O' (xs.take j ++ xs.drop (j + 1)) → Grows O O' H → Keeps O H H' → Q x H') ∧ ((i < 0 ∨ (xs.length : Int) ≤ i) → ∀ H', Same H H' → E (.ref cP) none H')
def spRWait (R : Rd) : Sp := fun vs H Q _ => ∃ (a : Addr) (O : Addr → Prop) (xs : List V), vs = [.ref a] ∧ R H a O xs ∧ LtOk H xs ∧ xs.length ≤ 3000 ∧ ∀ (l : Addr) (H' : Hp), H' l = some (.lst xs) → H l = none → Same H H' → Q (.ref l) H'
/-- a class of roads: its methods -/
structure RdM (P : Program) (w : World) (K : PySem.W.Frag) (mg : Str → Option Value) (base : Heap) (R : Rd) (C cP : Addr) (kR : Nat) : Prop where
  cl : Cls K C
  gl : mg "Road" = some (.ref C)
  init : ∃ f fd, Mk K C f ∧ FnOk P w K mg base CX0 kR f fd ["self"] (spRInit R C) ∧ Binds K fd ["self"] []
  put : ∃ f fd p, Meth K C "put" f ∧ FnOk P w K mg base CX0 kR f fd ["self", p] (spRPut R) ∧ Binds K fd ["self", p] []
  look : ∃ f fd p, Meth K C "look" f ∧ FnOk P w K mg base (CXe P w) kR f fd ["self", p] (spRLook R cP) ∧ Binds K fd ["self", p] []
  take : ∃ f fd p, Meth K C "take" f ∧ FnOk P w K mg base (CXe P w) kR f fd ["self", p] (spRTake R cP) ∧ Binds K fd ["self", p] []
  waiting : ∃ f fd, Meth K C "waiting" f ∧ FnOk P w K mg base CX0 kR f fd ["self"] (spRWait R) ∧ Binds K fd ["self"] []
end K1
set_option Elab.async false
set_option linter.all false
set_option maxRecDepth 100000
set_option maxHeartbeats 4000000
namespace Kp
open PySem L2 PySem.Spec PyProof.Rows
/-- dict(d) -/
theorem call_dict_of {X : Cx} : CallR X (.type "dict") (fun xs H Q => ∃ p kvs, xs = [.ref p] ∧ H p = some (.dK kvs) ∧ ∀ q, H q = none → Q (.ref q) (upd H q (.dK kvs))) := by
  intro pins s σ H xs us Q I r h
  obtain ⟨p, kvs, rfl, hp, q⟩ := h
  obtain ⟨u, rfl, rx⟩ := vals1 r
  cases rx
  exact d_copyOf I (.inl hp) fun p' s' hn I' => ⟨.ref p', _, I', rfl, q p' hn⟩
theorem qa_a {X : Cx} {o : Expr} {f : Str} {es : List Expr} {p : Pos} {te : TE} {t : TA} (ha : PE X (.Attribute o f p) te) (r : QA X es t) : QA X (.Attribute o f p :: es) (tCons te t) := ⟨pa_cons ha r.h rfl⟩
/-- x == y: flat values, or tuples whose items are alike -/
theorem op_eqO {X : Cx} (hu : X.A.units + 100 < cLine) : OpR X (compareOp .Eq) (fun x y H Q => rEq x y H Q ∨ rAl X.K true x y H Q) := by
  intro pins s σ H x y v u Q I rx ry h
  rcases h with h | h
  · exact op_eq pins s σ H x y v u Q I rx ry h
  · exact op_eqA hu pins s σ H x y v u Q I rx ry h
theorem op_neALK {X : Cx} {K' : PySem.W.Frag} (h : X.K = K') (hu : X.A.units + 100 < cLine) : OpR X (compareOp .NotEq) (rAlL K' false) := h ▸ op_neAL hu
theorem boot_dict : bootBuiltins "dict" = some (.type "dict") := by decide +kernel
end Kp
namespace K1
open PySem L2 Kp
/-! ### names, deeds, numbers as the law makes them -/
def abc51 : Str := "abcdefghijklmnopqrstuvwxyz"
theorem abc51_len : abc51.length = 26 := by decide +kernel
theorem abc51_l : abc51.cps.toList.length = 26 := by decide +kernel
def sgn (r : Int) : Str := ⟨#[abc51.cps.toList.getD (r % 26).toNat 0]⟩
theorem sgn_len (r : Int) : (sgn r).length = 1 := rfl
theorem sgn_at (r : Int) : atI abc51.cps.toList (r % 26) = some (abc51.cps.toList.getD (r % 26).toNat 0) := by
  have h0 := Int.emod_nonneg r (show (26 : Int) ≠ 0 by decide)
  have h1 := Int.emod_lt_of_pos r (show (0 : Int) < 26 by decide)
  obtain ⟨j, ej⟩ := Int.eq_ofNat_of_zero_le h0
  rw [ej, Int.toNat_natCast]
  have hj : j < abc51.cps.toList.length := by rw [abc51_l]; omega
  exact atI_nat (by rw [List.getElem?_eq_getElem hj, List.getD_eq_getElem?_getD, List.getElem?_eq_getElem hj]; rfl)
def nmSt (c : Int) : Nat → Str × Int
  | 0 => ("", c / 8)
  | i + 1 => ((nmSt c i).1 ++ sgn (nmSt c i).2, (nmSt c i).2 / 26)
theorem app_len51 (x y : Str) : (x ++ y).length = x.length + y.length := by
  show (x.cps ++ y.cps).size = _
  rw [Array.size_append]
  rfl
theorem nmSt_len (c : Int) : ∀ i, (nmSt c i).1.length = i
  | 0 => by show ("" : Str).length = 0; decide +kernel
  | i + 1 => by show ((nmSt c i).1 ++ sgn (nmSt c i).2).length = i + 1; rw [app_len51, nmSt_len c i, sgn_len]
def nmS (c : Int) : Str := (nmSt c (1 + c % 8).toNat).1
def bdI (n : Int) : Int := (n + 10 ^ (59 : Int).toNat) % 10 ^ (60 : Int).toNat - 10 ^ (59 : Int).toNat
def dbF (c : Int) : Deed := if c % 3 = 0 then .get (nmS (c / 3)) else if c % 3 = 1 then .set (nmS (c / 3)) (bdI (c / 5)) else .add (nmS (c / 3)) (bdI (c / 5))
theorem DeedV.sameT {H H' : Hp} {v : V} {d : Deed} (h : DeedV H v d) (s : SameT H H') : DeedV H' v d := by
  cases d <;> (obtain ⟨p, e, hp⟩ := h; exact ⟨p, e, s _ _ hp⟩)
theorem flat_alike {K : PySem.W.Frag} {H : Hp} {p q : Addr} {xs : List V} {n : Nat} (h : H p = some (.tup xs)) (h' : H q = some (.tup xs)) (hf : ∀ x ∈ xs, flatV x = true) : Alike K H (n + 1) (.ref p) (.ref q) :=
  .tup (SqT.of h) (SqT.of h') rfl fun i x y e1 e2 => by
    rw [e1] at e2
    cases e2
    exact .flat (hf x (List.mem_of_getElem? e1))
theorem DeedV.alike {K : PySem.W.Frag} {H : Hp} {v u : V} {d : Deed} {n : Nat} (h : DeedV H v d) (h' : DeedV H u d) : Alike K H (n + 1) v u := by
  cases d <;>
    (obtain ⟨p, rfl, hp⟩ := h
     obtain ⟨q, rfl, hq⟩ := h'
     exact flat_alike hp hq fun x hx => by
       simp only [List.mem_cons, List.not_mem_nil, or_false] at hx
       rcases hx with rfl | rfl | rfl <;> rfl)
/-! ### a caller's account -/
structure Acc where
  nm : Str
  asks : Int
  num : Int
  wt : Bool
  deed : Option Deed
  told : List (Int × Int)
def DeedO (H : Hp) (v : V) : Option Deed → Prop
  | none => v = .non
  | some d => DeedV H v d
theorem DeedO.sameT {H H' : Hp} {v : V} {d : Option Deed} (h : DeedO H v d) (s : SameT H H') : DeedO H' v d := by
  cases d with
  | none => exact h
  | some d => exact DeedV.sameT h s
theorem DeedO.alike {K : PySem.W.Frag} {H : Hp} {v u : V} {d : Option Deed} {n : Nat} (h : DeedO H v d) (h' : DeedO H u d) : Alike K H (n + 1) v u := by
  cases d with
  | none => cases h; cases h'; exact .flat rfl
  | some d => exact DeedV.alike h h'
inductive PrL (H : Hp) : List V → List (Int × Int) → Prop
  | nil : PrL H [] []
  | cons {p : Addr} {a b : Int} {vs : List V} {ts : List (Int × Int)} : H p = some (.tup [.int a, .int b]) → PrL H vs ts → PrL H (.ref p :: vs) ((a, b) :: ts)
theorem PrL.sameT {H H' : Hp} (s : SameT H H') : ∀ {vs ts}, PrL H vs ts → PrL H' vs ts
  | _, _, .nil => .nil
  | _, _, .cons e r => .cons (s _ _ e) (PrL.sameT s r)
theorem PrL.length {H : Hp} : ∀ {vs ts}, PrL H vs ts → vs.length = ts.length
  | _, _, .nil => rfl
  | _, _, .cons _ r => by rw [List.length_cons, List.length_cons, PrL.length r]
theorem PrL.append {H : Hp} : ∀ {vs ts us rs}, PrL H vs ts → PrL H us rs → PrL H (vs ++ us) (ts ++ rs)
  | _, _, _, _, .nil, r => r
  | _, _, _, _, .cons e r, q => .cons e (PrL.append r q)
theorem PrL.alike {K : PySem.W.Frag} {H : Hp} : ∀ {vs us ts}, PrL H vs ts → PrL H us ts → ∀ (i : Nat) (x y : V), vs[i]? = some x → us[i]? = some y → Alike K H 1 x y
  | _, _, _, .nil, .nil, i, x, y, e1, _ => by simp at e1
  | _, _, _, .cons e r, .cons e' r', 0, x, y, e1, e2 => by
    cases e1
    cases e2
    exact flat_alike e e' fun x hx => by
      simp only [List.mem_cons, List.not_mem_nil, or_false] at hx
      rcases hx with rfl | rfl <;> rfl
  | _, _, _, .cons _ r, .cons _ r', i + 1, x, y, e1, e2 => PrL.alike r r' i x y (by simpa using e1) (by simpa using e2)
theorem PrL.refs {H : Hp} : ∀ {vs ts}, PrL H vs ts → ∀ x ∈ vs, ∃ p, x = .ref p
  | _, _, .nil, x, hx => absurd hx List.not_mem_nil
  | _, _, .cons _ r, x, hx => by
    rcases List.mem_cons.mp hx with rfl | hx
    · exact ⟨_, rfl⟩
    · exact PrL.refs r x hx
theorem len_putK_old {kvs : List (Key × V)} {k : Key} {x : V} (v : V) (h : valV kvs k = some x) : (putK kvs k v).length = kvs.length := by
  have e : (kvs.any fun kv => decide (kv.1 = k)) = true := by rw [valV_any, h]; rfl
  unfold putK
  rw [if_pos e, List.length_map]
structure AccK (kvs : List (Key × V)) (c : Acc) (ud : V) (l : Addr) : Prop where
  len : kvs.length ≤ 20
  nm : valV kvs (Sum.inr "name") = some (.str c.nm)
  asks : valV kvs (Sum.inr "asks") = some (.int c.asks)
  num : valV kvs (Sum.inr "number") = some (.int c.num)
  wt : valV kvs (Sum.inr "waits") = some (.bl c.wt)
  deed : valV kvs (Sum.inr "deed") = some (ud)
  told : valV kvs (Sum.inr "told") = some (.ref l)
theorem AccK.put_num {kvs : List (Key × V)} {c : Acc} {ud : V} {l : Addr} (h : AccK kvs c ud l) (z : Int) : AccK (putK kvs (Sum.inr "number") (.int z)) { c with num := z } ud l := by
  refine ⟨by rw [len_putK_old _ h.num]; exact h.len, by rw [valV_put, if_neg (by decide +kernel)]; exact h.nm, by rw [valV_put, if_neg (by decide +kernel)]; exact h.asks, by rw [valV_put, if_pos rfl], by rw [valV_put, if_neg (by decide +kernel)]; exact h.wt, by rw [valV_put, if_neg (by decide +kernel)]; exact h.deed, by rw [valV_put, if_neg (by decide +kernel)]; exact h.told⟩
theorem AccK.put_asks {kvs : List (Key × V)} {c : Acc} {ud : V} {l : Addr} (h : AccK kvs c ud l) (z : Int) : AccK (putK kvs (Sum.inr "asks") (.int z)) { c with asks := z } ud l := by
  refine ⟨by rw [len_putK_old _ h.asks]; exact h.len, by rw [valV_put, if_neg (by decide +kernel)]; exact h.nm, by rw [valV_put, if_pos rfl], by rw [valV_put, if_neg (by decide +kernel)]; exact h.num, by rw [valV_put, if_neg (by decide +kernel)]; exact h.wt, by rw [valV_put, if_neg (by decide +kernel)]; exact h.deed, by rw [valV_put, if_neg (by decide +kernel)]; exact h.told⟩
theorem AccK.put_wt {kvs : List (Key × V)} {c : Acc} {ud : V} {l : Addr} (h : AccK kvs c ud l) (z : Bool) : AccK (putK kvs (Sum.inr "waits") (.bl z)) { c with wt := z } ud l := by
  refine ⟨by rw [len_putK_old _ h.wt]; exact h.len, by rw [valV_put, if_neg (by decide +kernel)]; exact h.nm, by rw [valV_put, if_neg (by decide +kernel)]; exact h.asks, by rw [valV_put, if_neg (by decide +kernel)]; exact h.num, by rw [valV_put, if_pos rfl], by rw [valV_put, if_neg (by decide +kernel)]; exact h.deed, by rw [valV_put, if_neg (by decide +kernel)]; exact h.told⟩
theorem AccK.put_deed {kvs : List (Key × V)} {c : Acc} {ud : V} {l : Addr} (h : AccK kvs c ud l) (u : V) (d : Option Deed) : AccK (putK kvs (Sum.inr "deed") (u)) { c with deed := d } u l := by
  refine ⟨by rw [len_putK_old _ h.deed]; exact h.len, by rw [valV_put, if_neg (by decide +kernel)]; exact h.nm, by rw [valV_put, if_neg (by decide +kernel)]; exact h.asks, by rw [valV_put, if_neg (by decide +kernel)]; exact h.num, by rw [valV_put, if_neg (by decide +kernel)]; exact h.wt, by rw [valV_put, if_pos rfl], by rw [valV_put, if_neg (by decide +kernel)]; exact h.told⟩
theorem AccK.put_told {kvs : List (Key × V)} {c : Acc} {ud : V} {l : Addr} (h : AccK kvs c ud l) (k : Addr) (ts : List (Int × Int)) : AccK (putK kvs (Sum.inr "told") (.ref k)) { c with told := ts } ud k := by
  refine ⟨by rw [len_putK_old _ h.told]; exact h.len, by rw [valV_put, if_neg (by decide +kernel)]; exact h.nm, by rw [valV_put, if_neg (by decide +kernel)]; exact h.asks, by rw [valV_put, if_neg (by decide +kernel)]; exact h.num, by rw [valV_put, if_neg (by decide +kernel)]; exact h.wt, by rw [valV_put, if_neg (by decide +kernel)]; exact h.deed, by rw [valV_put, if_pos rfl]⟩
/-- the account as the law's dict holds it: p the dict, l its list of answers -/
def AccV (H : Hp) (p l : Addr) (c : Acc) : Prop := ∃ (kvs : List (Key × V)) (ud : V) (us : List V), H p = some (.dK kvs) ∧ AccK kvs c ud l ∧ DeedO H ud c.deed ∧ H l = some (.lst us) ∧ PrL H us c.told
theorem AccV.keep {H H' : Hp} {p l : Addr} {c : Acc} (h : AccV H p l c) (kp : ∀ o, H p = some o → H' p = some o) (kl : ∀ o, H l = some o → H' l = some o) (s : SameT H H') : AccV H' p l c := by
  obtain ⟨kvs, ud, us, h1, h2, h3, h4, h5⟩ := h
  exact ⟨kvs, ud, us, kp _ h1, h2, h3.sameT s, kl _ h4, h5.sameT s⟩
theorem AccV.same {H H' : Hp} {p l : Addr} {c : Acc} (h : AccV H p l c) (s : Same H H') : AccV H' p l c := h.keep (fun o e => s _ _ e) (fun o e => s _ _ e) (sameT_of s)
theorem dget_of {H : Hp} {p : Addr} {kvs : List (Key × V)} {k : Str} {v : V} (h : H p = some (.dK kvs)) (e : valV kvs (Sum.inr k) = some v) : DGet H p (.str k) (some v) := by
  rw [← e]
  exact DGet.k (k := Sum.inr k) h
theorem dput_of {H : Hp} {p : Addr} {kvs : List (Key × V)} {k : Str} {v : V} (h : H p = some (.dK kvs)) (e : kvs.length ≤ 20) : DPut H p (.str k) v (upd H p (.dK (putK kvs (Sum.inr k) v))) := DPut.k (k := Sum.inr k) h (by rw [sizeLine_eq]; omega)
/-! ### what a deed upon a caller comes to -/
inductive Ltr | none | told (k : Int) (nm : Str) (n z : Int) | away (k : Int) (nm : Str) (n : Int) (h : Option Int)
def numV (c : Acc) (x : Int) : Int := if x / 6 % 5 = 0 then c.num else if x / 6 % 5 = 1 then c.num else if x / 6 % 5 = 2 then c.num - 1 else if x / 6 % 5 = 3 then c.num + 1 else x / 24 % 99
def num1 (c : Acc) (x : Int) : Int := if numV c x > 1 then numV c x else 1
def headV (x : Int) : Option Int := if x / 6 % 2 = 0 then .none else some (x / 7 % 9)
def ltrF (c : Acc) (x : Int) : Ltr := if x % 6 = 3 ∨ x % 6 = 4 then .told (x / 30 % 9) c.nm (num1 c x) (bdI x) else if x % 6 = 5 then .away (x / 30 % 9) c.nm (num1 c x) (headV x) else .none
def wishF (c : Acc) (d : Deed) : Acc := if c.wt then c else { c with num := c.num + 1, wt := true, deed := some d }
def toldF (c : Acc) (n z : Int) : Acc := if c.wt = true ∧ n = c.num then { c with told := c.told ++ [(n, z)], wt := false } else c
def awayF (c : Acc) (h : Option Int) : Acc := match h with
  | some k => { c with asks := k }
  | .none => c
def goneF (c : Acc) (x : Int) : Acc := if x % 6 < 2 then wishF c (dbF (x / 6)) else if x % 6 = 3 ∨ x % 6 = 4 then toldF c (num1 c x) (bdI x) else if x % 6 = 5 then awayF c (headV x) else c
def LtrV (H : Hp) (v : V) : Ltr → Prop
  | .none => ∃ p, v = .ref p ∧ H p = some (.tup [])
  | .told k nm n z => ∃ p, v = .ref p ∧ H p = some (.tup [.str "told", .int k, .str nm, .int n, .int z])
  | .away k nm n h => ∃ p, v = .ref p ∧ H p = some (.tup [.str "away", .int k, .str nm, .int n, (match h with | some i => .int i | .none => .non)])
theorem LtrV.sameT {H H' : Hp} {v : V} {x : Ltr} (h : LtrV H v x) (s : SameT H H') : LtrV H' v x := by
  cases x <;> (obtain ⟨p, e, hp⟩ := h; exact ⟨p, e, s _ _ hp⟩)
/-! ### a caller -/
structure FsC (fs : List (Str × V)) (c : Acc) (ud : V) (l : Addr) : Prop where
  name : fs.lookup ("name" : Str) = some (.str c.nm)
  number : fs.lookup ("number" : Str) = some (.int c.num)
  waits : fs.lookup ("waits" : Str) = some (.bl c.wt)
  deed : fs.lookup ("deed" : Str) = some ud
  asks : fs.lookup ("asks" : Str) = some (.int c.asks)
  told : fs.lookup ("told" : Str) = some (.ref l)
  n1 : fs.lookup ("wish" : Str) = none
  n2 : fs.lookup ("again" : Str) = none
  n3 : fs.lookup ("take_told" : Str) = none
  n4 : fs.lookup ("take_away" : Str) = none
/-- a caller stands at a, its list of answers at l; E is what else its class keeps of its values -/
def CaV (E : List (Str × V) → Prop) (C : Addr) (H : Hp) (a l : Addr) (c : Acc) : Prop := ∃ (dx : Addr) (fs : List (Str × V)) (ud : V) (us : List V), H a = some (.ins C dx fs) ∧ FsC fs c ud l ∧ E fs ∧ DeedO H ud c.deed ∧ H l = some (.lst us) ∧ PrL H us c.told
def OffC (a : Addr) (H H' : Hp) : Prop := ∀ b o, b ≠ a → H b = some o → H' b = some o
theorem OffC.tups {a C dx : Addr} {fs : List (Str × V)} {H H' : Hp} (o : OffC a H H') (ha : H a = some (.ins C dx fs)) : SameT H H' := fun b xs e => o b _ (fun z => by rw [z, ha] at e; cases e) e
theorem CaV.ins {E : List (Str × V) → Prop} {C : Addr} {H : Hp} {a l : Addr} {c : Acc} (h : CaV E C H a l c) : ∃ dx fs, H a = some (.ins C dx fs) := let ⟨dx, fs, _, _, e, _⟩ := h; ⟨dx, fs, e⟩
theorem CaV.keep {E : List (Str × V) → Prop} {C : Addr} {H H' : Hp} {a l : Addr} {c : Acc} (h : CaV E C H a l c) (ka : ∀ o, H a = some o → H' a = some o) (kl : ∀ o, H l = some o → H' l = some o) (s : SameT H H') : CaV E C H' a l c := by
  obtain ⟨dx, fs, ud, us, h1, h2, h3, h4, h5, h6⟩ := h
  exact ⟨dx, fs, ud, us, ka _ h1, h2, h3, h4.sameT s, kl _ h5, h6.sameT s⟩
theorem CaV.same {E : List (Str × V) → Prop} {C : Addr} {H H' : Hp} {a l : Addr} {c : Acc} (h : CaV E C H a l c) (s : Same H H') : CaV E C H' a l c := h.keep (fun o e => s _ _ e) (fun o e => s _ _ e) (sameT_of s)
def wishV (H : Hp) (v : V) (c : Acc) : Prop := ∃ (p : Addr) (ud : V), v = .ref p ∧ H p = some (.tup [.str "wish", .str c.nm, .int c.asks, .int c.num, ud]) ∧ DeedO H ud c.deed
theorem wishV.sameT {H H' : Hp} {v : V} {c : Acc} (h : wishV H v c) (s : SameT H H') : wishV H' v c := let ⟨p, ud, e, hp, hd⟩ := h; ⟨p, ud, e, s _ _ hp, hd.sameT s⟩
theorem wishV.alike {K : PySem.W.Frag} {H : Hp} {v u : V} {c : Acc} (h : wishV H v c) (h' : wishV H u c) : Alike K H 2 v u := by
  obtain ⟨p, ud, rfl, hp, hd⟩ := h
  obtain ⟨q, ud', rfl, hq, hd'⟩ := h'
  refine .tup (SqT.of hp) (SqT.of hq) rfl fun i x y e1 e2 => ?_
  match i, e1, e2 with
  | 0, e1, e2 => cases e1; cases e2; exact .flat rfl
  | 1, e1, e2 => cases e1; cases e2; exact .flat rfl
  | 2, e1, e2 => cases e1; cases e2; exact .flat rfl
  | 3, e1, e2 => cases e1; cases e2; exact .flat rfl
  | 4, e1, e2 => cases e1; cases e2; exact hd.alike hd'
def LetsV (H : Hp) (ys : List V) (b : Bool) (c : Acc) : Prop := match b with
  | true => ∃ y, ys = [y] ∧ wishV H y c
  | false => ys = []
theorem LetsV.sameT {H H' : Hp} {ys : List V} {b : Bool} {c : Acc} (h : LetsV H ys b c) (s : SameT H H') : LetsV H' ys b c := by
  cases b with
  | true => obtain ⟨y, e, h⟩ := h; exact ⟨y, e, h.sameT s⟩
  | false => exact h
theorem LetsV.length {H : Hp} {ys : List V} {b : Bool} {c : Acc} (h : LetsV H ys b c) : ys.length = if b then 1 else 0 := by
  cases b with
  | true => obtain ⟨y, rfl, h⟩ := h; rfl
  | false => rw [show ys = [] from h]; rfl
theorem LetsV.alike {K : PySem.W.Frag} {H : Hp} {ys zs : List V} {b : Bool} {c : Acc} (h : LetsV H ys b c) (h' : LetsV H zs b c) : ∀ (i : Nat) (x y : V), ys[i]? = some x → zs[i]? = some y → Alike K H 2 x y := by
  cases b with
  | true =>
    obtain ⟨y, rfl, h⟩ := h
    obtain ⟨z, rfl, h'⟩ := h'
    intro i x y e1 e2
    match i, e1, e2 with
    | 0, e1, e2 => cases e1; cases e2; exact h.alike h'
    | i + 1, e1, _ => simp at e1
  | false =>
    rw [show ys = [] from h]
    intro i x y e1 _
    simp at e1
def spCInit (E : List (Str × V) → Prop) (C : Addr) : Sp := fun vs H Q _ => ∃ (x dx : Addr) (nm : Str) (k : Int), vs = [.ref x, .str nm, .int k] ∧ H x = some (.ins C dx []) ∧ ∀ (l : Addr) (H' : Hp), CaV E C H' x l ⟨nm, k, 0, false, none, []⟩ → H l = none → OffC x H H' → Q .non H'
def spCWish (E : List (Str × V) → Prop) (C : Addr) : Sp := fun vs H Q _ => ∃ (a l : Addr) (c : Acc) (v : V) (d : Deed), vs = [.ref a, v] ∧ CaV E C H a l c ∧ DeedV H v d ∧ ∀ (r : Addr) (ys : List V) (H' : Hp), CaV E C H' a l (wishF c d) → H' r = some (.lst ys) → LetsV H' ys (!c.wt) (wishF c d) → H r = none → OffC a H H' → Q (.ref r) H'
def spCAgain (E : List (Str × V) → Prop) (C : Addr) : Sp := fun vs H Q _ => ∃ (a l : Addr) (c : Acc), vs = [.ref a] ∧ CaV E C H a l c ∧ ∀ (r : Addr) (ys : List V) (H' : Hp), CaV E C H' a l c → H' r = some (.lst ys) → LetsV H' ys c.wt c → H r = none → OffC a H H' → Q (.ref r) H'
def spCTold (E : List (Str × V) → Prop) (C : Addr) : Sp := fun vs H Q _ => ∃ (a l : Addr) (c : Acc) (v : V) (k : Int) (nm : Str) (n z : Int), vs = [.ref a, v] ∧ CaV E C H a l c ∧ LtrV H v (.told k nm n z) ∧ c.told.length ≤ 900 ∧ ∀ (l' : Addr) (H' : Hp), CaV E C H' a l' (toldF c n z) → (l' = l ∨ H l' = none) → OffC a H H' → Q .non H'
def spCAway (E : List (Str × V) → Prop) (C : Addr) : Sp := fun vs H Q _ => ∃ (a l : Addr) (c : Acc) (v : V) (k : Int) (nm : Str) (n : Int) (h : Option Int), vs = [.ref a, v] ∧ CaV E C H a l c ∧ LtrV H v (.away k nm n h) ∧ ∀ (H' : Hp), CaV E C H' a l (awayF c h) → OffC a H H' → Q .non H'
structure CaM (P : Program) (w : World) (K : PySem.W.Frag) (mg : Str → Option Value) (base : Heap) (E : List (Str × V) → Prop) (C : Addr) (kC : Nat) : Prop where
  cl : Cls K C
  gl : mg "Caller" = some (.ref C)
  a_name : NoAttr K C "name"
  a_number : NoAttr K C "number"
  a_waits : NoAttr K C "waits"
  a_deed : NoAttr K C "deed"
  a_asks : NoAttr K C "asks"
  a_told : NoAttr K C "told"
  init : ∃ f fd p q, Mk K C f ∧ FnOk P w K mg base CX0 kC f fd ["self", p, q] (spCInit E C) ∧ Binds K fd ["self", p, q] []
  wish : ∃ f fd p, Meth K C "wish" f ∧ FnOk P w K mg base CX0 kC f fd ["self", p] (spCWish E C) ∧ Binds K fd ["self", p] []
  again : ∃ f fd, Meth K C "again" f ∧ FnOk P w K mg base CX0 kC f fd ["self"] (spCAgain E C) ∧ Binds K fd ["self"] []
  told : ∃ f fd p, Meth K C "take_told" f ∧ FnOk P w K mg base CX0 kC f fd ["self", p] (spCTold E C) ∧ Binds K fd ["self", p] []
  away : ∃ f fd p, Meth K C "take_away" f ∧ FnOk P w K mg base CX0 kC f fd ["self", p] (spCAway E C) ∧ Binds K fd ["self", p] []
end K1
set_option Elab.async false
set_option linter.all false
set_option maxRecDepth 100000
set_option maxHeartbeats 4000000
namespace K1
open PySem L2 Kp
section
variable {P : Program} {w : World} {K : PySem.W.Frag} {mg : Str → Option Value} {base : Heap}
def spNx : Sp := fun vs H Q _ => ∃ n : Int, vs = [.int n] ∧ Q (.str (nmS n)) H
theorem scNx : FnScope ["_law_cell", "_law_some", "_law_found", "_law_rest", "_law_k"] ["_law_cell"] (defScope sNameBy) := ⟨rfl, rfl, rfl, by decide +kernel, rfl, by decide +kernel, by decide +kernel⟩
theorem ok_nmX {f : Addr} {fd : FuncData} (F : Fun K "_law_name_by" "_law_name_by" sNameBy f fd) (T : Txt mg) : FnOk P w K mg base CX0 1 f fd ["_law_cell"] spNx := by
  refine F.ok scNx (fun vs H Q E ⟨_, e, _⟩ => by subst e; rfl) (fun cdv A outer s H vs Q E hr h => ?_)
  obtain ⟨n, rfl, q⟩ := h
  refine ⟨_, @pss_p _ _ _ _ _ (ps_set (i := 1) scNx.nd (by rfl) (by exact Or.inl rfl) (pe_str))
    (@pss_p _ _ _ _ _ (ps_set (i := 2) scNx.nd (by rfl) (by exact Or.inl rfl) (pe_str))
    (@pss_p _ _ _ _ _ (ps_set (i := 3) scNx.nd (by rfl) (by exact Or.inl rfl) (pe_op op_fdiv (pv 0) (pe_int)))
    (@pss_p _ _ _ _ _ (ps_for PassesOwn.never (by rfl) (pi_range1 (by rfl) T.range (pa_b (pe_op op_add (pe_int) (pe_op op_mod (pv 0) (pe_int))) pa_nil)) (pg_name (i := 4) scNx.nd (by rfl) (by exact Or.inl rfl)) (@pss_p _ _ _ _ _ (ps_set (i := 2) scNx.nd (by rfl) (by exact Or.inl rfl) (pe_op op_add_str (pv 2) (pe_ix ix_str (pv 1) (pe_op op_mod (pv 3) (pe_int)) px_b)))
    (@pss_o _ _ _ (ps_set (i := 3) scNx.nd (by rfl) (by exact Or.inl rfl) (pe_op op_fdiv (pv 3) (pe_int))))))
    (@pss_o _ _ _ (ps_ret (pv 2)))))), ?_⟩
  obtain ⟨e0, e1⟩ := emod_in n (m := 8) (by decide)
  obtain ⟨t, et⟩ := Int.eq_ofNat_of_zero_le (show 0 ≤ 1 + n % 8 by omega)
  unfold nmS at q
  rw [et, Int.toNat_natCast] at q
  refine ⟨_, rfl, _, _, rfl, rfl, ⟨by decide, by decide⟩, _, rfl, _, _, rfl, rfl, (by show (0 : Int) < 8; decide), _, _, rfl, rfl, _, rfl, ?_⟩
  show -(2 ^ 62) ≤ 1 + n % 8 ∧ 1 + n % 8 < 2 ^ 62 ∧ _
  rw [et]
  refine ⟨by omega, by omega, for_range (n := t) (fun i σ H' => ∃ t4 : Option V, σ = [some (.int n), some (.str abc51), some (.str (nmSt n i).1), some (.int (nmSt n i).2), t4] ∧ H' = H)
    ⟨none, rfl, rfl⟩ ?_ ?_⟩
  · rintro i σ H' hi ⟨t', rfl, rfl⟩
    have hx := nmSt_len n i
    refine ⟨_, rfl, _, rfl, _, rfl, _, _, rfl, rfl, (by show (0 : Int) < 26; decide), _, _, _, rfl, rfl, (by rw [abc51_len, sizeLine_eq]; decide), sgn_at (nmSt n i).2, _, _, rfl, rfl, (by show (nmSt n i).1.length + 1 ≤ sizeLine; rw [sizeLine_eq]; omega), ?_⟩
    exact ⟨_, rfl, _, _, rfl, rfl, ⟨by decide, by decide⟩, _, rfl, rfl⟩
  · rintro σ H' ⟨t', rfl, rfl⟩
    exact ⟨_, rfl, q⟩
def spBx : Sp := fun vs H Q _ => ∃ n : Int, vs = [.int n] ∧ Q (.int (bdI n)) H
theorem scBd : FnScope ["_law_number"] ["_law_number"] (defScope s__law_bounded) := ⟨rfl, rfl, rfl, by decide +kernel, rfl, by decide +kernel, by decide +kernel⟩
theorem ok_bdX {f : Addr} {fd : FuncData} (F : Fun K "_law_bounded" "_law_bounded" s__law_bounded f fd) : FnOk P w K mg base CX0 1 f fd ["_law_number"] spBx := by
  refine F.ok scBd (fun vs H Q E ⟨_, e, _⟩ => by subst e; rfl) (fun cdv A outer s H vs Q E hr h => ?_)
  obtain ⟨n, rfl, q⟩ := h
  refine ⟨_, @pss_o _ _ _ (ps_ret (pe_op op_sub (pe_op op_mod (pe_op op_add (pv 0) (pe_op op_pow pe_int pe_int)) (pe_op op_pow pe_int pe_int)) (pe_op op_pow pe_int pe_int))), ?_⟩
  exact ⟨_, rfl, _, _, rfl, rfl, ⟨by decide, by decide, by decide⟩, _, _, rfl, rfl, _, _, rfl, rfl, ⟨by decide, by decide, by decide⟩, _, _, rfl, rfl, (by show (0 : Int) < 10 ^ (60 : Int).toNat; decide), _, _, rfl, rfl, ⟨by decide, by decide, by decide⟩, _, _, rfl, rfl, q⟩
def spDx : Sp := fun vs H Q _ => ∃ c : Int, vs = [.int c] ∧ ∀ (v : V) (H' : Hp), DeedV H' v (dbF c) → Same H H' → Q v H'
theorem scDx : FnScope ["_law_cell", "_law_name"] ["_law_cell"] (defScope s__law_deed_by) := ⟨rfl, rfl, rfl, by decide +kernel, rfl, by decide +kernel, by decide +kernel⟩
theorem ok_dbX {f : Addr} {fd : FuncData} (F : Fun K "_law_deed_by" "_law_deed_by" s__law_deed_by f fd) (CN : Cal P w K mg base "_law_name_by" 1 ["_law_cell"] spNx) (CB : Cal P w K mg base "_law_bounded" 1 ["_law_number"] spBx) : FnOk P w K mg base CX0 2 f fd ["_law_cell"] spDx := by
  refine F.ok scDx (fun vs H Q E ⟨_, e, _⟩ => by subst e; rfl) (fun cdv A outer s H vs Q E hr h => ?_)
  obtain ⟨c, rfl, q⟩ := h
  obtain ⟨gN, dN, GN, mN, kN, bN⟩ := CN.ex
  obtain ⟨gB, dB, GB, mB, kB, bB⟩ := CB.ex
  refine ⟨_, @pss_p _ _ _ _ _ (ps_set (i := 1) scDx.nd (by rfl) (by exact Or.inl rfl) (pe_call GN hr (by rfl) mN kN bN .nil pass0 (pa_b (pe_op op_fdiv (pv 0) (pe_int)) pa_nil)))
    (@pss_p _ _ _ _ _ (ps_if (pt_cmpR op_eq (pe_op op_mod (pv 0) (pe_int)) pe_int (nomark _)) (@pss_o _ _ _ (ps_ret (QE.h (qx_tup (qa_str (qa_n (pv 1) qa_nil)))))) pss_nil)
    (@pss_o _ _ _ (ps_ret (QE.h (qx_tup (qa_s (QE.h (qx_ix ix_list (qx_lst (qa_str (qa_str qa_nil))) (pe_op op_sub (pe_op op_mod (pv 0) (pe_int)) (pe_int)) px_b)) (qa_n (pv 1) (qa_k (pe_call GB hr (by rfl) mB kB bB .nil pass0 (pa_b (pe_op op_fdiv (pv 0) (pe_int)) pa_nil)) qa_nil)))))))), ?_⟩
  refine ⟨_, rfl, _, _, rfl, rfl, ⟨by decide, by decide⟩, _, rfl, ?_⟩
  unfold dbF at q
  obtain ⟨e0, e1⟩ := emod_in c (m := 3) (by decide)
  refine ⟨_, rfl, _, _, rfl, rfl, (by show (0 : Int) < 3; decide), rfl, _, rfl, ite2 (fun h => ?_) (fun h => ?_)⟩
  · have e : c % 3 = 0 := by have := of_decide_eq_true h; injection this
    rw [if_pos e] at q
    exact ⟨_, rfl, tiny (by show 2 ≤ 1000; decide), fun p hp => q _ _ ⟨p, rfl, upd_same⟩ (same_upd hp)⟩
  · have e : ¬ c % 3 = 0 := fun e => h (decide_eq_true (congrArg V.int e))
    rw [if_neg e] at q
    refine ⟨tiny (by show 2 ≤ 1000; decide), fun l hl => ?_⟩
    have s1 := same_upd (o := HO.lst [V.str "set", V.str "add"]) hl
    by_cases e1 : c % 3 = 1
    · rw [if_pos e1] at q
      refine ⟨_, rfl, _, _, rfl, rfl, (by show (0 : Int) < 3; decide), _, _, rfl, rfl, l, _, _, .str "set", rfl, rfl, SqL.of upd_same, ?_, _, rfl, _, rfl, _, _, rfl, rfl, ⟨by decide, by decide⟩, _, rfl, tiny (by show 3 ≤ 1000; decide), fun p hp => q _ _ ⟨p, rfl, upd_same⟩ (s1.trans (same_upd hp))⟩
      show atI _ (c % 3 - 1) = _
      rw [e1]; rfl
    · rw [if_neg e1] at q
      have e2 : c % 3 = 2 := by omega
      refine ⟨_, rfl, _, _, rfl, rfl, (by show (0 : Int) < 3; decide), _, _, rfl, rfl, l, _, _, .str "add", rfl, rfl, SqL.of upd_same, ?_, _, rfl, _, rfl, _, _, rfl, rfl, ⟨by decide, by decide⟩, _, rfl, tiny (by show 3 ≤ 1000; decide), fun p hp => q _ _ ⟨p, rfl, upd_same⟩ (s1.trans (same_upd hp))⟩
      show atI _ (c % 3 - 1) = _
      rw [e2]; rfl
end
end K1
set_option Elab.async false
set_option linter.all false
set_option maxRecDepth 100000
set_option maxHeartbeats 4000000
namespace K1
open PySem L2 Kp
section
variable {P : Program} {w : World} {K : PySem.W.Frag} {mg : Str → Option Value} {base : Heap}
def spGone : Sp := fun vs H Q _ => ∃ (p lt : Addr) (c : Acc) (x : Int), vs = [.ref p, .int x] ∧ AccV H p lt c ∧ c.told.length ≤ 900 ∧ ∀ (r p' l' : Addr) (v : V) (H' : Hp), H' r = some (.lst [.ref p', v]) → AccV H' p' l' (goneF c x) → (l' = lt ∨ H l' = none) → H p' = none → LtrV H' v (ltrF c x) → Same H H' → Q (.ref r) H'
structure GS (H0 H : Hp) (p lt : Addr) (c : Acc) (p2 lt2 : Addr) (c2 : Acc) : Prop where
  a1 : AccV H p lt c
  a2 : AccV H p2 lt2 c2
  n2 : H0 p2 = none
  nl : lt2 = lt ∨ H0 lt2 = none
  ne : p ≠ p2
  sm : Same H0 H
theorem GS.same {H0 H H' : Hp} {p lt : Addr} {c : Acc} {p2 lt2 : Addr} {c2 : Acc} (S : GS H0 H p lt c p2 lt2 c2) (s : Same H H') : GS H0 H' p lt c p2 lt2 c2 := ⟨S.a1.same s, S.a2.same s, S.n2, S.nl, S.ne, S.sm.trans s⟩
theorem sT_trans {H H' H2 : Hp} (s : SameT H H') (s' : SameT H' H2) : SameT H H2 := fun b xs e => s' _ _ (s _ _ e)
theorem sameT_dict {H : Hp} {p : Addr} {kvs kvs' : List (Key × V)} (h : H p = some (.dK kvs)) : SameT H (upd H p (.dK kvs')) := fun b vs e => by
  rw [upd_ne (fun z => by rw [z, h] at e; cases e)]; exact e
theorem GS.put {H0 H : Hp} {p lt : Addr} {c : Acc} {p2 lt2 lt' : Addr} {c2 c' : Acc} {kvs' : List (Key × V)} {ud' : V} (S : GS H0 H p lt c p2 lt2 c2) (K' : AccK kvs' c' ud' lt') (hd : DeedO H ud' c'.deed) (hl : ∃ us, H lt' = some (.lst us) ∧ PrL H us c'.told) (nl : lt' = lt ∨ H0 lt' = none) : GS H0 (upd H p2 (.dK kvs')) p lt c p2 lt' c' := by
  obtain ⟨kvs2, ud2, us2, h2, _⟩ := S.a2
  have sT := sameT_dict (kvs' := kvs') h2
  obtain ⟨us, hl1, hl2⟩ := hl
  have kl : ∀ {b : Addr} {xs : List V}, H b = some (.lst xs) → (upd H p2 (.dK kvs')) b = some (.lst xs) := fun {b xs} e => by rw [upd_ne (fun z => by rw [z, h2] at e; cases e)]; exact e
  obtain ⟨k1, u1, w1, h1, hK1, hD1, hL1, hP1⟩ := S.a1
  refine ⟨⟨k1, u1, w1, by rw [upd_ne S.ne]; exact h1, hK1, hD1.sameT sT, kl hL1, hP1.sameT sT⟩, ⟨kvs', ud', us, upd_same, K', hd.sameT sT, kl hl1, hl2.sameT sT⟩, S.n2, nl, S.ne, fun b o e => ?_⟩
  rw [upd_ne (fun z => by rw [z, S.n2] at e; cases e)]
  exact S.sm _ _ e
theorem num1_max (c : Acc) (x : Int) : (if num1 c x > 1 then num1 c x else 1) = num1 c x := by
  have h : 1 ≤ num1 c x := by unfold num1; split <;> omega
  by_cases e : num1 c x > 1
  · rw [if_pos e]
  · rw [if_neg e]; omega
theorem head_at (x : Int) : atI [V.non, V.int (x / 7 % 9)] (x / 6 % 2) = some (match headV x with | some i => V.int i | .none => V.non) := by
  have b := emod_in (x / 6) (m := 2) (by decide)
  unfold headV
  rcases (show x / 6 % 2 = 0 ∨ x / 6 % 2 = 1 by omega) with e | e <;> rw [e] <;> rfl
theorem or34 {x : Int} {Q : Bool → Hp → Prop} {σ : St} {H : Hp} (h : x % 6 = 3 ∨ x % 6 = 4) (g : Q true H) (hσ : σ[3]? = some (some (V.int (x % 6)))) : if decide (V.int (x % 6) = V.int 3) = true then Q true H else tTest (tOp rEq (tVar 3) (tC (V.int 4))) σ H Q := by
  by_cases e : x % 6 = 3
  · rw [decide_eq_true (congrArg V.int e)]
    exact iteT g
  · have e4 : x % 6 = 4 := by omega
    rw [decide_eq_false (fun z : V.int (x % 6) = V.int 3 => e (by injection z))]
    refine iteF ⟨_, hσ, rfl, _, rfl, ?_⟩
    rw [decide_eq_true (congrArg V.int e4)]
    exact g
def tG1 : TS := fun D σ H => ∃ (H0 : Hp) (p lt : Addr) (c : Acc) (x : Int) (p2 : Addr) (v5 : V), σ = [some (.ref p), some (.int x), some (.ref p2), some (.int (x % 6)), some (.int (num1 c x)), some v5] ∧ GS H0 H p lt c p2 lt c ∧
  ∀ H', GS H0 H' p lt c p2 lt (if x % 6 < 2 then wishF c (dbF (x / 6)) else c) → SameT H H' → D.nx [some (.ref p), some (.int x), some (.ref p2), some (.int (x % 6)), some (.int (num1 c x)), some v5] H'
def tG2 : TS := fun D σ H => ∃ (H0 : Hp) (p lt : Addr) (c : Acc) (x : Int) (p2 : Addr) (v5 : V) (c2 : Acc), σ = [some (.ref p), some (.int x), some (.ref p2), some (.int (x % 6)), some (.int (num1 c x)), some v5] ∧ GS H0 H p lt c p2 lt c2 ∧ c.told.length ≤ 900 ∧ (x % 6 = 3 ∨ x % 6 = 4 → c2 = c) ∧
  ∀ (lt' : Addr) (v' : V) (H' : Hp), GS H0 H' p lt c p2 lt' (if x % 6 = 3 ∨ x % 6 = 4 then toldF c (num1 c x) (bdI x) else c2) → (if x % 6 = 3 ∨ x % 6 = 4 then LtrV H' v' (.told (x / 30 % 9) c.nm (num1 c x) (bdI x)) else v' = v5 ∧ SameT H H') → D.nx [some (.ref p), some (.int x), some (.ref p2), some (.int (x % 6)), some (.int (num1 c x)), some v'] H'
def tG4 : TS := fun D σ H => ∃ (H0 : Hp) (p lt : Addr) (c : Acc) (x : Int) (p2 lt2 : Addr) (v5 : V) (c2 : Acc), σ = [some (.ref p), some (.int x), some (.ref p2), some (.int (x % 6)), some (.int (num1 c x)), some v5] ∧ GS H0 H p lt c p2 lt2 c2 ∧ (x % 6 = 5 → c2 = c) ∧
  ∀ (v' : V) (H' : Hp), GS H0 H' p lt c p2 lt2 (if x % 6 = 5 then awayF c (headV x) else c2) → (if x % 6 = 5 then LtrV H' v' (.away (x / 30 % 9) c.nm (num1 c x) (headV x)) else v' = v5 ∧ SameT H H') → D.nx [some (.ref p), some (.int x), some (.ref p2), some (.int (x % 6)), some (.int (num1 c x)), some v'] H'
theorem num_at (c : Acc) (x : Int) : atI [V.int c.num, V.int c.num, V.int (c.num - 1), V.int (c.num + 1), V.int (x / 24 % 99)] (x / 6 % 5) = some (.int (numV c x)) := by
  have b := emod_in (x / 6) (m := 5) (by decide)
  unfold numV
  rcases (show x / 6 % 5 = 0 ∨ x / 6 % 5 = 1 ∨ x / 6 % 5 = 2 ∨ x / 6 % 5 = 3 ∨ x / 6 % 5 = 4 by omega) with e | e | e | e | e <;> rw [e] <;> rfl
theorem scGo : FnScope ["_law_now", "_law_cell", "_law_new", "_law_way", "_law_number", "_law_letter"] ["_law_now", "_law_cell"] (defScope s__law_gone) := ⟨rfl, rfl, rfl, by decide +kernel, rfl, by decide +kernel, by decide +kernel⟩
theorem ok_gone {f : Addr} {fd : FuncData} (F : Fun K "_law_gone" "_law_gone" s__law_gone f fd) (T : Txt mg) (hdi : mg "dict" = none) (CD : Cal P w K mg base "_law_deed_by" 2 ["_law_cell"] spDx) (CB : Cal P w K mg base "_law_bounded" 1 ["_law_number"] spBx) : FnOk P w K mg base CX0 3 f fd ["_law_now", "_law_cell"] spGone := by
  refine F.ok scGo (fun vs H Q E ⟨_, _, _, _, e, _⟩ => by subst e; rfl) (fun cdv A outer s H vs Q E hr h => ?_)
  obtain ⟨p, lt, c, x, rfl, ⟨kvs, ud, us, hp, hK, hDe, hl, hPl⟩, hln, q⟩ := h
  obtain ⟨gD, dD, GD, mD, kD, bD⟩ := CD.ex
  obtain ⟨gB, dB, GB, mB, kB, bB⟩ := CB.ex
  have r1 := hr.mono (show 1 ≤ 2 by omega)
  refine ⟨_, @pss_p _ _ _ _ _ (ps_set (i := 2) scGo.nd (by rfl) (by exact Or.inl rfl) (pe_callTy call_dict_of (by rfl) hdi boot_dict (pa_n (pv 0) pa_nil)))
    (@pss_p _ _ _ _ _ (ps_set (i := 3) scGo.nd (by rfl) (by exact Or.inl rfl) (pe_op op_mod (pv 1) (pe_int)))
    (@pss_p _ _ _ _ _ (ps_set (i := 4) scGo.nd (by rfl) (by exact Or.inl rfl) (QE.h (qx_ix ix_list (qx_lst (qa_s (pe_dget (hu_of hr) (pv 0) pe_str (fun _ _ => rfl)) (qa_s (pe_dget (hu_of hr) (pv 0) pe_str (fun _ _ => rfl)) (qa_b (pe_op op_sub (pe_dget (hu_of hr) (pv 0) pe_str (fun _ _ => rfl)) (pe_int)) (qa_b (pe_op op_add (pe_dget (hu_of hr) (pv 0) pe_str (fun _ _ => rfl)) (pe_int)) (qa_b (pe_op op_mod (pe_op op_fdiv (pv 1) (pe_int)) (pe_int)) qa_nil)))))) (pe_op op_mod (pe_op op_fdiv (pv 1) (pe_int)) (pe_int)) px_b)))
    (@pss_p _ _ _ _ _ (ps_set (i := 4) scGo.nd (by rfl) (by exact Or.inl rfl) (pe_callB (call_max2 (by rfl)) (by rfl) T.max boot_max (pa_i pe_int (pa_n (pv 4) pa_nil))))
    (@pss_p _ _ _ _ _ (ps_set (i := 5) scGo.nd (by rfl) (by exact Or.inl rfl) (QE.h (qx_tup qa_nil)))
    (@pss_p _ _ _ _ _ (PS.weakU (t' := tG1) (ps_if (PW.pt (pw_and (pt_cmpR op_lt (pv 3) pe_int (nomark _)) (pw_and1 (pt_not (pt_val (pe_dget (hu_of hr) (pv 0) pe_str (fun _ _ => rfl))))))) (@pss_p _ _ _ _ _ (ps_dput (hu_of hr) (pv 2) pe_str (pe_op op_add (pe_dget (hu_of hr) (pv 0) pe_str (fun _ _ => rfl)) (pe_int)) (by rfl))
    (@pss_p _ _ _ _ _ (ps_dput (hu_of hr) (pv 2) pe_str (pe_bl) (by rfl))
    (@pss_o _ _ _ (ps_dput (hu_of hr) (pv 2) pe_str (pe_call GD hr (by rfl) mD kD bD .nil pass0 (pa_b (pe_op op_fdiv (pv 1) (pe_int)) pa_nil)) (by rfl))))) pss_nil) ?w1)
    (@pss_p _ _ _ _ _ (PS.weakU (t' := tG2) (ps_if (PW.pt (pw_or (pt_cmpR op_eq (pv 3) pe_int (nomark _)) (pw_or1 (pt_cmpR op_eq (pv 3) pe_int (nomark _))))) (@pss_p _ _ _ _ _ (ps_set (i := 5) scGo.nd (by rfl) (by exact Or.inl rfl) (QE.h (qx_tup (qa_str (qa_b (pe_op op_mod (pe_op op_fdiv (pv 1) (pe_int)) (pe_int)) (qa_s (pe_dget (hu_of hr) (pv 0) pe_str (fun _ _ => rfl)) (qa_n (pv 4) (qa_k (pe_call GB r1 (by rfl) mB kB bB .nil pass0 (pa_n (pv 1) pa_nil)) qa_nil))))))))
    (@pss_o _ _ _ (ps_if (PW.pt (pw_and (pt_val (pe_dget (hu_of hr) (pv 0) pe_str (fun _ _ => rfl))) (pw_and1 (pt_cmpR op_eq (pv 4) (pe_dget (hu_of hr) (pv 0) pe_str (fun _ _ => rfl)) (nomark _))))) (@pss_p _ _ _ _ _ (ps_dput (hu_of hr) (pv 2) pe_str (pe_op op_cat (pe_dget (hu_of hr) (pv 0) pe_str (fun _ _ => rfl)) (pe_lst (pa_t (QE.h (qx_tup (qa_n (pv 4) (qa_k (pe_call GB r1 (by rfl) mB kB bB .nil pass0 (pa_n (pv 1) pa_nil)) qa_nil)))) pa_nil))) (by rfl))
    (@pss_o _ _ _ (ps_dput (hu_of hr) (pv 2) pe_str (pe_bl) (by rfl)))) pss_nil))) pss_nil) ?w2)
    (@pss_p _ _ _ _ _ (PS.weakU (t' := tG4) (ps_if (pt_cmpR op_eq (pv 3) pe_int (nomark _)) (@pss_p _ _ _ _ _ (ps_set (i := 5) scGo.nd (by rfl) (by exact Or.inl rfl) (QE.h (qx_tup (qa_str (qa_b (pe_op op_mod (pe_op op_fdiv (pv 1) (pe_int)) (pe_int)) (qa_s (pe_dget (hu_of hr) (pv 0) pe_str (fun _ _ => rfl)) (qa_k (pe_callB (call_max2 (by rfl)) (by rfl) T.max boot_max (pa_i pe_int (pa_n (pv 4) pa_nil))) (qa_s (QE.h (qx_ix ix_list (qx_lst (qa_non (qa_b (pe_op op_mod (pe_op op_fdiv (pv 1) (pe_int)) (pe_int)) qa_nil))) (pe_op op_mod (pe_op op_fdiv (pv 1) (pe_int)) (pe_int)) px_b)) qa_nil))))))))
    (@pss_o _ _ _ (ps_if (pt_cmpR op_notN (pe_ix ix_tup (pv 5) (pe_int) px_i) pe_non (nomark _)) (@pss_o _ _ _ (ps_dput (hu_of hr) (pv 2) pe_str (pe_ix ix_tup (pv 5) (pe_int) px_i) (by rfl))) pss_nil))) pss_nil) ?w4)
    (@pss_o _ _ _ (ps_ret (pe_lst (pa_n (pv 2) (pa_n (pv 5) pa_nil)))))))))))), ?_⟩
  case w1 =>
    rintro D σ H ⟨H0, p, lt, c, x, p2, v5, rfl, S, q⟩
    refine ⟨_, rfl, _, _, rfl, rfl, _, rfl, ?_⟩
    by_cases h1 : x % 6 < 2
    · rw [decide_eq_true h1]
      rw [if_pos h1] at q
      obtain ⟨kvs, ud, us, hp, hK, hDe, hl, hPl⟩ := S.a1
      obtain ⟨k2, u2, us2, hp2, hK2, hDe2, hl2, hPl2⟩ := S.a2
      refine iteT ⟨_, rfl, p, .bl c.wt, rfl, dget_of hp hK.wt, _, rfl, ?_⟩
      unfold wishF at q
      cases hwt : c.wt with
      | true =>
        rw [hwt] at q
        exact iteF (q H S fun _ _ e => e)
      | false =>
        rw [hwt] at q
        refine iteT ⟨_, rfl, p, .int c.num, rfl, dget_of hp hK.num, _, _, rfl, rfl, _, rfl, p2, _, rfl, dput_of hp2 hK2.len, ?_⟩
        have K3 := hK2.put_num (c.num + 1)
        have S3 := S.put K3 hDe2 ⟨us2, hl2, hPl2⟩ (.inl rfl)
        have t3 := sameT_dict (kvs' := putK k2 (Sum.inr "number") (.int (c.num + 1))) hp2
        refine ⟨_, rfl, p2, _, rfl, dput_of upd_same K3.len, ?_⟩
        have K4 := K3.put_wt true
        have S4 := S3.put K4 (hDe2.sameT t3) ⟨us2, by rw [upd_ne (fun z => by rw [z, hp2] at hl2; cases hl2)]; exact hl2, hPl2.sameT t3⟩ (.inl rfl)
        have t4 := sT_trans t3 (sameT_dict (kvs' := putK (putK k2 (Sum.inr "number") (.int (c.num + 1))) (Sum.inr "waits") (.bl true)) upd_same)
        have hp4 : upd (upd H p2 (.dK (putK k2 (Sum.inr "number") (.int (c.num + 1))))) p2 (.dK (putK (putK k2 (Sum.inr "number") (.int (c.num + 1))) (Sum.inr "waits") (.bl true))) p2 = some (.dK (putK (putK k2 (Sum.inr "number") (.int (c.num + 1))) (Sum.inr "waits") (.bl true))) := upd_same
        show _
        generalize upd (upd H p2 (.dK (putK k2 (Sum.inr "number") (.int (c.num + 1))))) p2 (.dK (putK (putK k2 (Sum.inr "number") (.int (c.num + 1))) (Sum.inr "waits") (.bl true))) = H4 at S4 t4 hp4
        refine ⟨_, rfl, _, _, rfl, rfl, ⟨by decide, by decide⟩, _, rfl, fun v H5 hd5 s5 => ⟨_, rfl, p2, _, rfl, dput_of (s5 _ _ hp4) K4.len, ?_⟩⟩
        have S5 := S4.same s5
        obtain ⟨_, _, us5, _, _, _, hl5, hP5⟩ := S5.a2
        exact q _ (S5.put (K4.put_deed v (some (dbF (x / 6)))) hd5 ⟨us5, hl5, hP5⟩ (.inl rfl)) (sT_trans (sT_trans t4 (sameT_of s5)) (sameT_dict (s5 _ _ hp4)))
    · rw [decide_eq_false h1]
      rw [if_neg h1] at q
      exact iteF (iteF (q H S fun _ _ e => e))
  case w2 =>
    rintro D σ H ⟨H0, p, lt, c, x, p2, v5, c2, rfl, S, hln, hc2, q⟩
    obtain ⟨kvs, ud, us, hp, hK, hDe, hl, hPl⟩ := S.a1
    refine ⟨_, rfl, rfl, _, rfl, ?_⟩
    by_cases e34 : x % 6 = 3 ∨ x % 6 = 4
    · rw [if_pos e34] at q
      simp only [if_pos e34] at q
      obtain rfl := hc2 e34
      refine or34 e34 ?_ rfl
      refine iteT ?_
      refine ⟨_, rfl, _, _, rfl, rfl, ⟨by decide, by decide⟩, _, _, rfl, rfl, (by show (0 : Int) < 9; decide), _, rfl, p, .str c2.nm, rfl, dget_of hp hK.nm, _, rfl, _, rfl, _, rfl, tiny (by show 5 ≤ 1000; decide), fun t1 ht1 => ?_⟩
      have s1 := same_upd (o := HO.tup [V.str "told", V.int (x / 30 % 9), V.str c2.nm, V.int (num1 c2 x), V.int (bdI x)]) ht1
      have hlt : LtrV (upd H t1 (.tup [V.str "told", V.int (x / 30 % 9), V.str c2.nm, V.int (num1 c2 x), V.int (bdI x)])) (.ref t1) (.told (x / 30 % 9) c2.nm (num1 c2 x) (bdI x)) := ⟨t1, rfl, upd_same⟩
      have S1 := S.same s1
      generalize upd H t1 (.tup [V.str "told", V.int (x / 30 % 9), V.str c2.nm, V.int (num1 c2 x), V.int (bdI x)]) = H1 at s1 hlt S1
      have hp1 := s1 _ _ hp
      refine ⟨_, rfl, p, .bl c2.wt, rfl, dget_of hp1 hK.wt, _, rfl, ?_⟩
      unfold toldF at q
      by_cases hwt : c2.wt = true
      · rw [hwt]
        refine iteT ⟨_, rfl, _, rfl, p, .int c2.num, rfl, dget_of hp1 hK.num, rfl, _, rfl, ?_⟩
        by_cases hnn : num1 c2 x = c2.num
        · rw [if_pos ⟨hwt, hnn⟩] at q
          rw [decide_eq_true (congrArg V.int hnn)]
          refine iteT ⟨_, rfl, p, .ref lt, rfl, dget_of hp1 hK.told, _, rfl, _, rfl, _, rfl, tiny (by show 2 ≤ 1000; decide), fun t2 ht2 => ⟨tiny (by show 1 ≤ 1000; decide), fun t3 ht3 => ?_⟩⟩
          have s5 := same_upd (o := HO.tup [V.int (num1 c2 x), V.int (bdI x)]) ht2
          have s6 := same_upd (o := HO.lst [V.ref t2]) ht3
          have s56 := s5.trans s6
          refine ⟨lt, t3, us, [V.ref t2], rfl, rfl, s56 _ _ (s1 _ _ hl), upd_same, by rw [sizeLine_eq, hPl.length]; show _ + 1 ≤ _; omega, fun t4 ht4 => ?_⟩
          have s7 := same_upd (o := HO.lst (us ++ [V.ref t2])) ht4
          have s57 := s56.trans s7
          have S7 := S1.same s57
          have n4 : H0 t4 = none := by
            cases e : H0 t4 with
            | none => rfl
            | some o => rw [(S1.sm.trans s56) _ _ e] at ht4; cases ht4
          have hPL := (hPl.sameT (sameT_of (s1.trans s57))).append (.cons ((s6.trans s7) _ _ (upd_same (H := H1) (a := t2) (o := HO.tup [V.int (num1 c2 x), V.int (bdI x)]))) .nil)
          have h47 : upd (upd (upd H1 t2 (.tup [V.int (num1 c2 x), V.int (bdI x)])) t3 (.lst [V.ref t2])) t4 (.lst (us ++ [V.ref t2])) t4 = some (.lst (us ++ [V.ref t2])) := upd_same
          have hlt7 := hlt.sameT (sameT_of s57)
          generalize upd (upd (upd H1 t2 (.tup [V.int (num1 c2 x), V.int (bdI x)])) t3 (.lst [V.ref t2])) t4 (.lst (us ++ [V.ref t2])) = H7 at S7 hPL h47 hlt7
          obtain ⟨k2, u2, us2, hp2, hK2, hDe2, hl2, hPl2⟩ := S7.a2
          refine ⟨_, rfl, p2, _, rfl, dput_of hp2 hK2.len, ?_⟩
          have K8 := hK2.put_told t4 (c2.told ++ [(num1 c2 x, bdI x)])
          have S8 := S7.put K8 hDe2 ⟨_, h47, hPL⟩ (.inr n4)
          have t8 := sameT_dict (kvs' := putK k2 (Sum.inr "told") (.ref t4)) hp2
          refine ⟨_, rfl, p2, _, rfl, dput_of upd_same K8.len, ?_⟩
          obtain ⟨_, _, us9, _, _, hD9, hl9, hP9⟩ := S8.a2
          have K9 := K8.put_wt false
          have S9 := S8.put K9 (hDe2.sameT t8) ⟨us9, hl9, hP9⟩ (.inr n4)
          exact q t4 (.ref t1) _ S9 ((hlt7.sameT t8).sameT (sameT_dict upd_same))
        · rw [if_neg (fun g => hnn g.2)] at q
          rw [decide_eq_false (fun e : V.int (num1 c2 x) = V.int c2.num => hnn (by injection e))]
          exact iteF (q lt (.ref t1) H1 S1 hlt)
      · rw [if_neg (fun g => hwt g.1)] at q
        rw [show c2.wt = false by simpa using hwt]
        exact iteF (iteF (q lt (.ref t1) H1 S1 hlt))
    · simp only [if_neg e34] at q
      rw [decide_eq_false (fun e : V.int (x % 6) = V.int 3 => e34 (.inl (by injection e)))]
      refine iteF ⟨_, rfl, rfl, _, rfl, ?_⟩
      rw [decide_eq_false (fun e : V.int (x % 6) = V.int 4 => e34 (.inr (by injection e)))]
      exact iteF (q lt v5 H S ⟨rfl, fun _ _ e => e⟩)
  case w4 =>
    rintro D σ H ⟨H0, p, lt, c, x, p2, lt2, v5, c2, rfl, S, hc2, q⟩
    obtain ⟨kvs, ud, us, hp, hK, hDe, hl, hPl⟩ := S.a1
    refine ⟨_, rfl, rfl, _, rfl, ?_⟩
    by_cases e5 : x % 6 = 5
    · simp only [if_pos e5] at q
      obtain rfl := hc2 e5
      rw [decide_eq_true (congrArg V.int e5)]
      refine iteT ⟨_, rfl, _, _, rfl, rfl, ⟨by decide, by decide⟩, _, _, rfl, rfl, (by show (0 : Int) < 9; decide), _, rfl, p, .str c2.nm, rfl, dget_of hp hK.nm, _, rfl, 1, num1 c2 x, rfl, _, rfl, _, _, rfl, rfl, ⟨by decide, by decide⟩, _, _, rfl, rfl, (by show (0 : Int) < 9; decide), tiny (by show 2 ≤ 1000; decide), fun l1 hl1 => ⟨_, rfl, _, _, rfl, rfl, ⟨by decide, by decide⟩, _, _, rfl, rfl, (by show (0 : Int) < 2; decide), l1, _, _, (match headV x with | some i => V.int i | .none => V.non), rfl, rfl, SqL.of upd_same, ?_, tiny (by show 5 ≤ 1000; decide), fun t1 ht1 => ?_⟩⟩
      · exact head_at x
      have s1 := same_upd (o := HO.lst [V.non, V.int (x / 7 % 9)]) hl1
      rw [num1_max]
      have s2 := same_upd (o := HO.tup [V.str "away", V.int (x / 30 % 9), V.str c2.nm, V.int (num1 c2 x), (match headV x with | some i => V.int i | .none => V.non)]) ht1
      have S2 := S.same (s1.trans s2)
      have ht2 : upd (upd H l1 (.lst [V.non, V.int (x / 7 % 9)])) t1 (.tup [V.str "away", V.int (x / 30 % 9), V.str c2.nm, V.int (num1 c2 x), (match headV x with | some i => V.int i | .none => V.non)]) t1 = some (.tup [V.str "away", V.int (x / 30 % 9), V.str c2.nm, V.int (num1 c2 x), (match headV x with | some i => V.int i | .none => V.non)]) := upd_same
      generalize upd (upd H l1 (.lst [V.non, V.int (x / 7 % 9)])) t1 (.tup [V.str "away", V.int (x / 30 % 9), V.str c2.nm, V.int (num1 c2 x), (match headV x with | some i => V.int i | .none => V.non)]) = H2 at S2 ht2
      have hlt : LtrV H2 (.ref t1) (.away (x / 30 % 9) c2.nm (num1 c2 x) (headV x)) := ⟨t1, rfl, ht2⟩
      refine ⟨_, rfl, t1, _, _, (match headV x with | some i => V.int i | .none => V.non), rfl, rfl, SqT.of ht2, atI_nat (j := 4) rfl, rfl, _, rfl, ?_⟩
      cases hh : headV x with
      | none =>
        rw [hh] at q hlt
        exact iteF (q (.ref t1) H2 S2 hlt)
      | some k =>
        rw [hh] at q hlt ht2
        obtain ⟨k2, u2, us2, hp2, hK2, hDe2, hl2, hPl2⟩ := S2.a2
        refine iteT ⟨_, rfl, t1, _, _, .int k, rfl, rfl, SqT.of ht2, atI_nat (j := 4) rfl, _, rfl, p2, _, rfl, dput_of hp2 hK2.len, ?_⟩
        exact q (.ref t1) _ (S2.put (hK2.put_asks k) hDe2 ⟨us2, hl2, hPl2⟩ S2.nl) (hlt.sameT (sameT_dict hp2))
    · simp only [if_neg e5] at q
      rw [decide_eq_false (fun e : V.int (x % 6) = V.int 5 => e5 (by injection e))]
      exact iteF (q v5 H S ⟨rfl, fun _ _ e => e⟩)
  refine ⟨_, rfl, p, kvs, rfl, hp, fun p2 hp2 => ?_⟩
  have s1 := same_upd (o := HO.dK kvs) hp2
  refine ⟨_, rfl, _, _, rfl, rfl, (by show (0 : Int) < 6; decide), ?_⟩
  have g1 := dget_of (s1 _ _ hp) hK.num
  refine ⟨_, rfl, p, .int c.num, rfl, g1, _, rfl, p, .int c.num, rfl, g1, _, rfl, p, .int c.num, rfl, g1, _, _, rfl, rfl, _, rfl, p, .int c.num, rfl, g1, _, _, rfl, rfl, _, rfl, _, _, rfl, rfl, ⟨by decide, by decide⟩, _, _, rfl, rfl, (by show (0 : Int) < 99; decide), tiny (by show 5 ≤ 1000; decide), fun l5 hl5 => ⟨_, rfl, _, _, rfl, rfl, ⟨by decide, by decide⟩, _, _, rfl, rfl, (by show (0 : Int) < 5; decide), l5, _, _, .int (numV c x), rfl, rfl, SqL.of upd_same, num_at c x, ?_⟩⟩
  have s2 := same_upd (o := HO.lst [V.int c.num, V.int c.num, V.int (c.num - 1), V.int (c.num + 1), V.int (x / 24 % 99)]) hl5
  refine ⟨_, rfl, 1, numV c x, rfl, ?_⟩
  refine ⟨tiny (by show 0 ≤ 1000; decide), fun e0 he0 => ?_⟩
  have s3 := same_upd (o := HO.tup []) he0
  have sH := s1.trans (s2.trans s3)
  have hn3 := (s2.trans s3) _ _ (upd_same (H := H) (a := p2) (o := HO.dK kvs))
  have he3 : upd (upd (upd H p2 (.dK kvs)) l5 (.lst [V.int c.num, V.int c.num, V.int (c.num - 1), V.int (c.num + 1), V.int (x / 24 % 99)])) e0 (.tup []) e0 = some (.tup []) := upd_same
  generalize upd (upd (upd H p2 (.dK kvs)) l5 (.lst [V.int c.num, V.int c.num, V.int (c.num - 1), V.int (c.num + 1), V.int (x / 24 % 99)])) e0 (.tup []) = H3 at sH hn3 he3
  have ne : p ≠ p2 := fun z => by rw [z, hp2] at hp; cases hp
  have S0 : GS H H3 p lt c p2 lt c := ⟨AccV.same ⟨kvs, ud, us, hp, hK, hDe, hl, hPl⟩ sH, ⟨kvs, ud, us, hn3, hK, hDe.sameT (sameT_of sH), sH _ _ hl, hPl.sameT (sameT_of sH)⟩, hp2, .inl rfl, ne, sH⟩
  refine ⟨H, p, lt, c, x, p2, _, rfl, S0, fun H4 S4 t4 => ?_⟩
  refine ⟨H, p, lt, c, x, p2, _, _, rfl, S4, hln, fun h => by rw [if_neg (by omega)], fun lt5 v5 H5 S5 h5 => ?_⟩
  refine ⟨H, p, lt, c, x, p2, lt5, _, _, rfl, S5, fun h => by rw [if_neg (by omega), if_neg (by omega)], fun v6 H6 S6 h6 => ?_⟩
  refine ⟨_, rfl, _, rfl, tiny (by show 2 ≤ 1000; decide), fun r hr => ?_⟩
  have s7 := same_upd (o := HO.lst [V.ref p2, v6]) hr
  have eg : (if x % 6 = 5 then awayF c (headV x) else if x % 6 = 3 ∨ x % 6 = 4 then toldF c (num1 c x) (bdI x) else if x % 6 < 2 then wishF c (dbF (x / 6)) else c) = goneF c x := by
    unfold goneF
    by_cases h1 : x % 6 < 2
    · rw [if_neg (by omega), if_neg (by omega), if_pos h1, if_pos h1]
    · rw [if_neg h1, if_neg h1]
      by_cases h5 : x % 6 = 5
      · rw [if_pos h5, if_neg (by omega), if_pos h5]
      · rw [if_neg h5, if_neg h5]
  rw [eg] at S6
  have el : LtrV H6 v6 (ltrF c x) := by
    unfold ltrF
    by_cases e5 : x % 6 = 5
    · rw [if_pos e5] at h6
      rw [if_neg (by omega), if_pos e5]
      exact h6
    · rw [if_neg e5] at h6
      obtain ⟨rfl, t6⟩ := h6
      by_cases e34 : x % 6 = 3 ∨ x % 6 = 4
      · rw [if_pos e34] at h5
        rw [if_pos e34]
        exact LtrV.sameT h5 t6
      · rw [if_neg e34] at h5
        obtain ⟨rfl, t5⟩ := h5
        rw [if_neg e34, if_neg e5]
        exact ⟨e0, rfl, t6 _ _ (t5 _ _ (t4 _ _ he3))⟩
  exact q r p2 lt5 v6 _ upd_same (S6.a2.same s7) S6.nl S6.n2 (el.sameT (sameT_of s7)) (S6.sm.trans s7)
end
end K1
set_option Elab.async false
set_option linter.all false
set_option maxRecDepth 100000
set_option maxHeartbeats 4000000
namespace K1
open PySem L2 Kp
section
variable {P : Program} {w : World} {K : PySem.W.Frag} {mg : Str → Option Value} {base : Heap}
def tellB (way : Int) (b : Bool) : Bool := (decide (way < 2) && !b) || (decide (way = 2) && b)
def spLet : Sp := fun vs H Q _ => ∃ (p lt p2 lt2 : Addr) (c c2 : Acc) (way : Int), vs = [.ref p, .ref p2, .int way] ∧ AccV H p lt c ∧ AccV H p2 lt2 c2 ∧ ∀ (r : Addr) (ys : List V) (H' : Hp), H' r = some (.lst ys) → LetsV H' ys (tellB way c.wt) c2 → Same H H' → Q (.ref r) H'
theorem scLe : FnScope ["_law_now", "_law_new", "_law_way"] ["_law_now", "_law_new", "_law_way"] (defScope s__law_letters) := ⟨rfl, rfl, rfl, by decide +kernel, rfl, by decide +kernel, by decide +kernel⟩
theorem ok_let {f : Addr} {fd : FuncData} (F : Fun K "_law_letters" "_law_letters" s__law_letters f fd) : FnOk P w K mg base CX0 1 f fd ["_law_now", "_law_new", "_law_way"] spLet := by
  refine F.ok scLe (fun vs H Q E ⟨_, _, _, _, _, _, _, e, _⟩ => by subst e; rfl) (fun cdv A outer s H vs Q E hr h => ?_)
  obtain ⟨p, lt, p2, lt2, c, c2, way, rfl, ⟨kvs, ud, us, hp, hK, hDe, hl, hPl⟩, ⟨kvs2, ud2, us2, hp2, hK2, hDe2, hl2, hPl2⟩, q⟩ := h
  refine ⟨_, @pss_p _ _ _ _ _ (ps_if (PW.pt (pw_or (PW.pt (pw_and (pt_cmpR op_lt (pv 2) pe_int (nomark _)) (pw_and1 (pt_not (pt_val (pe_dget (hu_of hr) (pv 0) pe_str (fun _ _ => rfl))))))) (pw_or1 (PW.pt (pw_and (pt_cmpR op_eq (pv 2) pe_int (nomark _)) (pw_and1 (pt_val (pe_dget (hu_of hr) (pv 0) pe_str (fun _ _ => rfl))))))))) (@pss_o _ _ _ (ps_ret (pe_lst (pa_t (QE.h (qx_tup (qa_str (qa_s (pe_dget (hu_of hr) (pv 1) pe_str (fun _ _ => rfl)) (qa_s (pe_dget (hu_of hr) (pv 1) pe_str (fun _ _ => rfl)) (qa_s (pe_dget (hu_of hr) (pv 1) pe_str (fun _ _ => rfl)) (qa_s (pe_dget (hu_of hr) (pv 1) pe_str (fun _ _ => rfl)) qa_nil))))))) pa_nil)))) pss_nil)
    (@pss_o _ _ _ (ps_ret (pe_lst pa_nil))), ?_⟩
  have yes : tellB way c.wt = true → ∀ (t1 r1 : Addr), H t1 = none → (upd H t1 (.tup [.str "wish", .str c2.nm, .int c2.asks, .int c2.num, ud2])) r1 = none → Q (.ref r1) (upd (upd H t1 (.tup [.str "wish", .str c2.nm, .int c2.asks, .int c2.num, ud2])) r1 (.lst [.ref t1])) := fun e t1 r1 h1 h2 => by
    have s1 := same_upd (o := HO.tup [.str "wish", .str c2.nm, .int c2.asks, .int c2.num, ud2]) h1
    have s2 := same_upd (o := HO.lst [V.ref t1]) h2
    refine q r1 _ _ upd_same ?_ (s1.trans s2)
    rw [e]
    exact ⟨_, rfl, t1, ud2, rfl, s2 _ _ upd_same, hDe2.sameT (sameT_of (s1.trans s2))⟩
  have no : tellB way c.wt = false → ∀ r1 : Addr, H r1 = none → Q (.ref r1) (upd H r1 (.lst [])) := fun e r1 h1 => by
    refine q r1 [] _ upd_same ?_ (same_upd h1)
    rw [e]
    rfl
  have tell : tellB way c.wt = true → ∃ x, (∃ v, some (V.ref p2) = some v ∧ True) ∨ x = 0 := fun _ => ⟨0, .inr rfl⟩
  clear tell
  unfold tellB at yes no
  refine ⟨_, rfl, _, _, rfl, rfl, _, rfl, ?_⟩
  by_cases h1 : way < 2
  · rw [decide_eq_true h1]
    have h2 : ¬ way = 2 := by omega
    refine iteT ⟨_, rfl, p, .bl c.wt, rfl, dget_of hp hK.wt, _, rfl, ?_⟩
    cases hw : c.wt with
    | false =>
      refine iteT (iteT ⟨_, rfl, p2, .str c2.nm, rfl, dget_of hp2 hK2.nm, _, rfl, p2, .int c2.asks, rfl, dget_of hp2 hK2.asks, _, rfl, p2, .int c2.num, rfl, dget_of hp2 hK2.num, _, rfl, p2, ud2, rfl, dget_of hp2 hK2.deed, tiny (by show 5 ≤ 1000; decide), fun t1 ht1 => ⟨tiny (by show 1 ≤ 1000; decide), fun r1 hr1 => yes (by rw [hw, decide_eq_true h1]; rfl) t1 r1 ht1 hr1⟩⟩)
    | true =>
      refine iteF ⟨_, rfl, rfl, _, rfl, ?_⟩
      rw [decide_eq_false (fun e : V.int way = V.int 2 => h2 (by injection e))]
      exact iteF (iteF ⟨tiny (by show 0 ≤ 1000; decide), fun r1 hr1 => no (by rw [hw, decide_eq_false h2, decide_eq_true h1]; rfl) r1 hr1⟩)
  · rw [decide_eq_false h1]
    refine iteF (iteF ⟨_, rfl, rfl, _, rfl, ?_⟩)
    by_cases h2 : way = 2
    · rw [decide_eq_true (congrArg V.int h2)]
      refine iteT ⟨_, rfl, p, .bl c.wt, rfl, dget_of hp hK.wt, _, rfl, ?_⟩
      cases hw : c.wt with
      | true =>
        exact iteT ⟨_, rfl, p2, .str c2.nm, rfl, dget_of hp2 hK2.nm, _, rfl, p2, .int c2.asks, rfl, dget_of hp2 hK2.asks, _, rfl, p2, .int c2.num, rfl, dget_of hp2 hK2.num, _, rfl, p2, ud2, rfl, dget_of hp2 hK2.deed, tiny (by show 5 ≤ 1000; decide), fun t1 ht1 => ⟨tiny (by show 1 ≤ 1000; decide), fun r1 hr1 => yes (by rw [hw, decide_eq_true h2, decide_eq_false h1]; rfl) t1 r1 ht1 hr1⟩⟩
      | false =>
        exact iteF ⟨tiny (by show 0 ≤ 1000; decide), fun r1 hr1 => no (by rw [hw, decide_eq_true h2, decide_eq_false h1]; rfl) r1 hr1⟩
    · rw [decide_eq_false (fun e : V.int way = V.int 2 => h2 (by injection e))]
      exact iteF (iteF ⟨tiny (by show 0 ≤ 1000; decide), fun r1 hr1 => no (by rw [decide_eq_false h2, decide_eq_false h1]; rfl) r1 hr1⟩)
def spDn51 (E : List (Str × V) → Prop) (C : Addr) : Sp := fun vs H Q _ => ∃ (a l : Addr) (c : Acc) (x : Int) (v : V), vs = [.ref a, .int (x % 6), .int x, v] ∧ CaV E C H a l c ∧ LtrV H v (ltrF c x) ∧ c.told.length ≤ 900 ∧ ∀ (r l' : Addr) (ys : List V) (H' : Hp), CaV E C H' a l' (goneF c x) → (l' = l ∨ H l' = none) → H' r = some (.lst ys) → LetsV H' ys (tellB (x % 6) c.wt) (goneF c x) → H r = none → r ≠ l' → OffC a H H' → Q (.ref r) H'
theorem scDn : FnScope ["_law_caller", "_law_way", "_law_cell", "_law_letter"] ["_law_caller", "_law_way", "_law_cell", "_law_letter"] (defScope s__law_done) := ⟨rfl, rfl, rfl, by decide +kernel, rfl, by decide +kernel, by decide +kernel⟩
theorem ok_done51 {f : Addr} {fd : FuncData} {Ex : List (Str × V) → Prop} {C : Addr} {kC LV : Nat} (hL : 2 ≤ LV ∧ kC ≤ LV) (M : CaM P w K mg base Ex C kC) (F : Fun K "_law_done" "_law_done" s__law_done f fd) (CD : Cal P w K mg base "_law_deed_by" 2 ["_law_cell"] spDx) : FnOk P w K mg base CX0 (LV + 1) f fd ["_law_caller", "_law_way", "_law_cell", "_law_letter"] (spDn51 Ex C) := by
  refine F.ok scDn (fun vs H Q E ⟨_, _, _, _, _, e, _⟩ => by subst e; rfl) (fun cdv A outer s H vs Q E hr h => ?_)
  obtain ⟨a, l, c, x, v, rfl, hC, hLt, hln, q⟩ := h
  obtain ⟨gD, dD, GD, mD, kD, bD⟩ := CD.ex
  obtain ⟨fW, dW, pW, MW, FW, bW⟩ := M.wish
  obtain ⟨fG, dG, MG, FG, bG⟩ := M.again
  obtain ⟨fT, dT, pT, MT, FT, bT⟩ := M.told
  obtain ⟨fA, dA, pA, MA, FA, bA⟩ := M.away
  have r2 := hr.mono hL.1
  have rC := hr.mono hL.2
  refine ⟨_, @pss_p _ _ _ _ _ (ps_if (pt_cmpR op_lt (pv 1) pe_int (nomark _)) (@pss_o _ _ _ (ps_ret (pe_meth (pv 0) M.cl MW FW rC bW .nil pass0 (pa_k (pe_call GD r2 (by rfl) mD kD bD .nil pass0 (pa_b (pe_op op_fdiv (pv 2) (pe_int)) pa_nil)) pa_nil)))) pss_nil)
    (@pss_p _ _ _ _ _ (ps_if (pt_cmpR op_eq (pv 1) pe_int (nomark _)) (@pss_o _ _ _ (ps_ret (pe_meth0 (pv 0) M.cl MG FG rC bG .nil pass0))) pss_nil)
    (@pss_p _ _ _ _ _ (ps_if (PW.pt (pw_and (pt_cmpR op_eq (pv 1) pe_int (nomark _)) (pw_and1 (pt_cmpR op_isN (pe_meth (pv 0) M.cl MA FA rC bA .nil pass0 (pa_n (pv 3) pa_nil)) pe_non (nomark _))))) (@pss_o _ _ _ (ps_ret (pe_lst pa_nil))) pss_nil)
    (@pss_p _ _ _ _ _ (ps_if (PW.pt (pw_and (pt_cmpR op_ne (pv 1) pe_int (nomark _)) (pw_and1 (pt_cmpR op_isN (pe_meth (pv 0) M.cl MT FT rC bT .nil pass0 (pa_n (pv 3) pa_nil)) pe_non (nomark _))))) (@pss_o _ _ _ (ps_ret (pe_lst pa_nil))) pss_nil)
    (@pss_o _ _ _ (ps_ret (pe_non)))))), ?_⟩
  have b6 := emod_in x (m := 6) (by decide)
  have hC' := hC
  obtain ⟨dx, fs, ud, us, ha, hF, hE, hDe, hl, hPl⟩ := hC'
  refine ⟨_, rfl, _, _, rfl, rfl, _, rfl, ?_⟩
  by_cases h1 : x % 6 < 2
  · rw [decide_eq_true h1]
    have eg : goneF c x = wishF c (dbF (x / 6)) := by unfold goneF; rw [if_pos h1]
    rw [eg] at q
    refine iteT ⟨_, rfl, a, dx, fs, rfl, ha, hF.n1, _, rfl, _, _, rfl, rfl, ⟨by decide, by decide⟩, _, rfl, fun u H1 hd s1 => ?_⟩
    refine ⟨a, l, c, u, dbF (x / 6), rfl, hC.same s1, hd, fun r ys H2 hC2 hr2 hL2 nr off => ?_⟩
    refine q r l ys H2 hC2 (.inl rfl) hr2 ?_ (by
      cases e : H r with
      | none => rfl
      | some o => rw [s1 _ _ e] at nr; cases nr) (fun z => by rw [z, s1 _ _ hl] at nr; cases nr) (fun b o hb e => off b o hb (s1 _ _ e))
    have et : tellB (x % 6) c.wt = !c.wt := by unfold tellB; rw [decide_eq_true h1, decide_eq_false (by omega)]; cases c.wt <;> rfl
    rw [et]; exact hL2
  · rw [decide_eq_false h1]
    refine iteF ⟨_, rfl, rfl, _, rfl, ?_⟩
    by_cases h2 : x % 6 = 2
    · rw [decide_eq_true (congrArg V.int h2)]
      have eg : goneF c x = c := by unfold goneF; rw [if_neg h1, if_neg (by omega), if_neg (by omega)]
      rw [eg] at q
      refine iteT ⟨_, rfl, a, dx, fs, rfl, ha, hF.n2, a, l, c, rfl, hC, fun r ys H2 hC2 hr2 hL2 nr off => ?_⟩
      refine q r l ys H2 hC2 (.inl rfl) hr2 ?_ nr (fun z => by rw [z, hl] at nr; cases nr) off
      have et : tellB (x % 6) c.wt = c.wt := by unfold tellB; rw [decide_eq_false h1, decide_eq_true h2]; cases c.wt <;> rfl
      rw [et]; exact hL2
    · rw [decide_eq_false (fun e : V.int (x % 6) = V.int 2 => h2 (by injection e))]
      have et : tellB (x % 6) c.wt = false := by unfold tellB; rw [decide_eq_false h1, decide_eq_false h2]; cases c.wt <;> rfl
      rw [et] at q
      refine iteF ⟨_, rfl, rfl, _, rfl, ?_⟩
      have new : ∀ {r : Addr} {H1 : Hp}, OffC a H H1 → H1 a ≠ none → H1 r = none → H r = none := fun {r H1} off na nr => by
        cases e : H r with
        | none => rfl
        | some o =>
          by_cases hra : r = a
          · rw [hra] at nr; exact absurd nr na
          · rw [off r o hra e] at nr; cases nr
      by_cases h5 : x % 6 = 5
      · rw [decide_eq_true (congrArg V.int h5)]
        have eg : goneF c x = awayF c (headV x) := by unfold goneF; rw [if_neg h1, if_neg (by omega), if_pos h5]
        rw [eg] at q
        have el : ltrF c x = .away (x / 30 % 9) c.nm (num1 c x) (headV x) := by unfold ltrF; rw [if_neg (by omega), if_pos h5]
        rw [el] at hLt
        refine iteT ⟨_, rfl, a, dx, fs, rfl, ha, hF.n4, _, rfl, a, l, c, v, _, _, _, headV x, rfl, hC, hLt, fun H1 hC1 off => ⟨rfl, _, rfl, ?_⟩⟩
        rw [decide_eq_true rfl]
        refine iteT ⟨tiny (by show 0 ≤ 1000; decide), fun r hr1 => ?_⟩
        have s2 := same_upd (o := HO.lst []) hr1
        obtain ⟨dx1, fs1, ha1⟩ := hC1.ins
        have hC1' := hC1
        obtain ⟨_, _, _, us1, _, _, _, _, hl1, _⟩ := hC1'
        exact q r l [] _ (hC1.same s2) (.inl rfl) upd_same rfl (new off (by rw [ha1]; intro e; cases e) hr1) (fun z => by rw [z, hl1] at hr1; cases hr1) (fun b o hb e => s2 _ _ (off b o hb e))
      · rw [decide_eq_false (fun e : V.int (x % 6) = V.int 5 => h5 (by injection e))]
        have h34 : x % 6 = 3 ∨ x % 6 = 4 := by omega
        have eg : goneF c x = toldF c (num1 c x) (bdI x) := by unfold goneF; rw [if_neg h1, if_pos h34]
        rw [eg] at q
        have el : ltrF c x = .told (x / 30 % 9) c.nm (num1 c x) (bdI x) := by unfold ltrF; rw [if_pos h34]
        rw [el] at hLt
        refine iteF (iteF ⟨_, rfl, rfl, _, rfl, ?_⟩)
        rw [decide_eq_false (fun e : V.int (x % 6) = V.int 5 => h5 (by injection e))]
        refine iteT ⟨_, rfl, a, dx, fs, rfl, ha, hF.n3, _, rfl, a, l, c, v, _, _, _, _, rfl, hC, hLt, hln, fun l1 H1 hC1 nl1 off => ⟨rfl, _, rfl, ?_⟩⟩
        rw [decide_eq_true rfl]
        refine iteT ⟨tiny (by show 0 ≤ 1000; decide), fun r hr1 => ?_⟩
        have s2 := same_upd (o := HO.lst []) hr1
        obtain ⟨dx1, fs1, ha1⟩ := hC1.ins
        have hC1' := hC1
        obtain ⟨_, _, _, us1, _, _, _, _, hl1, _⟩ := hC1'
        exact q r l1 [] _ (hC1.same s2) nl1 upd_same rfl (new off (by rw [ha1]; intro e; cases e) hr1) (fun z => by rw [z, hl1] at hr1; cases hr1) (fun b o hb e => s2 _ _ (off b o hb e))
theorem deedO_eq {H : Hp} {v u : V} {d : Option Deed} {Q : VK} (h : DeedO H v d) (h' : DeedO H u d) (q : Q (.bl true) H) : rEq v u H Q ∨ rAl K true v u H Q := by
  cases d with
  | none =>
    cases h
    cases h'
    refine .inl ⟨rfl, ?_⟩
    rw [decide_eq_true rfl]
    exact q
  | some d =>
    cases d <;>
      (obtain ⟨p, rfl, hp⟩ := h
       obtain ⟨p', rfl, hp'⟩ := h'
       refine .inr ⟨p, p', _, _, 0, rfl, rfl, SqT.of hp, SqT.of hp', rfl, fun i x y e1 e2 => ?_, by decide, q⟩
       rw [e1] at e2
       cases e2
       have hx := List.mem_of_getElem? e1
       simp only [List.mem_cons, List.not_mem_nil, or_false] at hx
       rcases hx with rfl | rfl | rfl <;> exact .flat rfl)
def spIs51 (E : List (Str × V) → Prop) (C : Addr) : Sp := fun vs H Q _ => ∃ (a l p lt : Addr) (c : Acc), vs = [.ref a, .ref p] ∧ CaV E C H a l c ∧ AccV H p lt c ∧ ∀ H', Same H H' → Q (.bl true) H'
theorem scIs : FnScope ["_law_caller", "_law_now"] ["_law_caller", "_law_now"] (defScope s__law_is) := ⟨rfl, rfl, rfl, by decide +kernel, rfl, by decide +kernel, by decide +kernel⟩
theorem ok_is51 {f : Addr} {fd : FuncData} {Ex : List (Str × V) → Prop} {C : Addr} {kC : Nat} (M : CaM P w K mg base Ex C kC) (F : Fun K "_law_is" "_law_is" s__law_is f fd) (T : Txt mg) (CW : Cal P w K mg base "_law_whole" 1 ["_law_found"] spWholeI) : FnOk P w K mg base CX0 2 f fd ["_law_caller", "_law_now"] (spIs51 Ex C) := by
  refine F.ok scIs (fun vs H Q E ⟨_, _, _, _, _, e, _⟩ => by subst e; rfl) (fun cdv A outer s H vs Q E hr h => ?_)
  obtain ⟨a, l, p, lt, c, rfl, ⟨dx, fs, ud, us, ha, hF, hE, hDe, hl, hPl⟩, ⟨kvs, ud2, us2, hp, hK, hDe2, hl2, hPl2⟩, q⟩ := h
  obtain ⟨gW, dW, GW, mW, kW, bW⟩ := CW.ex
  refine ⟨_, @pss_p _ _ _ _ _ (ps_if (PW.pt (pw_or (pt_not (pt_val (pe_call GW hr (by rfl) mW kW bW .nil pass0 (pa_cons (pe_fld (pv 0) (by rfl)) pa_nil)))) (pw_or (pt_not (pt_val (pe_callB call_isi (by rfl) T.isi boot_isi (pa_cons (pe_fld (pv 0) (by rfl)) (pa_n (pe_ty (by rfl) T.bool boot_bool) pa_nil))))) (pw_or1 (pt_not (pt_val (pe_callB call_isi (by rfl) T.isi boot_isi (pa_cons (pe_fld (pv 0) (by rfl)) (pa_n (pe_ty (by rfl) T.list boot_list) pa_nil))))))))) (@pss_o _ _ _ (ps_ret pe_bl)) pss_nil)
    (@pss_p _ _ _ _ _ (ps_if (pt_cmpR (op_neA hr.units100) (QE.h (qx_tup (qa_a (pe_fld (pv 0) (by rfl)) (qa_a (pe_fld (pv 0) (by rfl)) (qa_a (pe_fld (pv 0) (by rfl)) qa_nil))))) (QE.h (qx_tup (qa_s (pe_dget (hu_of hr) (pv 1) pe_str (fun _ _ => rfl)) (qa_s (pe_dget (hu_of hr) (pv 1) pe_str (fun _ _ => rfl)) (qa_s (pe_dget (hu_of hr) (pv 1) pe_str (fun _ _ => rfl)) qa_nil))))) (nomark _)) (@pss_o _ _ _ (ps_ret pe_bl)) pss_nil)
    (@pss_o _ _ _ (ps_ret (pe_and (pe_cmpR (op_eqO hr.units100) (pe_fld (pv 0) (by rfl)) (pe_dget (hu_of hr) (pv 1) pe_str (fun _ _ => rfl)) (nomark _)) (pe_and (pe_cmpR op_eq (pe_fld (pv 0) (by rfl)) (pe_dget (hu_of hr) (pv 1) pe_str (fun _ _ => rfl)) (nomark _)) (pe_one (pe_cmpR (op_eqAL hr.units100) (pe_fld (pv 0) (by rfl)) (pe_dget (hu_of hr) (pv 1) pe_str (fun _ _ => rfl)) (nomark _)))))))), ?_⟩
  refine ⟨_, rfl, a, C, dx, fs, _, rfl, ha, M.cl, M.a_number, hF.number, c.num, rfl, _, rfl, iteF ?_⟩
  refine ⟨_, rfl, a, C, dx, fs, _, rfl, ha, M.cl, M.a_waits, hF.waits, _, _, _, _, rfl, .bl _, kit_bool K (.bl c.wt), _, rfl, iteF ?_⟩
  refine ⟨_, rfl, a, C, dx, fs, _, rfl, ha, M.cl, M.a_told, hF.told, _, _, _, _, rfl, .lst hl, kit_lst K, _, rfl, iteF ?_⟩
  refine ⟨_, rfl, a, C, dx, fs, _, rfl, ha, M.cl, M.a_name, hF.name, _, rfl, a, C, dx, fs, _, rfl, ha, M.cl, M.a_number, hF.number, _, rfl, a, C, dx, fs, _, rfl, ha, M.cl, M.a_waits, hF.waits, tiny (by show 3 ≤ 1000; decide), fun t1 ht1 => ?_⟩
  have s1 := same_upd (o := HO.tup [V.str c.nm, V.int c.num, V.bl c.wt]) ht1
  have hp1 := s1 _ _ hp
  refine ⟨_, rfl, p, .str c.nm, rfl, dget_of hp1 hK.nm, _, rfl, p, .int c.num, rfl, dget_of hp1 hK.num, _, rfl, p, .bl c.wt, rfl, dget_of hp1 hK.wt, tiny (by show 3 ≤ 1000; decide), fun t2 ht2 => ?_⟩
  have s2 := same_upd (o := HO.tup [V.str c.nm, V.int c.num, V.bl c.wt]) ht2
  have s12 := s1.trans s2
  refine ⟨t1, t2, _, _, 0, rfl, rfl, SqT.of (s2 _ _ upd_same), SqT.of upd_same, rfl, fun i x y e1 e2 => ?_, by decide, _, rfl, iteF ?_⟩
  · rw [e1] at e2
    cases e2
    match i, e1 with
    | 0, e1 => cases e1; exact .flat rfl
    | 1, e1 => cases e1; exact .flat rfl
    | 2, e1 => cases e1; exact .flat rfl
    | i + 3, e1 => simp at e1
  have ha2 := s12 _ _ ha
  have hp2 := s12 _ _ hp
  have hd := hDe.sameT (sameT_of s12)
  have hd2 := hDe2.sameT (sameT_of s12)
  refine ⟨_, rfl, a, C, dx, fs, _, rfl, ha2, M.cl, M.a_deed, hF.deed, _, rfl, p, ud2, rfl, dget_of hp2 hK.deed, ?_⟩
  refine deedO_eq hd hd2 ⟨_, rfl, iteT ?_⟩
  refine ⟨_, rfl, a, C, dx, fs, _, rfl, ha2, M.cl, M.a_asks, hF.asks, _, rfl, p, .int c.asks, rfl, dget_of hp2 hK.asks, rfl, _, rfl, ?_⟩
  rw [decide_eq_true rfl]
  refine iteT ⟨_, rfl, a, C, dx, fs, _, rfl, ha2, M.cl, M.a_told, hF.told, _, rfl, p, .ref lt, rfl, dget_of hp2 hK.told, l, lt, us, us2, 1, rfl, rfl, SqL.of (s12 _ _ hl), SqL.of (s12 _ _ hl2), by rw [hPl.length, hPl2.length], (hPl.sameT (sameT_of s12)).alike (hPl2.sameT (sameT_of s12)), by decide, q _ s12⟩
end
end K1
set_option Elab.async false
set_option linter.all false
set_option maxRecDepth 100000
set_option maxHeartbeats 4000000
namespace K1
open PySem L2 Kp
section
variable {P : Program} {w : World} {K : PySem.W.Frag} {mg : Str → Option Value} {base : Heap}
theorem acc_disp (nm : Str) (k : Int) (l : Addr) : AccK (mergeK [] [((Sum.inr "name" : Key), (.str nm : V)), ((Sum.inr "asks" : Key), (.int k : V)), ((Sum.inr "number" : Key), (.int 0 : V)), ((Sum.inr "waits" : Key), (.bl false : V)), ((Sum.inr "deed" : Key), (.non : V)), ((Sum.inr "told" : Key), (.ref l : V))]) ⟨nm, k, 0, false, none, []⟩ .non l := by
  have e : mergeK [] [((Sum.inr "name" : Key), (.str nm : V)), ((Sum.inr "asks" : Key), (.int k : V)), ((Sum.inr "number" : Key), (.int 0 : V)), ((Sum.inr "waits" : Key), (.bl false : V)), ((Sum.inr "deed" : Key), (.non : V)), ((Sum.inr "told" : Key), (.ref l : V))] = putK (putK (putK (putK (putK (putK ([]) (Sum.inr "name" : Key) (.str nm : V)) (Sum.inr "asks" : Key) (.int k : V)) (Sum.inr "number" : Key) (.int 0 : V)) (Sum.inr "waits" : Key) (.bl false : V)) (Sum.inr "deed" : Key) (.non : V)) (Sum.inr "told" : Key) (.ref l : V) := rfl
  refine ⟨by have := length_mergeK [((Sum.inr "name" : Key), (.str nm : V)), ((Sum.inr "asks" : Key), (.int k : V)), ((Sum.inr "number" : Key), (.int 0 : V)), ((Sum.inr "waits" : Key), (.bl false : V)), ((Sum.inr "deed" : Key), (.non : V)), ((Sum.inr "told" : Key), (.ref l : V))] []; exact Nat.le_trans this (by show 0 + 6 ≤ 20; decide), ?_, ?_, ?_, ?_, ?_, ?_⟩
  · rw [e, valV_put, if_neg (by decide +kernel), valV_put, if_neg (by decide +kernel), valV_put, if_neg (by decide +kernel), valV_put, if_neg (by decide +kernel), valV_put, if_neg (by decide +kernel), valV_put, if_pos rfl]
  · rw [e, valV_put, if_neg (by decide +kernel), valV_put, if_neg (by decide +kernel), valV_put, if_neg (by decide +kernel), valV_put, if_neg (by decide +kernel), valV_put, if_pos rfl]
  · rw [e, valV_put, if_neg (by decide +kernel), valV_put, if_neg (by decide +kernel), valV_put, if_neg (by decide +kernel), valV_put, if_pos rfl]
  · rw [e, valV_put, if_neg (by decide +kernel), valV_put, if_neg (by decide +kernel), valV_put, if_pos rfl]
  · rw [e, valV_put, if_neg (by decide +kernel), valV_put, if_pos rfl]
  · rw [e, valV_put, if_pos rfl]
structure D5 where
  p : Addr
  lt : Addr
  a : Addr
  l : Addr
  c : Acc
structure St51 (E : List (Str × V) → Prop) (C al cl hl : Addr) (H : Hp) (ds : List D5) (n : Nat) : Prop where
  hal : H al = some (.lst (ds.map fun d => V.ref d.p))
  hcl : H cl = some (.lst (ds.map fun d => V.ref d.a))
  acc : ∀ d ∈ ds, AccV H d.p d.lt d.c
  cal : ∀ d ∈ ds, CaV E C H d.a d.l d.c
  n1 : ∀ d ∈ ds, d.lt ≠ al ∧ d.lt ≠ cl ∧ d.lt ≠ hl
  n2 : ∀ d ∈ ds, d.l ≠ al ∧ d.l ≠ cl ∧ d.l ≠ hl
  ln : ∀ d ∈ ds, d.c.told.length ≤ n
  nd : (ds.map (·.a)).Nodup
theorem St51.keep {E : List (Str × V) → Prop} {C al cl hl : Addr} {H H' : Hp} {ds : List D5} {n : Nat} (S : St51 E C al cl hl H ds n) (k : ∀ b o, H b = some o → H' b = some o) : St51 E C al cl hl H' ds n :=
  ⟨k _ _ S.hal, k _ _ S.hcl, fun d hd => (S.acc d hd).same k, fun d hd => (S.cal d hd).same k, S.n1, S.n2, S.ln, S.nd⟩
def PairOk (al cl hl : Addr) (H : Hp) (x : V) : Prop := ∃ (q l1 l2 : Addr) (us : List V), x = .ref q ∧ H q = some (.lst [.ref l1, .ref l2]) ∧ H l1 = some (.lst us) ∧ H l2 = some (.lst us) ∧ (∀ u ∈ us, ∃ p, u = .ref p) ∧ (q ≠ al ∧ q ≠ hl) ∧ (l1 ≠ al ∧ l1 ≠ hl) ∧ (l2 ≠ al ∧ l2 ≠ hl)
/-- nothing but the accounts' list, the held list and one caller changes -/
def K51 (al hl a : Addr) (H H' : Hp) : Prop := ∀ b o, b ≠ al → b ≠ hl → b ≠ a → H b = some o → H' b = some o
theorem PairOk.keep {al cl hl a C dx : Addr} {fs : List (Str × V)} {H H' : Hp} {x : V} (h : PairOk al cl hl H x) (ha : H a = some (.ins C dx fs)) (k : K51 al hl a H H') : PairOk al cl hl H' x := by
  obtain ⟨q, l1, l2, us, e, h1, h2, h3, hu, nq, n1, n2⟩ := h
  have na : ∀ {b : Addr} {xs : List V}, H b = some (.lst xs) → b ≠ a := fun {b xs} e z => by rw [z, ha] at e; cases e
  exact ⟨q, l1, l2, us, e, k _ _ nq.1 nq.2 (na h1) h1, k _ _ n1.1 n1.2 (na h2) h2, k _ _ n2.1 n2.2 (na h3) h3, hu, nq, n1, n2⟩
theorem PairOk.same {al cl hl : Addr} {H H' : Hp} {x : V} (h : PairOk al cl hl H x) (s : Same H H') : PairOk al cl hl H' x := by
  obtain ⟨q, l1, l2, us, e, h1, h2, h3, r⟩ := h
  exact ⟨q, l1, l2, us, e, s _ _ h1, s _ _ h2, s _ _ h3, r⟩
/-- one caller and its account gone on -/
theorem St51.step {E : List (Str × V) → Prop} {C al cl hl : Addr} {H H' : Hp} {ds : List D5} {n : Nat} {j : Nat} {d' : D5} (S : St51 E C al cl hl H ds n) (hj : j < ds.length) (ea : d'.a = ds[j].a) (ncl : cl ≠ al ∧ cl ≠ hl) (hh : ∃ hs, H hl = some (.lst hs))
    (k : K51 al hl ds[j].a H H') (hal : H' al = some (.lst ((ds.map fun d => V.ref d.p).set j (.ref d'.p)))) (hA : AccV H' d'.p d'.lt d'.c) (hC : CaV E C H' d'.a d'.l d'.c) (m1 : d'.lt ≠ al ∧ d'.lt ≠ cl ∧ d'.lt ≠ hl) (m2 : d'.l ≠ al ∧ d'.l ≠ cl ∧ d'.l ≠ hl) (ml : d'.c.told.length ≤ n + 1) : St51 E C al cl hl H' (ds.set j d') (n + 1) := by
  obtain ⟨dx, fs, ha⟩ := (S.cal _ (List.getElem_mem hj)).ins
  obtain ⟨hs, eh⟩ := hh
  have sT : SameT H H' := fun b vs e => k b _ (fun z => by rw [z, S.hal] at e; cases e) (fun z => by rw [z, eh] at e; cases e) (fun z => by rw [z, ha] at e; cases e) e
  have eA : (ds.set j d').map (fun d => V.ref d.a) = ds.map fun d => V.ref d.a := by
    rw [List.map_set, ea]
    have : (V.ref ds[j].a) = (ds.map fun d => V.ref d.a)[j]'(by rw [List.length_map]; exact hj) := by rw [List.getElem_map]
    rw [this, List.set_getElem_self]
  have eB : (ds.set j d').map (·.a) = ds.map (·.a) := by
    rw [List.map_set, ea]
    have : ds[j].a = (ds.map (·.a))[j]'(by rw [List.length_map]; exact hj) := by rw [List.getElem_map]
    rw [this, List.set_getElem_self]
  have kL : ∀ {b : Addr} {xs : List V}, b ≠ al → b ≠ hl → H b = some (.lst xs) → H' b = some (.lst xs) := fun {b xs} h1 h2 e => k b _ h1 h2 (fun z => by rw [z, ha] at e; cases e) e
  refine ⟨by rw [List.map_set]; exact hal, by rw [eA]; exact kL ncl.1 ncl.2 S.hcl, fun d hd => ?_, fun d hd => ?_, fun d hd => ?_, fun d hd => ?_, fun d hd => ?_, by rw [eB]; exact S.nd⟩
  · rcases List.mem_or_eq_of_mem_set hd with hd | rfl
    · refine (S.acc d hd).keep (fun o e => ?_) (fun o e => ?_) sT
      · obtain ⟨kvs, ud, us, h1, _⟩ := S.acc d hd
        exact k _ _ (fun z => by rw [z, S.hal] at h1; cases h1) (fun z => by rw [z, eh] at h1; cases h1) (fun z => by rw [z, ha] at h1; cases h1) e
      · obtain ⟨kvs, ud, us, _, _, _, h1, _⟩ := S.acc d hd
        exact k _ _ (S.n1 d hd).1 (S.n1 d hd).2.2 (fun z => by rw [z, ha] at h1; cases h1) e
    · exact hA
  · obtain ⟨i, hi, rfl⟩ := List.getElem_of_mem hd
    rw [List.getElem_set]
    by_cases eij : j = i
    · rw [if_pos eij]; exact hC
    · rw [if_neg eij]
      have hi' : i < ds.length := by rw [List.length_set] at hi; exact hi
      have hdi := List.getElem_mem hi'
      have hne : ds[i].a ≠ ds[j].a := fun e => by
        have h1 : i < (ds.map (·.a)).length := by rw [List.length_map]; exact hi'
        have h2 : j < (ds.map (·.a)).length := by rw [List.length_map]; exact hj
        have pw := List.pairwise_iff_getElem.mp S.nd
        rcases Nat.lt_or_gt_of_ne eij with h | h
        · exact pw j i h2 h1 h (by rw [List.getElem_map, List.getElem_map]; exact e.symm)
        · exact pw i j h1 h2 h (by rw [List.getElem_map, List.getElem_map]; exact e)
      refine (S.cal _ hdi).keep (fun o e => ?_) (fun o e => ?_) sT
      · obtain ⟨dx2, fs2, h1⟩ := (S.cal _ hdi).ins
        exact k _ _ (fun z => by rw [z, S.hal] at h1; cases h1) (fun z => by rw [z, eh] at h1; cases h1) hne e
      · obtain ⟨dx2, fs2, ud, us, _, _, _, _, h1, _⟩ := S.cal _ hdi
        exact k _ _ (S.n2 _ hdi).1 (S.n2 _ hdi).2.2 (fun z => by rw [z, ha] at h1; cases h1) e
  · rcases List.mem_or_eq_of_mem_set hd with hd | rfl
    · exact S.n1 d hd
    · exact m1
  · rcases List.mem_or_eq_of_mem_set hd with hd | rfl
    · exact S.n2 d hd
    · exact m2
  · rcases List.mem_or_eq_of_mem_set hd with hd | rfl
    · exact Nat.le_succ_of_le (S.ln d hd)
    · exact ml
end
end K1
set_option Elab.async false
set_option linter.all false
set_option maxRecDepth 100000
set_option maxHeartbeats 4000000
namespace K1
open PySem L2 Kp
section
variable {P : Program} {w : World} {K : PySem.W.Frag} {mg : Str → Option Value} {base : Heap}
theorem St51.add {E : List (Str × V) → Prop} {C al cl hl : Addr} {H H' : Hp} {ds : List D5} {n : Nat} {d : D5} (S : St51 E C al cl hl H ds n) (k : ∀ b o, b ≠ al → b ≠ cl → H b = some o → H' b = some o)
    (hal : H' al = some (.lst (ds.map (fun d => V.ref d.p) ++ [.ref d.p]))) (hcl : H' cl = some (.lst (ds.map (fun d => V.ref d.a) ++ [.ref d.a]))) (hA : AccV H' d.p d.lt d.c) (hC : CaV E C H' d.a d.l d.c) (m1 : d.lt ≠ al ∧ d.lt ≠ cl ∧ d.lt ≠ hl) (m2 : d.l ≠ al ∧ d.l ≠ cl ∧ d.l ≠ hl) (ml : d.c.told.length ≤ n) (na : H d.a = none) : St51 E C al cl hl H' (ds ++ [d]) n := by
  have sT : SameT H H' := fun b vs e => k b _ (fun z => by rw [z, S.hal] at e; cases e) (fun z => by rw [z, S.hcl] at e; cases e) e
  refine ⟨by rw [List.map_append]; exact hal, by rw [List.map_append]; exact hcl, fun e he => ?_, fun e he => ?_, fun e he => ?_, fun e he => ?_, fun e he => ?_, ?_⟩
  · rcases List.mem_append.mp he with he | he
    · refine (S.acc e he).keep (fun o q => ?_) (fun o q => k _ _ (S.n1 e he).1 (S.n1 e he).2.1 q) sT
      obtain ⟨kvs, ud, us, h1, _⟩ := S.acc e he
      exact k _ _ (fun z => by rw [z, S.hal] at h1; cases h1) (fun z => by rw [z, S.hcl] at h1; cases h1) q
    · rw [List.mem_singleton.mp he]; exact hA
  · rcases List.mem_append.mp he with he | he
    · refine (S.cal e he).keep (fun o q => ?_) (fun o q => k _ _ (S.n2 e he).1 (S.n2 e he).2.1 q) sT
      obtain ⟨dx, fs, h1⟩ := (S.cal e he).ins
      exact k _ _ (fun z => by rw [z, S.hal] at h1; cases h1) (fun z => by rw [z, S.hcl] at h1; cases h1) q
    · rw [List.mem_singleton.mp he]; exact hC
  · rcases List.mem_append.mp he with he | he
    · exact S.n1 e he
    · rw [List.mem_singleton.mp he]; exact m1
  · rcases List.mem_append.mp he with he | he
    · exact S.n2 e he
    · rw [List.mem_singleton.mp he]; exact m2
  · rcases List.mem_append.mp he with he | he
    · exact S.ln e he
    · rw [List.mem_singleton.mp he]; exact ml
  · rw [List.map_append, List.nodup_append]
    refine ⟨S.nd, List.nodup_cons.mpr ⟨List.not_mem_nil, List.nodup_nil⟩, fun x hx y hy e => ?_⟩
    obtain ⟨d2, hd2, rfl⟩ := List.mem_map.mp hx
    have ey : y = d.a := List.mem_singleton.mp hy
    obtain ⟨dx, fs, h1⟩ := (S.cal d2 hd2).ins
    rw [e, ey, na] at h1
    cases h1
theorem gone_len (c : Acc) (x : Int) : (goneF c x).told.length ≤ c.told.length + 1 := by
  unfold goneF
  split
  · unfold wishF
    split <;> exact Nat.le_succ _
  · split
    · unfold toldF
      split
      · show (c.told ++ [(num1 c x, bdI x)]).length ≤ _
        rw [List.length_append]; exact Nat.le_refl _
      · exact Nat.le_succ _
    · split
      · unfold awayF
        split <;> exact Nat.le_succ _
      · exact Nat.le_succ _
theorem St51.held {E : List (Str × V) → Prop} {C al cl hl : Addr} {H H' : Hp} {ds : List D5} {n : Nat} {hs : List V} (S : St51 E C al cl hl H ds n) (hh : H hl = some (.lst hs)) (n1 : hl ≠ al) (n2 : hl ≠ cl) (k : ∀ b o, b ≠ hl → H b = some o → H' b = some o) : St51 E C al cl hl H' ds n := by
  have sT : SameT H H' := fun b vs e => k b _ (fun z => by rw [z, hh] at e; cases e) e
  refine ⟨k _ _ n1.symm S.hal, k _ _ n2.symm S.hcl, fun d hd => ?_, fun d hd => ?_, S.n1, S.n2, S.ln, S.nd⟩
  · refine (S.acc d hd).keep (fun o e => ?_) (fun o e => k _ _ (S.n1 d hd).2.2 e) sT
    obtain ⟨kvs, ud, us, h1, _⟩ := S.acc d hd
    exact k _ _ (fun z => by rw [z, hh] at h1; cases h1) e
  · refine (S.cal d hd).keep (fun o e => ?_) (fun o e => k _ _ (S.n2 d hd).2.2 e) sT
    obtain ⟨dx, fs, h1⟩ := (S.cal d hd).ins
    exact k _ _ (fun z => by rw [z, hh] at h1; cases h1) e
theorem two_of {es : List D5} (h : es.length = 2) : ∃ e0 e1, es = [e0, e1] := by
  match es, h with
  | [e0, e1], _ => exact ⟨e0, e1, rfl⟩
theorem cut_mem {xs : List V} {lo hi : Option Int} {x : V} (h : x ∈ cutV xs lo hi) : x ∈ xs := by
  unfold cutV at h
  exact List.mem_of_mem_drop (List.mem_of_mem_take h)
theorem cut_len (xs : List V) (lo hi : Option Int) : (cutV xs lo hi).length ≤ xs.length := by
  unfold cutV
  rw [List.length_take, List.length_drop]
  omega
def spLaw (K : PySem.W.Frag) : Sp := fun vs H Q _ => ∃ (a : Addr) (ns : List Int), vs = [.ref a] ∧ SqL K H a (ns.map V.int) ∧ ns.length ≤ 63 ∧ ∀ H', Q (.bl true) H'
theorem scL51 : FnScope ["_law_script", "_law_accounts", "_law_callers", "_law_held", "_law_k", "_law_name", "_law_keeper", "_law_cell", "_law_gone_here", "_law_way", "_law_found"] ["_law_script"] (defScope sLaw) := ⟨rfl, rfl, rfl, by decide +kernel, rfl, by decide +kernel, by decide +kernel⟩
theorem ok_law {f : Addr} {fd : FuncData} {Ex : List (Str × V) → Prop} {C : Addr} {kC kD LV : Nat} (hL : 3 ≤ LV ∧ kC + 1 ≤ LV ∧ kD ≤ LV) (M : CaM P w K mg base Ex C kC) (F : Fun K "law" "law" sLaw f fd) (T : Txt mg) (CC : Cal P w K mg base "_law_cell_at" 1 ["_law_script", "_law_k"] (spCell K)) (CN : Cal P w K mg base "_law_name_by" 1 ["_law_cell"] spNx) (CG : Cal P w K mg base "_law_gone" 3 ["_law_now", "_law_cell"] spGone) (CD : Cal P w K mg base "_law_done" kD ["_law_caller", "_law_way", "_law_cell", "_law_letter"] (spDn51 Ex C)) (CE : Cal P w K mg base "_law_letters" 1 ["_law_now", "_law_new", "_law_way"] spLet) (CS : Cal P w K mg base "_law_is" 2 ["_law_caller", "_law_now"] (spIs51 Ex C)) : FnOk P w K mg base CX0 (LV + 1) f fd ["_law_script"] (spLaw K) := by
  refine F.ok scL51 (fun vs H Q E ⟨_, _, e, _⟩ => by subst e; rfl) (fun cdv A outer s H vs Q E hr h => ?_)
  obtain ⟨a0, ns, rfl, hS, hlen, k⟩ := h
  obtain ⟨gC, dC, GC, mC, kC, bC⟩ := CC.ex
  obtain ⟨gN, dN, GN, mN, kN, bN⟩ := CN.ex
  obtain ⟨gG, dG, GG, mG, kG, bG⟩ := CG.ex
  obtain ⟨gD, dD, GD, mD, kD, bD⟩ := CD.ex
  obtain ⟨gE, dE, GE, mE, kE, bE⟩ := CE.ex
  obtain ⟨gS, dS, GS, mS, kS, bS⟩ := CS.ex
  obtain ⟨fI, dI, p1, p2, MI, FI, bI⟩ := M.init
  have r1 := hr.mono (show 1 ≤ LV by omega)
  have r2 := hr.mono (show 2 ≤ LV by omega)
  have r3 := hr.mono hL.1
  have rI := hr.mono hL.2.1
  have rD := hr.mono hL.2.2
  refine ⟨_, @pss_p _ _ _ _ _ (ps_set (i := 1) scL51.nd (by rfl) (by exact Or.inl rfl) (pe_lst pa_nil))
    (@pss_p _ _ _ _ _ (ps_set (i := 2) scL51.nd (by rfl) (by exact Or.inl rfl) (pe_lst pa_nil))
    (@pss_p _ _ _ _ _ (ps_set (i := 3) scL51.nd (by rfl) (by exact Or.inl rfl) (pe_lst pa_nil))
    (@pss_p _ _ _ _ _ (ps_for PassesOwn.never (by rfl) (pi_range1 (by rfl) T.range (pa_i pe_int pa_nil)) (pg_name (i := 4) scL51.nd (by rfl) (by exact Or.inl rfl)) (@pss_p _ _ _ _ _ (ps_set (i := 5) scL51.nd (by rfl) (by exact Or.inl rfl) (pe_call GN r1 (by rfl) mN kN bN .nil pass0 (pa_k (pe_call GC r1 (by rfl) mC kC bC .nil pass0 (pa_n (pv 0) (pa_n (pv 4) pa_nil))) pa_nil)))
    (@pss_p _ _ _ _ _ (ps_set (i := 6) scL51.nd (by rfl) (by exact Or.inl rfl) (pe_op op_mod (pe_op op_fdiv (pe_call GC r1 (by rfl) mC kC bC .nil pass0 (pa_n (pv 0) (pa_n (pv 4) pa_nil))) (pe_int)) (pe_int)))
    (@pss_p _ _ _ _ _ (ps_expr (pe_bm PySem.F.plainAttrs_list PySem.F.slot_list_append PySem.F.type_list_append mt_append (pv 1) (pa_cons (pe_disp (pps_cons pe_str (pv 5) (pps_cons pe_str (pv 6) (pps_cons pe_str pe_int (pps_cons pe_str pe_bl (pps_cons pe_str pe_non (pps_cons pe_str (pe_lst pa_nil) pps_nil)))))) (by rfl) (by rfl) (by intro h; cases h) (by decide)) pa_nil)))
    (@pss_o _ _ _ (ps_expr (pe_bm PySem.F.plainAttrs_list PySem.F.slot_list_append PySem.F.type_list_append mt_append (pv 2) (pa_k (pe_make MI FI rI (by rfl) M.gl bI .nil pass0 (pa_n (pv 5) (pa_n (pv 6) pa_nil))) pa_nil))))))))
    (@pss_p _ _ _ _ _ (ps_for PassesOwn.never (by rfl) (pi_list (pe_slice sl_list (pv 0) (po_some pe_int) po_none)) (pg_name (i := 7) scL51.nd (by rfl) (by exact Or.inl rfl)) (@pss_p _ _ _ _ _ (ps_set (i := 4) scL51.nd (by rfl) (by exact Or.inl rfl) (pe_op op_mod (pv 7) (pe_int)))
    (@pss_p _ _ _ _ _ (ps_set (i := 8) scL51.nd (by rfl) (by exact Or.inl rfl) (pe_call GG r3 (by rfl) mG kG bG .nil pass0 (pa_s (pe_ix ix_list (pv 1) (pv 4) px_n) (pa_b (pe_op op_fdiv (pv 7) (pe_int)) pa_nil))))
    (@pss_p _ _ _ _ _ (ps_set (i := 9) scL51.nd (by rfl) (by exact Or.inl rfl) (pe_op op_mod (pe_op op_fdiv (pv 7) (pe_int)) (pe_int)))
    (@pss_p _ _ _ _ _ (ps_set (i := 10) scL51.nd (by rfl) (by exact Or.inl rfl) (pe_call GD rD (by rfl) mD kD bD .nil pass0 (pa_s (pe_ix ix_list (pv 2) (pv 4) px_n) (pa_n (pv 9) (pa_b (pe_op op_fdiv (pv 7) (pe_int)) (pa_s (pe_ix ix_list (pv 8) pe_int px_i) pa_nil))))))
    (@pss_p _ _ _ _ _ (ps_if (PW.pt (pw_or (pt_not (pt_val (pe_callB call_isi (by rfl) T.isi boot_isi (pa_n (pv 10) (pa_n (pe_ty (by rfl) T.list boot_list) pa_nil))))) (pw_or1 (pt_cmpR (op_neAL hr.units100) (pv 10) (pe_call GE r1 (by rfl) mE kE bE .nil pass0 (pa_s (pe_ix ix_list (pv 1) (pv 4) px_n) (pa_s (pe_ix ix_list (pv 8) pe_int px_i) (pa_n (pv 9) pa_nil)))) (nomark _))))) (@pss_o _ _ _ (ps_ret pe_bl)) pss_nil)
    (@pss_p _ _ _ _ _ (ps_expr (pe_bm PySem.F.plainAttrs_list PySem.F.slot_list_append PySem.F.type_list_append mt_append (pv 10) (pa_i pe_non pa_nil)))
    (@pss_p _ _ _ _ _ (ps_asg (pe_ix ix_list (pv 8) pe_int px_i) (pg_sub (pv 1) (pv 4) set_list))
    (@pss_p _ _ _ _ _ (ps_if (PW.pt (pw_or (pt_not (pt_val (pe_call GS r2 (by rfl) mS kS bS .nil pass0 (pa_s (pe_ix ix_list (pv 2) pe_int px_i) (pa_s (pe_ix ix_list (pv 1) pe_int px_i) pa_nil))))) (pw_or1 (pt_not (pt_val (pe_call GS r2 (by rfl) mS kS bS .nil pass0 (pa_s (pe_ix ix_list (pv 2) pe_int px_i) (pa_s (pe_ix ix_list (pv 1) pe_int px_i) pa_nil)))))))) (@pss_o _ _ _ (ps_ret pe_bl)) pss_nil)
    (@pss_o _ _ _ (ps_expr (pe_bm PySem.F.plainAttrs_list PySem.F.slot_list_append PySem.F.type_list_append mt_append (pv 3) (pa_l (pe_lst (pa_cons (pe_fld (pe_ix ix_list (pv 2) (pv 4) px_n) (by rfl)) (pa_k (pe_callTy call_list_of (by rfl) T.list boot_list (pa_cons (pe_fld (pe_ix ix_list (pv 2) (pv 4) px_n) (by rfl)) pa_nil)) pa_nil))) pa_nil)))))))))))))
    (@pss_o _ _ _ (ps_ret (pe_cmpR (op_eqE hr.units0) (pe_comp (NB := ["_law_pair"]) (n := 1) (fr := []) (compOk0 (outer := defScope sLaw)  (by rfl) (by decide +kernel) (by rfl)) (by rfl) (pi_list (pv 3))
      (fun _ _ _ _ _ => pg_name (i := 0) (show (["_law_pair"] : List Str).Nodup by decide +kernel) (by rfl) (by exact Or.inl rfl)) (fun _ _ _ _ _ => pifs_one (pt_cmpR (op_neALK (K' := K) (by rfl) hr.units100) (pe_ix (ix_listK (K := K) (by rfl)) (pv 0) pe_int px_i) (pe_ix (ix_listK (K := K) (by rfl)) (pv 0) pe_int px_i) (nomark _))) (fun _ _ _ _ _ => pv 0)) (pe_lst pa_nil) (nomark _)))))))), ?_⟩
  refine ⟨tiny (by show 0 ≤ 1000; decide), fun al hal0 => ⟨tiny (by show 0 ≤ 1000; decide), fun cl hcl0 => ⟨tiny (by show 0 ≤ 1000; decide), fun hl hhl0 => ?_⟩⟩⟩
  have sA := same_upd (o := HO.lst []) hal0
  have sB := same_upd (o := HO.lst []) hcl0
  have sC := same_upd (o := HO.lst []) hhl0
  have ncl : cl ≠ al := fun z => by rw [z, upd_same] at hcl0; cases hcl0
  have nhl1 : hl ≠ cl := fun z => by rw [z, upd_same] at hhl0; cases hhl0
  have nhl2 : hl ≠ al := fun z => by rw [z, sB _ _ upd_same] at hhl0; cases hhl0
  have hal3 := (sB.trans sC) _ _ (upd_same (H := H) (a := al) (o := HO.lst []))
  have hcl3 := sC _ _ (upd_same (H := upd H al (HO.lst [])) (a := cl) (o := HO.lst []))
  have hhl3 : upd (upd (upd H al (.lst [])) cl (.lst [])) hl (.lst []) hl = some (.lst []) := upd_same
  have nA : H al = none := hal0
  have nC : H cl = none := by
    cases e : H cl with
    | none => rfl
    | some o => rw [sA _ _ e] at hcl0; cases hcl0
  have nH : H hl = none := by
    cases e : H hl with
    | none => rfl
    | some o => rw [(sA.trans sB) _ _ e] at hhl0; cases hhl0
  have sH3 := sA.trans (sB.trans sC)
  generalize upd (upd (upd H al (.lst [])) cl (.lst [])) hl (.lst []) = H3 at hal3 hcl3 hhl3 sH3
  refine ⟨2, rfl, by decide, by decide, for_range (n := 2) (fun i σ H' => ∃ (ds : List D5) (t4 t5 t6 t7 t8 t9 t10 : Option V), σ = [some (.ref a0), some (.ref al), some (.ref cl), some (.ref hl), t4, t5, t6, t7, t8, t9, t10] ∧ ds.length = i ∧ St51 Ex C al cl hl H' ds 0 ∧ H' hl = some (.lst []) ∧ Same H H')
    ⟨[], none, none, none, none, none, none, none, rfl, rfl, ⟨hal3, hcl3, fun d h => absurd h List.not_mem_nil, fun d h => absurd h List.not_mem_nil, fun d h => absurd h List.not_mem_nil, fun d h => absurd h List.not_mem_nil, fun d h => absurd h List.not_mem_nil, List.nodup_nil⟩, hhl3, sH3⟩ ?_ ?_⟩
  · rintro i σ H' hi ⟨ds, t4, t5, t6, t7, t8, t9, t10, rfl, hds, S, hh, sH⟩
    have hS' := SqL.same hS sH
    refine ⟨_, rfl, _, rfl, a0, ns, _, rfl, hS', by omega, fun z => ⟨z, rfl, ?_⟩⟩
    refine ⟨_, rfl, _, rfl, a0, ns, _, rfl, hS', by omega, fun z2 => ⟨_, _, rfl, rfl, ⟨by decide, by decide⟩, _, _, rfl, rfl, (by show (0 : Int) < 9; decide), ?_⟩⟩
    refine ⟨_, rfl, .inl ⟨rfl, _, SqL.of S.hal⟩, fun p hp => ⟨_, rfl, _, rfl, tiny (by show 0 ≤ 1000; decide), fun lt hlt => ?_⟩⟩
    have u1 := same_upd (o := HO.dK []) hp
    have u2 := same_upd (o := HO.lst []) hlt
    have npl : p ≠ lt := fun e => by rw [← e, upd_same] at hlt; cases hlt
    refine ⟨u2 _ _ upd_same, [((Sum.inr "name" : Key), .str (nmS z)), (Sum.inr "asks", .int (z2 / 5 % 9)), (Sum.inr "number", .int 0), (Sum.inr "waits", .bl false), (Sum.inr "deed", .non), (Sum.inr "told", .ref lt)], rfl, by show 6 ≤ 15; decide, ?_⟩
    have hpx : upd (upd H' p (.dK [])) lt (.lst []) p = some (.dK []) := u2 _ _ upd_same
    have nB : ∀ {b : Addr} {o : HO}, H' b = some o → b ≠ p ∧ b ≠ lt := fun {b o} e => ⟨(fun z => by rw [z, hp] at e; cases e), (fun z => by rw [z] at e; rw [u1 _ _ e] at hlt; cases hlt)⟩
    have k4 : ∀ b o, H' b = some o → (upd (upd (upd H' p (.dK [])) lt (.lst [])) p (.dK (mergeK [] [((Sum.inr "name" : Key), .str (nmS z)), (Sum.inr "asks", .int (z2 / 5 % 9)), (Sum.inr "number", .int 0), (Sum.inr "waits", .bl false), (Sum.inr "deed", .non), (Sum.inr "told", .ref lt)]))) b = some o := fun b o e => by rw [upd_ne (nB e).1]; exact (u1.trans u2) _ _ e
    have hp4 : (upd (upd (upd H' p (.dK [])) lt (.lst [])) p (.dK (mergeK [] [((Sum.inr "name" : Key), .str (nmS z)), (Sum.inr "asks", .int (z2 / 5 % 9)), (Sum.inr "number", .int 0), (Sum.inr "waits", .bl false), (Sum.inr "deed", .non), (Sum.inr "told", .ref lt)]))) p = some (.dK (mergeK [] [((Sum.inr "name" : Key), .str (nmS z)), (Sum.inr "asks", .int (z2 / 5 % 9)), (Sum.inr "number", .int 0), (Sum.inr "waits", .bl false), (Sum.inr "deed", .non), (Sum.inr "told", .ref lt)])) := upd_same
    have hlt4 : (upd (upd (upd H' p (.dK [])) lt (.lst [])) p (.dK (mergeK [] [((Sum.inr "name" : Key), .str (nmS z)), (Sum.inr "asks", .int (z2 / 5 % 9)), (Sum.inr "number", .int 0), (Sum.inr "waits", .bl false), (Sum.inr "deed", .non), (Sum.inr "told", .ref lt)]))) lt = some (.lst []) := by rw [upd_ne npl.symm]; exact upd_same
    generalize upd (upd (upd H' p (.dK [])) lt (.lst [])) p (.dK (mergeK [] [((Sum.inr "name" : Key), .str (nmS z)), (Sum.inr "asks", .int (z2 / 5 % 9)), (Sum.inr "number", .int 0), (Sum.inr "waits", .bl false), (Sum.inr "deed", .non), (Sum.inr "told", .ref lt)])) = H4 at k4 hp4 hlt4
    have hal4 := k4 _ _ S.hal
    have hcl4 := k4 _ _ S.hcl
    have hh4 := k4 _ _ hh
    refine ⟨al, _, _, rfl, rfl, hal4, by rw [sizeLine_eq, List.length_map]; omega, ?_⟩
    have npal : p ≠ al := (nB S.hal).1.symm
    have nltal : lt ≠ al := (nB S.hal).2.symm
    have nltcl : lt ≠ cl := (nB S.hcl).2.symm
    have nlthl : lt ≠ hl := (nB hh).2.symm
    have k5 : ∀ b o, b ≠ al → H4 b = some o → (upd H4 al (.lst ((ds.map fun d => V.ref d.p) ++ [V.ref p]))) b = some o := fun b o hb e => by rw [upd_ne hb]; exact e
    have hal5 : (upd H4 al (.lst ((ds.map fun d => V.ref d.p) ++ [V.ref p]))) al = some (.lst ((ds.map fun d => V.ref d.p) ++ [V.ref p])) := upd_same
    generalize upd H4 al (.lst ((ds.map fun d => V.ref d.p) ++ [V.ref p])) = H5 at k5 hal5
    have hcl5 := k5 _ _ ncl hcl4
    have hh5 := k5 _ _ nhl2 hh4
    refine ⟨_, rfl, .inl ⟨rfl, _, SqL.of hcl5⟩, _, rfl, _, rfl, fun x dx hx hdx hne => ?_⟩
    refine ⟨x, dx, nmS z, z2 / 5 % 9, rfl, upd_same, fun l H8 hC8 nl8 off8 => ⟨rfl, ?_⟩⟩
    have k8 : ∀ b o, H5 b = some o → H8 b = some o := fun b o e => by
      have g1 : b ≠ x := fun q => by rw [q, hx] at e; cases e
      have g2 : b ≠ dx := fun q => by rw [q, hdx] at e; cases e
      exact off8 b o g1 (by rw [upd_ne g1, upd_ne g2]; exact e)
    have hcl8 := k8 _ _ hcl5
    refine ⟨cl, _, _, rfl, rfl, hcl8, by rw [sizeLine_eq, List.length_map]; omega, ?_⟩
    have nl5 : ∀ {b : Addr} {o : HO}, H5 b = some o → l ≠ b := fun {b o} e q => by
      have g1 : b ≠ x := fun q => by rw [q, hx] at e; cases e
      have g2 : b ≠ dx := fun q => by rw [q, hdx] at e; cases e
      rw [q, upd_ne g1, upd_ne g2, e] at nl8; cases nl8
    have k9 : ∀ b o, b ≠ cl → H8 b = some o → (upd H8 cl (.lst ((ds.map fun d => V.ref d.a) ++ [V.ref x]))) b = some o := fun b o hb e => by rw [upd_ne hb]; exact e
    have hcl9 : (upd H8 cl (.lst ((ds.map fun d => V.ref d.a) ++ [V.ref x]))) cl = some (.lst ((ds.map fun d => V.ref d.a) ++ [V.ref x])) := upd_same
    generalize upd H8 cl (.lst ((ds.map fun d => V.ref d.a) ++ [V.ref x])) = H9 at k9 hcl9
    have sT89 : SameT H8 H9 := fun b vs e => k9 b _ (fun q => by rw [q, hcl8] at e; cases e) e
    have kk : ∀ b o, b ≠ al → b ≠ cl → H' b = some o → H9 b = some o := fun b o h1 h2 e => k9 b o h2 (k8 _ _ (k5 b o h1 (k4 b o e)))
    have hp9 : H9 p = some (.dK (mergeK [] [((Sum.inr "name" : Key), .str (nmS z)), (Sum.inr "asks", .int (z2 / 5 % 9)), (Sum.inr "number", .int 0), (Sum.inr "waits", .bl false), (Sum.inr "deed", .non), (Sum.inr "told", .ref lt)])) := k9 _ _ (nB S.hcl).1.symm (k8 _ _ (k5 _ _ npal hp4))
    have hlt9 : H9 lt = some (.lst []) := k9 _ _ nltcl (k8 _ _ (k5 _ _ nltal hlt4))
    have nx : H' x = none := by
      cases e : H' x with
      | none => rfl
      | some o =>
        by_cases hxa : x = al
        · rw [hxa, hal5] at hx; cases hx
        · rw [k5 _ _ hxa (k4 _ _ e)] at hx; cases hx
    have hC9 : CaV Ex C H9 x l ⟨nmS z, z2 / 5 % 9, 0, false, none, []⟩ := by
      obtain ⟨dx8, fs8, hx8⟩ := hC8.ins
      refine hC8.keep (fun o e => k9 _ _ (fun q => by rw [q, hcl8] at hx8; cases hx8) e) (fun o e => k9 _ _ (nl5 hcl5) e) sT89
    refine ⟨ds ++ [⟨p, lt, x, l, ⟨nmS z, z2 / 5 % 9, 0, false, none, []⟩⟩], _, _, _, _, _, _, _, rfl, by rw [List.length_append, hds]; rfl, S.add (d := ⟨p, lt, x, l, ⟨nmS z, z2 / 5 % 9, 0, false, none, []⟩⟩) kk (k9 _ _ ncl.symm (k8 _ _ hal5)) hcl9 ⟨_, .non, [], hp9, acc_disp _ _ _, rfl, hlt9, .nil⟩ hC9 ⟨nltal, nltcl, nlthl⟩ ⟨nl5 hal5, nl5 hcl5, nl5 hh5⟩ (Nat.zero_le _) nx, kk _ _ nhl2 nhl1 hh, fun b o e => ?_⟩
    have g1 : b ≠ al := fun q => by rw [q, nA] at e; cases e
    have g2 : b ≠ cl := fun q => by rw [q, nC] at e; cases e
    exact kk b o g1 g2 (sH _ _ e)
  · rintro σ H' ⟨ds, t4, t5, t6, t7, t8, t9, t10, rfl, hds, S, hh, sH⟩
    have hS' := SqL.same hS sH
    refine ⟨_, rfl, _, rfl, a0, _, rfl, hS', fun sl hsl => ?_⟩
    obtain ⟨zs, ezs⟩ : ∃ zs, zs = cutV (ns.map V.int) (some 2) none := ⟨_, rfl⟩
    have hzs : ∀ x ∈ zs, ∃ z : Int, x = .int z := fun x hx => by
      rw [ezs] at hx
      obtain ⟨z, _, rfl⟩ := List.mem_map.mp (cut_mem hx)
      exact ⟨z, rfl⟩
    have lzs : zs.length ≤ 63 := by
      have := cut_len (ns.map V.int) (some 2) none
      rw [← ezs, List.length_map] at this
      omega
    rw [← ezs]
    have s0 := same_upd (o := HO.lst zs) hsl
    have S0 := S.keep s0
    have nsl : ∀ {b : Addr} {o : HO}, H' b = some o → sl ≠ b := fun {b o} e q => by rw [q, e] at hsl; cases hsl
    have hsl0 : upd H' sl (.lst zs) sl = some (.lst zs) := upd_same
    have hh0 := s0 _ _ hh
    have ns1 : sl ≠ al := nsl S.hal
    have ns2 : sl ≠ hl := nsl hh
    generalize upd H' sl (.lst zs) = Hs at S0 hsl0 hh0
    refine ⟨sl, rfl, ⟨_, SqL.of hsl0⟩, for_list (K := K) (a := sl) (xs := zs) (fun i σ H' => ∃ (ds : List D5) (hs : List V) (t4 t5 t6 t7 t8 t9 t10 : Option V), σ = [some (.ref a0), some (.ref al), some (.ref cl), some (.ref hl), t4, t5, t6, t7, t8, t9, t10] ∧ ds.length = 2 ∧ St51 Ex C al cl hl H' ds i ∧ H' hl = some (.lst hs) ∧ hs.length ≤ i ∧ (∀ x ∈ hs, PairOk al cl hl H' x) ∧ H' sl = some (.lst zs))
      ⟨ds, [], _, _, _, _, _, _, _, rfl, hds, S0, hh0, Nat.le_refl _, fun x h => absurd h List.not_mem_nil, hsl0⟩ (fun i σ H' _ ⟨_, _, _, _, _, _, _, _, _, _, _, _, _, _, _, h⟩ => SqL.of h) ?_ ?_⟩
    · rintro i v σ H' hv ⟨ds, hs, t4, t5, t6, t7, t8, t9, t10, rfl, hds, S, hh, hhl, hPr, hsl⟩
      have hi : i < zs.length := (List.getElem?_eq_some_iff.mp hv).1
      obtain ⟨z, rfl⟩ := hzs v (List.mem_of_getElem? hv)
      refine ⟨_, rfl, _, _, rfl, rfl, (by show (0 : Int) < 2; decide), ?_⟩
      obtain ⟨j, ej, hj2⟩ : ∃ j : Nat, z % 2 = (j : Int) ∧ j < 2 := by
        have b := emod_in z (m := 2) (by decide)
        obtain ⟨j, ej⟩ := Int.eq_ofNat_of_zero_le b.1
        exact ⟨j, ej, by omega⟩
      have hj : j < ds.length := by omega
      have hd := List.getElem_mem hj
      have atP : ∀ f : D5 → V, atI (ds.map f) (z % 2) = some (f ds[j]) := fun f => by rw [ej]; exact atI_nat (by rw [List.getElem?_map, List.getElem?_eq_getElem hj]; rfl)
      have hA := S.acc _ hd
      have hC := S.cal _ hd
      have hl0 := S.ln _ hd
      refine ⟨_, rfl, _, rfl, al, _, _, _, rfl, rfl, SqL.of S.hal, atP _, _, rfl, _, _, rfl, rfl, ⟨by decide, by decide⟩, ds[j].p, ds[j].lt, ds[j].c, z / 2, rfl, hA, by omega, fun r p' l' v H1 hr1 hA1 nl1 np1 hLt s1 => ?_⟩
      refine ⟨_, rfl, _, _, rfl, rfl, ⟨by decide, by decide⟩, _, _, rfl, rfl, (by show (0 : Int) < 6; decide), ?_⟩
      have S1 := S.keep s1
      have hC1 := S1.cal _ hd
      obtain ⟨dx1, fs1, ha1⟩ := hC1.ins
      refine ⟨_, rfl, _, rfl, cl, _, _, _, rfl, rfl, SqL.of S1.hcl, atP _, _, rfl, _, rfl, _, _, rfl, rfl, ⟨by decide, by decide⟩, _, rfl, r, _, _, v, rfl, rfl, SqL.of hr1, atI_nat (j := 1) rfl, ds[j].a, ds[j].l, ds[j].c, z / 2, v, rfl, hC1, hLt, by omega, fun r2 l2 ys H2 hC2 nl2 hr2 hLe2 nr2 nrl off2 => ?_⟩
      have sT12 := off2.tups ha1
      have kd : ∀ {b : Addr} {o : HO}, (∀ dx fs, o ≠ .ins C dx fs) → H1 b = some o → H2 b = some o := fun {b o} ho e => off2 b o (fun q => by rw [q, ha1] at e; cases e; exact ho _ _ rfl) e
      have kl2 : ∀ {b : Addr} {xs : List V}, H1 b = some (.lst xs) → H2 b = some (.lst xs) := fun {b xs} e => kd (by intro _ _ q; cases q) e
      have hA2 : ∀ {p l : Addr} {c : Acc}, AccV H1 p l c → AccV H2 p l c := fun {p l c} h => by
        obtain ⟨kvs, ud, us, h1, h2, h3, h4, h5⟩ := h
        exact ⟨kvs, ud, us, kd (by intro _ _ q; cases q) h1, h2, h3.sameT sT12, kl2 h4, h5.sameT sT12⟩
      refine ⟨_, rfl, _, _, _, _, rfl, .lst hr2, kit_lst K, _, rfl, iteF ⟨_, rfl, _, rfl, _, rfl, al, _, _, _, rfl, rfl, SqL.of (kl2 S1.hal), atP _, _, rfl, r, _, _, .ref p', rfl, rfl, SqL.of (kl2 hr1), atI_nat (j := 0) rfl, _, rfl, ds[j].p, ds[j].lt, p', l', ds[j].c, goneF ds[j].c (z / 2), z / 2 % 6, rfl, hA2 (hA.same s1), hA2 hA1, fun r3 zs3 H3 hr3 hL3 s3 => ?_⟩⟩
      refine ⟨r2, r3, ys, zs3, 2, rfl, rfl, SqL.of (s3 _ _ hr2), SqL.of hr3, by rw [hLe2.length, hL3.length], (hLe2.sameT (sameT_of s3)).alike hL3, by decide, _, rfl, iteF ?_⟩
      have hr23 := s3 _ _ hr2
      have lys : ys.length ≤ 1 := by have := hLe2.length; split at this <;> omega
      refine ⟨_, rfl, .inl ⟨rfl, _, SqL.of hr23⟩, r2, ys, _, rfl, rfl, hr23, by rw [sizeLine_eq]; omega, ?_⟩
      have k24 : ∀ b o, b ≠ r2 → H2 b = some o → (upd H3 r2 (.lst (ys ++ [V.non]))) b = some o := fun b o hb e => by rw [upd_ne hb]; exact s3 _ _ e
      generalize upd H3 r2 (.lst (ys ++ [V.non])) = H4 at k24
      have sT24 : SameT H2 H4 := fun b vs e => k24 b _ (fun q => by rw [q, hr2] at e; cases e) e
      have nr1 : ∀ {b : Addr} {o : HO}, H1 b = some o → b ≠ r2 := fun {b o} e q => by rw [q, nr2] at e; cases e
      have k14 : ∀ b o, b ≠ ds[j].a → H1 b = some o → H4 b = some o := fun b o hb e => k24 b o (nr1 e) (off2 b o hb e)
      have kl4 : ∀ {b : Addr} {xs : List V}, H1 b = some (.lst xs) → H4 b = some (.lst xs) := fun {b xs} e => k14 b _ (fun q => by rw [q, ha1] at e; cases e) e
      refine ⟨_, rfl, r, _, _, .ref p', rfl, rfl, SqL.of (kl4 hr1), atI_nat (j := 0) rfl, _, rfl, _, rfl, al, _, _, j, rfl, rfl, kl4 S1.hal, by rw [ej, List.length_map]; unfold ixN; rw [if_pos (by omega), if_pos (by omega), Int.toNat_natCast], ?_⟩
      have k45 : ∀ b o, b ≠ al → H4 b = some o → (upd H4 al (.lst ((ds.map fun d => V.ref d.p).set j (.ref p')))) b = some o := fun b o hb e => by rw [upd_ne hb]; exact e
      have hal5 : (upd H4 al (.lst ((ds.map fun d => V.ref d.p).set j (.ref p')))) al = some (.lst ((ds.map fun d => V.ref d.p).set j (.ref p'))) := upd_same
      have sT45 : SameT H4 (upd H4 al (.lst ((ds.map fun d => V.ref d.p).set j (.ref p')))) := fun b vs e => k45 b _ (fun q => by rw [q, kl4 S1.hal] at e; cases e) e
      generalize upd H4 al (.lst ((ds.map fun d => V.ref d.p).set j (.ref p'))) = H5 at k45 hal5 sT45
      have K5 : K51 al hl ds[j].a H' H5 := fun b o h1 h2 h3 e => k45 b o h1 (k14 b o h3 (s1 _ _ e))
      have m1 : l' ≠ al ∧ l' ≠ cl ∧ l' ≠ hl := by
        rcases nl1 with e | e
        · rw [e]; exact S.n1 _ hd
        · exact ⟨(fun q => by rw [q, S.hal] at e; cases e), (fun q => by rw [q, S.hcl] at e; cases e), (fun q => by rw [q, hh] at e; cases e)⟩
      have m2 : l2 ≠ al ∧ l2 ≠ cl ∧ l2 ≠ hl := by
        rcases nl2 with e | e
        · rw [e]; exact S.n2 _ hd
        · exact ⟨(fun q => by rw [q, S1.hal] at e; cases e), (fun q => by rw [q, S1.hcl] at e; cases e), (fun q => by rw [q, s1 _ _ hh] at e; cases e)⟩
      have hA5 : AccV H5 p' l' (goneF ds[j].c (z / 2)) := by
        obtain ⟨kvs, ud, us, h1, h2, h3, h4, h5⟩ := hA1
        refine ⟨kvs, ud, us, k45 _ _ (fun q => by rw [q, S1.hal] at h1; cases h1) (k14 _ _ (fun q => by rw [q, ha1] at h1; cases h1) h1), h2, ((h3.sameT sT12).sameT sT24).sameT sT45, k45 _ _ m1.1 (kl4 h4), ((h5.sameT sT12).sameT sT24).sameT sT45⟩
      have hC5 : CaV Ex C H5 ds[j].a l2 (goneF ds[j].c (z / 2)) := by
        obtain ⟨dx2, fs2, ud, us, h1, h2, h3, h4, h5, h6⟩ := hC2
        exact ⟨dx2, fs2, ud, us, k45 _ _ (fun q => by rw [q, S1.hal] at ha1; cases ha1) (k24 _ _ (nr1 ha1) h1), h2, h3, (h4.sameT sT24).sameT sT45, k45 _ _ m2.1 (k24 _ _ (fun q => nrl q.symm) h5), (h6.sameT sT24).sameT sT45⟩
      have S5 := S.step (d' := ⟨p', l', ds[j].a, l2, goneF ds[j].c (z / 2)⟩) hj rfl ⟨ncl, nhl1.symm⟩ ⟨hs, hh⟩ K5 hal5 hA5 hC5 m1 m2 (by have := gone_len ds[j].c (z / 2); show (goneF ds[j].c (z / 2)).told.length ≤ i + 1; omega)
      have hcl5 : H5 cl = some (.lst (ds.map fun d => V.ref d.a)) := K5 _ _ ncl nhl1.symm (fun q => by rw [← q, S1.hcl] at ha1; cases ha1) S.hcl
      have hh5 : H5 hl = some (.lst hs) := k45 _ _ nhl2 (kl4 (s1 _ _ hh))
      have les : (ds.set j ⟨p', l', ds[j].a, l2, goneF ds[j].c (z / 2)⟩).length = 2 := by rw [List.length_set]; exact hds
      obtain ⟨e0, e1, ees⟩ := two_of les
      rw [ees] at S5
      refine ⟨_, rfl, cl, _, _, .ref e0.a, rfl, rfl, SqL.of S5.hcl, atI_nat (j := 0) rfl, _, rfl, al, _, _, .ref e0.p, rfl, rfl, SqL.of S5.hal, atI_nat (j := 0) rfl, e0.a, e0.l, e0.p, e0.lt, e0.c, rfl, S5.cal e0 (by simp), S5.acc e0 (by simp), fun H6 s6 => ⟨_, rfl, iteF ?_⟩⟩
      have S6 := S5.keep s6
      refine ⟨_, rfl, cl, _, _, .ref e1.a, rfl, rfl, SqL.of S6.hcl, atI_nat (j := 1) rfl, _, rfl, al, _, _, .ref e1.p, rfl, rfl, SqL.of S6.hal, atI_nat (j := 1) rfl, e1.a, e1.l, e1.p, e1.lt, e1.c, rfl, S6.cal e1 (by simp), S6.acc e1 (by simp), fun H7 s7 => ⟨_, rfl, iteF ?_⟩⟩
      have s57 := s6.trans s7
      have hcl7 := s57 _ _ hcl5
      have hh7 := s57 _ _ hh5
      obtain ⟨dx7, fs7, ud7, us7, ha7, hF7, _, _, hl7, hPl7⟩ := hC5.same s57
      refine ⟨_, rfl, .inl ⟨rfl, _, SqL.of hh7⟩, _, rfl, _, rfl, cl, _, _, _, rfl, rfl, SqL.of hcl7, atP _, ds[j].a, C, dx7, fs7, _, rfl, ha7, M.cl, M.a_told, hF7.told, _, rfl, _, rfl, cl, _, _, _, rfl, rfl, SqL.of hcl7, atP _, ds[j].a, C, dx7, fs7, _, rfl, ha7, M.cl, M.a_told, hF7.told, l2, us7, rfl, .inl (SqL.of hl7), fun lc hlc => ⟨tiny (by show 2 ≤ 1000; decide), fun q hq => ?_⟩⟩
      have s8 := same_upd (o := HO.lst us7) hlc
      have s9 := same_upd (o := HO.lst [V.ref l2, V.ref lc]) hq
      have s59 := s57.trans (s8.trans s9)
      have hh9 := (s8.trans s9) _ _ hh7
      refine ⟨hl, hs, _, rfl, rfl, hh9, by rw [sizeLine_eq]; omega, ?_⟩
      have hq9 : upd (upd H7 lc (.lst us7)) q (.lst [V.ref l2, V.ref lc]) q = some (.lst [V.ref l2, V.ref lc]) := upd_same
      have hlc9 := s9 _ _ (upd_same (H := H7) (a := lc) (o := HO.lst us7))
      have hl9 := (s8.trans s9) _ _ hl7
      have nlc : ∀ {b : Addr} {o : HO}, H7 b = some o → lc ≠ b := fun {b o} e z => by rw [z, e] at hlc; cases hlc
      have nq : ∀ {b : Addr} {o : HO}, H7 b = some o → q ≠ b := fun {b o} e z => by rw [z, s8 _ _ e] at hq; cases hq
      have S9 := S5.keep s59
      generalize upd (upd H7 lc (.lst us7)) q (.lst [V.ref l2, V.ref lc]) = H9 at s59 hh9 hq9 hlc9 hl9 S9
      have kA : ∀ b o, b ≠ hl → H9 b = some o → (upd H9 hl (.lst (hs ++ [V.ref q]))) b = some o := fun b o hb e => by rw [upd_ne hb]; exact e
      have hhA : (upd H9 hl (.lst (hs ++ [V.ref q]))) hl = some (.lst (hs ++ [V.ref q])) := upd_same
      generalize upd H9 hl (.lst (hs ++ [V.ref q])) = HA at kA hhA
      have KA : K51 al hl ds[j].a H' HA := fun b o h1 h2 h3 e => kA b o h2 (s59 _ _ (K5 b o h1 h2 h3 e))
      obtain ⟨dxj, fsj, haj⟩ := hC.ins
      have hal7 := s57 _ _ hal5
      refine ⟨[e0, e1], hs ++ [.ref q], _, _, _, _, _, _, _, rfl, rfl, S9.held hh9 nhl2 nhl1 kA, hhA, by rw [List.length_append]; show _ + 1 ≤ _; omega, fun x hx => ?_, KA _ _ ns1 ns2 (fun z => by rw [z, haj] at hsl; cases hsl) hsl⟩
      rcases List.mem_append.mp hx with hx | hx
      · exact (hPr x hx).keep haj KA
      · rw [List.mem_singleton.mp hx]
        exact ⟨q, l2, lc, us7, rfl, kA _ _ (nq hh7) hq9, kA _ _ m2.2.2 hl9, kA _ _ (nlc hh7) hlc9, hPl7.refs, ⟨nq hal7, nq hh7⟩, ⟨m2.1, m2.2.2⟩, ⟨nlc hal7, nlc hh7⟩⟩
    · rintro σ H' ⟨ds, hs, t4, t5, t6, t7, t8, t9, t10, rfl, hds, S, hh, hhl, hPr, hsl⟩
      refine ⟨_, rfl, hl, rfl, ⟨_, SqL.of hh⟩, comp_pure (J := Itl K hl) (k := 1) (n := hs.length) (fun _ => false) (fun i => hs.getD i .non) (by rw [sizeLine_eq]; omega) (fun i H3 hi s4 => ⟨hs, hs[i], SqL.of (s4 _ _ hh), by simp [hi]⟩) (fun H3 s4 => ⟨hs, SqL.of (s4 _ _ hh), Nat.le_refl _⟩) ?_ ?_⟩
      · intro i H3 t x H4 U hi s4 ht y hU
        obtain ⟨t0, rfl⟩ := one_slot ht
        obtain ⟨rfl, hy⟩ := y
        have hv := hy _ (SqL.of (s4 _ _ hh))
        have hx : x ∈ hs := List.mem_of_getElem? hv
        obtain ⟨q, l1, l2, us, rfl, h1, h2, h3, hu, _⟩ := (hPr x hx).same s4
        refine ⟨_, rfl, q, _, _, .ref l1, rfl, rfl, SqL.of h1, atI_nat (j := 0) rfl, _, rfl, q, _, _, .ref l2, rfl, rfl, SqL.of h1, atI_nat (j := 1) rfl, l1, l2, us, us, 0, rfl, rfl, SqL.of h2, SqL.of h3, rfl, fun i x y e1 e2 => ?_, by decide, _, rfl, iteF (hU [_] _ rfl (Same.refl _))⟩
        rw [e1] at e2
        cases e2
        obtain ⟨p, rfl⟩ := hu x (List.mem_of_getElem? e1)
        exact .ref p
      · intro D H5 s5 hD hd
        refine ⟨tiny (by show 0 ≤ 1000; decide), fun e0 he0 => ?_⟩
        have s6 := same_upd (o := HO.lst []) he0
        refine ⟨D, e0, _, rfl, rfl, SqL.of (s6 _ _ hd), SqL.of upd_same, ?_⟩
        have ee : (((List.range hs.length).filter fun _ => false).map fun i => hs.getD i .non) = [] := by simp
        rw [ee]
        exact k _
end
end K1
set_option Elab.async false
set_option linter.all false
set_option maxRecDepth 100000
set_option maxHeartbeats 4000000
namespace K1
open PySem L2 Kp
/-! ### an object's values, by their names -/
theorem lk_ne {f g : Str} {v : V} {fs : List (Str × V)} {x : Option V} (h : ¬ g = f) (e : fs.lookup g = x) : (L2.putF f v fs).lookup g = x := by rw [L2.lookup_putF, if_neg h]; exact e
theorem lk_eq {f : Str} {v : V} {fs : List (Str × V)} : (L2.putF f v fs).lookup f = some v := by rw [L2.lookup_putF, if_pos rfl]
def kpN : List Str := ["number", "term", "voice", "pack", "row", "way", "voices", "head", "waits", "nexts", "held", "agreed", "store"]
structure FsOk (fs : List (Str × V)) : Prop where
  nd : (fs.map (·.1)).Nodup
  inN : ∀ x ∈ fs.map (·.1), x ∈ kpN
theorem keys_put {f : Str} {v : V} : ∀ {fs : List (Str × V)} {x : Str}, x ∈ (L2.putF f v fs).map (·.1) → x ∈ fs.map (·.1) ∨ x = f
  | [], x, h => .inr (List.mem_singleton.mp h)
  | (g, y) :: r, x, h => by
    unfold L2.putF at h
    by_cases e : g = f
    · rw [if_pos e] at h
      exact .inl h
    · rw [if_neg e, List.map_cons] at h
      rcases List.mem_cons.mp h with h | h
      · exact .inl (List.mem_cons.mpr (.inl h))
      · rcases keys_put h with h | h
        · exact .inl (List.mem_cons.mpr (.inr h))
        · exact .inr h
theorem nd_put {f : Str} {v : V} : ∀ {fs : List (Str × V)}, (fs.map (·.1)).Nodup → ((L2.putF f v fs).map (·.1)).Nodup
  | [], _ => List.nodup_cons.mpr ⟨List.not_mem_nil, List.nodup_nil⟩
  | (g, y) :: r, h => by
    unfold L2.putF
    by_cases e : g = f
    · rw [if_pos e]
      exact h
    · rw [if_neg e, List.map_cons, List.nodup_cons]
      rw [List.map_cons, List.nodup_cons] at h
      refine ⟨fun hm => ?_, nd_put h.2⟩
      rcases keys_put hm with hm | hm
      · exact h.1 hm
      · exact e hm
theorem FsOk.nil : FsOk [] := ⟨List.nodup_nil, fun x h => absurd h List.not_mem_nil⟩
theorem FsOk.put {f : Str} {v : V} {fs : List (Str × V)} (h : FsOk fs) (hf : f ∈ kpN) : FsOk (L2.putF f v fs) := ⟨nd_put h.nd, fun x hx => by
  rcases keys_put hx with hx | rfl
  · exact h.inN x hx
  · exact hf⟩
theorem FsOk.len {fs : List (Str × V)} (h : FsOk fs) : fs.length < 1000 := by
  have := nodup_len _ kpN h.nd h.inN
  rw [List.length_map] at this
  have e : kpN.length = 13 := rfl
  omega
theorem lk_none : ∀ {fs : List (Str × V)} {g : Str}, ¬ g ∈ fs.map (·.1) → fs.lookup g = none
  | [], _, _ => rfl
  | (k, y) :: r, g, h => by
    rw [List.map_cons, List.mem_cons] at h
    have hb : (g == k) = false := beq_eq_false_iff_ne.mpr fun e => h (.inl e)
    simp only [List.lookup, hb]
    exact lk_none fun hm => h (.inr hm)
theorem FsOk.no {fs : List (Str × V)} {g : Str} (h : FsOk fs) (hg : ¬ g ∈ kpN) : fs.lookup g = none := lk_none fun hm => hg (h.inN _ hm)
end K1
set_option Elab.async false
set_option linter.all false
set_option maxRecDepth 100000
set_option maxHeartbeats 4000000
namespace K1
open PySem L2 Kp
/-! ### an object's values, by a list of names -/
structure FsN (N : List Str) (fs : List (Str × V)) : Prop where
  nd : (fs.map (·.1)).Nodup
  inN : ∀ x ∈ fs.map (·.1), x ∈ N
theorem FsN.nil {N : List Str} : FsN N [] := ⟨List.nodup_nil, fun x h => absurd h List.not_mem_nil⟩
theorem FsN.put {N : List Str} {f : Str} {v : V} {fs : List (Str × V)} (h : FsN N fs) (hf : f ∈ N) : FsN N (L2.putF f v fs) := ⟨nd_put h.nd, fun x hx => by
  rcases keys_put hx with hx | rfl
  · exact h.inN x hx
  · exact hf⟩
theorem FsN.len {N : List Str} {fs : List (Str × V)} (h : FsN N fs) (hN : N.length ≤ 100) : fs.length < 1000 := by
  have := nodup_len _ N h.nd h.inN
  rw [List.length_map] at this
  omega
theorem FsN.no {N : List Str} {fs : List (Str × V)} {g : Str} (h : FsN N fs) (hg : ¬ g ∈ N) : fs.lookup g = none := lk_none fun hm => hg (h.inN _ hm)
def caN : List Str := ["name", "number", "waits", "deed", "asks", "told"]
theorem FsC.put_number {fs : List (Str × V)} {c : Acc} {ud : V} {l : Addr} (h : FsC fs c ud l) (z : Int) : FsC (L2.putF "number" (.int z) fs) { c with num := z } ud l :=
  ⟨lk_ne (by decide +kernel) h.name, lk_eq, lk_ne (by decide +kernel) h.waits, lk_ne (by decide +kernel) h.deed, lk_ne (by decide +kernel) h.asks, lk_ne (by decide +kernel) h.told, lk_ne (by decide +kernel) h.n1, lk_ne (by decide +kernel) h.n2, lk_ne (by decide +kernel) h.n3, lk_ne (by decide +kernel) h.n4⟩
theorem FsC.put_waits {fs : List (Str × V)} {c : Acc} {ud : V} {l : Addr} (h : FsC fs c ud l) (z : Bool) : FsC (L2.putF "waits" (.bl z) fs) { c with wt := z } ud l :=
  ⟨lk_ne (by decide +kernel) h.name, lk_ne (by decide +kernel) h.number, lk_eq, lk_ne (by decide +kernel) h.deed, lk_ne (by decide +kernel) h.asks, lk_ne (by decide +kernel) h.told, lk_ne (by decide +kernel) h.n1, lk_ne (by decide +kernel) h.n2, lk_ne (by decide +kernel) h.n3, lk_ne (by decide +kernel) h.n4⟩
theorem FsC.put_asks {fs : List (Str × V)} {c : Acc} {ud : V} {l : Addr} (h : FsC fs c ud l) (z : Int) : FsC (L2.putF "asks" (.int z) fs) { c with asks := z } ud l :=
  ⟨lk_ne (by decide +kernel) h.name, lk_ne (by decide +kernel) h.number, lk_ne (by decide +kernel) h.waits, lk_ne (by decide +kernel) h.deed, lk_eq, lk_ne (by decide +kernel) h.told, lk_ne (by decide +kernel) h.n1, lk_ne (by decide +kernel) h.n2, lk_ne (by decide +kernel) h.n3, lk_ne (by decide +kernel) h.n4⟩
theorem FsC.put_deed {fs : List (Str × V)} {c : Acc} {ud : V} {l : Addr} (h : FsC fs c ud l) (u : V) (d : Option Deed) : FsC (L2.putF "deed" (u) fs) { c with deed := d } u l :=
  ⟨lk_ne (by decide +kernel) h.name, lk_ne (by decide +kernel) h.number, lk_ne (by decide +kernel) h.waits, lk_eq, lk_ne (by decide +kernel) h.asks, lk_ne (by decide +kernel) h.told, lk_ne (by decide +kernel) h.n1, lk_ne (by decide +kernel) h.n2, lk_ne (by decide +kernel) h.n3, lk_ne (by decide +kernel) h.n4⟩
theorem FsC.put_told {fs : List (Str × V)} {c : Acc} {ud : V} {l : Addr} (h : FsC fs c ud l) (k : Addr) (ts : List (Int × Int)) : FsC (L2.putF "told" (.ref k) fs) { c with told := ts } ud k :=
  ⟨lk_ne (by decide +kernel) h.name, lk_ne (by decide +kernel) h.number, lk_ne (by decide +kernel) h.waits, lk_ne (by decide +kernel) h.deed, lk_ne (by decide +kernel) h.asks, lk_eq, lk_ne (by decide +kernel) h.n1, lk_ne (by decide +kernel) h.n2, lk_ne (by decide +kernel) h.n3, lk_ne (by decide +kernel) h.n4⟩
theorem OffC.refl {a : Addr} {H : Hp} : OffC a H H := fun b o _ e => e
theorem OffC.trans {a : Addr} {H H' H2 : Hp} (h : OffC a H H') (h' : OffC a H' H2) : OffC a H H2 := fun b o n e => h' b o n (h b o n e)
theorem offC_upd {a : Addr} {H : Hp} {o : HO} : OffC a H (upd H a o) := fun b u n e => by rw [upd_ne n]; exact e
theorem offC_same {a : Addr} {H H' : Hp} (s : Same H H') : OffC a H H' := fun b u _ e => s _ _ e
end K1
set_option Elab.async false
set_option linter.all false
set_option maxRecDepth 100000
set_option maxHeartbeats 4000000
namespace K1
open PySem L2 Kp
section
variable {P : Program} {w : World} {K : PySem.W.Frag} {mg : Str → Option Value} {base : Heap}
structure CaC (K : PySem.W.Frag) (C : Addr) : Prop where
  cl : Cls K C
  a_name : NoAttr K C "name"
  a_number : NoAttr K C "number"
  a_waits : NoAttr K C "waits"
  a_deed : NoAttr K C "deed"
  a_asks : NoAttr K C "asks"
  a_told : NoAttr K C "told"
abbrev ExC : List (Str × V) → Prop := FsN caN
theorem caN_len : caN.length ≤ 100 := by decide
theorem scCg : FnScope ["self"] ["self"] (defScope s_Caller_again) := ⟨rfl, rfl, rfl, by decide +kernel, rfl, by decide +kernel, by decide +kernel⟩
theorem ok_cagain {f : Addr} {fd : FuncData} {C : Addr} (Y : CaC K C) (F : Fun K "again" "Caller.again" s_Caller_again f fd) : FnOk P w K mg base CX0 1 f fd ["self"] (spCAgain ExC C) := by
  refine F.ok scCg (fun vs H Q E ⟨_, _, _, e, _⟩ => by subst e; rfl) (fun cdv A outer s H vs Q E hr h => ?_)
  obtain ⟨a, l, c, rfl, hC, q⟩ := h
  refine ⟨_, @pss_p _ _ _ _ _ (ps_if (pt_not (pt_val (pe_fld (pv 0) (by rfl)))) (@pss_o _ _ _ (ps_ret (pe_lst pa_nil))) pss_nil)
    (@pss_o _ _ _ (ps_ret (pe_lst (pa_t (QE.h (qx_tup (qa_str (qa_a (pe_fld (pv 0) (by rfl)) (qa_a (pe_fld (pv 0) (by rfl)) (qa_a (pe_fld (pv 0) (by rfl)) (qa_a (pe_fld (pv 0) (by rfl)) qa_nil)))))))  pa_nil)))), ?_⟩
  have hC' := hC
  obtain ⟨dx, fs, ud, us, ha, hF, hE, hDe, hl, hPl⟩ := hC'
  refine ⟨_, rfl, a, C, dx, fs, _, rfl, ha, Y.cl, Y.a_waits, hF.waits, _, rfl, ?_⟩
  cases hw : c.wt with
  | true =>
    rw [hw] at q
    refine iteF ⟨_, rfl, a, C, dx, fs, _, rfl, ha, Y.cl, Y.a_name, hF.name, _, rfl, a, C, dx, fs, _, rfl, ha, Y.cl, Y.a_asks, hF.asks, _, rfl, a, C, dx, fs, _, rfl, ha, Y.cl, Y.a_number, hF.number, _, rfl, a, C, dx, fs, _, rfl, ha, Y.cl, Y.a_deed, hF.deed, tiny (by show 5 ≤ 1000; decide), fun p hp => ⟨tiny (by show 1 ≤ 1000; decide), fun r hr1 => ?_⟩⟩
    have s1 := same_upd (o := HO.tup [V.str "wish", V.str c.nm, V.int c.asks, V.int c.num, ud]) hp
    have s5 := same_upd (o := HO.lst [V.ref p]) hr1
    have s15 := s1.trans s5
    refine q r [.ref p] _ (hC.same s15) upd_same ⟨_, rfl, p, ud, rfl, s5 _ _ upd_same, hDe.sameT (sameT_of s15)⟩ ?_ (offC_same s15)
    cases e : H r with
    | none => rfl
    | some o => rw [s1 _ _ e] at hr1; cases hr1
  | false =>
    rw [hw] at q
    refine iteT ⟨tiny (by show 0 ≤ 1000; decide), fun r hr1 => ?_⟩
    have s1 := same_upd (o := HO.lst []) hr1
    exact q r [] _ (hC.same s1) upd_same rfl hr1 (offC_same s1)
theorem scCw : FnScope ["self", "deed"] ["self", "deed"] (defScope s_Caller_wish) := ⟨rfl, rfl, rfl, by decide +kernel, rfl, by decide +kernel, by decide +kernel⟩
theorem ok_cwish {f fL : Addr} {fd dL : FuncData} {C : Addr} (Y : CaC K C) (F : Fun K "wish" "Caller.wish" s_Caller_wish f fd) (ML : Meth K C "again" fL) (FL : FnOk P w K mg base CX0 1 fL dL ["self"] (spCAgain ExC C)) (bL : Binds K dL ["self"] []) : FnOk P w K mg base CX0 2 f fd ["self", "deed"] (spCWish ExC C) := by
  refine F.ok scCw (fun vs H Q E ⟨_, _, _, _, _, e, _⟩ => by subst e; rfl) (fun cdv A outer s H vs Q E hr h => ?_)
  obtain ⟨a, l, c, v, d, rfl, hC, hd, q⟩ := h
  refine ⟨_, @pss_p _ _ _ _ _ (ps_if (pt_val (pe_fld (pv 0) (by rfl))) (@pss_o _ _ _ (ps_ret (pe_lst pa_nil))) pss_nil)
    (@pss_p _ _ _ _ _ (ps_fld (pv 0) (pe_op op_add (pe_fld (pv 0) (by rfl)) (pe_int)) (by rfl))
    (@pss_p _ _ _ _ _ (ps_fld (pv 0) (pe_bl) (by rfl))
    (@pss_p _ _ _ _ _ (ps_fld (pv 0) (pv 1) (by rfl))
    (@pss_o _ _ _ (ps_ret (pe_meth0 (pv 0) Y.cl ML FL hr bL .nil pass0)))))), ?_⟩
  have hC' := hC
  obtain ⟨dx, fs, ud, us, ha, hF, hE, hDe, hl, hPl⟩ := hC'
  refine ⟨_, rfl, a, C, dx, fs, _, rfl, ha, Y.cl, Y.a_waits, hF.waits, _, rfl, ?_⟩
  unfold wishF at q
  cases hw : c.wt with
  | true =>
    rw [hw] at q
    refine iteT ⟨tiny (by show 0 ≤ 1000; decide), fun r hr1 => ?_⟩
    have s1 := same_upd (o := HO.lst []) hr1
    exact q r [] _ (hC.same s1) upd_same rfl hr1 (offC_same s1)
  | false =>
    rw [hw] at q
    have nl : l ≠ a := fun z => by rw [z, ha] at hl; cases hl
    refine iteF ⟨_, rfl, a, C, dx, fs, _, rfl, ha, Y.cl, Y.a_number, hF.number, _, _, rfl, rfl, _, rfl, a, C, dx, fs, rfl, ha, Y.cl, Y.a_number, hE.len caN_len, ?_⟩
    have F1 := hF.put_number (c.num + 1)
    have E1 := hE.put (f := "number") (v := .int (c.num + 1)) (by decide +kernel)
    refine ⟨_, rfl, a, C, dx, _, rfl, upd_same, Y.cl, Y.a_waits, E1.len caN_len, ?_⟩
    have F2 := F1.put_waits true
    have E2 := E1.put (f := "waits") (v := .bl true) (by decide +kernel)
    refine ⟨_, rfl, _, rfl, a, C, dx, _, rfl, upd_same, Y.cl, Y.a_deed, E2.len caN_len, ?_⟩
    have F3 := F2.put_deed v (some d)
    have E3 := E2.put (f := "deed") (v := v) (by decide +kernel)
    have o3 : OffC a H (upd (upd (upd H a (.ins C dx (L2.putF "number" (.int (c.num + 1)) fs))) a (.ins C dx (L2.putF "waits" (.bl true) (L2.putF "number" (.int (c.num + 1)) fs)))) a (.ins C dx (L2.putF "deed" v (L2.putF "waits" (.bl true) (L2.putF "number" (.int (c.num + 1)) fs))))) := offC_upd.trans (offC_upd.trans offC_upd)
    have ha3 : (upd (upd (upd H a (.ins C dx (L2.putF "number" (.int (c.num + 1)) fs))) a (.ins C dx (L2.putF "waits" (.bl true) (L2.putF "number" (.int (c.num + 1)) fs)))) a (.ins C dx (L2.putF "deed" v (L2.putF "waits" (.bl true) (L2.putF "number" (.int (c.num + 1)) fs))))) a = some (.ins C dx (L2.putF "deed" v (L2.putF "waits" (.bl true) (L2.putF "number" (.int (c.num + 1)) fs)))) := upd_same
    generalize upd (upd (upd H a (.ins C dx (L2.putF "number" (.int (c.num + 1)) fs))) a (.ins C dx (L2.putF "waits" (.bl true) (L2.putF "number" (.int (c.num + 1)) fs)))) a (.ins C dx (L2.putF "deed" v (L2.putF "waits" (.bl true) (L2.putF "number" (.int (c.num + 1)) fs)))) = H3 at o3 ha3
    have sT := o3.tups ha
    have hC3 : CaV ExC C H3 a l { c with num := c.num + 1, wt := true, deed := some d } := ⟨dx, _, v, us, ha3, F3, E3, hd.sameT sT, o3 _ _ nl hl, hPl.sameT sT⟩
    refine ⟨_, rfl, a, dx, _, rfl, ha3, E3.no (by decide +kernel), a, l, _, rfl, hC3, fun r ys H4 hC4 hr4 hL4 n4 o4 => ?_⟩
    refine q r ys H4 hC4 hr4 hL4 ?_ (o3.trans o4)
    cases e : H r with
    | none => rfl
    | some o =>
      by_cases hra : r = a
      · rw [hra, ha3] at n4; cases n4
      · rw [o3 _ _ hra e] at n4; cases n4
theorem scCt : FnScope ["self", "letter"] ["self", "letter"] (defScope s_Caller_take_told) := ⟨rfl, rfl, rfl, by decide +kernel, rfl, by decide +kernel, by decide +kernel⟩
theorem ok_ctold {f : Addr} {fd : FuncData} {C : Addr} (Y : CaC K C) (F : Fun K "take_told" "Caller.take_told" s_Caller_take_told f fd) : FnOk P w K mg base CX0 1 f fd ["self", "letter"] (spCTold ExC C) := by
  refine F.ok scCt (fun vs H Q E ⟨_, _, _, _, _, _, _, _, e, _⟩ => by subst e; rfl) (fun cdv A outer s H vs Q E hr h => ?_)
  obtain ⟨a, l, c, v, k, nm, n, z, rfl, hC, ⟨p, rfl, hp⟩, hln, q⟩ := h
  refine ⟨_, @pss_o _ _ _ (ps_if (PW.pt (pw_and (pt_val (pe_fld (pv 0) (by rfl))) (pw_and1 (pt_cmpR op_eq (pe_ix ix_tup (pv 1) (pe_int) px_i) (pe_fld (pv 0) (by rfl)) (nomark _))))) (@pss_p _ _ _ _ _ (ps_fld (pv 0) (pe_op op_cat (pe_fld (pv 0) (by rfl)) (pe_lst (pa_t (QE.h (qx_tup (qa_s (pe_ix ix_tup (pv 1) (pe_int) px_i) (qa_s (pe_ix ix_tup (pv 1) (pe_int) px_i) qa_nil)))) pa_nil))) (by rfl))
    (@pss_o _ _ _ (ps_fld (pv 0) (pe_bl) (by rfl)))) pss_nil), ?_⟩
  have hC' := hC
  obtain ⟨dx, fs, ud, us, ha, hF, hE, hDe, hl, hPl⟩ := hC'
  have nl : l ≠ a := fun z => by rw [z, ha] at hl; cases hl
  refine ⟨_, rfl, a, C, dx, fs, _, rfl, ha, Y.cl, Y.a_waits, hF.waits, _, rfl, ?_⟩
  unfold toldF at q
  cases hw : c.wt with
  | false =>
    rw [if_neg (by rw [hw]; exact fun g => absurd g.1 (by decide))] at q
    exact iteF (iteF (q l H hC (.inl rfl) OffC.refl))
  | true =>
    refine iteT ⟨_, rfl, p, _, _, .int n, rfl, rfl, SqT.of hp, atI_nat (j := 3) rfl, _, rfl, a, C, dx, fs, _, rfl, ha, Y.cl, Y.a_number, hF.number, rfl, _, rfl, ?_⟩
    by_cases hn : n = c.num
    · rw [if_pos ⟨hw, hn⟩] at q
      rw [decide_eq_true (congrArg V.int hn)]
      refine iteT ⟨_, rfl, a, C, dx, fs, _, rfl, ha, Y.cl, Y.a_told, hF.told, _, rfl, p, _, _, .int n, rfl, rfl, SqT.of hp, atI_nat (j := 3) rfl, _, rfl, p, _, _, .int z, rfl, rfl, SqT.of hp, atI_nat (j := 4) rfl, tiny (by show 2 ≤ 1000; decide), fun t2 ht2 => ⟨tiny (by show 1 ≤ 1000; decide), fun t3 ht3 => ?_⟩⟩
      have s5 := same_upd (o := HO.tup [V.int n, V.int z]) ht2
      have s6 := same_upd (o := HO.lst [V.ref t2]) ht3
      have s56 := s5.trans s6
      refine ⟨l, t3, us, [V.ref t2], rfl, rfl, s56 _ _ hl, upd_same, by rw [sizeLine_eq, hPl.length]; show _ + 1 ≤ _; omega, fun t4 ht4 => ?_⟩
      have s7 := same_upd (o := HO.lst (us ++ [V.ref t2])) ht4
      have s57 := s56.trans s7
      have n4 : H t4 = none := by
        cases e : H t4 with
        | none => rfl
        | some o => rw [s56 _ _ e] at ht4; cases ht4
      have hPL := (hPl.sameT (sameT_of s57)).append (.cons ((s6.trans s7) _ _ (upd_same (H := H) (a := t2) (o := HO.tup [V.int n, V.int z]))) .nil)
      have h47 : upd (upd (upd H t2 (.tup [V.int n, V.int z])) t3 (.lst [V.ref t2])) t4 (.lst (us ++ [V.ref t2])) t4 = some (.lst (us ++ [V.ref t2])) := upd_same
      have hDe7 := hDe.sameT (sameT_of s57)
      have ha7 := s57 _ _ ha
      generalize upd (upd (upd H t2 (.tup [V.int n, V.int z])) t3 (.lst [V.ref t2])) t4 (.lst (us ++ [V.ref t2])) = H7 at s57 hPL h47 hDe7 ha7
      have n4a : t4 ≠ a := fun e => by rw [e, ha] at n4; cases n4
      refine ⟨_, rfl, a, C, dx, fs, rfl, ha7, Y.cl, Y.a_told, hE.len caN_len, ?_⟩
      have F1 := hF.put_told t4 (c.told ++ [(n, z)])
      have E1 := hE.put (f := "told") (v := .ref t4) (by decide +kernel)
      refine ⟨_, rfl, a, C, dx, _, rfl, upd_same, Y.cl, Y.a_waits, E1.len caN_len, ?_⟩
      have F2 := F1.put_waits false
      have E2 := E1.put (f := "waits") (v := .bl false) (by decide +kernel)
      have o9 : OffC a H7 (upd (upd H7 a (.ins C dx (L2.putF "told" (.ref t4) fs))) a (.ins C dx (L2.putF "waits" (.bl false) (L2.putF "told" (.ref t4) fs)))) := offC_upd.trans offC_upd
      have sT := o9.tups ha7
      exact q t4 _ ⟨dx, _, ud, _, upd_same, F2, E2, hDe7.sameT sT, o9 _ _ n4a h47, hPL.sameT sT⟩ (.inr n4) ((offC_same s57).trans o9)
    · rw [if_neg (fun g => hn g.2)] at q
      rw [decide_eq_false (fun e : V.int n = V.int c.num => hn (by injection e))]
      exact iteF (q l H hC (.inl rfl) OffC.refl)
theorem scCa : FnScope ["self", "letter"] ["self", "letter"] (defScope s_Caller_take_away) := ⟨rfl, rfl, rfl, by decide +kernel, rfl, by decide +kernel, by decide +kernel⟩
theorem ok_caway {f : Addr} {fd : FuncData} {C : Addr} (Y : CaC K C) (F : Fun K "take_away" "Caller.take_away" s_Caller_take_away f fd) : FnOk P w K mg base CX0 1 f fd ["self", "letter"] (spCAway ExC C) := by
  refine F.ok scCa (fun vs H Q E ⟨_, _, _, _, _, _, _, _, e, _⟩ => by subst e; rfl) (fun cdv A outer s H vs Q E hr h => ?_)
  obtain ⟨a, l, c, v, k, nm, n, hd, rfl, hC, ⟨p, rfl, hp⟩, q⟩ := h
  refine ⟨_, @pss_o _ _ _ (ps_if (pt_cmpR op_notN (pe_ix ix_tup (pv 1) (pe_int) px_i) pe_non (nomark _)) (@pss_o _ _ _ (ps_fld (pv 0) (pe_ix ix_tup (pv 1) (pe_int) px_i) (by rfl))) pss_nil), ?_⟩
  have hC' := hC
  obtain ⟨dx, fs, ud, us, ha, hF, hE, hDe, hl, hPl⟩ := hC'
  have nl : l ≠ a := fun z => by rw [z, ha] at hl; cases hl
  cases hd with
  | none =>
    refine ⟨_, rfl, p, _, _, .non, rfl, rfl, SqT.of hp, atI_nat (j := 4) rfl, rfl, _, rfl, ?_⟩
    exact iteF (q H hC OffC.refl)
  | some i =>
    refine ⟨_, rfl, p, _, _, .int i, rfl, rfl, SqT.of hp, atI_nat (j := 4) rfl, rfl, _, rfl, ?_⟩
    refine iteT ⟨_, rfl, p, _, _, .int i, rfl, rfl, SqT.of hp, atI_nat (j := 4) rfl, _, rfl, a, C, dx, fs, rfl, ha, Y.cl, Y.a_asks, hE.len caN_len, ?_⟩
    have o1 : OffC a H (upd H a (.ins C dx (L2.putF "asks" (.int i) fs))) := offC_upd
    have sT := o1.tups ha
    exact q _ ⟨dx, _, ud, us, upd_same, hF.put_asks i, hE.put (by decide +kernel), hDe.sameT sT, o1 _ _ nl hl, hPl.sameT sT⟩ o1
theorem scCi : FnScope ["self", "name", "keeper"] ["self", "name", "keeper"] (defScope s_Caller___init__) := ⟨rfl, rfl, rfl, by decide +kernel, rfl, by decide +kernel, by decide +kernel⟩
theorem ok_cinit {f : Addr} {fd : FuncData} {C : Addr} (Y : CaC K C) (F : Fun K "__init__" "Caller.__init__" s_Caller___init__ f fd) : FnOk P w K mg base CX0 1 f fd ["self", "name", "keeper"] (spCInit ExC C) := by
  refine F.ok scCi (fun vs H Q E ⟨_, _, _, _, e, _⟩ => by subst e; rfl) (fun cdv A outer s H vs Q E hr h => ?_)
  obtain ⟨x, dx, nm, k, rfl, hx, q⟩ := h
  refine ⟨_, @pss_p _ _ _ _ _ (ps_fld (pv 0) (pv 1) (by rfl))
    (@pss_p _ _ _ _ _ (ps_fld (pv 0) (pe_int) (by rfl))
    (@pss_p _ _ _ _ _ (ps_fld (pv 0) (pe_bl) (by rfl))
    (@pss_p _ _ _ _ _ (ps_fld (pv 0) (pe_non) (by rfl))
    (@pss_p _ _ _ _ _ (ps_fld (pv 0) (pv 2) (by rfl))
    (@pss_o _ _ _ (ps_fld (pv 0) (pe_lst pa_nil) (by rfl))))))), ?_⟩
  have E0 : FsN caN [] := FsN.nil
  have E1 := E0.put (f := "name") (v := .str nm) (by decide +kernel)
  have E2 := E1.put (f := "number") (v := .int 0) (by decide +kernel)
  have E3 := E2.put (f := "waits") (v := .bl false) (by decide +kernel)
  have E4 := E3.put (f := "deed") (v := .non) (by decide +kernel)
  have E5 := E4.put (f := "asks") (v := .int k) (by decide +kernel)
  refine ⟨_, rfl, _, rfl, x, C, dx, _, rfl, hx, Y.cl, Y.a_name, E0.len caN_len, ?_⟩
  refine ⟨_, rfl, x, C, dx, _, rfl, upd_same, Y.cl, Y.a_number, E1.len caN_len, ?_⟩
  refine ⟨_, rfl, x, C, dx, _, rfl, upd_same, Y.cl, Y.a_waits, E2.len caN_len, ?_⟩
  refine ⟨_, rfl, x, C, dx, _, rfl, upd_same, Y.cl, Y.a_deed, E3.len caN_len, ?_⟩
  refine ⟨_, rfl, _, rfl, x, C, dx, _, rfl, upd_same, Y.cl, Y.a_asks, E4.len caN_len, ?_⟩
  refine ⟨tiny (by show 0 ≤ 1000; decide), fun l hl => ?_⟩
  have nx : x ≠ l := fun z => by rw [← z, upd_same] at hl; cases hl
  refine ⟨_, rfl, x, C, dx, _, rfl, (by rw [upd_ne nx]; exact upd_same), Y.cl, Y.a_told, E5.len caN_len, ?_⟩
  have E6 := E5.put (f := "told") (v := .ref l) (by decide +kernel)
  have nl : H l = none := by
    cases e : H l with
    | none => rfl
    | some o => exact absurd hl (by rw [upd_ne nx.symm, upd_ne nx.symm, upd_ne nx.symm, upd_ne nx.symm, upd_ne nx.symm, e]; intro q; cases q)
  refine q l _ ⟨dx, _, .non, [], upd_same, ⟨lk_ne (by decide +kernel) (lk_ne (by decide +kernel) (lk_ne (by decide +kernel) (lk_ne (by decide +kernel) (lk_ne (by decide +kernel) (lk_eq))))), lk_ne (by decide +kernel) (lk_ne (by decide +kernel) (lk_ne (by decide +kernel) (lk_ne (by decide +kernel) (lk_eq)))), lk_ne (by decide +kernel) (lk_ne (by decide +kernel) (lk_ne (by decide +kernel) (lk_eq))), lk_ne (by decide +kernel) (lk_ne (by decide +kernel) (lk_eq)), lk_ne (by decide +kernel) (lk_eq), lk_eq, lk_ne (by decide +kernel) (lk_ne (by decide +kernel) (lk_ne (by decide +kernel) (lk_ne (by decide +kernel) (lk_ne (by decide +kernel) (lk_ne (by decide +kernel) (rfl)))))), lk_ne (by decide +kernel) (lk_ne (by decide +kernel) (lk_ne (by decide +kernel) (lk_ne (by decide +kernel) (lk_ne (by decide +kernel) (lk_ne (by decide +kernel) (rfl)))))), lk_ne (by decide +kernel) (lk_ne (by decide +kernel) (lk_ne (by decide +kernel) (lk_ne (by decide +kernel) (lk_ne (by decide +kernel) (lk_ne (by decide +kernel) (rfl)))))), lk_ne (by decide +kernel) (lk_ne (by decide +kernel) (lk_ne (by decide +kernel) (lk_ne (by decide +kernel) (lk_ne (by decide +kernel) (lk_ne (by decide +kernel) (rfl))))))⟩, E6, rfl, by rw [upd_ne nx.symm]; exact upd_same, .nil⟩ nl fun b o hb e => ?_
  rw [upd_ne hb, upd_ne (fun z => by rw [z, nl] at e; cases e), upd_ne hb, upd_ne hb, upd_ne hb, upd_ne hb, upd_ne hb]
  exact e
end
end K1
set_option Elab.async false
set_option linter.all false
set_option maxRecDepth 100000
set_option maxHeartbeats 4000000
namespace K1
open PySem L2 Kp
theorem cal {P : Program} {w : World} {K : PySem.W.Frag} {mg : Str → Option Value} {base : Heap} {x : Str} {st : Stmt} {f : Addr} {fd : FuncData} {ps : List Str} {k : Nat} {sp : Sp} (F : Fun K x x st f fd) (hm : mg x = some (.ref f)) (b : Binds K fd ps []) (ok : FnOk P w K mg base CX0 k f fd ps sp) : Cal P w K mg base x k ps sp := ⟨f, fd, ok, hm, F.kp, b⟩
theorem all_mk {l : PySem.W.OpenLaw} {w : World} {K : PySem.W.Frag} {h : Heap} {mg : Str → Option Value} {fa f0 f1 f2 f3 f4 f5 f6 f7 f8 f9 : Addr} (X : K.In h) (G : h.Ns mainGlobals mg) (hfa : mg "law" = some (.ref fa))
    {od0 an0 od1 an1 od2 an2 od3 an3 od4 an4 od5 an5 od6 an6 od7 an7 od8 an8 od9 an9 : Option Addr} {sl0 sl1 sl2 sl3 sl4 sl5 sl6 sl7 sl8 sl9 : Array (Option Value)} {oc0 kV0 dc0 pm0 cd0 ct0 oc1 kV1 dc1 pm1 cd1 ct1 oc2 kV2 dc2 pm2 cd2 ct2 oc3 kV3 dc3 pm3 cd3 ct3 oc4 kV4 dc4 pm4 cd4 ct4 oc5 kV5 dc5 pm5 cd5 ct5 oc6 kV6 dc6 pm6 cd6 ct6 oc7 kV7 dc7 pm7 cd7 ct7 oc8 kV8 dc8 pm8 cd8 ct8 oc9 kV9 dc9 pm9 cd9 ct9 : Value}
    (a0 : PySem.W.nsIn K mainGlobals "_law_cell_at" = some (some (.ref f0))) (l0 : K.lookup f0 = some ⟨oc0, od0, .func (PySem.W.fnOf "_law_cell_at" "_law_cell_at" (defArgs sCell) (defBody sCell) (defScope sCell) .none kV0 dc0 pm0 an0 cd0 ct0), sl0⟩) (c0 : PySem.W.codeIn K cd0 "_law_cell_at" = true) (k0 : PySem.W.keepIn K (.ref f0) = true)
    (a1 : PySem.W.nsIn K mainGlobals "_law_whole" = some (some (.ref f1))) (l1 : K.lookup f1 = some ⟨oc1, od1, .func (PySem.W.fnOf "_law_whole" "_law_whole" (defArgs s__law_whole) (defBody s__law_whole) (defScope s__law_whole) .none kV1 dc1 pm1 an1 cd1 ct1), sl1⟩) (c1 : PySem.W.codeIn K cd1 "_law_whole" = true) (k1 : PySem.W.keepIn K (.ref f1) = true)
    (a2 : PySem.W.nsIn K mainGlobals "_law_name_by" = some (some (.ref f2))) (l2 : K.lookup f2 = some ⟨oc2, od2, .func (PySem.W.fnOf "_law_name_by" "_law_name_by" (defArgs sNameBy) (defBody sNameBy) (defScope sNameBy) .none kV2 dc2 pm2 an2 cd2 ct2), sl2⟩) (c2 : PySem.W.codeIn K cd2 "_law_name_by" = true) (k2 : PySem.W.keepIn K (.ref f2) = true)
    (a3 : PySem.W.nsIn K mainGlobals "_law_bounded" = some (some (.ref f3))) (l3 : K.lookup f3 = some ⟨oc3, od3, .func (PySem.W.fnOf "_law_bounded" "_law_bounded" (defArgs s__law_bounded) (defBody s__law_bounded) (defScope s__law_bounded) .none kV3 dc3 pm3 an3 cd3 ct3), sl3⟩) (c3 : PySem.W.codeIn K cd3 "_law_bounded" = true) (k3 : PySem.W.keepIn K (.ref f3) = true)
    (a4 : PySem.W.nsIn K mainGlobals "_law_deed_by" = some (some (.ref f4))) (l4 : K.lookup f4 = some ⟨oc4, od4, .func (PySem.W.fnOf "_law_deed_by" "_law_deed_by" (defArgs s__law_deed_by) (defBody s__law_deed_by) (defScope s__law_deed_by) .none kV4 dc4 pm4 an4 cd4 ct4), sl4⟩) (c4 : PySem.W.codeIn K cd4 "_law_deed_by" = true) (k4 : PySem.W.keepIn K (.ref f4) = true)
    (a5 : PySem.W.nsIn K mainGlobals "_law_gone" = some (some (.ref f5))) (l5 : K.lookup f5 = some ⟨oc5, od5, .func (PySem.W.fnOf "_law_gone" "_law_gone" (defArgs s__law_gone) (defBody s__law_gone) (defScope s__law_gone) .none kV5 dc5 pm5 an5 cd5 ct5), sl5⟩) (c5 : PySem.W.codeIn K cd5 "_law_gone" = true) (k5 : PySem.W.keepIn K (.ref f5) = true)
    (a6 : PySem.W.nsIn K mainGlobals "_law_letters" = some (some (.ref f6))) (l6 : K.lookup f6 = some ⟨oc6, od6, .func (PySem.W.fnOf "_law_letters" "_law_letters" (defArgs s__law_letters) (defBody s__law_letters) (defScope s__law_letters) .none kV6 dc6 pm6 an6 cd6 ct6), sl6⟩) (c6 : PySem.W.codeIn K cd6 "_law_letters" = true) (k6 : PySem.W.keepIn K (.ref f6) = true)
    (a7 : PySem.W.nsIn K mainGlobals "_law_done" = some (some (.ref f7))) (l7 : K.lookup f7 = some ⟨oc7, od7, .func (PySem.W.fnOf "_law_done" "_law_done" (defArgs s__law_done) (defBody s__law_done) (defScope s__law_done) .none kV7 dc7 pm7 an7 cd7 ct7), sl7⟩) (c7 : PySem.W.codeIn K cd7 "_law_done" = true) (k7 : PySem.W.keepIn K (.ref f7) = true)
    (a8 : PySem.W.nsIn K mainGlobals "_law_is" = some (some (.ref f8))) (l8 : K.lookup f8 = some ⟨oc8, od8, .func (PySem.W.fnOf "_law_is" "_law_is" (defArgs s__law_is) (defBody s__law_is) (defScope s__law_is) .none kV8 dc8 pm8 an8 cd8 ct8), sl8⟩) (c8 : PySem.W.codeIn K cd8 "_law_is" = true) (k8 : PySem.W.keepIn K (.ref f8) = true)
    (a9 : PySem.W.nsIn K mainGlobals "law" = some (some (.ref f9))) (l9 : K.lookup f9 = some ⟨oc9, od9, .func (PySem.W.fnOf "law" "law" (defArgs sLaw) (defBody sLaw) (defScope sLaw) .none kV9 dc9 pm9 an9 cd9 ct9), sl9⟩) (c9 : PySem.W.codeIn K cd9 "law" = true) (k9 : PySem.W.keepIn K (.ref f9) = true)
    {C0 : Addr} (aC0 : PySem.W.nsIn K mainGlobals "Caller" = some (some (.ref C0)))
    {g0 : Addr} {god0 gan0 : Option Addr} {gsl0 : Array (Option Value)} {goc0 gkV0 gdc0 gpm0 gcd0 gct0 : Value}
    (ga0 : PySem.W.findIn K (.ref C0) "__init__" = some (some (.ref g0))) (gi0 : PySem.W.isFn K (.ref g0) = true) (gl0 : K.lookup g0 = some ⟨goc0, god0, .func (PySem.W.fnOf "__init__" "Caller.__init__" (defArgs s_Caller___init__) (defBody s_Caller___init__) (defScope s_Caller___init__) .none gkV0 gdc0 gpm0 gan0 gcd0 gct0), gsl0⟩) (gc0 : PySem.W.codeIn K gcd0 "Caller.__init__" = true) (gk0 : PySem.W.keepIn K (.ref g0) = true)
    {g1 : Addr} {god1 gan1 : Option Addr} {gsl1 : Array (Option Value)} {goc1 gkV1 gdc1 gpm1 gcd1 gct1 : Value}
    (ga1 : PySem.W.findIn K (.ref C0) "wish" = some (some (.ref g1))) (gi1 : PySem.W.isFn K (.ref g1) = true) (gl1 : K.lookup g1 = some ⟨goc1, god1, .func (PySem.W.fnOf "wish" "Caller.wish" (defArgs s_Caller_wish) (defBody s_Caller_wish) (defScope s_Caller_wish) .none gkV1 gdc1 gpm1 gan1 gcd1 gct1), gsl1⟩) (gc1 : PySem.W.codeIn K gcd1 "Caller.wish" = true) (gk1 : PySem.W.keepIn K (.ref g1) = true)
    {g2 : Addr} {god2 gan2 : Option Addr} {gsl2 : Array (Option Value)} {goc2 gkV2 gdc2 gpm2 gcd2 gct2 : Value}
    (ga2 : PySem.W.findIn K (.ref C0) "again" = some (some (.ref g2))) (gi2 : PySem.W.isFn K (.ref g2) = true) (gl2 : K.lookup g2 = some ⟨goc2, god2, .func (PySem.W.fnOf "again" "Caller.again" (defArgs s_Caller_again) (defBody s_Caller_again) (defScope s_Caller_again) .none gkV2 gdc2 gpm2 gan2 gcd2 gct2), gsl2⟩) (gc2 : PySem.W.codeIn K gcd2 "Caller.again" = true) (gk2 : PySem.W.keepIn K (.ref g2) = true)
    {g3 : Addr} {god3 gan3 : Option Addr} {gsl3 : Array (Option Value)} {goc3 gkV3 gdc3 gpm3 gcd3 gct3 : Value}
    (ga3 : PySem.W.findIn K (.ref C0) "take_told" = some (some (.ref g3))) (gi3 : PySem.W.isFn K (.ref g3) = true) (gl3 : K.lookup g3 = some ⟨goc3, god3, .func (PySem.W.fnOf "take_told" "Caller.take_told" (defArgs s_Caller_take_told) (defBody s_Caller_take_told) (defScope s_Caller_take_told) .none gkV3 gdc3 gpm3 gan3 gcd3 gct3), gsl3⟩) (gc3 : PySem.W.codeIn K gcd3 "Caller.take_told" = true) (gk3 : PySem.W.keepIn K (.ref g3) = true)
    {g4 : Addr} {god4 gan4 : Option Addr} {gsl4 : Array (Option Value)} {goc4 gkV4 gdc4 gpm4 gcd4 gct4 : Value}
    (ga4 : PySem.W.findIn K (.ref C0) "take_away" = some (some (.ref g4))) (gi4 : PySem.W.isFn K (.ref g4) = true) (gl4 : K.lookup g4 = some ⟨goc4, god4, .func (PySem.W.fnOf "take_away" "Caller.take_away" (defArgs s_Caller_take_away) (defBody s_Caller_take_away) (defScope s_Caller_take_away) .none gkV4 gdc4 gpm4 gan4 gcd4 gct4), gsl4⟩) (gc4 : PySem.W.codeIn K gcd4 "Caller.take_away" = true) (gk4 : PySem.W.keepIn K (.ref g4) = true)
    (pg0 : PySem.W.plainGet K C0 Str.empty = true) (hd0 : PySem.W.hasDictIn K C0 = true) (po0 : PySem.W.plainOver K C0 = true) (sa0 : PySem.W.findIn K (.ref C0) "__setattr__" = some (some (.builtin "object.__setattr__"))) (mk0 : PySem.W.makesIn K C0 = true) (kc0 : PySem.W.keepIn K (.ref C0) = true)
    (n0_name : PySem.W.findIn K (.ref C0) "name" = some none) (n0_number : PySem.W.findIn K (.ref C0) "number" = some none) (n0_waits : PySem.W.findIn K (.ref C0) "waits" = some none) (n0_deed : PySem.W.findIn K (.ref C0) "deed" = some none) (n0_asks : PySem.W.findIn K (.ref C0) "asks" = some none) (n0_told : PySem.W.findIn K (.ref C0) "told" = some none)
    (z0 : PySem.W.nsIn K mainGlobals "isinstance" = some none) (z1 : PySem.W.nsIn K mainGlobals "int" = some none) (z2 : PySem.W.nsIn K mainGlobals "bool" = some none) (z3 : PySem.W.nsIn K mainGlobals "str" = some none) (z4 : PySem.W.nsIn K mainGlobals "tuple" = some none) (z5 : PySem.W.nsIn K mainGlobals "list" = some none) (z6 : PySem.W.nsIn K mainGlobals "all" = some none) (z7 : PySem.W.nsIn K mainGlobals "zip" = some none) (z8 : PySem.W.nsIn K mainGlobals "len" = some none) (z9 : PySem.W.nsIn K mainGlobals "range" = some none) (z10 : PySem.W.nsIn K mainGlobals "max" = some none) (z11 : PySem.W.nsIn K mainGlobals "min" = some none) (z12 : PySem.W.nsIn K mainGlobals "sorted" = some none) (z13 : PySem.W.nsIn K mainGlobals "any" = some none) (z14 : PySem.W.nsIn K mainGlobals "sum" = some none) (z15 : PySem.W.nsIn K mainGlobals "dict" = some none) :
    ∃ fd : FuncData, (∀ (s : Shared) (v : Value), BindsTo s fd ⟨[v], []⟩ [("_law_script", v)]) ∧ ∀ base : Heap, K.In base → base.Ns mainGlobals mg → FnOk l.prog w K mg base CX0 5 fa fd ["_law_script"] (spLaw K) := by
  have e := hfa.symm.trans (PySem.W.mg_of X G a9)
  cases e
  have T : Txt mg := ⟨PySem.W.mg_none_of X G z0, PySem.W.mg_none_of X G z1, PySem.W.mg_none_of X G z2, PySem.W.mg_none_of X G z3, PySem.W.mg_none_of X G z4, PySem.W.mg_none_of X G z5, PySem.W.mg_none_of X G z6, PySem.W.mg_none_of X G z7, PySem.W.mg_none_of X G z8, PySem.W.mg_none_of X G z9, PySem.W.mg_none_of X G z10, PySem.W.mg_none_of X G z11, PySem.W.mg_none_of X G z12, PySem.W.mg_none_of X G z13, PySem.W.mg_none_of X G z14⟩
  have hmx := PySem.W.mg_none_of X G z10
  have hso := PySem.W.mg_none_of X G z12
  have hdi := PySem.W.mg_none_of X G z15
  have Y0 : Cls K C0 := ⟨pg0, hd0, po0, sa0⟩
  have mC0 := PySem.W.mg_of X G aC0
  have G0 := fun_mk (st := s_Caller___init__) gl0 gc0 gk0
  have gb0 := G0.binds (ps := ["self", "name", "keeper"]) fun _ _ _ _ _ _ us hl => match us, hl with | [_, _, _], _ => rfl
  have G1 := fun_mk (st := s_Caller_wish) gl1 gc1 gk1
  have gb1 := G1.binds (ps := ["self", "deed"]) fun _ _ _ _ _ _ us hl => match us, hl with | [_, _], _ => rfl
  have G2 := fun_mk (st := s_Caller_again) gl2 gc2 gk2
  have gb2 := G2.binds (ps := ["self"]) fun _ _ _ _ _ _ us hl => match us, hl with | [_], _ => rfl
  have G3 := fun_mk (st := s_Caller_take_told) gl3 gc3 gk3
  have gb3 := G3.binds (ps := ["self", "letter"]) fun _ _ _ _ _ _ us hl => match us, hl with | [_, _], _ => rfl
  have G4 := fun_mk (st := s_Caller_take_away) gl4 gc4 gk4
  have gb4 := G4.binds (ps := ["self", "letter"]) fun _ _ _ _ _ _ us hl => match us, hl with | [_, _], _ => rfl
  have F0 := fun_mk (st := sCell) l0 c0 k0
  have m0 := PySem.W.mg_of X G a0
  have b0 := F0.binds (ps := ["_law_script", "_law_k"]) fun _ _ _ _ _ _ us hl => match us, hl with | [_, _], _ => rfl
  have F1 := fun_mk (st := s__law_whole) l1 c1 k1
  have m1 := PySem.W.mg_of X G a1
  have b1 := F1.binds (ps := ["_law_found"]) fun _ _ _ _ _ _ us hl => match us, hl with | [_], _ => rfl
  have F2 := fun_mk (st := sNameBy) l2 c2 k2
  have m2 := PySem.W.mg_of X G a2
  have b2 := F2.binds (ps := ["_law_cell"]) fun _ _ _ _ _ _ us hl => match us, hl with | [_], _ => rfl
  have F3 := fun_mk (st := s__law_bounded) l3 c3 k3
  have m3 := PySem.W.mg_of X G a3
  have b3 := F3.binds (ps := ["_law_number"]) fun _ _ _ _ _ _ us hl => match us, hl with | [_], _ => rfl
  have F4 := fun_mk (st := s__law_deed_by) l4 c4 k4
  have m4 := PySem.W.mg_of X G a4
  have b4 := F4.binds (ps := ["_law_cell"]) fun _ _ _ _ _ _ us hl => match us, hl with | [_], _ => rfl
  have F5 := fun_mk (st := s__law_gone) l5 c5 k5
  have m5 := PySem.W.mg_of X G a5
  have b5 := F5.binds (ps := ["_law_now", "_law_cell"]) fun _ _ _ _ _ _ us hl => match us, hl with | [_, _], _ => rfl
  have F6 := fun_mk (st := s__law_letters) l6 c6 k6
  have m6 := PySem.W.mg_of X G a6
  have b6 := F6.binds (ps := ["_law_now", "_law_new", "_law_way"]) fun _ _ _ _ _ _ us hl => match us, hl with | [_, _, _], _ => rfl
  have F7 := fun_mk (st := s__law_done) l7 c7 k7
  have m7 := PySem.W.mg_of X G a7
  have b7 := F7.binds (ps := ["_law_caller", "_law_way", "_law_cell", "_law_letter"]) fun _ _ _ _ _ _ us hl => match us, hl with | [_, _, _, _], _ => rfl
  have F8 := fun_mk (st := s__law_is) l8 c8 k8
  have m8 := PySem.W.mg_of X G a8
  have b8 := F8.binds (ps := ["_law_caller", "_law_now"]) fun _ _ _ _ _ _ us hl => match us, hl with | [_, _], _ => rfl
  have F9 := fun_mk (st := sLaw) l9 c9 k9
  have m9 := PySem.W.mg_of X G a9
  have b9 := F9.binds (ps := ["_law_script"]) fun _ _ _ _ _ _ us hl => match us, hl with | [_], _ => rfl
  refine ⟨PySem.W.fnOf "law" "law" (defArgs sLaw) (defBody sLaw) (defScope sLaw) .none kV9 dc9 pm9 an9 cd9 ct9, fun s v => .of_eq rfl, fun base _ _ => ?_⟩
  have CC : Cal l.prog w K mg base "_law_cell_at" 1 ["_law_script", "_law_k"] (spCell K) := cal F0 m0 b0 (ok_cell F0 T)
  have CW : Cal l.prog w K mg base "_law_whole" 1 ["_law_found"] (spWholeI) := cal F1 m1 b1 (ok_wholeI F1 T)
  have CNx : Cal l.prog w K mg base "_law_name_by" 1 ["_law_cell"] (spNx) := cal F2 m2 b2 (ok_nmX F2 T)
  have CBx : Cal l.prog w K mg base "_law_bounded" 1 ["_law_number"] (spBx) := cal F3 m3 b3 (ok_bdX F3)
  have CDx : Cal l.prog w K mg base "_law_deed_by" 2 ["_law_cell"] (spDx) := cal F4 m4 b4 (ok_dbX F4 CNx CBx)
  have CGo : Cal l.prog w K mg base "_law_gone" 3 ["_law_now", "_law_cell"] (spGone) := cal F5 m5 b5 (ok_gone F5 T hdi CDx CBx)
  have CLe : Cal l.prog w K mg base "_law_letters" 1 ["_law_now", "_law_new", "_law_way"] (spLet) := cal F6 m6 b6 (ok_let F6)
  have YC : CaC K C0 := ⟨Y0, n0_name, n0_number, n0_waits, n0_deed, n0_asks, n0_told⟩
  have OL : FnOk l.prog w K mg base CX0 1 g2 _ ["self"] (spCAgain ExC C0) := ok_cagain YC G2
  have M : CaM l.prog w K mg base ExC C0 2 := ⟨Y0, mC0, n0_name, n0_number, n0_waits, n0_deed, n0_asks, n0_told, ⟨_, _, _, _, ⟨mk0, ga0, gi0, kc0⟩, FnOk.mono (ok_cinit YC G0) (by decide), gb0⟩, ⟨_, _, _, ⟨ga1, gi1, gk1⟩, ok_cwish YC G1 ⟨ga2, gi2, gk2⟩ OL gb2, gb1⟩, ⟨_, _, ⟨ga2, gi2, gk2⟩, OL.mono (by decide), gb2⟩, ⟨_, _, _, ⟨ga3, gi3, gk3⟩, FnOk.mono (ok_ctold YC G3) (by decide), gb3⟩, ⟨_, _, _, ⟨ga4, gi4, gk4⟩, FnOk.mono (ok_caway YC G4) (by decide), gb4⟩⟩
  have CDn : Cal l.prog w K mg base "_law_done" 3 ["_law_caller", "_law_way", "_law_cell", "_law_letter"] (spDn51 ExC C0) := cal F7 m7 b7 (ok_done51 (LV := 2) (by decide) M F7 CDx)
  have CIs : Cal l.prog w K mg base "_law_is" 2 ["_law_caller", "_law_now"] (spIs51 ExC C0) := cal F8 m8 b8 (ok_is51 M F8 T CW)
  exact ok_law (LV := 4) (by decide) M F9 T CC CNx CGo CDn CLe CIs
theorem walk {l : PySem.W.OpenLaw} {q : Program} {loose : List Str} {XP : (Str → Option Value) → Heap → Prop} {YP : World → Heap → Prop} {d : DefRec} {K : Params → PySem.W.Frag} (hn : l.most = some 63) (hdf : d.params.defaults = [])
    (hY : ∀ (w : World) (h : Heap), YP w h → (K w.params).In h)
    (F : ∀ (w : World) (mg : Str → Option Value) (fa : Addr) (h : Heap), (K w.params).In h → h.Ns mainGlobals mg → mg d.name = some (.ref fa) →
      ∃ fd : FuncData, (∀ (s : Shared) (u : Value), BindsTo s fd ⟨[u], []⟩ [("_law_script", u)]) ∧ ∀ base : Heap, (K w.params).In base → base.Ns mainGlobals mg → FnOk l.prog w (K w.params) mg base CX0 5 fa fd ["_law_script"] (spLaw (K w.params))) :
    PySem.W.WalkO q loose XP YP l.row.toRowW d [] (fun f vs => PySem.call f vs) :=
  L2.walk_of (n := 63) (k := 5) (x := "_law_script") (CX := fun _ => CX0) (sp := fun w => spLaw (K w.params)) hn (by decide) hdf ⟨rfl, by decide, by decide⟩ hY F (fun _ _ a ns hl _ hS => ⟨a, ns, rfl, hS, hl, fun _ => rfl⟩) fun _ _ _ _ _ z => z
end K1
open PySem PySem.W PyProof.Rows
set_option maxRecDepth 100000 in
set_option maxHeartbeats 0 in
theorem PySem.Challenge.cw_keeplog_k51_a_caller_holds : PySem.Challenge.rw_keeplog_k51_a_caller.Holds := by
  w_on; o_law; k_head; (case hw => w_witness2)
  k_fill
  refine K1.walk (l := PySem.Challenge.rw_keeplog_k51_a_caller) rfl rfl (fun w h Y => PySem.W.kIn_of Y) ?F
  case F =>
    intro w mg fa h KX G hmg
    refine' K1.all_mk KX G hmg ?a0 ?l0 ?c0 ?k0 ?a1 ?l1 ?c1 ?k1 ?a2 ?l2 ?c2 ?k2 ?a3 ?l3 ?c3 ?k3 ?a4 ?l4 ?c4 ?k4 ?a5 ?l5 ?c5 ?k5 ?a6 ?l6 ?c6 ?k6 ?a7 ?l7 ?c7 ?k7 ?a8 ?l8 ?c8 ?k8 ?a9 ?l9 ?c9 ?k9 ?aC0 ?ga0 ?gi0 ?gl0 ?gc0 ?gk0 ?ga1 ?gi1 ?gl1 ?gc1 ?gk1 ?ga2 ?gi2 ?gl2 ?gc2 ?gk2 ?ga3 ?gi3 ?gl3 ?gc3 ?gk3 ?ga4 ?gi4 ?gl4 ?gc4 ?gk4 ?pg0 ?hd0 ?po0 ?sa0 ?mk0 ?kc0 ?n0_name ?n0_number ?n0_waits ?n0_deed ?n0_asks ?n0_told ?z0 ?z1 ?z2 ?z3 ?z4 ?z5 ?z6 ?z7 ?z8 ?z9 ?z10 ?z11 ?z12 ?z13 ?z14 ?z15
    (case a0 => k_is)
    (case l0 => k_is)
    (case c0 => k_is)
    (case k0 => k_is)
    (case a1 => k_is)
    (case l1 => k_is)
    (case c1 => k_is)
    (case k1 => k_is)
    (case a2 => k_is)
    (case l2 => k_is)
    (case c2 => k_is)
    (case k2 => k_is)
    (case a3 => k_is)
    (case l3 => k_is)
    (case c3 => k_is)
    (case k3 => k_is)
    (case a4 => k_is)
    (case l4 => k_is)
    (case c4 => k_is)
    (case k4 => k_is)
    (case a5 => k_is)
    (case l5 => k_is)
    (case c5 => k_is)
    (case k5 => k_is)
    (case a6 => k_is)
    (case l6 => k_is)
    (case c6 => k_is)
    (case k6 => k_is)
    (case a7 => k_is)
    (case l7 => k_is)
    (case c7 => k_is)
    (case k7 => k_is)
    (case a8 => k_is)
    (case l8 => k_is)
    (case c8 => k_is)
    (case k8 => k_is)
    (case a9 => k_is)
    (case l9 => k_is)
    (case c9 => k_is)
    (case k9 => k_is)
    (case aC0 => k_is)
    (case ga0 => k_is)
    (case gi0 => k_is)
    (case gl0 => k_is)
    (case gc0 => k_is)
    (case gk0 => k_is)
    (case ga1 => k_is)
    (case gi1 => k_is)
    (case gl1 => k_is)
    (case gc1 => k_is)
    (case gk1 => k_is)
    (case ga2 => k_is)
    (case gi2 => k_is)
    (case gl2 => k_is)
    (case gc2 => k_is)
    (case gk2 => k_is)
    (case ga3 => k_is)
    (case gi3 => k_is)
    (case gl3 => k_is)
    (case gc3 => k_is)
    (case gk3 => k_is)
    (case ga4 => k_is)
    (case gi4 => k_is)
    (case gl4 => k_is)
    (case gc4 => k_is)
    (case gk4 => k_is)
    (case pg0 => k_is)
    (case hd0 => k_is)
    (case po0 => k_is)
    (case sa0 => k_is)
    (case mk0 => k_is)
    (case kc0 => k_is)
    (case n0_name => k_is)
    (case n0_number => k_is)
    (case n0_waits => k_is)
    (case n0_deed => k_is)
    (case n0_asks => k_is)
    (case n0_told => k_is)
    (case z0 => k_is)
    (case z1 => k_is)
    (case z2 => k_is)
    (case z3 => k_is)
    (case z4 => k_is)
    (case z5 => k_is)
    (case z6 => k_is)
    (case z7 => k_is)
    (case z8 => k_is)
    (case z9 => k_is)
    (case z10 => k_is)
    (case z11 => k_is)
    (case z12 => k_is)
    (case z13 => k_is)
    (case z14 => k_is)
    (case z15 => k_is)
