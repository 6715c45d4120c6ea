import PyProof.Rows.All
import Wide.All
import OpenK.AllK
import Wide.FinOn
import Lean
import PyProof.EqAt
import PyProof.EqKinds
import PyProof.TupleCall
import PySem.Challenge.RW_keeplog_k33_packs
set_option Elab.async false
set_option linter.all false
set_option maxRecDepth 100000
/-! THE HAND LAYER, for ints, bools, texts, own classes, LISTS and tuples (index, slices, in, append, pop ..), calls, loops. Paste it whole ahead of your own text; what your proof does not reach may be deleted. -/
namespace L2
open PySem PySem.Spec PyProof.Rows

/-- a key: an int or a str -/
abbrev Key := Sum Int Str
def keyIs : Key → Value → Bool
  | .inl k, v => Value.isInt k v
  | .inr x, v => Value.isStrOf x v
def keyH (w : World) : Key → Int
  | .inl k => hashInt k
  | .inr x => hashStr w x
theorem keyIs_shape : ∀ {k : Key} {v : Value}, keyIs k v = true → (∃ i t, k = Sum.inl i ∧ v = Value.int i t) ∨ (∃ x t, k = Sum.inr x ∧ v = Value.str x t)
  | .inl i, v, h => by
    obtain ⟨t, e⟩ := Value.isInt_shape (k := i) (v := v) h
    exact .inl ⟨i, t, rfl, e⟩
  | .inr x, v, h => by
    obtain ⟨t, e⟩ := Value.isStrOf_shape (x := x) (v := v) h
    exact .inr ⟨x, t, rfl, e⟩
theorem keyIs_int (i : Int) (t : Tok) : keyIs (.inl i) (.int i t) = true := by simp [keyIs, Value.isInt]
theorem keyIs_str (x : Str) (t : Tok) : keyIs (.inr x) (.str x t) = true := by simp [keyIs, Value.isStrOf]
theorem key_ll (a b : Int) : decide ((Sum.inl a : Key) = Sum.inl b) = (a == b) := by
  by_cases e : a = b
  · subst e; simp
  · have h : ¬ (Sum.inl a : Key) = Sum.inl b := fun q => e (Sum.inl.inj q)
    rw [decide_eq_false h]
    exact (beq_eq_false_iff_ne.mpr e).symm
theorem key_rr (a b : Str) : decide ((Sum.inr a : Key) = Sum.inr b) = decide (a = b) := by
  by_cases e : a = b
  · subst e; simp
  · have h : ¬ (Sum.inr a : Key) = Sum.inr b := fun q => e (Sum.inr.inj q)
    rw [decide_eq_false h, decide_eq_false e]
theorem key_lr (a : Int) (b : Str) : decide ((Sum.inl a : Key) = Sum.inr b) = false := decide_eq_false (fun q => nomatch q)
theorem key_rl (a : Str) (b : Int) : decide ((Sum.inr a : Key) = Sum.inl b) = false := decide_eq_false (fun q => nomatch q)

def mixKind (prog : Program) (w : World) : PySem.KeyKind prog w Key where
  is := keyIs
  hash := keyH w
  inj := fun v a b ha hb => by
    rcases keyIs_shape ha with ⟨i, t, rfl, rfl⟩ | ⟨x, t, rfl, rfl⟩
    · rcases keyIs_shape hb with ⟨j, u, rfl, e⟩ | ⟨y, u, rfl, e⟩
      · injection e with e1 _; rw [e1]
      · exact nomatch e
    · rcases keyIs_shape hb with ⟨j, u, rfl, e⟩ | ⟨y, u, rfl, e⟩
      · exact nomatch e
      · injection e with e1 _; rw [e1]
  byValue := fun k v h => by
    rcases keyIs_shape h with ⟨i, t, rfl, rfl⟩ | ⟨x, t, rfl, rfl⟩ <;> rfl
  pyHash := fun hv h => by
    rcases keyIs_shape hv with ⟨i, t, rfl, rfl⟩ | ⟨x, t, rfl, rfl⟩
    · exact wpAny_pyHash_int h
    · exact wpAny_pyHash_str h
  eqBool := fun hu hv h => by
    rcases keyIs_shape hu with ⟨i, t, rfl, rfl⟩ | ⟨x, t, rfl, rfl⟩
    · rcases keyIs_shape hv with ⟨j, u, rfl, rfl⟩ | ⟨y, u, rfl, rfl⟩
      · rw [key_ll] at h; exact wpAny_eqBool_int h
      · rw [key_lr] at h; exact SeqAt.EqAt.int_str i t y u _ _ _ _ h
    · rcases keyIs_shape hv with ⟨j, u, rfl, rfl⟩ | ⟨y, u, rfl, rfl⟩
      · rw [key_rl] at h; exact SeqAt.EqAt.str_int x t j u _ _ _ _ h
      · rw [key_rr] at h; exact wpAny_eqBool_str h
  «strs» := fun k x t v h => by
    rcases keyIs_shape h with ⟨i, u, rfl, e⟩ | ⟨y, u, rfl, e⟩
    · exact nomatch e
    · injection e with e1 _
      subst e1
      cases v <;> rfl

theorem mixKind_int (prog : Program) (w : World) (i : Int) (t : Tok) : (mixKind prog w).is (.inl i) (.int i t) = true := keyIs_int i t
theorem mixKind_str (prog : Program) (w : World) (x : Str) (t : Tok) : (mixKind prog w).is (.inr x) (.str x t) = true := keyIs_str x t
end L2

namespace L2
open PySem PySem.Spec PyProof.Rows

/-- a value, without the heap -/
inductive V where
  | non | bl (b : Bool) | int (i : Int) | str (x : Str) | byt (b : Array UInt8) | flt (b : UInt64) | ref (a : Addr) | ty (n : String)
  deriving DecidableEq

def RelV : V → Value → Prop
  | .non, u => u = Value.none
  | .bl b, u => u = Value.bool b
  | .int i, u => ∃ t, u = Value.int i t
  | .str x, u => ∃ t, u = Value.str x t
  | .byt b, u => ∃ t, u = Value.bytes b t
  | .flt b, u => ∃ t, u = Value.float b t
  | .ref a, u => u = Value.ref a
  | .ty n, u => u = Value.type n

abbrev Vals : List V → List Value → Prop := Paired RelV
theorem Vals.length {xs : List V} {us : List Value} (r : Vals xs us) : xs.length = us.length := Paired.length r
theorem Vals.get : ∀ {xs : List V} {us : List Value} {i : Nat} {x : V}, Vals xs us → xs[i]? = some x → ∃ u, us[i]? = some u ∧ RelV x u
  | _, _, _, _, .nil, e => by simp at e
  | _, _, 0, _, .cons r _, e => by simp at e; subst e; exact ⟨_, rfl, r⟩
  | _, _, i + 1, x, .cons _ t, e => by
    obtain ⟨u, h1, h2⟩ := Vals.get (i := i) (x := x) t (by simpa using e)
    exact ⟨u, by simpa using h1, h2⟩
theorem Vals.set {x : V} {u : Value} (r : RelV x u) : ∀ {xs : List V} {us : List Value} (i : Nat), Vals xs us → Vals (xs.set i x) (us.set i u)
  | _, _, _, .nil => .nil
  | _, _, 0, .cons _ t => .cons r t
  | _, _, i + 1, .cons q t => .cons q (Vals.set r i t)
theorem Vals.append : ∀ {xs ys : List V} {us ws : List Value}, Vals xs us → Vals ys ws → Vals (xs ++ ys) (us ++ ws)
  | _, _, _, _, .nil, s => s
  | _, _, _, _, .cons r t, s => .cons r (Vals.append t s)
theorem Vals.take : ∀ {xs : List V} {us : List Value} (n : Nat), Vals xs us → Vals (xs.take n) (us.take n)
  | _, _, 0, _ => .nil
  | _, _, _ + 1, .nil => .nil
  | _, _, n + 1, .cons r t => .cons r (Vals.take n t)
theorem Vals.drop : ∀ {xs : List V} {us : List Value} (n : Nat), Vals xs us → Vals (xs.drop n) (us.drop n)
  | _, _, 0, r => r
  | _, _, _ + 1, .nil => .nil
  | _, _, n + 1, .cons _ t => Vals.drop n t
theorem Vals.none_of : ∀ {xs : List V} {us : List Value} {i : Nat}, Vals xs us → xs[i]? = none → us[i]? = none := fun {xs us i} r e => by
  have h1 := r.length
  have h2 : xs.length ≤ i := List.getElem?_eq_none_iff.mp e
  exact List.getElem?_eq_none_iff.mpr (by omega)

def RelO : Option V → Option Value → Prop
  | some v, some u => RelV v u
  | none, none => True
  | _, _ => False
def KV {κ : Type} : List (κ × V) → List (κ × Value) → Prop := Paired fun (p : κ × V) (q : κ × Value) => p.1 = q.1 ∧ RelV p.2 q.2

/-- a key of a dict (00_mix): an int or a text -/
def kV : Key → V
  | .inl i => .int i
  | .inr x => .str x

/-- what stands at a tracked address -/
inductive HO where
  /-- a list -/
  | lst (xs : List V)
  /-- a tuple (never changes) -/
  | tup (xs : List V)
  /-- a dict whose keys are ints and texts; one whose keys are tuples of ints and texts (the empty one is both) -/
  | dK (kvs : List (Key × V)) | dT (kvs : List (List Key × V))
  /-- a set of ints: its members, its size -/
  | set (S : Int → Bool) (n : Nat)
  /-- an instance of the class at C, its dict at dx, its attributes -/
  | ins (C dx : Addr) (fs : List (Str × V))
  /-- the dict of the instance at x -/
  | own (x : Addr)
  /-- the dict of an exception -/
  | xd (fs : List (Str × V))
  /-- a bound method, f of x -/
  | met (f x : Addr)
  /-- a range object lo, lo + 1, .. below hi -/
  | rng (lo hi : Int)
  /-- a thing that is known to the object (the script; a dict while a loop walks it): read, never written while it is so -/
  | frz (o : Obj) (u : HO)
  /-- a code object's table -/
  | tbl (ps : Array Value)
  /-- any other thing, by what is true of its one object (a def of one's own: SetO a S n := HO.ext fun h => ..) -/
  | ext (φ : Heap → Prop)

abbrev Hp := Addr → Option HO
def upd (H : Hp) (a : Addr) (o : HO) : Hp := fun b => if b = a then some o else H b
theorem upd_same {H : Hp} {a : Addr} {o : HO} : upd H a o a = some o := by unfold upd; rw [if_pos rfl]
theorem upd_ne {H : Hp} {a b : Addr} {o : HO} (h : b ≠ a) : upd H a o b = H b := by unfold upd; rw [if_neg h]
/-- two objects of different content stand apart -/
theorem ne_of {H : Hp} {a b : Addr} {o u : HO} (h : H a = some o) (h' : H b = some u) (d : o ≠ u) : a ≠ b := by
  intro e; subst e; rw [h] at h'; exact d (Option.some.inj h')
theorem ne_of_none {H : Hp} {a b : Addr} {o : HO} (h : H a = some o) (h' : H b = none) : a ≠ b := by
  intro e; subst e; rw [h] at h'; cases h'

section
variable (P : Program) (w : World)
def ObjOk (H : Hp) (h : Heap) (a : Addr) : HO → Prop
  | .lst xs => xs.length ≤ sizeLine ∧ ∃ (its : List Value) (n : Nat), Vals xs its ∧ h.get? a = some { cls := .type "list", data := .seq its.toArray n }
  | .tup xs => xs.length ≤ sizeLine ∧ ∃ its : List Value, Vals xs its ∧ IsTup h a its.toArray
  | .dK kvs => kvs.length ≤ sizeLine ∧ (a == sysModules) = false ∧ ∃ vs, KV kvs vs ∧ h.DictOf (mixKind P w) a vs
  | .dT kvs => kvs.length ≤ sizeLine ∧ (a == sysModules) = false ∧ ∃ xs : List (List Key × Addr × Value),
      Paired (fun (p : List Key × V) (q : List Key × Addr × Value) => p.1 = q.1 ∧ H q.2.1 = some (.tup (p.1.map kV)) ∧ RelV p.2 q.2.2) kvs xs ∧
      ∃ o es ep, h.get? a = some o ∧ o.ExactDict ∧ o.data = .dict es ep ∧ es.toList = xs.map (entryOfKey (tupleKind (mixKind P w))) ∧ (xs.map (·.1)).Nodup
  | .set S n => h.SetOf (intKind P w) a S n
  | .ins C dx fs => H dx = some (.own a) ∧ fs.length ≤ 1000 ∧ dx ≠ a ∧ h.get? a = some (PySem.W.instObj C dx) ∧
      ∃ mA, h.Ns1 dx mA ∧ (∀ f, RelO (fs.lookup f) (mA f)) ∧ PySem.Within mA (fs.map (·.1))
  | .own _ => ∃ o, h.get? a = some o
  | .xd fs => ∃ mA, h.Ns1 a mA ∧ ∀ f, RelO (fs.lookup f) (mA f)
  | .rng lo hi => ∃ t u v, h.get? a = some { cls := .type "range", data := .fields #[.int lo t, .int hi u, .int 1 v] }
  | .frz o u => h.get? a = some o ∧ ObjOk H h a u
  | .tbl ps => h.get? a = some { cls := .none, data := .fields ps }
  | .met f x => h.get? a = some (PySem.W.methodObj (.ref f) (.ref x))
  | .ext φ => φ h ∧ (∃ o, h.get? a = some o) ∧ ∀ h1 h2 : Heap, φ h1 → (∀ o, h1.get? a = some o → h2.get? a = some o) → φ h2
/-- the abstract heap is held -/
def HOk (H : Hp) (h : Heap) : Prop := ∀ a o, H a = some o → ObjOk P w H h a o
end

section
variable {P : Program} {w : World} {H H' : Hp} {h h' : Heap} {a : Addr} {o : HO}
theorem ObjOk.lt (x : ObjOk P w H h a o) : a < h.objs.size := by
  cases o with
  | lst xs => obtain ⟨_, _, _, _, e⟩ := x; exact Heap.lt_size e
  | tup xs => obtain ⟨_, _, _, p⟩ := x; exact p.lt
  | dK kvs => obtain ⟨_, _, _, _, o, _, _, e, _⟩ := x; exact Heap.lt_size e
  | dT kvs => obtain ⟨_, _, _, _, o, _, _, e, _⟩ := x; exact Heap.lt_size e
  | set S n => obtain ⟨o, _, _, _, e, _⟩ := x; exact Heap.lt_size e
  | ins C dx fs => obtain ⟨_, _, _, e, _⟩ := x; exact Heap.lt_size e
  | own y => obtain ⟨_, e⟩ := x; exact Heap.lt_size e
  | xd fs => obtain ⟨_, ⟨_, _, _, e, _⟩, _⟩ := x; exact Heap.lt_size e
  | rng lo hi => obtain ⟨_, _, _, e⟩ := x; exact Heap.lt_size e
  | frz ob u => obtain ⟨e, _⟩ := x; exact Heap.lt_size e
  | tbl ps => exact Heap.lt_size (show h.get? a = some _ from x)
  | met f y => exact Heap.lt_size (show h.get? a = some _ from x)
  | ext φ => obtain ⟨_, ⟨_, e⟩, _⟩ := x; exact Heap.lt_size e
theorem Paired.mapP {α β : Type} {F G : α → β → Prop} : ∀ {l₁ : List α} {l₂ : List β}, Paired F l₁ l₂ → (∀ a b, F a b → G a b) → Paired G l₁ l₂
  | _, _, .nil, _ => .nil
  | _, _, .cons r t, f => .cons (f _ _ r) (Paired.mapP t f)
/-- what an object's description leans on: its own object, its own dict, the tuples -/
theorem ObjOk.stay (x : ObjOk P w H h a o) (k : ∀ b u, (b = a ∨ H b = some (.own a)) → h.get? b = some u → h'.get? b = some u)
    (ho : ∀ b, H b = some (.own a) → H' b = some (.own a)) (ht : ∀ b xs, H b = some (.tup xs) → H' b = some (.tup xs)) : ObjOk P w H' h' a o := by
  induction o with
  | lst xs => obtain ⟨z, its, n, r, e⟩ := x; exact ⟨z, its, n, r, k _ _ (.inl rfl) e⟩
  | tup xs => obtain ⟨z, its, r, ob, e, c⟩ := x; exact ⟨z, its, r, ob, k _ _ (.inl rfl) e, c⟩
  | dK kvs => obtain ⟨z, y, vs, r, ob, es, ep, e, c⟩ := x; exact ⟨z, y, vs, r, ob, es, ep, k _ _ (.inl rfl) e, c⟩
  | dT kvs =>
    obtain ⟨z, y, xs, r, ob, es, ep, e, c⟩ := x
    exact ⟨z, y, xs, Paired.mapP r fun p q z => ⟨z.1, ht _ _ z.2.1, z.2.2⟩, ob, es, ep, k _ _ (.inl rfl) e, c⟩
  | set S n => obtain ⟨ob, es, ep, t, e, c⟩ := x; exact ⟨ob, es, ep, t, k _ _ (.inl rfl) e, c⟩
  | ins C dx fs =>
    obtain ⟨d, z, ne, e, mA, ⟨od, es, ep, e2, c⟩, r⟩ := x
    exact ⟨ho _ d, z, ne, k _ _ (.inl rfl) e, mA, ⟨od, es, ep, k _ _ (.inr d) e2, c⟩, r⟩
  | own y => obtain ⟨ob, e⟩ := x; exact ⟨ob, k _ _ (.inl rfl) e⟩
  | xd fs => obtain ⟨mA, ⟨od, es, ep, e, c⟩, r⟩ := x; exact ⟨mA, ⟨od, es, ep, k _ _ (.inl rfl) e, c⟩, r⟩
  | rng lo hi => obtain ⟨t, u, v, e⟩ := x; exact ⟨t, u, v, k _ _ (.inl rfl) e⟩
  | frz ob u ih => obtain ⟨e, q⟩ := x; exact ⟨k _ _ (.inl rfl) e, ih q⟩
  | tbl ps =>
    have e : h.get? a = some { cls := .none, data := .fields ps } := x
    show h'.get? a = some { cls := .none, data := .fields ps }
    exact k a _ (.inl rfl) e
  | met f y =>
    have e : h.get? a = some (PySem.W.methodObj (.ref f) (.ref y)) := x
    show h'.get? a = some (PySem.W.methodObj (.ref f) (.ref y))
    exact k a _ (.inl rfl) e
  | ext φ => obtain ⟨p, ⟨o, e⟩, st⟩ := x; exact ⟨st _ _ p fun o q => k _ _ (.inl rfl) q, ⟨o, k _ _ (.inl rfl) e⟩, st⟩
theorem HOk.lt (x : HOk P w H h) (e : H a = some o) : a < h.objs.size := (x a o e).lt
theorem HOk.fresh (x : HOk P w H h) (e : h.objs.size ≤ a) : H a = none := by
  cases q : H a with
  | none => rfl
  | some u => exact absurd (Nat.lt_of_lt_of_le (x.lt q) e) (Nat.lt_irrefl _)
/-- every object of the heap is kept -/
theorem HOk.kept (x : HOk P w H h) (k : ∀ b u, h.get? b = some u → h'.get? b = some u) : HOk P w H h' := fun a o e =>
  (x a o e).stay (fun b u _ q => k b u q) (fun _ q => q) fun _ _ q => q
/-- a new object is laid and tracked -/
theorem HOk.laid (x : HOk P w H h) (k : ∀ b u, h.get? b = some u → h'.get? b = some u) (hp : h.objs.size ≤ a) (new : ObjOk P w (upd H a o) h' a o) : HOk P w (upd H a o) h' := fun b u e => by
  have hn := x.fresh hp
  by_cases hb : b = a
  · subst hb; rw [upd_same] at e; cases e; exact new
  · rw [upd_ne hb] at e
    exact (x b u e).stay (fun c v _ q => k c v q) (fun c q => by rw [upd_ne (ne_of_none q hn)]; exact q) fun c xs q => by rw [upd_ne (ne_of_none q hn)]; exact q
end

/-- what may be read as u: it is u, or a known u -/
def Rd (H : Hp) (a : Addr) (u : HO) : Prop := H a = some u ∨ ∃ o, H a = some (.frz o u)
theorem Rd.of {H : Hp} {a : Addr} {u : HO} (h : H a = some u) : Rd H a u := .inl h
theorem Rd.ok {P : Program} {w : World} {H : Hp} {h : Heap} {a : Addr} {u : HO} (r : Rd H a u) (x : HOk P w H h) : ObjOk P w H h a u := by
  rcases r with r | ⟨o, r⟩
  · exact x a u r
  · obtain ⟨_, q⟩ := x a _ r
    exact q
/-- what may be written -/
def Mut : Option HO → Prop
  | some (.lst _) => True
  | some (.dK _) => True
  | some (.dT _) => True
  | some (.set _ _) => True
  | some (.ins _ _ _) => True
  | some (.ext _) => True
  | _ => False
section
variable {P : Program} {w : World} {H : Hp} {h h' : Heap} {x e : Addr} {o' : HO}
/-- the object at e is changed: x itself, or the dict of the instance x -/
theorem HOk.write (ok : HOk P w H h) (mu : Mut (H x)) (he : e = x ∨ H e = some (.own x)) (k : ∀ b u, b ≠ e → h.get? b = some u → h'.get? b = some u) (heo : ∃ u, h'.get? e = some u)
    (new : ObjOk P w (upd H x o') h' x o') : HOk P w (upd H x o') h' := fun b u q => by
  have nown : ∀ c y, H c = some (.own y) → c ≠ x := fun c y r z => by subst z; rw [r] at mu; exact mu
  have ntup : ∀ c xs, H c = some (.tup xs) → c ≠ x := fun c xs r z => by subst z; rw [r] at mu; exact mu
  by_cases hb : b = x
  · subst hb; rw [upd_same] at q; cases q; exact new
  · rw [upd_ne hb] at q
    by_cases hbe : b = e
    · have q' : H b = some (.own x) := by
        rcases he with z | z
        · exact absurd (hbe.trans z) hb
        · rw [hbe]; exact z
      rw [q] at q'; cases q'
      obtain ⟨v, hv⟩ := heo
      exact ⟨v, by rw [hbe]; exact hv⟩
    · refine (ok b u q).stay (fun c v hc r => k c v ?_ r) (fun c r => by rw [upd_ne (nown c b r)]; exact r) fun c xs r => by rw [upd_ne (ntup c xs r)]; exact r
      rcases hc with rfl | hc
      · exact hbe
      · rintro rfl
        rcases he with z | z
        · exact nown c b hc z
        · rw [hc] at z; cases z; exact hb rfl
end

/-! ### kept unless tracked; of the frames at fs (the callers') the slots may change (an exception that passes writes there); of the records at ex (iterators) nothing is said -/
structure Un (fs ex : List Addr) (H H' : Hp) (h h' : Heap) : Prop where
  keep : ∀ b o, h.get? b = some o → H b = none → b ∉ fs → b ∉ ex → h'.get? b = some o
  slot : ∀ b o, h.get? b = some o → H b = none → b ∈ fs → b ∉ ex → ∃ sl, h'.get? b = some { o with slots := sl }
  free : ∀ b o, h.get? b = some o → H b = none → b ∉ ex → H' b = none
  there : ∀ b o, h.get? b = some o → b ∉ ex → ∃ o', h'.get? b = some o'
  tups : ∀ b xs, H b = some (.tup xs) → H' b = some (.tup xs)
  frzs : ∀ b o u, H b = some (.frz o u) → H' b = some (.frz o u)
  tbls : ∀ b ps, H b = some (.tbl ps) → ∃ more, H' b = some (.tbl (ps ++ more))
section
variable {fs fs' ex ex' : List Addr} {H H1 H2 : Hp} {h h1 h2 h' : Heap} {a x e : Addr} {o : HO}
theorem Un.any (u : Un fs ex H H1 h h1) {b : Addr} {ob : Obj} (q : h.get? b = some ob) (n : H b = none) (hx : b ∉ ex) : ∃ sl, h1.get? b = some { ob with slots := sl } := by
  by_cases hb : b ∈ fs
  · exact u.slot b ob q n hb hx
  · exact ⟨ob.slots, u.keep b ob q n hb hx⟩
theorem Un.trans (a : Un fs ex H H1 h h1) (b : Un fs ex H1 H2 h1 h2) : Un fs ex H H2 h h2 where
  keep := fun c ob q n hc hx => b.keep c ob (a.keep c ob q n hc hx) (a.free c ob q n hx) hc hx
  slot := fun c ob q n hc hx => by
    obtain ⟨sl, e1⟩ := a.slot c ob q n hc hx
    obtain ⟨sl', e2⟩ := b.slot c _ e1 (a.free c ob q n hx) hc hx
    exact ⟨sl', e2⟩
  free := fun c ob q n hx => by
    obtain ⟨o', e1⟩ := a.there c ob q hx
    exact b.free c o' e1 (a.free c ob q n hx) hx
  there := fun c ob q hx => by
    obtain ⟨o', e1⟩ := a.there c ob q hx
    exact b.there c o' e1 hx
  tups := fun c xs q => b.tups c xs (a.tups c xs q)
  frzs := fun c ob xs q => b.frzs c ob xs (a.frzs c ob xs q)
  tbls := fun c ps q => by
    obtain ⟨m1, e1⟩ := a.tbls c ps q
    obtain ⟨m2, e2⟩ := b.tbls c _ e1
    exact ⟨m1 ++ m2, by rw [e2, Array.append_assoc]⟩
theorem Un.kept (k : ∀ b u, h.get? b = some u → h'.get? b = some u) : Un fs ex H H h h' :=
  ⟨fun b ob q _ _ _ => k b ob q, fun b ob q _ _ _ => ⟨ob.slots, k b ob q⟩, fun _ _ _ n _ => n, fun b ob q _ => ⟨ob, k b ob q⟩, fun _ _ q => q, fun _ _ _ q => q, fun _ ps q => ⟨#[], by rw [q]; simp⟩⟩
theorem Un.refl : Un fs ex H H h h := Un.kept fun _ _ q => q
theorem Un.laid (k : ∀ b u, h.get? b = some u → h'.get? b = some u) (hp : h.objs.size ≤ a) (hn : H a = none) : Un fs ex H (upd H a o) h h' where
  keep := fun b u q _ _ _ => k b u q
  slot := fun b u q _ _ _ => ⟨u.slots, k b u q⟩
  free := fun b u q n _ => by rw [upd_ne (Nat.ne_of_lt (Nat.lt_of_lt_of_le (Heap.lt_size q) hp))]; exact n
  there := fun b u q _ => ⟨u, k b u q⟩
  tups := fun b xs q => by rw [upd_ne (ne_of_none q hn)]; exact q
  frzs := fun b u xs q => by rw [upd_ne (ne_of_none q hn)]; exact q
  tbls := fun b ps q => ⟨#[], by rw [upd_ne (ne_of_none q hn), q]; simp⟩
theorem Un.write (mu : Mut (H x)) (he : e = x ∨ H e = some (.own x)) (k : ∀ b u, b ≠ e → h.get? b = some u → h'.get? b = some u) (heo : ∃ u, h'.get? e = some u) : Un fs ex H (upd H x o) h h' := by
  have hx : ∀ b, H b = none → b ≠ x := fun b n z => by subst z; rw [n] at mu; exact mu
  have hb : ∀ b, H b = none → b ≠ e := fun b n z => by
    subst z
    rcases he with r | r
    · exact hx b n r
    · rw [n] at r; cases r
  have hm : ∀ b u, H b = some u → ¬ Mut (some u) → b ≠ x := fun b u q nm z => by subst z; rw [q] at mu; exact nm mu
  refine ⟨fun b u q n _ _ => k b u (hb b n) q, fun b u q n _ _ => ⟨u.slots, k b u (hb b n) q⟩, fun b u q n _ => by rw [upd_ne (hx b n)]; exact n, fun b u q _ => ?_,
    fun b xs q => by rw [upd_ne (hm b _ q fun z => z)]; exact q, fun b u xs q => by rw [upd_ne (hm b _ q fun z => z)]; exact q, fun b ps q => ⟨#[], by rw [upd_ne (hm b _ q fun z => z), q]; simp⟩⟩
  by_cases hbe : b = e
  · subst hbe; exact heo
  · exact ⟨u, k b u hbe q⟩
theorem Un.mono (u : Un fs ex H H1 h h1) (hs : ∀ b ∈ fs, b ∈ fs') (hx : ∀ b ∈ ex, b ∈ ex') : Un fs' ex' H H1 h h1 :=
  ⟨fun b ob q n hb he => u.keep b ob q n (fun z => hb (hs b z)) fun z => he (hx b z), fun _ _ q n _ he => u.any q n fun z => he (hx _ z), fun b ob q n he => u.free b ob q n fun z => he (hx b z), fun b ob q he => u.there b ob q fun z => he (hx b z), u.tups, u.frzs, u.tbls⟩
end

/-! ### the heap without what is tracked -/
def trk (h : Heap) (H : Hp) : List Addr := (List.range h.objs.size).filter fun a => (H a).isSome
def hidT (h : Heap) (H : Hp) : Heap := PySem.W.hideAll h (trk h H)
theorem hidT_size (h : Heap) (H : Hp) : (hidT h H).objs.size = h.objs.size := PySem.W.hideAll_size _ _
theorem hidT_get {h : Heap} {H : Hp} {b : Addr} {o : Obj} (e : h.get? b = some o) (n : H b = none) : (hidT h H).get? b = some o :=
  PySem.W.hideAll_get _ e fun hm => by
    have q : (H b).isSome = true := (List.mem_filter.mp hm).2
    rw [n] at q; simp at q
theorem of_hidT {h : Heap} {H : Hp} {b : Addr} {o : Obj} (e : (hidT h H).get? b = some o) : h.get? b = some o ∧ H b = none := by
  have e' : h.get? b = some o := PySem.W.of_hideAll (trk h H) e
  refine ⟨e', ?_⟩
  cases q : H b with
  | none => rfl
  | some x =>
    have hm : b ∈ trk h H := List.mem_filter.mpr ⟨List.mem_range.mpr (Heap.lt_size e'), by simp [q]⟩
    have z : (hidT h H).get? b = none := PySem.W.hideAll_none (trk h H) hm
    rw [z] at e; cases e

/-! ### OpenK's ledger, filled with every new object but one -/
def allNews (g h : Heap) (L : Addr) : List (Addr × Obj) := (List.range h.objs.size).filterMap fun a => if a = L ∨ (g.get? a).isSome = true then none else (h.get? a).map fun o => (a, o)
def rest (g h : Heap) (L d : Addr) : List (Addr × Obj) := (allNews g h L).filter fun p => decide (p.1 ≠ d)
end L2

namespace L2
open PySem PySem.Spec PyProof.Rows

/-- the module's facts, over the base: the heap at the law's entry without what is tracked there -/
structure Mod (K : PySem.W.Frag) (mg : Str → Option Value) (base : Heap) : Prop where
  kin : K.In base
  glob : base.Ns mainGlobals mg
  blt : ∃ mb, base.Ns builtinsNs mb ∧ ∀ x : Str, x ≠ "__name__" → mb x = bootBuiltins x
  nolimit : base.NoLimit

/-- the context: a def's body (or a comprehension's block) running. base: fixed through the whole law; s₀, H₀: the entry; outer: the frames whose slots others may change (a def's callers); stack: all frames that run;
   ex: iterators that were made ahead of the entry and are walked here (a comprehension's); fn: the names whose cells were made at the entry (a def: all; a comprehension's block: its own); calm: not within an except suite; pn: pins that every state bears; xe: what is wanted of an exception that leaves the code -/
structure Cx where
  prog : Program
  w : World
  K : PySem.W.Frag
  mg : Str → Option Value
  base : Heap
  A : Around
  N : List Str
  s₀ : Shared
  H₀ : Hp
  env : Env
  outer : List Env
  stack : List Env
  ex : List Addr
  fn : Str → Bool
  calm : Bool
  pn : List (Addr × Obj)
  xe : Value → Shared → Prop
/-- the callers' frames -/
def frs (l : List Env) : List Addr := l.filterMap (·.frame)
abbrev Cx.fs (X : Cx) : List Addr := frs X.outer

def Vis (sc : Scope) (x : Str) : Prop := sc.names.lookup x = some .local ∨ sc.names.lookup x = some .cell ∨ sc.names.lookup x = some .free
def Loc (sc : Scope) (x : Str) : Prop := sc.names.lookup x = some .local ∨ sc.names.lookup x = some .cell
def Look (env : Env) (h : Heap) (m : Str → Option Value) (x : Str) (u : Value) : Prop :=
  (env.kindOf x = some .local ∧ m x = some u) ∨ ((env.kindOf x = some .cell ∨ env.kindOf x = some .free) ∧ ∃ c, env.cells.lookup x = some c ∧ h.IsCell c (some u))

structure Cx.Ok (X : Cx) : Prop where
  mod : Mod X.K X.mg X.base
  kind : X.env.scope.kind = .function
  glob : X.env.globals = mainGlobals
  blt : X.env.builtins = builtinsNs
  above : X.s₀.heap.objs.size ≤ X.env.locals
  inj : ∀ x y c, X.env.cells.lookup x = some c → X.env.cells.lookup y = some c → x = y
  has : ∀ x, (X.env.kindOf x = some .cell ∨ X.env.kindOf x = some .free) → ∃ c, X.env.cells.lookup x = some c
  cab : ∀ x c, X.fn x = true → X.env.cells.lookup x = some c → X.s₀.heap.objs.size ≤ c
  hd : X.calm = true → X.A.handled = none
  frames : X.A.frames = some X.stack
  stk : X.stack = X.outer ∨ (X.stack = X.env :: X.outer ∧ X.env.frame = some X.env.locals)
  exf : ∀ b ∈ X.ex, b ≠ X.env.locals ∧ ∀ x c, X.env.cells.lookup x = some c → c ≠ b
  bs : ∀ b o, X.base.get? b = some o → X.s₀.heap.get? b = some o ∧ X.H₀ b = none
  bsz : X.base.objs.size ≤ X.s₀.heap.objs.size
  noex : ∀ b o, X.base.get? b = some o → b ∉ X.ex
  exfs : ∀ b ∈ X.ex, b ∉ X.fs
  funs : X.s₀.heap.FunFrames X.base X.outer
  frf : ∀ b ∈ X.fs, X.H₀ b = none

structure Inv (X : Cx) (pins : List (Addr × Obj)) (σ : List (Option V)) (H : Hp) (s : Shared) : Prop where
  ok : X.Ok
  os : s.os = X.s₀.os
  bare : AllBare s.gens
  base : Un X.fs X.ex X.H₀ H X.s₀.heap s.heap
  loc : ∃ m, s.heap.Ns X.env.locals m ∧ ∀ (i : Nat) (x : Str) (v : V), X.N[i]? = some x → σ[i]? = some (some v) → Vis X.env.scope x → ∃ u, RelV v u ∧ Look X.env s.heap m x u
  cell : ∀ x c, X.env.cells.lookup x = some c → ∃ v, s.heap.IsCell c v
  free : H X.env.locals = none
  freeC : ∀ x c, X.env.cells.lookup x = some c → H c = none
  pin : ∀ p ∈ X.pn ++ pins, s.heap.get? p.1 = some p.2 ∧ H p.1 = none ∧ p.1 ≠ X.env.locals ∧ p.1 ∉ X.fs ∧ ∀ v, p.2.data ≠ .cell v
  hok : HOk X.prog X.w H s.heap
  len : σ.length = X.N.length

section
variable {X : Cx} {pins : List (Addr × Obj)} {σ : List (Option V)} {H H' : Hp} {s : Shared} {h' : Heap}

theorem Cx.Ok.nofr (ok : X.Ok) {b : Addr} {o : Obj} (e : X.base.get? b = some o) : b ∉ X.fs := fun hb => by
  have := (ok.funs.mem hb).1
  rw [e] at this; cases this
theorem Inv.bs (I : Inv X pins σ H s) : ∀ b o, X.base.get? b = some o → s.heap.get? b = some o ∧ H b = none := fun b o e =>
  ⟨I.base.keep b o (I.ok.bs b o e).1 (I.ok.bs b o e).2 (I.ok.nofr e) (I.ok.noex b o e), I.base.free b o (I.ok.bs b o e).1 (I.ok.bs b o e).2 (I.ok.noex b o e)⟩
theorem Inv.bk (I : Inv X pins σ H s) : ∀ b o, X.base.get? b = some o → s.heap.get? b = some o := fun b o e => (I.bs b o e).1
theorem Inv.mod (I : Inv X pins σ H s) : Mod X.K X.mg X.base := I.ok.mod
theorem Inv.kIn (I : Inv X pins σ H s) : X.K.In s.heap := I.ok.mod.kin.keeps I.bk
theorem Inv.nolimit (I : Inv X pins σ H s) : s.heap.NoLimit := I.ok.mod.nolimit.keeps I.bk
/-- the frame over the base: for OpenK's rules (K.In X.base is I.mod.kin) -/
theorem Inv.fr (I : Inv X pins σ H s) : ∃ m, Fr X.base X.env.locals s.heap m :=
  let ⟨m, hn, _⟩ := I.loc
  ⟨m, hn, I.bk, Nat.le_trans I.ok.bsz I.ok.above⟩
theorem Inv.lt (I : Inv X pins σ H s) : X.env.locals < s.heap.objs.size := let ⟨_, hn, _⟩ := I.loc; hn.lt
theorem Inv.sz (I : Inv X pins σ H s) : X.s₀.heap.objs.size ≤ s.heap.objs.size := Nat.le_trans I.ok.above (Nat.le_of_lt I.lt)
theorem Inv.nofs (I : Inv X pins σ H s) {a : Addr} (h : s.heap.objs.size ≤ a) : a ∉ X.fs := fun hb => by
  obtain ⟨_, o, ho, _⟩ := I.ok.funs.mem hb
  exact absurd (Nat.lt_of_lt_of_le (Heap.lt_size ho) (Nat.le_trans I.sz h)) (Nat.lt_irrefl _)
theorem Inv.cne (I : Inv X pins σ H s) : ∀ x c, X.env.cells.lookup x = some c → c ≠ X.env.locals := fun x c e z => by
  obtain ⟨v, o, ho, hd⟩ := I.cell x c e
  obtain ⟨m, ⟨o', es, ep, ho', hd', _⟩, _⟩ := I.loc
  rw [z, ho'] at ho; cases ho; rw [hd'] at hd; cases hd
theorem Inv.funs (I : Inv X pins σ H s) : s.heap.FunFrames X.base X.outer := by
  have all : ∀ (l : List Env), (∀ b ∈ frs l, b ∈ X.fs) → X.s₀.heap.FunFrames X.base l → s.heap.FunFrames X.base l := by
    intro l
    induction l with
    | nil => intro _ _; trivial
    | cons env r ih =>
      intro hs hl
      obtain ⟨hk, ⟨L, o, hf, hn, ho, hd⟩, hr⟩ := hl
      have hL : L ∈ X.fs := hs L (by unfold frs; rw [List.filterMap_cons, hf]; exact List.mem_cons_self)
      obtain ⟨sl, e⟩ := I.base.slot L o ho (I.ok.frf L hL) hL fun z => I.ok.exfs L z hL
      exact ⟨hk, ⟨L, _, hf, hn, e, hd⟩, ih (fun b hb => hs b (by unfold frs; rw [List.filterMap_cons, hf]; exact List.mem_cons_of_mem _ hb)) hr⟩
  exact all X.outer (fun _ hb => hb) I.ok.funs

/-- the frames that run, for a call -/
theorem Inv.stack (I : Inv X pins σ H s) : s.heap.FunFrames X.base X.stack := by
  rcases I.ok.stk with e | ⟨e, hf⟩
  · rw [e]; exact I.funs
  · rw [e]
    obtain ⟨m, hn, _⟩ := I.loc
    refine .cons (by rw [I.ok.kind]; decide) hf hn ?_ I.funs
    exact Heap.get?_none_of_le (Nat.le_trans I.ok.bsz I.ok.above)
theorem Inv.stkSub (I : Inv X pins σ H s) : ∀ b ∈ frs X.stack, b ∈ X.env.locals :: X.fs := fun b hb => by
  rcases I.ok.stk with e | ⟨e, hf⟩
  · rw [e] at hb; exact List.mem_cons_of_mem _ hb
  · rw [e] at hb
    unfold frs at hb
    rw [List.filterMap_cons, hf] at hb
    exact hb
theorem Inv.stkFree (I : Inv X pins σ H s) : ∀ b ∈ frs X.stack, H b = none := fun b hb => by
  rcases List.mem_cons.mp (I.stkSub b hb) with e | hb
  · rw [e]; exact I.free
  · obtain ⟨_, o, ho, _⟩ := I.ok.funs.mem hb
    exact I.base.free b o ho (I.ok.frf b hb) fun z => I.ok.exfs b z hb

/-- THE STEP: the untracked objects but the frame and the records at ch are kept (the callers' frames up to slots), the frame's map is kept, the new abstract heap is held -/
theorem Inv.step {g' : Array GenState} {t' : Nat} {d' : Drawn} {ch : List Addr} (I : Inv X pins σ H s)
    (hch : ∀ b ∈ ch, (b ∈ X.ex ∨ X.s₀.heap.objs.size ≤ b) ∧ b ≠ X.env.locals ∧ (∀ x c, X.env.cells.lookup x = some c → c ≠ b) ∧ ∀ p ∈ X.pn ++ pins, p.1 ≠ b)
    (keep : ∀ b o, b ≠ X.env.locals → b ∉ X.fs → b ∉ ch → s.heap.get? b = some o → H b = none → h'.get? b = some o)
    (slot : ∀ b o, b ≠ X.env.locals → b ∈ X.fs → b ∉ ch → s.heap.get? b = some o → H b = none → ∃ sl, h'.get? b = some { o with slots := sl }) (free : ∀ b o, b ∉ ch → s.heap.get? b = some o → H b = none → H' b = none)
    (there : ∀ b o, b ∉ ch → s.heap.get? b = some o → ∃ o', h'.get? b = some o')
    (tups : ∀ b xs, H b = some (.tup xs) → H' b = some (.tup xs)) (frzs : ∀ b o u, H b = some (.frz o u) → H' b = some (.frz o u)) (tbls : ∀ b ps, H b = some (.tbl ps) → ∃ more, H' b = some (.tbl (ps ++ more)))
    (ns : ∀ m, s.heap.Ns X.env.locals m → h'.Ns X.env.locals m) (hok : HOk X.prog X.w H' h') (hg : AllBare g') :
    Inv X pins σ H' { s with heap := h', gens := g', drawn := d', toks := t' } := by
  have neL : ∀ b o, X.s₀.heap.get? b = some o → b ≠ X.env.locals := fun b o e => Nat.ne_of_lt (Nat.lt_of_lt_of_le (Heap.lt_size e) I.ok.above)
  have neC : ∀ b o, X.s₀.heap.get? b = some o → b ∉ X.ex → b ∉ ch := fun b o e hx hb => by
    rcases (hch b hb).1 with z | z
    · exact hx z
    · exact absurd (Nat.lt_of_lt_of_le (Heap.lt_size e) z) (Nat.lt_irrefl _)
  have cellK : ∀ x c, X.env.cells.lookup x = some c → ∀ v, s.heap.IsCell c v → h'.IsCell c v := fun x c e v ⟨o, ho, hd⟩ => by
    have nch : c ∉ ch := fun z => (hch c z).2.2.1 x c e rfl
    by_cases hc : c ∈ X.fs
    · obtain ⟨sl, q⟩ := slot c o (I.cne x c e) hc nch ho (I.freeC x c e)
      exact ⟨_, q, hd⟩
    · exact ⟨o, keep c o (I.cne x c e) hc nch ho (I.freeC x c e), hd⟩
  refine ⟨I.ok, I.os, hg, ⟨fun b o e n hb hx => ?_, fun b o e n hb hx => ?_, fun b o e n hx => ?_, fun b o e hx => ?_, fun b xs e => tups b xs (I.base.tups b xs e), fun b o xs e => frzs b o xs (I.base.frzs b o xs e), fun b ps e => ?_⟩, ?_, fun x c e => ?_, ?_, fun x c e => ?_, fun p hp => ?_, hok, I.len⟩
  · exact keep b o (neL b o e) hb (neC b o e hx) (I.base.keep b o e n hb hx) (I.base.free b o e n hx)
  · obtain ⟨sl, e1⟩ := I.base.slot b o e n hb hx
    obtain ⟨sl', e2⟩ := slot b _ (neL b o e) hb (neC b o e hx) e1 (I.base.free b o e n hx)
    exact ⟨sl', e2⟩
  · obtain ⟨o', e1⟩ := I.base.there b o e hx
    exact free b o' (neC b o e hx) e1 (I.base.free b o e n hx)
  · obtain ⟨o', e1⟩ := I.base.there b o e hx
    exact there b o' (neC b o e hx) e1
  · obtain ⟨m1, e1⟩ := I.base.tbls b ps e
    obtain ⟨m2, e2⟩ := tbls b _ e1
    exact ⟨m1 ++ m2, by rw [e2, Array.append_assoc]⟩
  · obtain ⟨m, hn, hl⟩ := I.loc
    refine ⟨m, ns m hn, fun i x v e1 e2 e3 => ?_⟩
    obtain ⟨u, r, l⟩ := hl i x v e1 e2 e3
    refine ⟨u, r, ?_⟩
    rcases l with l | ⟨k, c, e, z⟩
    · exact .inl l
    · exact .inr ⟨k, c, e, cellK x c e _ z⟩
  · obtain ⟨v, z⟩ := I.cell x c e
    exact ⟨v, cellK x c e v z⟩
  · obtain ⟨m, ⟨o, _, _, ho, _⟩, _⟩ := I.loc
    exact free _ o (fun z => (hch _ z).2.1 rfl) ho I.free
  · obtain ⟨v, o, ho, hd⟩ := I.cell x c e
    exact free c o (fun z => (hch c z).2.2.1 x c e rfl) ho (I.freeC x c e)
  · obtain ⟨e, n, ne, nf, d⟩ := I.pin p hp
    have nch : p.1 ∉ ch := fun z => (hch p.1 z).2.2.2 p hp rfl
    exact ⟨keep p.1 p.2 ne nf nch e n, free p.1 p.2 nch e n, ne, nf, d⟩
/-- .. where the frame's own object is kept too -/
theorem Inv.un {t' : Nat} (I : Inv X pins σ H s) (u : Un X.fs [] H H' s.heap h') (hok : HOk X.prog X.w H' h') : Inv X pins σ H' { s with heap := h', toks := t' } := by
  obtain ⟨m, ⟨o, es, ep, ho, r⟩, _⟩ := id I.loc
  obtain ⟨sl, hL⟩ := u.any ho I.free (by simp)
  exact I.step (g' := s.gens) (d' := s.drawn) (ch := []) (fun _ z => nomatch z) (fun b o _ hb _ e n => u.keep b o e n hb (by simp)) (fun b o _ hb _ e n => u.slot b o e n hb (by simp)) (fun b o _ e n => u.free b o e n (by simp)) (fun b o _ e => u.there b o e (by simp)) u.tups u.frzs u.tbls (fun m' hm => by
    obtain ⟨o', es', ep', ho', r'⟩ := hm
    rw [ho] at ho'; cases ho'
    exact ⟨_, es', ep', hL, r'⟩) hok I.bare
/-- behind a call (or a comprehension's block): the slots of this frame may have changed too, the records at ch may have turned -/
theorem Inv.call {g' : Array GenState} {t' : Nat} {d' : Drawn} {ch : List Addr} (I : Inv X pins σ H s) (u : Un (frs X.stack) ch H H' s.heap h') (hok : HOk X.prog X.w H' h') (hg : AllBare g')
    (hch : ∀ b ∈ ch, (b ∈ X.ex ∨ X.s₀.heap.objs.size ≤ b) ∧ b ≠ X.env.locals ∧ (∀ x c, X.env.cells.lookup x = some c → c ≠ b) ∧ ∀ p ∈ X.pn ++ pins, p.1 ≠ b) :
    Inv X pins σ H' { s with heap := h', gens := g', drawn := d', toks := t' } := by
  obtain ⟨m, ⟨o, es, ep, ho, r⟩, _⟩ := id I.loc
  obtain ⟨sl, hL⟩ := u.any ho I.free fun z => (hch _ z).2.1 rfl
  exact I.step (ch := ch) hch (fun b o hL hb hc e n => u.keep b o e n (fun z => (List.mem_cons.mp (I.stkSub b z)).elim hL hb) hc) (fun b o _ _ hc e n => u.any e n hc) (fun b o hc e n => u.free b o e n hc) (fun b o hc e => u.there b o e hc) u.tups u.frzs u.tbls (fun m' hm => by
    obtain ⟨o', es', ep', ho', r'⟩ := hm
    rw [ho] at ho'; cases ho'
    exact ⟨_, es', ep', hL, r'⟩) hok hg
/-- an untracked record of ours (an iterator) has turned -/
theorem Inv.turned {t' : Nat} {it : Addr} (I : Inv X pins σ H s) (k : ∀ b o, b ≠ it → s.heap.get? b = some o → h'.get? b = some o) (hn : H it = none) (hL : it ≠ X.env.locals)
    (h1 : it ∈ X.ex ∨ X.s₀.heap.objs.size ≤ it) (h2 : ∀ x c, X.env.cells.lookup x = some c → c ≠ it) (h3 : ∀ p ∈ X.pn ++ pins, p.1 ≠ it) : Inv X pins σ H { s with heap := h', toks := t' } := by
  have nit : ∀ b u, H b = some u → b ≠ it := fun b u e z => by rw [z, hn] at e; cases e
  refine I.step (g' := s.gens) (d' := s.drawn) (ch := [it]) (fun b hb => ?_) (fun b o _ _ hc e _ => k b o (fun z => hc (by simp [z])) e) (fun b o _ _ hc e _ => ⟨o.slots, k b o (fun z => hc (by simp [z])) e⟩) (fun _ _ _ _ n => n)
    (fun b o hc e => ⟨o, k b o (fun z => hc (by simp [z])) e⟩) (fun _ _ e => e) (fun _ _ _ e => e) (fun b ps e => ⟨#[], by rw [e]; simp⟩) (fun m hm => ?_) (fun b u e => ?_) I.bare
  · have e : b = it := by simpa using hb
    subst e
    exact ⟨h1, hL, h2, h3⟩
  · obtain ⟨o, es, ep, ho, r⟩ := hm
    exact ⟨o, es, ep, k _ o (Ne.symm hL) ho, r⟩
  · refine (I.hok b u e).stay (fun c v hc q => k c v ?_ q) (fun _ q => q) fun _ _ q => q
    rcases hc with z | z
    · rw [z]; exact nit b u e
    · exact nit c _ z
theorem Inv.tok (I : Inv X pins σ H s) (t : Nat) : Inv X pins σ H { s with toks := t } := I.un (h' := s.heap) (t' := t) Un.refl I.hok
/-- all objects kept -/
theorem Inv.kept {t' : Nat} (I : Inv X pins σ H s) (k : ∀ b u, s.heap.get? b = some u → h'.get? b = some u) : Inv X pins σ H { s with heap := h', toks := t' } := I.un (Un.kept k) (I.hok.kept k)
/-- a new object laid and tracked -/
theorem Inv.laid {a : Addr} {o : HO} {t' : Nat} (I : Inv X pins σ H s) (k : ∀ b u, s.heap.get? b = some u → h'.get? b = some u) (hp : s.heap.objs.size ≤ a) (new : ObjOk X.prog X.w (upd H a o) h' a o) :
    Inv X pins σ (upd H a o) { s with heap := h', toks := t' } := I.un (Un.laid k hp (I.hok.fresh hp)) (I.hok.laid k hp new)
/-- an object written -/
theorem Inv.write {x e : Addr} {o : HO} {t' : Nat} (I : Inv X pins σ H s) (mu : Mut (H x)) (he : e = x ∨ H e = some (.own x)) (k : ∀ b u, b ≠ e → s.heap.get? b = some u → h'.get? b = some u) (heo : ∃ u, h'.get? e = some u)
    (new : ObjOk X.prog X.w (upd H x o) h' x o) : Inv X pins σ (upd H x o) { s with heap := h', toks := t' } := I.un (Un.write mu he k heo) (I.hok.write mu he k heo new)
/-- forgetting slots, pins -/
theorem Inv.weak {σ' : List (Option V)} (I : Inv X pins σ H s) (hl : σ'.length = σ.length) (w : ∀ (i : Nat) v, σ'[i]? = some (some v) → σ[i]? = some (some v)) : Inv X pins σ' H s :=
  ⟨I.ok, I.os, I.bare, I.base, let ⟨m, hn, hl'⟩ := I.loc; ⟨m, hn, fun i x v e1 e2 e3 => hl' i x v e1 (w i v e2) e3⟩, I.cell, I.free, I.freeC, I.pin, I.hok, hl.trans I.len⟩
theorem Inv.pins_of {pins' : List (Addr × Obj)} (I : Inv X pins σ H s) (h : ∀ p ∈ pins', s.heap.get? p.1 = some p.2 ∧ H p.1 = none ∧ p.1 ≠ X.env.locals ∧ p.1 ∉ X.fs ∧ ∀ v, p.2.data ≠ .cell v) : Inv X pins' σ H s :=
  ⟨I.ok, I.os, I.bare, I.base, I.loc, I.cell, I.free, I.freeC, fun p hp => (List.mem_append.mp hp).elim (fun z => I.pin p (List.mem_append_left _ z)) (h p), I.hok, I.len⟩

theorem nodup_ix {N : List Str} (hN : N.Nodup) {i j : Nat} {x : Str} (a : N[i]? = some x) (b : N[j]? = some x) : i = j := by
  obtain ⟨h1, e1⟩ := List.getElem?_eq_some_iff.mp a
  obtain ⟨h2, e2⟩ := List.getElem?_eq_some_iff.mp b
  exact (List.getElem_inj hN).mp (e1.trans e2.symm)

/-- a name is stored; what changed -/
theorem store_ok2 {M : Model} {A : Around} {E : Value → Shared → Prop} {i : Nat} {x : Str} {v : V} {u : Value} {Q : Unit → Shared → Prop} (I : Inv X pins σ H s) (hN : X.N.Nodup) (hi : X.N[i]? = some x) (hx : Loc X.env.scope x) (r : RelV v u)
    (h : ∀ s', Inv X pins (σ.set i (some v)) H s' → (∃ a, Heap.SameBut a s.heap s'.heap ∧ (a = X.env.locals ∨ X.env.cells.lookup x = some a)) → Q () s') (hf : X.fn x = true ∨ X.env.scope.names.lookup x = some .local := by first | exact .inl rfl | exact .inr rfl | assumption) : wpAny M A (storeName X.env x u) Q E s := by
  obtain ⟨m, hn, hl⟩ := id I.loc
  have hcls : (X.env.scope.kind == .class || (X.env.scope.kind == .module && X.env.locals != X.env.globals)) = false := by rw [I.ok.kind]; rfl
  have hiσ : i < σ.length := by rw [I.len]; exact (List.getElem?_eq_some_iff.mp hi).1
  have cne := I.cne
  have tracked : ∀ {a : Addr} {h' : Heap}, (∃ o, s.heap.get? a = some o ∧ H a = none) → Heap.SameBut a s.heap h' → HOk X.prog X.w H h' := fun {a h'} ha hs b ob e => by
    obtain ⟨_, _, hfree⟩ := ha
    refine (I.hok b ob e).stay (fun c w' hc q => (hs.2 c ?_).trans q) (fun _ q => q) fun _ _ q => q
    rintro rfl
    rcases hc with rfl | hc
    · rw [hfree] at e; cases e
    · rw [hfree] at hc; cases hc
  rcases hx with hk | hk
  · refine wpAny_storeName_local hk hn (fun h' hn' hs => ?_) hcls
    obtain ⟨oL, _, _, hoL, _⟩ := id hn
    refine h _ ⟨I.ok, I.os, I.bare, ⟨fun b o e n hb hx => ?_, fun b o e n hb hx => ?_, I.base.free, fun b o e hx => ?_, I.base.tups, I.base.frzs, I.base.tbls⟩, ⟨_, hn', fun j y v' e1 e2 e3 => ?_⟩, fun y c e => ?_, I.free, I.freeC, fun p hp => ?_, tracked ⟨oL, hoL, I.free⟩ hs, by simpa using I.len⟩ ⟨_, hs, .inl rfl⟩
    · exact (hs.2 b (Nat.ne_of_lt (Nat.lt_of_lt_of_le (Heap.lt_size e) I.ok.above))).trans (I.base.keep b o e n hb hx)
    · obtain ⟨sl, e1⟩ := I.base.slot b o e n hb hx
      exact ⟨sl, (hs.2 b (Nat.ne_of_lt (Nat.lt_of_lt_of_le (Heap.lt_size e) I.ok.above))).trans e1⟩
    · obtain ⟨o', e1⟩ := I.base.there b o e hx
      exact ⟨o', (hs.2 b (Nat.ne_of_lt (Nat.lt_of_lt_of_le (Heap.lt_size e) I.ok.above))).trans e1⟩
    · by_cases hj : j = i
      · subst hj
        rw [hi] at e1; cases e1
        rw [List.getElem?_set_self hiσ] at e2
        cases e2
        exact ⟨u, r, .inl ⟨hk, by simp⟩⟩
      · rw [List.getElem?_set_ne (Ne.symm hj)] at e2
        obtain ⟨u', r', q⟩ := hl j y v' e1 e2 e3
        refine ⟨u', r', ?_⟩
        rcases q with ⟨k, e⟩ | ⟨k, c, e, z⟩
        · refine .inl ⟨k, ?_⟩
          have : y ≠ x := fun e => hj (nodup_ix hN e1 (e ▸ hi))
          simp [this, e]
        · exact .inr ⟨k, c, e, z.sameBut hs (cne y c e)⟩
    · obtain ⟨w', z⟩ := I.cell y c e
      exact ⟨w', z.sameBut hs (cne y c e)⟩
    · obtain ⟨e, n, ne, nf, d⟩ := I.pin p hp
      exact ⟨(hs.2 p.1 ne).trans e, n, ne, nf, d⟩
  · have hfn : X.fn x = true := by
      rcases hf with z | z
      · exact z
      · rw [z] at hk; cases hk
    obtain ⟨c, hc⟩ := I.ok.has x (.inl hk)
    obtain ⟨w', z⟩ := I.cell x c hc
    refine wpAny_storeName_cell I.ok.kind hk hc z (fun h' hc' hs => ?_)
    obtain ⟨oc, hoc, hocd⟩ := id z
    refine h { s with heap := h' } ⟨I.ok, I.os, I.bare, ⟨fun b o e n hb hx => ?_, fun b o e n hb hx => ?_, I.base.free, fun b o e hx => ?_, I.base.tups, I.base.frzs, I.base.tbls⟩, ⟨m, hn.sameBut hs (Ne.symm (cne x c hc)), fun j y v' e1 e2 e3 => ?_⟩, fun y c' e => ?_, I.free, I.freeC, fun p hp => ?_, tracked ⟨oc, hoc, I.freeC x c hc⟩ hs, by simpa using I.len⟩ ⟨c, hs, .inr hc⟩
    · exact (hs.2 b (Nat.ne_of_lt (Nat.lt_of_lt_of_le (Heap.lt_size e) (I.ok.cab x c hfn hc)))).trans (I.base.keep b o e n hb hx)
    · obtain ⟨sl, e1⟩ := I.base.slot b o e n hb hx
      exact ⟨sl, (hs.2 b (Nat.ne_of_lt (Nat.lt_of_lt_of_le (Heap.lt_size e) (I.ok.cab x c hfn hc)))).trans e1⟩
    · obtain ⟨o', e1⟩ := I.base.there b o e hx
      exact ⟨o', (hs.2 b (Nat.ne_of_lt (Nat.lt_of_lt_of_le (Heap.lt_size e) (I.ok.cab x c hfn hc)))).trans e1⟩
    · by_cases hj : j = i
      · subst hj
        rw [hi] at e1; cases e1
        rw [List.getElem?_set_self hiσ] at e2
        cases e2
        exact ⟨u, r, .inr ⟨.inl hk, c, hc, hc'⟩⟩
      · rw [List.getElem?_set_ne (Ne.symm hj)] at e2
        obtain ⟨u', r', q⟩ := hl j y v' e1 e2 e3
        refine ⟨u', r', ?_⟩
        rcases q with q | ⟨k, c', e, z'⟩
        · exact .inl q
        · refine .inr ⟨k, c', e, z'.sameBut hs ?_⟩
          rintro rfl
          exact hj (nodup_ix hN e1 (I.ok.inj _ _ _ e hc ▸ hi))
    · by_cases hcc : c' = c
      · subst hcc; exact ⟨_, hc'⟩
      · obtain ⟨w2, z2⟩ := I.cell y c' e
        exact ⟨w2, z2.sameBut hs hcc⟩
    · obtain ⟨e, n, ne, nf, d⟩ := I.pin p hp
      refine ⟨(hs.2 p.1 ?_).trans e, n, ne, nf, d⟩
      intro q
      rw [q, hoc] at e
      have q' : oc = p.2 := Option.some.inj e
      exact d w' (by rw [← q']; exact hocd)
theorem store_ok {M : Model} {A : Around} {E : Value → Shared → Prop} {i : Nat} {x : Str} {v : V} {u : Value} {Q : Unit → Shared → Prop} (I : Inv X pins σ H s) (hN : X.N.Nodup) (hi : X.N[i]? = some x) (hx : Loc X.env.scope x) (r : RelV v u)
    (h : ∀ s', Inv X pins (σ.set i (some v)) H s' → Q () s') (hf : X.fn x = true ∨ X.env.scope.names.lookup x = some .local := by first | exact .inl rfl | exact .inr rfl | assumption) : wpAny M A (storeName X.env x u) Q E s :=
  store_ok2 I hN hi hx r (fun s' I' _ => h s' I') hf
/-- behind a call or a block, the state as it is -/
theorem Inv.call' {s' : Shared} {ch : List Addr} (I : Inv X pins σ H s) (ho : s'.os = s.os) (u : Un (frs X.stack) ch H H' s.heap s'.heap) (hok : HOk X.prog X.w H' s'.heap) (hg : AllBare s'.gens)
    (hch : ∀ b ∈ ch, (b ∈ X.ex ∨ X.s₀.heap.objs.size ≤ b) ∧ b ≠ X.env.locals ∧ (∀ x c, X.env.cells.lookup x = some c → c ≠ b) ∧ ∀ p ∈ X.pn ++ pins, p.1 ≠ b) : Inv X pins σ H' s' := by
  obtain ⟨h', g', d', t', o'⟩ := s'
  have e : o' = s.os := ho
  subst e
  exact I.call (g' := g') (t' := t') (d' := d') u hok hg hch
end

/-! ### the judgements -/
/-- an exception: its class, its own dict's address (where it has one), the abstract heap behind it -/
abbrev XK := Value → Option Addr → Hp → Prop
abbrev St := List (Option V)
abbrev VK := V → Hp → Prop
/-- an expression's reading; a test's; an argument list's -/
abbrev TE := St → Hp → VK → Prop
abbrev TT := St → Hp → (Bool → Hp → Prop) → Prop
abbrev TA := St → Hp → (List V → Hp → Prop) → Prop
/-- what is wanted behind a statement -/
structure Ends where
  nx : St → Hp → Prop
  rt : VK
  bk : St → Hp → Prop := fun _ _ => False
  ct : St → Hp → Prop := fun _ _ => False
abbrev TS := Ends → St → Hp → Prop

def EP (X : Cx) (pins : List (Addr × Obj)) (σ : St) (Q : VK) (u : Value) (s' : Shared) : Prop := ∃ v H', Inv X pins σ H' s' ∧ RelV v u ∧ Q v H'
def TP (X : Cx) (pins : List (Addr × Obj)) (σ : St) (Q : Bool → Hp → Prop) (b : Bool) (s' : Shared) : Prop := ∃ H', Inv X pins σ H' s' ∧ Q b H'
def AP (X : Cx) (pins : List (Addr × Obj)) (σ : St) (Q : List V → Hp → Prop) (us : List Value) (s' : Shared) : Prop := ∃ vs H', Inv X pins σ H' s' ∧ Vals vs us ∧ Q vs H'
def SP (X : Cx) (pins : List (Addr × Obj)) (D : Ends) (f : Flow) (s' : Shared) : Prop :=
  match f with
  | .next => ∃ σ' H', Inv X pins σ' H' s' ∧ D.nx σ' H'
  | .brk => ∃ σ' H', Inv X pins σ' H' s' ∧ D.bk σ' H'
  | .cont => ∃ σ' H', Inv X pins σ' H' s' ∧ D.ct σ' H'
  | .ret u => ∃ v σ' H', Inv X pins σ' H' s' ∧ RelV v u ∧ D.rt v H'

def PE (X : Cx) (e : Expr) (t : TE) : Prop :=
  ∀ (pins : List (Addr × Obj)) (s : Shared) (σ : St) (H : Hp) (Q : VK), Inv X pins σ H s → t σ H Q → wpAny (model X.prog X.w) X.A (eval e X.env) (EP X pins σ Q) X.xe s
def PT (X : Cx) (e : Expr) (t : TT) : Prop :=
  ∀ (pins : List (Addr × Obj)) (s : Shared) (σ : St) (H : Hp) (Q : Bool → Hp → Prop), Inv X pins σ H s → t σ H Q → wpAny (model X.prog X.w) X.A (isTrue e X.env (eval e X.env)) (TP X pins σ Q) X.xe s
/-- a test whatever its 'whole' is (and, or) -/
def PW (X : Cx) (e : Expr) (t : TT) : Prop :=
  ∀ (whole : Sem Value) (pins : List (Addr × Obj)) (s : Shared) (σ : St) (H : Hp) (Q : Bool → Hp → Prop), Inv X pins σ H s → t σ H Q → wpAny (model X.prog X.w) X.A (isTrue e X.env whole) (TP X pins σ Q) X.xe s
theorem PW.pt {X : Cx} {e : Expr} {t : TT} (h : PW X e t) : PT X e t := h _
/-- an argument list (no star), from the left -/
def PA (X : Cx) (es : List Expr) (t : TA) : Prop :=
  ∀ (pos : Pos) (pins : List (Addr × Obj)) (s : Shared) (σ : St) (H : Hp) (Q : List V → Hp → Prop), Inv X pins σ H s → t σ H Q → wpAny (model X.prog X.w) X.A (spliced (backTo pos (starEach es X.env))) (AP X pins σ Q) X.xe s
def PS (X : Cx) (st : Stmt) (t : TS) : Prop :=
  ∀ (pins : List (Addr × Obj)) (s : Shared) (σ : St) (H : Hp) (D : Ends), Inv X pins σ H s → t D σ H → wpAny (model X.prog X.w) X.A (exec st X.env) (SP X pins D) X.xe s
def PSs (X : Cx) (st : List Stmt) (t : TS) : Prop :=
  ∀ (pins : List (Addr × Obj)) (s : Shared) (σ : St) (H : Hp) (D : Ends), Inv X pins σ H s → t D σ H → wpAny (model X.prog X.w) X.A (execs st X.env) (SP X pins D) X.xe s
/-- weaken the end -/
theorem thn {α : Type} {t : Sem α} {Q Q' : α → Shared → Prop} {M : Model} {A : Around} {E : Value → Shared → Prop} {s : Shared} (h : wpAny M A t Q E s) (hQ : ∀ a s, Q a s → Q' a s) : wpAny M A t Q' E s := wpAny_mono h hQ fun _ _ x => x
end L2

namespace L2
open PySem PySem.Spec PyProof.Rows
section
variable {X : Cx}

/-! ### names and constants -/
def tVar (i : Nat) : TE := fun σ H Q => ∃ v, σ[i]? = some (some v) ∧ Q v H
def tC (v : V) : TE := fun _ H Q => Q v H
theorem pe_var {i : Nat} {x : Str} {pos : Pos} (hN : X.N[i]? = some x) (hv : Vis X.env.scope x) (hd : (x == ("__debug__" : Str)) = false := by decide) (hcd : (x == ("__classdict__" : Str)) = false := by decide) : PE X (.Name x pos) (tVar i) := by
  intro pins s σ H Q I h
  obtain ⟨v, e, h⟩ := h
  obtain ⟨m, hn, hl⟩ := I.loc
  obtain ⟨u, r, l⟩ := hl i x v hN e hv
  have fin : EP X pins σ Q u s := ⟨v, H, I, r, h⟩
  rcases l with ⟨hk, hm⟩ | ⟨hk, c, hc, hcell⟩
  · exact wpAny_Name (wpAny_loadName_local I.ok.kind hk hn hm fin) hd
  · rcases hk with hk | hk
    · exact wpAny_Name (wpAny_loadName_cell I.ok.kind hk hc hcell fin) hd
    · exact wpAny_Name (wpAny_loadName_free I.ok.kind hk hc hcell fin hcd) hd
theorem pe_int {i j pos} : PE X (.Constant (.int i) j pos) (tC (.int i)) := fun _ _ _ H _ I h => wpAny_Constant_int ⟨.int i, H, I.tok _, ⟨_, rfl⟩, h⟩
theorem pe_bl {b j pos} : PE X (.Constant (.bool b) j pos) (tC (.bl b)) := fun _ _ _ H _ I h => Constant_bool ⟨.bl b, H, I, rfl, h⟩
theorem pe_non {j pos} : PE X (.Constant .none j pos) (tC .non) := fun _ _ _ H _ I h => Constant_none ⟨.non, H, I, rfl, h⟩
theorem pe_str {x j pos} : PE X (.Constant (.str x) j pos) (tC (.str x)) := fun _ _ _ H _ I h => Calls.Constant_str ⟨.str x, H, I.tok _, ⟨_, rfl⟩, h⟩

/-- a global name of the def -/
def Gl (X : Cx) (x : Str) : Prop := X.env.kindOf x = some .globalImplicit
theorem ld_glob {E : Value → Shared → Prop} {pins : List (Addr × Obj)} {s : Shared} {σ : St} {H : Hp} {x : Str} {u : Value} {pos : Pos} {Q : Value → Shared → Prop} (I : Inv X pins σ H s) (hg : Gl X x) (hm : X.mg x = some u) (h : Q u s)
    (hd : (x == ("__debug__" : Str)) = false := by decide) : wpAny (model X.prog X.w) X.A (eval (.Name x pos) X.env) Q E s :=
  Calls.Name_function_global I.ok.kind hg (Calls.loadGlobal_global (by rw [I.ok.glob]; exact I.mod.glob.keeps I.bk) hm h) hd
theorem ld_blt {E : Value → Shared → Prop} {pins : List (Addr × Obj)} {s : Shared} {σ : St} {H : Hp} {x : Str} {u : Value} {pos : Pos} {Q : Value → Shared → Prop} (I : Inv X pins σ H s) (hg : Gl X x) (hm : X.mg x = none) (hv : bootBuiltins x = some u) (h : Q u s)
    (hn : x ≠ "__name__" := by decide) (hd : (x == ("__debug__" : Str)) = false := by decide) : wpAny (model X.prog X.w) X.A (eval (.Name x pos) X.env) Q E s := by
  obtain ⟨mb, h1, h2⟩ := I.mod.blt
  exact Calls.Name_function_global I.ok.kind hg (Calls.loadGlobal_builtin (by rw [I.ok.glob]; exact I.mod.glob.keeps I.bk) hm (by rw [I.ok.blt]; exact h1.keeps I.bk) ((h2 x hn).trans hv) h) hd
/-- a module's constant, a class, a function, as a value -/
theorem pe_glob {x : Str} {v : V} {u : Value} {pos : Pos} (hg : Gl X x) (hm : X.mg x = some u) (r : RelV v u) (hd : (x == ("__debug__" : Str)) = false := by decide) : PE X (.Name x pos) (tC v) :=
  fun _ _ _ H _ I h => ld_glob I hg hm ⟨v, H, I, r, h⟩ hd
theorem pe_bltn {x : Str} {v : V} {u : Value} {pos : Pos} (hg : Gl X x) (hm : X.mg x = none) (hv : bootBuiltins x = some u) (r : RelV v u) (hn : x ≠ "__name__" := by decide) (hd : (x == ("__debug__" : Str)) = false := by decide) : PE X (.Name x pos) (tC v) :=
  fun _ _ _ H _ I h => ld_blt I hg hm hv ⟨v, H, I, r, h⟩ hn hd

/-! ### arithmetic -/
variable {a b : Expr} {ta tb : TE} {pos : Pos}
/-! ### comparisons -/
/-- a comparison as a value, as a test -/
def tB (t : TE) : TT := fun σ H Q => t σ H fun x H1 => ∃ c, x = .bl c ∧ Q c H1
/-- an expression whose value is a bool, as a test -/
theorem pt_val {e : Expr} {t : TE} (h : PE X e t) (he : ∀ whole, isTrue e X.env whole = (do let v ← whole; standAt e.pos; holding [v] (truthy v)) := by intro _; rfl) : PT X e (tB t) := by
  intro pins s σ H Q I hw
  refine isTrue_plain (thn (h pins s σ H _ I hw) fun v s1 ⟨x, H1, I1, r1, q1⟩ => ?_) (he _)
  obtain ⟨d, rfl, q⟩ := q1
  cases r1
  exact wpAny_truthy_bool ⟨H1, I1, q⟩

/-! ### and, or, not -/
variable {tA tB' : TT} {rest : List Expr}
def tOr (t u : TT) : TT := fun σ H Q => t σ H fun c H1 => if c = true then Q true H1 else u σ H1 Q
def tNot (t : TT) : TT := fun σ H Q => t σ H fun c H1 => Q (!c) H1
theorem pw_or1 (ha : PT X a tA) : PW X (.BoolOp .Or [a] pos) tA := by
  intro wh pins s σ H Q I h
  refine isTrue_or (thn (ha pins s σ H Q I h) fun c s1 e => ?_)
  cases c with
  | false => exact isTrue_or_nil e
  | true => exact e
theorem pw_or (ha : PT X a tA) (hb : PW X (.BoolOp .Or (b :: rest) pos) tB') : PW X (.BoolOp .Or (a :: b :: rest) pos) (tOr tA tB') := by
  intro wh pins s σ H Q I h
  refine isTrue_or (thn (ha pins s σ H _ I h) fun c s1 ⟨H1, I1, q1⟩ => ?_)
  cases c with
  | true => exact ⟨H1, I1, q1⟩
  | false => exact hb wh pins s1 σ H1 Q I1 q1
theorem pt_not (ha : PT X a tA) : PT X (.UnaryOp .Not a pos) (tNot tA) := by
  intro pins s σ H Q I h
  exact isTrue_not (ha pins s σ H (fun c H1 => Q (!c) H1) I h)
/-- .. as values (bools) -/
def tAndV (ta tb : TE) : TE := fun σ H Q => ta σ H fun x H1 => ∃ c, x = .bl c ∧ if c = true then tb σ H1 Q else Q (.bl false) H1
def tNotV (ta : TE) : TE := fun σ H Q => ta σ H fun x H1 => ∃ c, x = .bl c ∧ Q (.bl (!c)) H1
theorem pe_one {op} {t : TE} (h : PE X a t) : PE X (.BoolOp op [a] pos) t := fun pins s σ H Q I hw => BoolOp_one (h pins s σ H Q I hw)
theorem pe_and (ha : PE X a ta) (hb : PE X (.BoolOp .And (b :: rest) pos) tb) : PE X (.BoolOp .And (a :: b :: rest) pos) (tAndV ta tb) := by
  intro pins s σ H Q I h
  refine BoolOp_and (thn (ha pins s σ H _ I h) fun v s1 ⟨x, H1, I1, r1, q1⟩ => ?_)
  obtain ⟨c, rfl, q1⟩ := q1
  cases r1
  refine wpAny_truthy_bool ?_
  cases c with
  | true => exact hb pins s1 σ H1 Q I1 q1
  | false => exact ⟨.bl false, H1, I1, rfl, q1⟩
theorem pe_not (ha : PE X a ta) : PE X (.UnaryOp .Not a pos) (tNotV ta) := by
  intro pins s σ H Q I h
  refine UnaryOp_ (thn (ha pins s σ H _ I h) fun v s1 ⟨x, H1, I1, r1, q1⟩ => ?_)
  obtain ⟨c, rfl, q1⟩ := q1
  cases r1
  exact not_of (wpAny_truthy_bool ⟨.bl (!c), H1, I1, rfl, q1⟩)
end
end L2

namespace L2
open PySem PySem.Spec PyProof.Rows

/-! ### a list, a tuple that is read: tracked, frozen, or an object of the module -/
def SqL (K : PySem.W.Frag) (H : Hp) (a : Addr) (xs : List V) : Prop :=
  Rd H a (.lst xs) ∨
    ∃ (o : Obj) (its : Array Value) (n : Nat), K.lookup a = some o ∧ o.cls = .type "list" ∧ o.dict = none ∧ o.data = .seq its n ∧ its.size ≤ sizeLine ∧ Vals xs its.toList
def SqT (K : PySem.W.Frag) (H : Hp) (a : Addr) (xs : List V) : Prop :=
  Rd H a (.tup xs) ∨
    ∃ (o : Obj) (its : Array Value) (n : Nat), K.lookup a = some o ∧ o.cls = .type "tuple" ∧ o.data = .seq its n ∧ its.size ≤ sizeLine ∧ Vals xs its.toList
def absV : Value → Option V
  | .none => some .non
  | .bool b => some (.bl b)
  | .int i _ => some (.int i)
  | .str x _ => some (.str x)
  | .bytes b _ => some (.byt b)
  | .float b _ => some (.flt b)
  | .ref a => some (.ref a)
  | .type n => some (.ty n)
  | _ => none
theorem RelV.abs {x : V} {u : Value} (r : RelV x u) : absV u = some x := by
  cases x with
  | non => cases r; rfl
  | bl _ => cases r; rfl
  | int _ => obtain ⟨t, rfl⟩ := r; rfl
  | str _ => obtain ⟨t, rfl⟩ := r; rfl
  | byt _ => obtain ⟨t, rfl⟩ := r; rfl
  | flt _ => obtain ⟨t, rfl⟩ := r; rfl
  | ref _ => cases r; rfl
  | ty _ => cases r; rfl
theorem RelV.inj {x y : V} {u : Value} (r : RelV x u) (q : RelV y u) : x = y := Option.some.inj (r.abs.symm.trans q.abs)
theorem Vals.inj : ∀ {xs ys : List V} {us : List Value}, Vals xs us → Vals ys us → xs = ys
  | _, _, _, .nil, .nil => rfl
  | _, _, _, .cons r t, .cons r' t' => by rw [r.inj r', Vals.inj t t']
section
variable {X : Cx} {pins : List (Addr × Obj)} {σ : St} {H : Hp} {s : Shared} {a : Addr} {xs ys : List V}
theorem SqL.of {K : PySem.W.Frag} (h : H a = some (.lst xs)) : SqL K H a xs := .inl (.inl h)
theorem SqT.of {K : PySem.W.Frag} (h : H a = some (.tup xs)) : SqT K H a xs := .inl (.inl h)
theorem Inv.list (I : Inv X pins σ H s) (h : SqL X.K H a xs) : ∃ its : List Value, Vals xs its ∧ PlainL s.heap a its.toArray ∧ xs.length ≤ sizeLine := by
  rcases h with h | ⟨o, its, n, hk, hc, hd, hs, hz, r⟩
  · obtain ⟨z, its, n, r, e⟩ := h.ok I.hok
    exact ⟨its, r, ⟨_, n, e, rfl, rfl, rfl⟩, z⟩
  · refine ⟨its.toList, r, ⟨o, n, I.kIn a o hk, hc, hd, by simpa using hs⟩, ?_⟩
    have e := r.length
    simp only [Array.length_toList] at e
    omega
theorem Inv.tuple (I : Inv X pins σ H s) (h : SqT X.K H a xs) : ∃ its : List Value, Vals xs its ∧ IsTup s.heap a its.toArray ∧ xs.length ≤ sizeLine := by
  rcases h with h | ⟨o, its, n, hk, hc, hs, hz, r⟩
  · obtain ⟨z, its, r, p⟩ := h.ok I.hok
    exact ⟨its, r, p, z⟩
  · refine ⟨its.toList, r, ⟨o, I.kIn a o hk, hc, n, by simpa using hs⟩, ?_⟩
    have e := r.length
    simp only [Array.length_toList] at e
    omega
theorem Inv.list_inj (I : Inv X pins σ H s) (h : SqL X.K H a xs) (h' : SqL X.K H a ys) : xs = ys := by
  obtain ⟨its, r, ⟨o, n, e, _, _, d⟩, _⟩ := I.list h
  obtain ⟨its', r', ⟨o', n', e', _, _, d'⟩, _⟩ := I.list h'
  rw [e] at e'; cases e'
  rw [d] at d'
  injection d' with d1 _
  have : its = its' := by simpa using congrArg Array.toList d1
  subst this
  exact r.inj r'
theorem Inv.tuple_inj (I : Inv X pins σ H s) (h : SqT X.K H a xs) (h' : SqT X.K H a ys) : xs = ys := by
  obtain ⟨its, r, ⟨o, e, _, n, d⟩, _⟩ := I.tuple h
  obtain ⟨its', r', ⟨o', e', _, n', d'⟩, _⟩ := I.tuple h'
  rw [e] at e'; cases e'
  rw [d] at d'
  injection d' with d1 _
  have : its = its' := by simpa using congrArg Array.toList d1
  subst this
  exact r.inj r'
end

/-! ### another wish about exceptions -/
abbrev Cx.wish (X : Cx) (E : Value → Shared → Prop) : Cx := { X with xe := E }
/-- no exception leaves -/
abbrev Cx.nox (X : Cx) : Cx := X.wish fun _ _ => False
theorem Cx.Ok.wish {X : Cx} (ok : X.Ok) (E : Value → Shared → Prop) : (X.wish E).Ok :=
  ⟨ok.mod, ok.kind, ok.glob, ok.blt, ok.above, ok.inj, ok.has, ok.cab, ok.hd, ok.frames, ok.stk, ok.exf, ok.bs, ok.bsz, ok.noex, ok.exfs, ok.funs, ok.frf⟩
theorem Cx.Ok.unwish {X : Cx} {E : Value → Shared → Prop} (ok : (X.wish E).Ok) : X.Ok :=
  ⟨ok.mod, ok.kind, ok.glob, ok.blt, ok.above, ok.inj, ok.has, ok.cab, ok.hd, ok.frames, ok.stk, ok.exf, ok.bs, ok.bsz, ok.noex, ok.exfs, ok.funs, ok.frf⟩
section
variable {X : Cx} {pins : List (Addr × Obj)} {σ : St} {H : Hp} {s : Shared} {E : Value → Shared → Prop}
theorem Inv.wish (I : Inv X pins σ H s) (E : Value → Shared → Prop) : Inv (X.wish E) pins σ H s := ⟨I.ok.wish E, I.os, I.bare, I.base, I.loc, I.cell, I.free, I.freeC, I.pin, I.hok, I.len⟩
theorem Inv.unwish (I : Inv (X.wish E) pins σ H s) : Inv X pins σ H s := ⟨I.ok.unwish, I.os, I.bare, I.base, I.loc, I.cell, I.free, I.freeC, I.pin, I.hok, I.len⟩
theorem SP.unwish {D : Ends} {f : Flow} {s' : Shared} (h : SP (X.wish E) pins D f s') : SP X pins D f s' := by
  cases f with
  | next => obtain ⟨σ', H', I, q⟩ := h; exact ⟨σ', H', I.unwish, q⟩
  | brk => obtain ⟨σ', H', I, q⟩ := h; exact ⟨σ', H', I.unwish, q⟩
  | cont => obtain ⟨σ', H', I, q⟩ := h; exact ⟨σ', H', I.unwish, q⟩
  | ret u => obtain ⟨v, σ', H', I, r, q⟩ := h; exact ⟨v, σ', H', I.unwish, r, q⟩
theorem PE.nox {e : Expr} {t : TE} (h : PE X.nox e t) : PE X e t := fun pins s σ H Q I hw =>
  wpAny_mono (h pins s σ H Q (I.wish _) hw) (fun _ _ ⟨v, H', I', r, q⟩ => ⟨v, H', I'.unwish, r, q⟩) fun _ _ z => False.elim z
theorem PT.nox {e : Expr} {t : TT} (h : PT X.nox e t) : PT X e t := fun pins s σ H Q I hw =>
  wpAny_mono (h pins s σ H Q (I.wish _) hw) (fun _ _ ⟨H', I', q⟩ => ⟨H', I'.unwish, q⟩) fun _ _ z => False.elim z
theorem PSs.nox {st : List Stmt} {t : TS} (h : PSs X.nox st t) : PSs X st t := fun pins s σ H D I hw =>
  wpAny_mono (h pins s σ H D (I.wish _) hw) (fun _ _ q => q.unwish) fun _ _ z => False.elim z
end

/-! ### blocks and small statements -/
section
variable {X : Cx} {st : Stmt} {rest : List Stmt} {t u : TS} {e : Expr} {te : TE} {pos : Pos}
def tNext : TS := fun D σ H => D.nx σ H
def tSeq (t u : TS) : TS := fun D σ H => t { D with nx := u D } σ H
theorem pss_nil : PSs X [] tNext := fun _ _ σ H _ I h => wpAny_execs_nil ⟨σ, H, I, h⟩
theorem pss_cons (h1 : PS X st t) (h2 : PSs X rest u) : PSs X (st :: rest) (tSeq t u) := by
  intro pins s σ H D I h
  refine wpAny_execs_cons (thn (h1 pins s σ H { D with nx := u D } I h) fun f s1 q => ?_)
  cases f with
  | next =>
    obtain ⟨σ', H', I', q⟩ := q
    exact h2 pins s1 σ' H' D I' q
  | ret v => exact q
  | brk => exact q
  | cont => exact q
theorem pss_one (h1 : PS X st t) : PSs X [st] t := by
  intro pins s σ H D I h
  refine wpAny_execs_cons (thn (h1 pins s σ H D I h) fun f s1 q => ?_)
  cases f with
  | next => exact wpAny_execs_nil q
  | ret v => exact q
  | brk => exact q
  | cont => exact q
def tRet (te : TE) : TS := fun D σ H => te σ H D.rt
theorem ps_ret (he : PE X e te) : PS X (.Return (some e) pos) (tRet te) := by
  intro pins s σ H D I h
  exact wpAny_Return_some (thn (he pins s σ H _ I h) fun v s1 ⟨x, H1, I1, r1, q1⟩ => ⟨x, σ, H1, I1, r1, q1⟩)
def tIfS (c : TT) (t u : TS) : TS := fun D σ H => c σ H fun b H1 => if b = true then t D σ H1 else u D σ H1
theorem ps_if {c : Expr} {a b : List Stmt} {tc : TT} (hc : PT X c tc) (ha : PSs X a t) (hb : PSs X b u) : PS X (.If c a b pos) (tIfS tc t u) := by
  intro pins s σ H D I h
  refine wpAny_If (thn (hc pins s σ H _ I h) fun d s1 ⟨H1, I1, q1⟩ => ?_)
  cases d with
  | true => exact ha pins s1 σ H1 D I1 q1
  | false => exact hb pins s1 σ H1 D I1 q1
/-- code that the proof never comes to -/
def tNever : TS := fun _ _ _ => False
theorem ps_never : PS X st tNever := fun _ _ _ _ _ _ h => h.elim
end

/-! ### targets -/
abbrev TG := V → St → Hp → (St → Hp → Prop) → Prop
abbrev TGs := List V → St → Hp → (St → Hp → Prop) → Prop
def PG (X : Cx) (target : Expr) (t : TG) : Prop :=
  ∀ (pins : List (Addr × Obj)) (s : Shared) (σ : St) (H : Hp) (v : V) (u : Value) (Q : St → Hp → Prop), Inv X pins σ H s → RelV v u → t v σ H Q →
    wpAny (model X.prog X.w) X.A (assign target X.env u) (fun _ s' => ∃ σ' H', Inv X pins σ' H' s' ∧ Q σ' H') X.xe s
/-- several targets, one after another -/
def PGs (X : Cx) (ts : List Expr) (t : TGs) : Prop :=
  ∀ (pins : List (Addr × Obj)) (s : Shared) (σ : St) (H : Hp) (vs : List V) (us : List Value) (Q : St → Hp → Prop), Inv X pins σ H s → Vals vs us → t vs σ H Q →
    wpAny (model X.prog X.w) X.A (assignInOrder ((assignEach ts X.env).map (·.2)) us) (fun _ s' => ∃ σ' H', Inv X pins σ' H' s' ∧ Q σ' H') X.xe s
section
variable {X : Cx} {pos : Pos}
def gName (i : Nat) : TG := fun v σ H Q => Q (σ.set i (some v)) H
theorem pg_name {i : Nat} {x : Str} (hN : X.N.Nodup) (hi : X.N[i]? = some x) (hx : Loc X.env.scope x) (hf : X.fn x = true ∨ X.env.scope.names.lookup x = some .local := by first | exact .inl rfl | exact .inr rfl | assumption) : PG X (.Name x pos) (gName i) := by
  intro pins s σ H v u Q I r h
  exact wpAny_assign_Name (store_ok I hN hi hx r (fun s' I' => ⟨_, H, I', h⟩) hf)
def gNil : TGs := fun vs σ H Q => vs = [] ∧ Q σ H
def gCons (t : TG) (u : TGs) : TGs := fun vs σ H Q => ∃ v r, vs = v :: r ∧ t v σ H fun σ' H' => u r σ' H' Q
theorem pgs_nil : PGs X [] gNil := by
  intro pins s σ H vs us Q I r h
  obtain ⟨e, h⟩ := h
  subst e
  cases r
  exact assignInOrder_nil ⟨σ, H, I, h⟩
theorem pgs_cons {e : Expr} {es : List Expr} {t : TG} {u : TGs} (h1 : PG X e t) (h2 : PGs X es u)
    (hs : (assignEach (e :: es) X.env).map (·.2) = assign e X.env :: (assignEach es X.env).map (·.2) := by rfl) : PGs X (e :: es) (gCons t u) := by
  intro pins s σ H vs us Q I r h
  obtain ⟨v, vr, e1, h⟩ := h
  subst e1
  cases r with
  | cons r rr =>
    rw [hs]
    refine assignInOrder_cons (thn (h1 pins s σ H _ _ _ I r h) fun _ s1 ⟨σ1, H1, I1, q1⟩ => ?_)
    exact h2 pins s1 σ1 H1 _ _ Q I1 rr q1
/-- (a, b, ..) = a tuple of that length -/
def gTup (K : PySem.W.Frag) (n : Nat) (t : TGs) : TG := fun v σ H Q => ∃ a xs, v = .ref a ∧ SqT K H a xs ∧ xs.length = n ∧ t xs σ H Q
theorem pg_tup {es : List Expr} {k : Nat} {t : TGs} {n : Nat} (hc : X.calm = true) (h : PGs X es t)
    (hn : (assignEach es X.env).length = n := by rfl) (hst : (assignEach es X.env).findIdx? (·.1) = none := by rfl) : PG X (.Tuple es k pos) (gTup X.K n t) := by
  intro pins s σ H v u Q I r hw
  obtain ⟨a, xs, e1, hq, hl, hw⟩ := hw
  subst e1
  cases r
  obtain ⟨its, rv, ht, hz⟩ := I.tuple hq
  refine assign_Tuple_tuple (I.ok.hd hc) ht (by simp [hn, ← hl, rv.length]) hst fun h' hx => ?_
  have I1 : Inv X pins σ H { s with heap := h' } := I.kept (t' := s.toks) fun b o e => hx b o (Nat.ne_of_lt (Heap.lt_size e)) e
  exact h pins _ σ H xs _ Q I1 (by simpa using rv) hw
/-- target = value -/
def tAsg (te : TE) (g : TG) : TS := fun D σ H => te σ H fun x H1 => g x σ H1 D.nx
/-- name = value -/
theorem ps_set {i : Nat} {x : Str} {e : Expr} {te : TE} {pos' : Pos} (hN : X.N.Nodup) (hi : X.N[i]? = some x) (hx : Loc X.env.scope x) (he : PE X e te) (hs : swapsWith e (some (.Name x pos')) pos.line X.env = pure false := by rfl) (hf : X.fn x = true ∨ X.env.scope.names.lookup x = some .local := by first | exact .inl rfl | exact .inr rfl | assumption) :
    PS X (.Assign [.Name x pos'] e pos) (tAsg te (gName i)) := by
  intro pins s σ H D I h
  refine wpAny_Assign_Name (thn (he pins s σ H _ I h) fun v s1 ⟨y, H1, I1, r1, q1⟩ => ?_) hs
  exact store_ok I1 hN hi hx r1 (fun s2 I2 => ⟨_, H1, I2, q1⟩) hf
end

/-! ### while -/
section
variable {X : Cx} {pos : Pos}
end

/-! ### what a loop or a comprehension walks -/
/-- at turn i: it yields x (the heap may grow), or it stops -/
structure It where
  go : Nat → Hp → Prop
  yld : Nat → Hp → V → Hp → Prop
  stop : Nat → Hp → Prop
/-- the iterator's own objects may turn: they are not the frame's, not pinned, younger than the entry (or a comprehension's own) -/
def FpOk (X : Cx) (pins : List (Addr × Obj)) (H : Hp) (b : Addr) : Prop :=
  H b = none ∧ b ≠ X.env.locals ∧ b ∉ X.fs ∧ (b ∈ X.ex ∨ X.s₀.heap.objs.size ≤ b) ∧ (∀ x c, X.env.cells.lookup x = some c → c ≠ b) ∧ ∀ p ∈ X.pn ++ pins, p.1 ≠ b
theorem Inv.fpOk {X : Cx} {pins : List (Addr × Obj)} {σ : St} {H H' : Hp} {s : Shared} {b : Addr} (I : Inv X pins σ H s) (hb : s.heap.objs.size ≤ b) (hn : H' b = none) : FpOk X pins H' b := by
  refine ⟨hn, Nat.ne_of_gt (Nat.lt_of_lt_of_le I.lt hb), I.nofs hb, .inr (Nat.le_trans I.sz hb), fun x c e z => ?_, fun p hp z => ?_⟩
  · obtain ⟨v, q⟩ := I.cell x c e
    exact absurd (Nat.lt_of_lt_of_le q.lt (by rw [z]; exact hb)) (Nat.lt_irrefl _)
  · exact absurd (Nat.lt_of_lt_of_le (Heap.lt_size (I.pin p hp).1) (by rw [z]; exact hb)) (Nat.lt_irrefl _)
structure Turn (P : Program) (w : World) (K : PySem.W.Frag) (tg : Expr) (J : It) (fp : List Addr) (it : Addr) (tn : Nat → Heap → Prop) : Prop where
  mem : it ∈ fp
  obj : ∀ i h, tn i h → ∀ b ∈ fp, ∃ o, h.get? b = some o ∧ ∀ v, o.data ≠ .cell v
  keep : ∀ i h h', tn i h → (∀ b ∈ fp, ∀ o, h.get? b = some o → h'.get? b = some o) → tn i h'
  item : ∀ (X : Cx), X.prog = P → X.w = w → X.K = K → X.calm = true → ∀ (i : Nat) (pins : List (Addr × Obj)) (s : Shared) (σ : St) (H : Hp) (E : Value → Shared → Prop), Inv X pins σ H s → (∀ b ∈ fp, FpOk X pins H b) → tn i s.heap → J.go i H →
    wpAny (model P w) X.A (pyNext (.ref it)) (fun r s1 => ∃ u, r = some u ∧
      wpAny (model P w) X.A (letOwnedTupleGo tg (.ref it) u) (fun _ s2 => ∃ x H', Inv X pins σ H' s2 ∧ RelV x u ∧ J.yld i H x H' ∧ tn (i + 1) s2.heap ∧ ∀ b ∈ fp, H' b = none) E s1) E s
  done : ∀ (X : Cx), X.prog = P → X.w = w → X.K = K → X.calm = true → ∀ (i : Nat) (pins : List (Addr × Obj)) (s : Shared) (σ : St) (H : Hp) (E : Value → Shared → Prop), Inv X pins σ H s → (∀ b ∈ fp, FpOk X pins H b) → tn i s.heap → J.stop i H →
    wpAny (model P w) X.A (pyNext (.ref it)) (fun r s1 => r = none ∧ Inv X pins σ H s1) E s
  self : ∀ (A : Around) (i : Nat) (s : Shared) (Q : Value → Shared → Prop) (E : Value → Shared → Prop), tn i s.heap → Q (.ref it) s → wpAny (model P w) A (pyIter (.ref it)) Q E s
abbrev TI := St → Hp → (It → Hp → Prop) → Prop
/-- an iterator has come -/
def PIE (X : Cx) (pins : List (Addr × Obj)) (σ : St) (tg : Expr) (R : It → Hp → Prop) (itv : Value) (s2 : Shared) : Prop :=
  ∃ (it : Addr) (fp : List Addr) (tn : Nat → Heap → Prop) (J : It) (H' : Hp), itv = .ref it ∧ Inv X pins σ H' s2 ∧ Turn X.prog X.w X.K tg J fp it tn ∧ tn 0 s2.heap ∧ (∀ b ∈ fp, FpOk X pins H' b) ∧ R J H'
def PI (X : Cx) (tg iter : Expr) (wi : TI) : Prop :=
  ∀ (pins : List (Addr × Obj)) (s : Shared) (σ : St) (H : Hp) (R : It → Hp → Prop), Inv X pins σ H s → wi σ H R →
    wpAny (model X.prog X.w) X.A (eval iter X.env) (fun v s1 => wpAny (model X.prog X.w) X.A (pyIter v) (PIE X pins σ tg R) X.xe s1) X.xe s

/-- the step ahead of the store is nothing for an iterator that keeps no tuple -/
theorem go_of {M : Model} {A : Around} {E : Value → Shared → Prop} {s : Shared} {tg : Expr} {it : Addr} {u : Value} {o : Obj} {n : String} {vs : Array Value} {Q : Unit → Shared → Prop} (ho : s.heap.get? it = some o) (hc : o.cls = .type n) (hd : o.data = .fields vs)
    (hn : ["enumerate", "zip", "dict_itemiterator", "dict_reverseitemiterator", "odict_iterator", "itertools.zip_longest", "itertools.pairwise"].contains n = false) (hQ : Q () s) : wpAny M A (letOwnedTupleGo tg (.ref it) u) Q E s := by
  unfold letOwnedTupleGo
  cases tg <;> first
    | exact wpAny_pure hQ
    | (cases u <;> first
        | exact wpAny_pure hQ
        | (refine wpAny_bind (wpAny_load ho ?_)
           rw [hc, hd]
           show wpAny M A (if (["enumerate", "zip", "dict_itemiterator", "dict_reverseitemiterator", "odict_iterator", "itertools.zip_longest", "itertools.pairwise"].contains n && vs[0]? == some (rawInt _)) = true then _ else _) Q E s
           rw [if_neg (by intro h; rw [hn, Bool.false_and] at h; cases h)]
           exact wpAny_pure hQ))

/-- the list at a, as it stands at each turn (a loop may append to it) -/
def Itl (K : PySem.W.Frag) (a : Addr) : It :=
  ⟨fun i H => ∃ xs x, SqL K H a xs ∧ xs[i]? = some x, fun i H x H' => H' = H ∧ ∀ xs, SqL K H a xs → xs[i]? = some x, fun i H => ∃ xs, SqL K H a xs ∧ xs.length ≤ i⟩
def Itt (K : PySem.W.Frag) (a : Addr) : It :=
  ⟨fun i H => ∃ xs x, SqT K H a xs ∧ xs[i]? = some x, fun i H x H' => H' = H ∧ ∀ xs, SqT K H a xs → xs[i]? = some x, fun i H => ∃ xs, SqT K H a xs ∧ xs.length ≤ i⟩
/-- lo, lo + 1, .. (n of them) -/
def Itr (lo : Int) (n : Nat) : It := ⟨fun i _ => i < n, fun i H x H' => H' = H ∧ x = .int (lo + i), fun i _ => n ≤ i⟩
theorem turn_list {P : Program} {w : World} {K : PySem.W.Frag} {tg : Expr} (a it : Addr) : Turn P w K tg (Itl K a) [it] it (fun i h => h.IsListIter it a i) where
  mem := by simp
  obj := fun i h st b hb => by
    have e : b = it := by simpa using hb
    subst e
    obtain ⟨o, e, c, d⟩ := st
    exact ⟨o, e, fun v z => by rw [d] at z; cases z⟩
  keep := fun i h h' st k => st.at fun o e => k it (by simp) o e
  item := by
    intro X hP hw hK hc i pins s σ H E I hf st hg
    subst hP hw hK
    obtain ⟨xs, x, hq, hx⟩ := hg
    obtain ⟨its, rv, p, hz⟩ := I.list hq
    obtain ⟨u, hu, ru⟩ := rv.get hx
    obtain ⟨f0, f1, f2, f3, f4, f5⟩ := hf it (by simp)
    refine wpAny_pyNext_list_item st p.isList (x := u) (by simpa using hu) fun h' st' sb => ?_
    have I1 : Inv X pins σ H { s with heap := h' } := I.turned (t' := s.toks) (fun b o hb e => (sb.2 b hb).trans e) f0 f1 f3 f4 f5
    obtain ⟨o, e, c, d⟩ := id st'
    exact ⟨u, rfl, go_of (s := { s with heap := h' }) e c d (by decide) ⟨x, H, I1, ru, ⟨rfl, fun ys hy => by rw [I.list_inj hy hq]; exact hx⟩, st', fun b hb => (hf b hb).1⟩⟩
  done := by
    intro X hP hw hK hc i pins s σ H E I hf st hg
    subst hP hw hK
    obtain ⟨xs, hq, hx⟩ := hg
    obtain ⟨its, rv, p, hz⟩ := I.list hq
    obtain ⟨f0, f1, f2, f3, f4, f5⟩ := hf it (by simp)
    have hl := rv.length
    exact wpAny_pyNext_list_end (I.ok.hd hc) st p.isList (by simp; omega) fun h' eb => ⟨rfl, I.turned (t' := s.toks) (fun b o hb e => eb b o hb e) f0 f1 f3 f4 f5⟩
  self := fun _ _ _ _ _ st h => wpAny_pyIter_listiter st h
theorem turn_tuple {P : Program} {w : World} {K : PySem.W.Frag} {tg : Expr} (a it : Addr) : Turn P w K tg (Itt K a) [it] it (fun i h => h.IsTupleIter it a i) where
  mem := by simp
  obj := fun i h st b hb => by
    have e : b = it := by simpa using hb
    subst e
    obtain ⟨o, e, c, d⟩ := st
    exact ⟨o, e, fun v z => by rw [d] at z; cases z⟩
  keep := fun i h h' st k => st.at fun o e => k it (by simp) o e
  item := by
    intro X hP hw hK hc i pins s σ H E I hf st hg
    subst hP hw hK
    obtain ⟨xs, x, hq, hx⟩ := hg
    obtain ⟨its, rv, p, hz⟩ := I.tuple hq
    obtain ⟨u, hu, ru⟩ := rv.get hx
    obtain ⟨f0, f1, f2, f3, f4, f5⟩ := hf it (by simp)
    refine wpAny_pyNext_tuple_item st (show s.heap.IsTuple a its.toArray from p) (x := u) (by simpa using hu) fun h' st' sb => ?_
    have I1 : Inv X pins σ H { s with heap := h' } := I.turned (t' := s.toks) (fun b o hb e => (sb.2 b hb).trans e) f0 f1 f3 f4 f5
    obtain ⟨o, e, c, d⟩ := id st'
    exact ⟨u, rfl, go_of (s := { s with heap := h' }) e c d (by decide) ⟨x, H, I1, ru, ⟨rfl, fun ys hy => by rw [I.tuple_inj hy hq]; exact hx⟩, st', fun b hb => (hf b hb).1⟩⟩
  done := by
    intro X hP hw hK hc i pins s σ H E I hf st hg
    subst hP hw hK
    obtain ⟨xs, hq, hx⟩ := hg
    obtain ⟨its, rv, p, hz⟩ := I.tuple hq
    obtain ⟨f0, f1, f2, f3, f4, f5⟩ := hf it (by simp)
    have hl := rv.length
    exact wpAny_pyNext_tuple_end (I.ok.hd hc) st (show s.heap.IsTuple a its.toArray from p) (by simp; omega) fun h' eb => ⟨rfl, I.turned (t' := s.toks) (fun b o hb e => eb b o hb e) f0 f1 f3 f4 f5⟩
  self := fun _ _ _ _ _ st h => wpAny_pyIter_tupleiter st h
theorem turn_range {P : Program} {w : World} {K : PySem.W.Frag} {tg : Expr} (it : Addr) (lo : Int) (n : Nat) : Turn P w K tg (Itr lo n) [it] it (fun i h => IsRangeIter h it (lo + (i : Nat) * 1) ((n : Int) - (i : Nat)) 1) where
  mem := by simp
  obj := fun i h st b hb => by
    have e : b = it := by simpa using hb
    subst e
    exact ⟨_, st, fun v z => by
      have z' : Data.fields _ = Data.cell v := z
      cases z'⟩
  keep := fun i h h' st k => k it (by simp) _ st
  item := by
    intro X hP hw hK hc i pins s σ H E I hf st hg
    subst hP hw hK
    obtain ⟨f0, f1, f2, f3, f4, f5⟩ := hf it (by simp)
    have W := Walks.range (prog := X.prog) (w := X.w) (I.ok.hd hc) it lo 1 n
    refine W.item i s _ _ hg st fun v h' tk hv st' kk => ?_
    obtain ⟨t, rfl⟩ := hv
    have I1 : Inv X pins σ H { s with heap := h', toks := tk } := I.turned (fun b o hb e => kk b o (by simpa using hb) e) f0 f1 f3 f4 f5
    refine ⟨_, rfl, go_of (s := { s with heap := h', toks := tk }) (n := "range_iterator") st' rfl rfl (by decide) ⟨.int (lo + i), H, I1, ⟨t, ?_⟩, ⟨rfl, rfl⟩, st', fun b hb => (hf b hb).1⟩⟩
    rw [Int.mul_one]
  done := by
    intro X hP hw hK hc i pins s σ H E I hf st hg
    subst hP hw hK
    obtain ⟨f0, f1, f2, f3, f4, f5⟩ := hf it (by simp)
    exact wpAny_pyNext_range_end (I.ok.hd hc) st (by have : n ≤ i := hg; omega) fun h' eb => ⟨rfl, I.turned (t' := s.toks) (fun b o hb e => eb b o hb e) f0 f1 f3 f4 f5⟩
  self := fun _ _ _ _ _ st h => wpAny_pyIter_rangeiter st h
end L2

namespace L2
open PySem PySem.Spec PyProof.Rows
section
variable {X : Cx} {tg : Expr}
def iList (K : PySem.W.Frag) (tl : TE) : TI := fun σ H R => tl σ H fun x H1 => ∃ a, x = .ref a ∧ (∃ xs, SqL K H1 a xs) ∧ R (Itl K a) H1
def iTup (K : PySem.W.Frag) (tl : TE) : TI := fun σ H R => tl σ H fun x H1 => ∃ a, x = .ref a ∧ (∃ xs, SqT K H1 a xs) ∧ R (Itt K a) H1
theorem pi_list {l : Expr} {tl : TE} (hl : PE X l tl) : PI X tg l (iList X.K tl) := by
  intro pins s σ H R I h
  refine thn (hl pins s σ H _ I h) fun v s1 ⟨x, H1, I1, r1, q1⟩ => ?_
  obtain ⟨a, e, ⟨xs, hq⟩, q⟩ := q1
  subst e
  cases r1
  obtain ⟨its, rv, p, hz⟩ := I1.list hq
  refine wpAny_pyIter_list p.isList ?_
  refine ⟨s1.heap.objs.size, [s1.heap.objs.size], _, _, H1, rfl, I1.kept (t' := s1.toks) fun b o e => Heap.get?_push_of_some _ e, turn_list a _, ⟨_, Heap.get?_push_size _ rfl, rfl, rfl⟩, fun b hb => ?_, q⟩
  have e : b = s1.heap.objs.size := by simpa using hb
  subst e
  exact I1.fpOk (Nat.le_refl _) (I1.hok.fresh (Nat.le_refl _))
theorem pi_tup {l : Expr} {tl : TE} (hl : PE X l tl) : PI X tg l (iTup X.K tl) := by
  intro pins s σ H R I h
  refine thn (hl pins s σ H _ I h) fun v s1 ⟨x, H1, I1, r1, q1⟩ => ?_
  obtain ⟨a, e, ⟨xs, hq⟩, q⟩ := q1
  subst e
  cases r1
  obtain ⟨its, rv, p, hz⟩ := I1.tuple hq
  refine wpAny_pyIter_tuple (show s1.heap.IsTuple a its.toArray from p) ?_
  refine ⟨s1.heap.objs.size, [s1.heap.objs.size], _, _, H1, rfl, I1.kept (t' := s1.toks) fun b o e => Heap.get?_push_of_some _ e, turn_tuple a _, ⟨_, Heap.get?_push_size _ rfl, rfl, rfl⟩, fun b hb => ?_, q⟩
  have e : b = s1.heap.objs.size := by simpa using hb
  subst e
  exact I1.fpOk (Nat.le_refl _) (I1.hok.fresh (Nat.le_refl _))
/-- a range object just made, walked -/
theorem range_it {pins : List (Addr × Obj)} {σ : St} {H : Hp} {s : Shared} {R : It → Hp → Prop} {E : Value → Shared → Prop} {lo hi : Int} {t u v : Tok} {tk : Nat} (I : Inv X pins σ H s) (h1 : -(2 ^ 62) ≤ lo) (h2 : lo < 2 ^ 62) (h3 : -(2 ^ 62) ≤ hi) (h4 : hi < 2 ^ 62)
    (q : R (Itr lo (hi - lo).toNat) H) : wpAny (model X.prog X.w) X.A (pyIter (.ref s.heap.objs.size)) (PIE X pins σ tg R) E { s with heap := s.heap.push { cls := .type "range", data := .fields #[.int lo t, .int hi u, .int 1 v] }, toks := tk } := by
  refine wpAny_pyIter_range (IsRange.new ..) (small_one h1 h2 h3 h4) ?_
  have I1 : Inv X pins σ H { s with heap := s.heap.push { cls := .type "range", data := .fields #[.int lo t, .int hi u, .int 1 v] }, toks := tk } := I.kept fun b o e => Heap.get?_push_of_some _ e
  refine ⟨(s.heap.push { cls := .type "range", data := .fields #[.int lo t, .int hi u, .int 1 v] }).objs.size, [(s.heap.push { cls := .type "range", data := .fields #[.int lo t, .int hi u, .int 1 v] }).objs.size], _, _, H, rfl,
    I1.kept (t' := tk) fun b o e => Heap.get?_push_of_some _ e, turn_range _ lo (hi - lo).toNat, ?_, fun b hb => ?_, q⟩
  · have e1 : lo + ((0 : Nat) : Int) * 1 = lo := by simp
    have e2 : (((hi - lo).toNat : Nat) : Int) - ((0 : Nat) : Int) = Builtin.Range.rangeSize lo hi 1 := by rw [rangeSize_one]; split <;> omega
    show IsRangeIter _ _ (lo + ((0 : Nat) : Int) * 1) ((((hi - lo).toNat : Nat) : Int) - ((0 : Nat) : Int)) 1
    rw [e1, e2]
    exact Heap.get?_push_size _ rfl
  · have e : b = (s.heap.push { cls := .type "range", data := .fields #[.int lo t, .int hi u, .int 1 v] }).objs.size := by simpa using hb
    subst e
    exact I1.fpOk (Nat.le_refl _) (I1.hok.fresh (Nat.le_refl _))
def iRng1 (ta : TA) : TI := fun σ H R => ta σ H fun vs H1 => ∃ j : Int, vs = [.int j] ∧ -(2 ^ 62) ≤ j ∧ j < 2 ^ 62 ∧ R (Itr 0 j.toNat) H1
theorem pi_range1 {a : Expr} {ta : TA} {p pos : Pos} (hg : Gl X "range") (hm : X.mg "range" = none) (ha : PA X [a] ta) (hs : starEach [a] X.env = [(false, eval a X.env)] := by rfl) : PI X tg (.Call (.Name "range" p) [a] [] pos) (iRng1 ta) := by
  intro pins s σ H R I h
  refine Call_ (ld_blt I hg hm boot_range (PyProof.Rows.callWith_type1 (thn (ha pos pins s σ H _ I h) fun us s1 ⟨vs, H1, I1, r1, q1⟩ => ?_) hs rfl))
  obtain ⟨j, e, q1, q2, q⟩ := q1
  subst e
  cases r1 with
  | cons r rr =>
    cases rr
    obtain ⟨t, rfl⟩ := r
    exact call_range_1 (range_it I1 (by omega) (by omega) q1 q2 (by simpa using q))
/-! ### for -/
/-- W: the invariant by the turn and a measure; N: what the body is to reach -/
def tFor (wi : TI) (g : TG) (tb : TS) : TS := fun D σ H => wi σ H fun J H1 => ∃ W : Nat → Nat → St → Hp → Prop, (∃ m, W 0 m σ H1) ∧ ∀ i m σ H, W i m σ H →
  (J.stop i H ∧ D.nx σ H) ∨ (J.go i H ∧ ∃ N : St → Hp → Prop, (∀ σ' H', N σ' H' → ∃ m', m' < m ∧ W (i + 1) m' σ' H') ∧ ∀ x H', J.yld i H x H' → g x σ H' fun σ2 H2 => tb { D with nx := N, ct := N, bk := D.nx } σ2 H2)
/-- the records at fp as they stand -/
def pinsAt (fp : List Addr) (h : Heap) : List (Addr × Obj) := fp.filterMap fun b => (h.get? b).map fun o => (b, o)
theorem mem_pinsAt {fp : List Addr} {h : Heap} {b : Addr} {o : Obj} (hb : b ∈ fp) (e : h.get? b = some o) : (b, o) ∈ pinsAt fp h := List.mem_filterMap.mpr ⟨b, hb, by rw [e]; rfl⟩
theorem of_pinsAt {fp : List Addr} {h : Heap} {p : Addr × Obj} (hp : p ∈ pinsAt fp h) : p.1 ∈ fp ∧ h.get? p.1 = some p.2 := by
  obtain ⟨b, hb, e⟩ := List.mem_filterMap.mp hp
  cases q : h.get? b with
  | none => rw [q] at e; cases e
  | some o =>
    rw [q] at e
    have e' : (b, o) = p := Option.some.inj e
    subst e'
    exact ⟨hb, q⟩
theorem Inv.pinned {pins : List (Addr × Obj)} {σ : St} {H : Hp} {s : Shared} {fp : List Addr} (I : Inv X pins σ H s) (hf : ∀ b ∈ fp, FpOk X pins H b) (ho : ∀ b ∈ fp, ∃ o, s.heap.get? b = some o ∧ ∀ v, o.data ≠ .cell v) : Inv X (pins ++ pinsAt fp s.heap) σ H s :=
  I.pins_of fun p hp => (List.mem_append.mp hp).elim (fun z => I.pin p (List.mem_append_right _ z)) fun z => by
    obtain ⟨hb, e⟩ := of_pinsAt z
    obtain ⟨f0, f1, f2, _⟩ := hf p.1 hb
    obtain ⟨o, e', d⟩ := ho p.1 hb
    rw [e] at e'; cases e'
    exact ⟨e, f0, f1, f2, d⟩
theorem Inv.unpinned {pins pl : List (Addr × Obj)} {σ : St} {H : Hp} {s : Shared} (I : Inv X (pins ++ pl) σ H s) : Inv X pins σ H s := I.pins_of fun p hp => I.pin p (List.mem_append_right _ (List.mem_append_left _ hp))
theorem ps_for {iter : Expr} {body : List Stmt} {wi : TI} {g : TG} {tb : TS} {pos : Pos} (hp : PassesOwn (model X.prog X.w) X.A X.env X.xe) (hc : X.calm = true) (hi : PI X tg iter wi) (hg : PG X tg g) (hb : PSs X body tb)
    (hs : ∀ x, foldedSetIterable iter X.env x = pure x := by intro _; rfl) : PS X (.For tg iter body [] pos) (tFor wi g tb) := by
  intro pins s σ H D I h
  refine wpAny_For (thn (hi pins s σ H _ I h) fun v s1 h1 => thn h1 fun itv s2 h2 => ?_) hs
  obtain ⟨it, fp, tn, J, H2, e, I2, T, st2, f2, W, ⟨m0, w0⟩, turn⟩ := h2
  subst e
  -- what stays true of the iterator's objects through the loop
  have stat : ∀ {H' : Hp}, (∀ b ∈ fp, H' b = none) → ∀ b ∈ fp, FpOk X pins H' b := fun hn b hb => ⟨hn b hb, (f2 b hb).2⟩
  refine codeAny_forLoop_any (fun n s' => ∃ i σ' H', Inv X pins σ' H' s' ∧ tn i s'.heap ∧ (∀ b ∈ fp, H' b = none) ∧ W i n σ' H') ?_ m0 ⟨0, σ, H2, I2, st2, fun b hb => (f2 b hb).1, w0⟩
  rintro n s3 ⟨i, σ3, H3, I3, st3, fr3, w3⟩
  rcases turn i n σ3 H3 w3 with ⟨stop, qn⟩ | ⟨go, N, hN, step⟩
  · refine wpAny_passesOwn hp (thn (T.done X rfl rfl rfl hc i pins s3 σ3 H3 X.xe I3 (stat fr3) st3 stop) fun r s4 ⟨hr, I4⟩ => ?_)
    subst hr
    exact wpAny_execs_nil ⟨σ3, H3, I4, qn⟩
  · refine wpAny_passesOwn hp (thn (T.item X rfl rfl rfl hc i pins s3 σ3 H3 X.xe I3 (stat fr3) st3 go) fun r s4 ⟨u, hr, h4⟩ => ?_)
    subst hr
    refine wpAny_passesOwn hp (thn h4 fun _ s5 ⟨x, H5, I5, r5, y5, st5, fr5⟩ => ?_)
    have I5' := I5.pinned (stat fr5) (T.obj _ _ st5)
    refine wpAny_passesOwn hp (thn (hg _ s5 σ3 H5 x u _ I5' r5 (step x H5 y5)) fun _ s6 ⟨σ6, H6, I6, q6⟩ => ?_)
    refine wpAny_passesOwn hp (thn (hb _ s6 σ6 H6 _ I6 q6) fun f s7 q7 => ?_)
    have again : ∀ {σ7 : St} {H7 : Hp}, Inv X (pins ++ pinsAt fp s5.heap) σ7 H7 s7 → N σ7 H7 → ∃ m, m < n ∧ ∃ i σ' H', Inv X pins σ' H' s7 ∧ tn i s7.heap ∧ (∀ b ∈ fp, H' b = none) ∧ W i m σ' H' := fun {σ7 H7} I7 n7 => by
      obtain ⟨m', hm, w7⟩ := hN σ7 H7 n7
      refine ⟨m', hm, i + 1, σ7, H7, I7.unpinned, T.keep _ _ _ st5 fun b hb o e => (I7.pin (b, o) (List.mem_append_right _ (List.mem_append_right _ (mem_pinsAt hb e)))).1, fun b hb => ?_, w7⟩
      obtain ⟨o, e, d⟩ := T.obj _ _ st5 b hb
      exact (I7.pin (b, o) (List.mem_append_right _ (List.mem_append_right _ (mem_pinsAt hb e)))).2.1
    cases f with
    | next => obtain ⟨σ7, H7, I7, n7⟩ := q7; exact again I7 n7
    | cont => obtain ⟨σ7, H7, I7, n7⟩ := q7; exact again I7 n7
    | brk => obtain ⟨σ7, H7, I7, q7⟩ := q7; exact ⟨σ7, H7, I7.unpinned, q7⟩
    | ret v => obtain ⟨x7, σ7, H7, I7, r7, q7⟩ := q7; exact ⟨x7, σ7, H7, I7.unpinned, r7, q7⟩
end

/-! ### the forms one uses -/
theorem for_tup {K : PySem.W.Frag} {a : Addr} {xs : List V} {g : TG} {tb : TS} {D : Ends} {σ : St} {H : Hp} (Pv : Nat → St → Hp → Prop) (h0 : Pv 0 σ H) (hl : ∀ i σ H, i ≤ xs.length → Pv i σ H → SqT K H a xs)
    (hs : ∀ i x σ H, xs[i]? = some x → Pv i σ H → g x σ H fun σ2 H2 => tb { D with nx := Pv (i + 1), ct := Pv (i + 1), bk := D.nx } σ2 H2) (hd : ∀ σ H, Pv xs.length σ H → D.nx σ H) :
    ∃ W : Nat → Nat → St → Hp → Prop, (∃ m, W 0 m σ H) ∧ ∀ i m σ H, W i m σ H →
      ((Itt K a).stop i H ∧ D.nx σ H) ∨ ((Itt K a).go i H ∧ ∃ N : St → Hp → Prop, (∀ σ' H', N σ' H' → ∃ m', m' < m ∧ W (i + 1) m' σ' H') ∧ ∀ x H', (Itt K a).yld i H x H' → g x σ H' fun σ2 H2 => tb { D with nx := N, ct := N, bk := D.nx } σ2 H2) := by
  refine ⟨fun i m σ H => m = xs.length - i ∧ i ≤ xs.length ∧ Pv i σ H, ⟨xs.length, by simp, Nat.zero_le _, h0⟩, ?_⟩
  rintro i m σ H ⟨rfl, hi, p⟩
  have q := hl i σ H hi p
  by_cases hlt : i < xs.length
  · refine .inr ⟨⟨xs, xs[i], q, by simp [hlt]⟩, Pv (i + 1), fun σ' H' p' => ⟨xs.length - (i + 1), by omega, rfl, hlt, p'⟩, fun x H' y => ?_⟩
    obtain ⟨e, y⟩ := y
    subst e
    exact hs i x σ _ (y xs q) p
  · have e : i = xs.length := by omega
    subst e
    exact .inl ⟨⟨xs, q, Nat.le_refl _⟩, hd σ H p⟩
theorem for_range {lo : Int} {n : Nat} {g : TG} {tb : TS} {D : Ends} {σ : St} {H : Hp} (Pv : Nat → St → Hp → Prop) (h0 : Pv 0 σ H)
    (hs : ∀ i σ H, i < n → Pv i σ H → g (.int (lo + i)) σ H fun σ2 H2 => tb { D with nx := Pv (i + 1), ct := Pv (i + 1), bk := D.nx } σ2 H2) (hd : ∀ σ H, Pv n σ H → D.nx σ H) :
    ∃ W : Nat → Nat → St → Hp → Prop, (∃ m, W 0 m σ H) ∧ ∀ i m σ H, W i m σ H →
      ((Itr lo n).stop i H ∧ D.nx σ H) ∨ ((Itr lo n).go i H ∧ ∃ N : St → Hp → Prop, (∀ σ' H', N σ' H' → ∃ m', m' < m ∧ W (i + 1) m' σ' H') ∧ ∀ x H', (Itr lo n).yld i H x H' → g x σ H' fun σ2 H2 => tb { D with nx := N, ct := N, bk := D.nx } σ2 H2) := by
  refine ⟨fun i m σ H => m = n - i ∧ i ≤ n ∧ Pv i σ H, ⟨n, by simp, Nat.zero_le _, h0⟩, ?_⟩
  rintro i m σ H ⟨rfl, hi, p⟩
  by_cases hlt : i < n
  · refine .inr ⟨hlt, Pv (i + 1), fun σ' H' p' => ⟨n - (i + 1), by omega, rfl, hlt, p'⟩, fun x H' y => ?_⟩
    obtain ⟨e, y⟩ := y
    subst e y
    exact hs i σ _ hlt p
  · have e : i = n := by omega
    subst e
    exact .inl ⟨Nat.le_refl _, hd σ H p⟩
end L2

namespace L2
open PySem PySem.Spec PyProof.Rows

abbrev R2 := V → V → Hp → VK → Prop
/-- a two-place operation on values: f is binaryOp op, inplaceOp op or compareOp op -/
def OpR (X : Cx) (f : Value → Value → Sem Value) (r : R2) : Prop :=
  ∀ (pins : List (Addr × Obj)) (s : Shared) (σ : St) (H : Hp) (x y : V) (v u : Value) (Q : VK), Inv X pins σ H s → RelV x v → RelV y u → r x y H Q →
    wpAny (model X.prog X.w) X.A (f v u) (EP X pins σ Q) X.xe s
/-- a one-place operation -/
def UnR (X : Cx) (f : Value → Sem Value) (r : V → Hp → VK → Prop) : Prop :=
  ∀ (pins : List (Addr × Obj)) (s : Shared) (σ : St) (H : Hp) (x : V) (v : Value) (Q : VK), Inv X pins σ H s → RelV x v → r x H Q →
    wpAny (model X.prog X.w) X.A (f v) (EP X pins σ Q) X.xe s
/-- a call of a value that is known (a builtin, a type) with values -/
def CallR (X : Cx) (f : Value) (r : List V → Hp → VK → Prop) : Prop :=
  ∀ (pins : List (Addr × Obj)) (s : Shared) (σ : St) (H : Hp) (xs : List V) (us : List Value) (Q : VK), Inv X pins σ H s → Vals xs us → r xs H Q →
    wpAny (model X.prog X.w) X.A (call f us) (EP X pins σ Q) X.xe s
/-- a value's truth -/
def TruR (X : Cx) (r : V → Hp → (Bool → Hp → Prop) → Prop) : Prop :=
  ∀ (pins : List (Addr × Obj)) (s : Shared) (σ : St) (H : Hp) (x : V) (v : Value) (Q : Bool → Hp → Prop), Inv X pins σ H s → RelV x v → r x H Q →
    wpAny (model X.prog X.w) X.A (truthy v) (TP X pins σ Q) X.xe s

def tOp (r : R2) (ta tb : TE) : TE := fun σ H Q => ta σ H fun x H1 => tb σ H1 fun y H2 => r x y H2 Q
def tUn (r : V → Hp → VK → Prop) (ta : TE) : TE := fun σ H Q => ta σ H fun x H1 => r x H1 Q
/-- ints in, under C, and a value out -/
def rI (C : Int → Int → Prop) (g : Int → Int → V) : R2 := fun x y H Q => ∃ i j, x = .int i ∧ y = .int j ∧ C i j ∧ Q (g i j) H
def rI0 (g : Int → Int → V) : R2 := fun x y H Q => ∃ i j, x = .int i ∧ y = .int j ∧ Q (g i j) H
def rU (g : Int → V) : V → Hp → VK → Prop := fun x H Q => ∃ i, x = .int i ∧ Q (g i) H

section
variable {X : Cx} {a b c : Expr} {ta tb tc : TE} {pos : Pos}

theorem binT (ha : PE X a ta) (hb : PE X b tb) {pins : List (Addr × Obj)} {s : Shared} {σ : St} {H : Hp} {R : V → V → Hp → Prop} (I : Inv X pins σ H s)
    (h : ta σ H fun x H1 => tb σ H1 fun y H2 => R x y H2) {Q : Value → Shared → Prop} {f : Value → Value → Sem Value}
    (hf : ∀ v u s2 x y H2, Inv X pins σ H2 s2 → RelV x v → RelV y u → R x y H2 → wpAny (model X.prog X.w) X.A (f v u) Q X.xe s2) :
    wpAny (model X.prog X.w) X.A (eval a X.env) (fun v s₁ => wpAny (model X.prog X.w) X.A (eval b X.env) (fun u s₂ => wpAny (model X.prog X.w) X.A (f v u) Q X.xe s₂) X.xe s₁) X.xe s := by
  refine thn (ha pins s σ H _ I h) fun v s1 ⟨x, H1, I1, r1, q1⟩ => ?_
  refine thn (hb pins s1 σ H1 _ I1 q1) fun u s2 ⟨y, H2, I2, r2, q2⟩ => ?_
  exact hf v u s2 x y H2 I2 r1 r2 q2

theorem pe_op {op : Operator} {r : R2} (ho : OpR X (binaryOp op) r) (ha : PE X a ta) (hb : PE X b tb) : PE X (.BinOp a op b pos) (tOp r ta tb) := by
  intro pins s σ H Q I h
  exact wpAny_BinOp (binT ha hb I h fun v u s2 x y H2 I2 rx ry q => ho pins s2 σ H2 x y v u Q I2 rx ry q)
theorem pe_un {op : UnaryOp} {r : V → Hp → VK → Prop} (ho : UnR X (unaryOp op) r) (ha : PE X a ta) : PE X (.UnaryOp op a pos) (tUn r ta) := by
  intro pins s σ H Q I h
  exact UnaryOp_ (thn (ha pins s σ H _ I h) fun v s1 ⟨x, H1, I1, r1, q1⟩ => ho pins s1 σ H1 x v Q I1 r1 q1)
/-! ### ints -/
theorem opI {f : Value → Value → Sem Value} {C : Int → Int → Prop} {g : Int → Int → Int}
    (rule : ∀ (i j : Int) (t u : Tok) (s : Shared) (Q : Value → Shared → Prop) (E : Value → Shared → Prop), C i j → Q (.int (g i j) s.toks) { s with toks := s.toks + 1 } → wpAny (model X.prog X.w) X.A (f (.int i t) (.int j u)) Q E s) :
    OpR X f (rI C fun i j => .int (g i j)) := by
  intro pins s σ H x y v u Q I rx ry h
  obtain ⟨i, j, rfl, rfl, hc, q⟩ := h
  obtain ⟨t, rfl⟩ := rx
  obtain ⟨t', rfl⟩ := ry
  exact rule i j t t' s _ _ hc ⟨.int (g i j), H, I.tok _, ⟨_, rfl⟩, q⟩
theorem opI0 {f : Value → Value → Sem Value} {g : Int → Int → Int}
    (rule : ∀ (i j : Int) (t u : Tok) (s : Shared) (Q : Value → Shared → Prop) (E : Value → Shared → Prop), Q (.int (g i j) s.toks) { s with toks := s.toks + 1 } → wpAny (model X.prog X.w) X.A (f (.int i t) (.int j u)) Q E s) :
    OpR X f (rI0 fun i j => .int (g i j)) := by
  intro pins s σ H x y v u Q I rx ry h
  obtain ⟨i, j, rfl, rfl, q⟩ := h
  obtain ⟨t, rfl⟩ := rx
  obtain ⟨t', rfl⟩ := ry
  exact rule i j t t' s _ _ ⟨.int (g i j), H, I.tok _, ⟨_, rfl⟩, q⟩
theorem opB0 {f : Value → Value → Sem Value} {g : Int → Int → Bool}
    (rule : ∀ (i j : Int) (t u : Tok) (s : Shared) (Q : Value → Shared → Prop) (E : Value → Shared → Prop), Q (.bool (g i j)) s → wpAny (model X.prog X.w) X.A (f (.int i t) (.int j u)) Q E s) :
    OpR X f (rI0 fun i j => .bl (g i j)) := by
  intro pins s σ H x y v u Q I rx ry h
  obtain ⟨i, j, rfl, rfl, q⟩ := h
  obtain ⟨t, rfl⟩ := rx
  obtain ⟨t', rfl⟩ := ry
  exact rule i j t t' s _ _ ⟨.bl (g i j), H, I, rfl, q⟩

def CDiv (i j : Int) : Prop := 0 < j ∧ j < 1073741824
def CPow (i j : Int) : Prop := 0 ≤ j ∧ j ≤ 1000000 ∧ i.natAbs < 2 ^ 64
def CMul (i j : Int) : Prop := (-(2 ^ 64) < i ∧ i < 2 ^ 64) ∨ (-(2 ^ 64) < j ∧ j < 2 ^ 64)
theorem CMul.ok {i j : Int} (h : CMul i j) : IntMulOk i j := by
  rcases h with ⟨h1, h2⟩ | ⟨h1, h2⟩
  · exact .of_left (intBits_le_64 h1 h2)
  · exact .of_right (intBits_le_64 h1 h2)
theorem op_add : OpR X (binaryOp .Add) (rI0 fun i j => .int (i + j)) := opI0 fun _ _ _ _ _ _ _ q => add_int q
theorem op_sub : OpR X (binaryOp .Sub) (rI0 fun i j => .int (i - j)) := opI0 fun _ _ _ _ _ _ _ q => sub_int q
theorem op_mul : OpR X (binaryOp .Mult) (rI CMul fun i j => .int (i * j)) := opI fun _ _ _ _ _ _ _ hc q => mul_int q hc.ok
/-- // by a positive divisor -/
theorem op_fdiv : OpR X (binaryOp .FloorDiv) (rI CDiv fun i j => .int (i / j)) := opI fun i j _ _ _ _ _ hc q => by
  have h1 : (0 : Int) < j := hc.1
  have h2 : j < 1073741824 := hc.2
  exact floordiv_int (by omega) (by rw [Int.fdiv_eq_ediv_of_nonneg i (by omega)]; exact q) (.inl (PyProof.noPylong_small (by omega)))
/-- % by a positive divisor of any size -/
theorem op_mod : OpR X (binaryOp .Mod) (rI (fun _ j => 0 < j) fun i j => .int (i % j)) := opI fun i j _ _ _ _ _ hc q => by
  have h1 : (0 : Int) < j := hc
  exact mod_int' (by omega) (by rw [Int.fmod_eq_emod_of_nonneg i (by omega)]; exact q)
theorem op_pow : OpR X (binaryOp .Pow) (rI CPow fun i j => .int (i ^ j.toNat)) := opI fun _ _ _ _ _ _ _ hc q => pow_int_small hc.1 hc.2.1 hc.2.2 q
theorem unI {f : Value → Sem Value} {g : Int → Int}
    (rule : ∀ (i : Int) (t : Tok) (s : Shared) (Q : Value → Shared → Prop) (E : Value → Shared → Prop), Q (.int (g i) s.toks) { s with toks := s.toks + 1 } → wpAny (model X.prog X.w) X.A (f (.int i t)) Q E s) :
    UnR X f (rU fun i => .int (g i)) := by
  intro pins s σ H x v Q I rx h
  obtain ⟨i, rfl, q⟩ := h
  obtain ⟨t, rfl⟩ := rx
  exact rule i t s _ _ ⟨.int (g i), H, I.tok _, ⟨_, rfl⟩, q⟩
theorem un_neg : UnR X (unaryOp .USub) (rU fun i => .int (-i)) := unI fun _ _ _ _ _ q => neg_int q
/-! ### bools among ints: n += (a < b) -/
end

/-! ### comparisons -/
/-- the scalars that == tells apart as data does -/
def scal : V → V → Bool
  | .non, .non => true | .non, .int _ => true | .int _, .non => true | .non, .bl _ => true | .bl _, .non => true | .non, .str _ => true | .str _, .non => true
  | .int _, .int _ => true | .bl _, .bl _ => true | .str _, .str _ => true | .byt _, .byt _ => true
  | .int _, .str _ => true | .str _, .int _ => true | .bl _, .str _ => true | .str _, .bl _ => true
  | _, _ => false
def rEq : R2 := fun x y H Q => scal x y = true ∧ Q (.bl (decide (x = y))) H
def rNe : R2 := fun x y H Q => scal x y = true ∧ Q (.bl (!decide (x = y))) H

theorem dec_int {i j : Int} : decide (V.int i = V.int j) = (i == j) := by
  rw [Bool.eq_iff_iff]
  simp
theorem dec_bl {i j : Bool} : decide (V.bl i = V.bl j) = (i == j) := by
  rw [Bool.eq_iff_iff]
  simp
theorem dec_str {i j : Str} : decide (V.str i = V.str j) = (i == j) := by
  rw [Bool.eq_iff_iff]
  simp
theorem dec_byt {i j : Array UInt8} : decide (V.byt i = V.byt j) = (i.toList == j.toList) := by
  rw [Bool.eq_iff_iff]
  cases i
  cases j
  simp

section
variable {X : Cx} {a b c : Expr} {ta tb tc : TE} {pos : Pos}
theorem fin_bl {pins : List (Addr × Obj)} {σ : St} {H : Hp} {s : Shared} {Q : VK} {k k' : Bool} (I : Inv X pins σ H s) (q : Q (.bl k) H) (e : k = k') : EP X pins σ Q (.bool k') s := by
  subst e
  exact ⟨.bl k, H, I, rfl, q⟩
theorem op_eq : OpR X (compareOp .Eq) rEq := by
  intro pins s σ H x y v u Q I rx ry h
  obtain ⟨hs, q⟩ := h
  cases x with
  | non =>
    cases rx
    cases y with
    | non => cases ry; exact PySem.EqNone.eq_none_none (fin_bl I q (by simp))
    | bl j => cases ry; exact PySem.EqNone.eq_none_bool (fin_bl I q (by simp))
    | int j => obtain ⟨t', rfl⟩ := ry; exact PySem.EqNone.eq_none_int (fin_bl I q (by simp))
    | str j => obtain ⟨t', rfl⟩ := ry; exact PySem.EqNone.eq_none_str (fin_bl I q (by simp))
    | _ => exact absurd (show false = true from hs) Bool.false_ne_true
  | bl i =>
    cases rx
    cases y with
    | non => cases ry; exact PySem.EqNone.eq_bool_none (fin_bl I q (by simp))
    | bl j => cases ry; exact eq_bool (fin_bl I q dec_bl)
    | str j => obtain ⟨t', rfl⟩ := ry; exact PySem.EqMixed.eq_bool_str (fin_bl I q (by simp))
    | _ => exact absurd (show false = true from hs) Bool.false_ne_true
  | int i =>
    obtain ⟨t, rfl⟩ := rx
    cases y with
    | non => cases ry; exact PySem.EqNone.eq_int_none (fin_bl I q (by simp))
    | int j => obtain ⟨t', rfl⟩ := ry; exact eq_int (fin_bl I q dec_int)
    | str j => obtain ⟨t', rfl⟩ := ry; exact PySem.EqMixed.eq_int_str (fin_bl I q (by simp))
    | _ => exact absurd (show false = true from hs) Bool.false_ne_true
  | str i =>
    obtain ⟨t, rfl⟩ := rx
    cases y with
    | non => cases ry; exact PySem.EqNone.eq_str_none (fin_bl I q (by simp))
    | bl j => cases ry; exact PySem.EqMixed.eq_str_bool (fin_bl I q (by simp))
    | int j => obtain ⟨t', rfl⟩ := ry; exact PySem.EqMixed.eq_str_int (fin_bl I q (by simp))
    | str j => obtain ⟨t', rfl⟩ := ry; exact eq_str (fin_bl I q dec_str)
    | _ => exact absurd (show false = true from hs) Bool.false_ne_true
  | byt i =>
    obtain ⟨t, rfl⟩ := rx
    cases y with
    | byt j => obtain ⟨t', rfl⟩ := ry; exact PySem.W.eq_bytes (fin_bl I q dec_byt)
    | _ => exact absurd (show false = true from hs) Bool.false_ne_true
  | _ => cases y <;> exact absurd (show false = true from hs) Bool.false_ne_true
theorem op_ne : OpR X (compareOp .NotEq) rNe := by
  intro pins s σ H x y v u Q I rx ry h
  obtain ⟨hs, q⟩ := h
  cases x with
  | non =>
    cases rx
    cases y with
    | non => cases ry; exact PySem.EqNone.ne_none_none (fin_bl I q (by simp))
    | bl j => cases ry; exact PySem.EqNone.ne_none_bool (fin_bl I q (by simp))
    | int j => obtain ⟨t', rfl⟩ := ry; exact PySem.EqNone.ne_none_int (fin_bl I q (by simp))
    | str j => obtain ⟨t', rfl⟩ := ry; exact PySem.EqNone.ne_none_str (fin_bl I q (by simp))
    | _ => exact absurd (show false = true from hs) Bool.false_ne_true
  | bl i =>
    cases rx
    cases y with
    | non => cases ry; exact PySem.EqNone.ne_bool_none (fin_bl I q (by simp))
    | bl j => cases ry; exact ne_bool (fin_bl I q (congrArg not dec_bl))
    | str j => obtain ⟨t', rfl⟩ := ry; exact PySem.EqMixed.ne_bool_str (fin_bl I q (by simp))
    | _ => exact absurd (show false = true from hs) Bool.false_ne_true
  | int i =>
    obtain ⟨t, rfl⟩ := rx
    cases y with
    | non => cases ry; exact PySem.EqNone.ne_int_none (fin_bl I q (by simp))
    | int j => obtain ⟨t', rfl⟩ := ry; exact ne_int (fin_bl I q (congrArg not dec_int))
    | str j => obtain ⟨t', rfl⟩ := ry; exact PySem.EqMixed.ne_int_str (fin_bl I q (by simp))
    | _ => exact absurd (show false = true from hs) Bool.false_ne_true
  | str i =>
    obtain ⟨t, rfl⟩ := rx
    cases y with
    | non => cases ry; exact PySem.EqNone.ne_str_none (fin_bl I q (by simp))
    | bl j => cases ry; exact PySem.EqMixed.ne_str_bool (fin_bl I q (by simp))
    | int j => obtain ⟨t', rfl⟩ := ry; exact PySem.EqMixed.ne_str_int (fin_bl I q (by simp))
    | str j => obtain ⟨t', rfl⟩ := ry; exact ne_str (fin_bl I q (congrArg not dec_str))
    | _ => exact absurd (show false = true from hs) Bool.false_ne_true
  | byt i =>
    obtain ⟨t, rfl⟩ := rx
    cases y with
    | byt j => obtain ⟨t', rfl⟩ := ry; exact PySem.W.ne_bytes (fin_bl I q (congrArg not dec_byt))
    | _ => exact absurd (show false = true from hs) Bool.false_ne_true
  | _ => cases y <;> exact absurd (show false = true from hs) Bool.false_ne_true

theorem op_lt : OpR X (compareOp .Lt) (rI0 fun i j => .bl (decide (i < j))) := opB0 fun _ _ _ _ _ _ _ q => lt_int q
theorem op_le : OpR X (compareOp .LtE) (rI0 fun i j => .bl (decide (i ≤ j))) := opB0 fun _ _ _ _ _ _ _ q => le_int q
theorem op_gt : OpR X (compareOp .Gt) (rI0 fun i j => .bl (decide (j < i))) := opB0 fun _ _ _ _ _ _ _ q => gt_int q
theorem op_ge : OpR X (compareOp .GtE) (rI0 fun i j => .bl (decide (j ≤ i))) := opB0 fun _ _ _ _ _ _ _ q => ge_int q
theorem op_lt_str : OpR X (compareOp .Lt) (fun x y H Q => ∃ i j, x = .str i ∧ y = .str j ∧ Q (.bl (decide (i.cps.toList < j.cps.toList))) H) := by
  intro pins s σ H x y v u Q I rx ry h
  obtain ⟨i, j, rfl, rfl, q⟩ := h
  obtain ⟨t, rfl⟩ := rx
  obtain ⟨t', rfl⟩ := ry
  exact lt_str (fin_bl I q rfl)
/-- is None, is not None: the right side a value none -/
theorem op_isN : OpR X (compareOp .Is) (fun x y H Q => y = .non ∧ Q (.bl (decide (x = .non))) H) := by
  intro pins s σ H x y v u Q I rx ry h
  obtain ⟨rfl, q⟩ := h
  cases ry
  refine is_none_gen (fin_bl I q ?_)
  cases x <;> first
    | (cases rx; rfl)
    | (obtain ⟨t, rfl⟩ := rx; rfl)
/-- two rules for one operation: by cases -/
theorem OpR.or {f : Value → Value → Sem Value} {r r' : R2} (h : OpR X f r) (h' : OpR X f r') : OpR X f (fun x y H Q => r x y H Q ∨ r' x y H Q) := by
  intro pins s σ H x y v u Q I rx ry q
  rcases q with q | q
  · exact h pins s σ H x y v u Q I rx ry q
  · exact h' pins s σ H x y v u Q I rx ry q

theorem nomark (b : Expr) {op : CmpOp} (h : op ≠ .In := by decide) (h2 : op ≠ .NotIn := by decide) : behindInMarks op b = false := by
  have e1 : (op == CmpOp.In) = false := by cases op <;> first | rfl | exact absurd rfl h
  have e2 : (op == CmpOp.NotIn) = false := by cases op <;> first | rfl | exact absurd rfl h2
  cases b <;> simp [behindInMarks, e1, e2]
/-- a comparison as a value; hm: nomark b, or (for in, not in) by with_unfolding_all rfl -/
theorem pe_cmpR {op : CmpOp} {r : R2} (ho : OpR X (compareOp op) r) (ha : PE X a ta) (hb : PE X b tb) (hm : behindInMarks op b = false) : PE X (.Compare a [op] [b] pos) (tOp r ta tb) := by
  intro pins s σ H Q I h
  exact wpAny_Compare1 (binT ha hb I h fun v u s2 x y H2 I2 rx ry q => ho pins s2 σ H2 x y v u Q I2 rx ry q) hm
/-- a reading of a value as a test -/
def tTest (t : TE) : TT := fun σ H Q => t σ H fun x H' => ∃ k, x = .bl k ∧ Q k H'
theorem pt_cmpR {op : CmpOp} {r : R2} (ho : OpR X (compareOp op) r) (ha : PE X a ta) (hb : PE X b tb) (hm : behindInMarks op b = false) : PT X (.Compare a [op] [b] pos) (tTest (tOp r ta tb)) := by
  intro pins s σ H Q I h
  refine wpAny_isTrue_Compare1 (thn (ha pins s σ H _ I h) fun v s1 ⟨x, H1, I1, r1, q1⟩ => thn (hb pins s1 σ H1 _ I1 q1) fun u s2 ⟨y, H2, I2, r2, q2⟩ =>
    thn (ho pins s2 σ H2 x y v u _ I2 r1 r2 q2) fun c s3 ⟨z, H3, I3, r3, k, e, q3⟩ => ?_) hm
  subst e
  cases r3
  exact wpAny_truthy_bool ⟨H3, I3, q3⟩
/-- a op1 b op2 c -/
def tChain (r r' : R2) (ta tb tc : TE) : TE := fun σ H Q => ta σ H fun x H1 => tb σ H1 fun y H2 => r x y H2 fun z H3 => ∃ k, z = .bl k ∧
  (if k = true then tc σ H3 fun w' H4 => r' y w' H4 Q else Q (.bl false) H3)
theorem pe_chain {op op' : CmpOp} {r r' : R2} (ho : OpR X (compareOp op) r) (ho' : OpR X (compareOp op') r') (ha : PE X a ta) (hb : PE X b tb) (hc : PE X c tc)
    (hm : lastMarks [op, op'] [b, c] = false := by with_unfolding_all rfl) : PE X (.Compare a [op, op'] [b, c] pos) (tChain r r' ta tb tc) := by
  intro pins s σ H Q I h
  refine Compare_chain (thn (ha pins s σ H _ I h) fun v s1 ⟨x, H1, I1, r1, q1⟩ => chain_link (thn (hb pins s1 σ H1 _ I1 q1) fun u s2 ⟨y, H2, I2, r2, q2⟩ =>
    thn (ho pins s2 σ H2 x y v u _ I2 r1 r2 q2) fun d s3 ⟨z, H3, I3, r3, k, e, q3⟩ => ?_)) hm
  subst e
  cases r3
  refine wpAny_truthy_bool ?_
  cases k with
  | false => exact ite_ff ⟨.bl false, H3, I3, rfl, q3⟩
  | true => exact ite_tt (chain_last (thn (hc pins s3 σ H3 _ I3 q3) fun w' s4 ⟨z', H4, I4, r4, q4⟩ => ho' pins s4 σ H4 y z' u w' Q I4 r2 r4 q4))
/-! ### truth -/
/-- a value's truth by the abstract heap -/
def TruV (K : PySem.W.Frag) (x : V) (H : Hp) (k : Bool) : Prop :=
  match x with
  | .non => k = false
  | .bl b => k = b
  | .int i => k = (i != 0)
  | .str y => y.length ≤ sizeLine ∧ k = ((y.length : Int) != 0)
  | .byt y => y.size ≤ sizeLine ∧ k = ((y.size : Int) != 0)
  | .ref p => (∃ xs, SqL K H p xs ∧ k = !xs.isEmpty) ∨ (∃ xs, SqT K H p xs ∧ k = !xs.isEmpty) ∨ ∃ kvs, H p = some (.dK kvs) ∧ k = !kvs.isEmpty
  | _ => False
theorem isEmpty_kv {κ : Type} {kvs : List (κ × V)} {vs : List (κ × Value)} (r : KV kvs vs) : (!vs.isEmpty) = !kvs.isEmpty := by
  cases r <;> rfl
theorem isEmpty_of {xs : List V} {its : List Value} (r : Vals xs its) : (!its.toArray.isEmpty) = !xs.isEmpty := by
  cases r <;> simp
theorem line63 : (sizeLine : Nat) < 2 ^ 63 := by rw [sizeLine_eq]; decide
theorem tru_ok : TruR X (fun x H Q => ∃ k, TruV X.K x H k ∧ Q k H) := by
  intro pins s σ H x v Q I rx h
  obtain ⟨k, e, q⟩ := h
  have hl := line63
  have hs : sizeLine = 16777216 := sizeLine_eq
  cases x with
  | non =>
    cases rx
    have e' : k = false := e
    subst e'
    exact truthy_none ⟨H, I, q⟩
  | bl b =>
    cases rx
    have e' : k = b := e
    subst e'
    exact wpAny_truthy_bool ⟨H, I, q⟩
  | int i =>
    obtain ⟨t, rfl⟩ := rx
    have e' : k = (i != 0) := e
    subst e'
    exact PySem.P.truthy_int ⟨H, I, q⟩
  | str y =>
    obtain ⟨t, rfl⟩ := rx
    obtain ⟨hy, e'⟩ : y.length ≤ sizeLine ∧ k = ((y.length : Int) != 0) := e
    subst e'
    exact PySem.P.truthy_str (by omega) ⟨H, I.tok _, q⟩
  | byt y =>
    obtain ⟨t, rfl⟩ := rx
    obtain ⟨hy, e'⟩ : y.size ≤ sizeLine ∧ k = ((y.size : Int) != 0) := e
    subst e'
    exact PySem.W.truthy_bytes (by omega) ⟨H, I.tok _, q⟩
  | ref p =>
    cases rx
    have e' : (∃ xs, SqL X.K H p xs ∧ k = !xs.isEmpty) ∨ (∃ xs, SqT X.K H p xs ∧ k = !xs.isEmpty) ∨ ∃ kvs, H p = some (.dK kvs) ∧ k = !kvs.isEmpty := e
    rcases e' with ⟨xs, hx, e'⟩ | ⟨xs, hx, e'⟩ | ⟨kvs, hx, e'⟩
    · subst e'
      obtain ⟨its, r, pl, hz⟩ := I.list hx
      have hlen := r.length
      exact wpAny_truthy_list pl.isList (by simp only [List.size_toArray]; omega) ⟨H, I.tok _, by rw [isEmpty_of r]; exact q⟩
    · subst e'
      obtain ⟨its, r, pl, hz⟩ := I.tuple hx
      have hlen := r.length
      exact truthy_tuple pl (by simp only [List.size_toArray]; omega) ⟨H, I.tok _, by rw [isEmpty_of r]; exact q⟩
    · subst e'
      obtain ⟨hz, hS, vs, r, m⟩ : kvs.length ≤ sizeLine ∧ (p == sysModules) = false ∧ ∃ vs, KV kvs vs ∧ s.heap.DictOf (mixKind X.prog X.w) p vs := I.hok p _ hx
      have hlen : kvs.length = vs.length := Paired.length r
      exact wpAny_truthy_dict hS m (by omega) ⟨H, I.tok _, by rw [isEmpty_kv r]; exact q⟩
  | _ => exact (show False from e).elim
/-- any expression whose test is its value's truth (a name, a call, a subscript, a field ..: he by fun _ => rfl) -/
theorem pt_truth (ha : PE X a ta) (he : ∀ whole, isTrue a X.env whole = (do let v ← whole; standAt a.pos; holding [v] (truthy v))) :
    PT X a (fun σ H Q => ta σ H fun x H' => ∃ k, TruV X.K x H' k ∧ Q k H') := by
  intro pins s σ H Q I h
  exact isTrue_plain (thn (ha pins s σ H _ I h) fun v s1 ⟨x, H1, I1, r1, q1⟩ => tru_ok pins s1 σ H1 x v Q I1 r1 q1) (he _)

/-! ### strs and bytes -/
theorem op_add_str : OpR X (binaryOp .Add) (fun x y H Q => ∃ i j, x = .str i ∧ y = .str j ∧ i.length + j.length ≤ sizeLine ∧ Q (.str (i ++ j)) H) := by
  intro pins s σ H x y v u Q I rx ry h
  obtain ⟨i, j, rfl, rfl, hz, q⟩ := h
  obtain ⟨t, rfl⟩ := rx
  obtain ⟨t', rfl⟩ := ry
  exact add_str (fun t' tk => ⟨.str (i ++ j), H, I.tok _, ⟨_, rfl⟩, q⟩) hz
/-! ### scalar builtins, by CallR -/
theorem vals1 {x : V} {us : List Value} (r : Vals [x] us) : ∃ u, us = [u] ∧ RelV x u := by
  cases r with
  | cons r1 r2 => cases r2; exact ⟨_, rfl, r1⟩
theorem vals2 {x y : V} {us : List Value} (r : Vals [x, y] us) : ∃ u w', us = [u, w'] ∧ RelV x u ∧ RelV y w' := by
  cases r with
  | cons r1 r2 =>
    cases r2 with
    | cons r3 r4 => cases r4; exact ⟨_, _, rfl, r1, r3⟩
theorem call_max2 (hc : X.calm = true) : CallR X (.builtin "max") (fun xs H Q => ∃ i j, xs = [.int i, .int j] ∧ Q (.int (if j > i then j else i)) H) := by
  intro pins s σ H xs us Q I r h
  obtain ⟨i, j, rfl, q⟩ := h
  obtain ⟨u, w', rfl, ⟨t, rfl⟩, ⟨t', rfl⟩⟩ := vals2 r
  refine max_two_ints (I.ok.hd hc) fun h' tk k => ⟨_, H, I.kept k, ?_, q⟩
  by_cases hj : j > i
  · rw [if_pos hj, if_pos hj]; exact ⟨_, rfl⟩
  · rw [if_neg hj, if_neg hj]; exact ⟨_, rfl⟩
end
end L2

namespace L2
open PySem PySem.Spec PyProof.Rows

/-! ### an instance, its attributes a map -/
structure ObjM (h : Heap) (x dx C : Addr) (mA : Str → Option Value) : Prop where
  obj : h.get? x = some (PySem.W.instObj C dx)
  ns : h.Ns1 dx mA
  ne : dx ≠ x

theorem lookIn_ns {h : Heap} {dx : Addr} {mA : Str → Option Value} (n : h.Ns1 dx mA) : ∃ od, h.get? dx = some od ∧ ∀ name, PySem.W.lookIn name od = some (mA name) := by
  obtain ⟨o, es, ep, ho, hd, hk, _, hm⟩ := n
  refine ⟨o, ho, fun name => ?_⟩
  have e := hm name
  unfold nsFind findBy at e
  rw [← Array.find?_toList] at e
  unfold PySem.W.lookIn
  rw [hd]
  dsimp only
  split
  · rename_i y q
    rw [q] at e
    exact congrArg some e
  · rename_i q
    rw [q] at e
    have a : es.toList.any (·.refKey) = false := by
      rw [List.any_eq_false]
      intro y hy
      obtain ⟨z, t, hkey⟩ := hk y (Array.mem_toList_iff.mp hy)
      simp [DictEntry.refKey, hkey]
    have a' : ¬ es.toList.any (·.refKey) = true := by rw [a]; exact Bool.false_ne_true
    rw [if_neg a']
    exact congrArg some e

theorem ObjM.look {h : Heap} {x dx C : Addr} {mA : Str → Option Value} (I : ObjM h x dx C mA) : ∃ od, PySem.W.InstAt h x (PySem.W.instObj C dx) C (some od) ∧ ∀ name, PySem.W.lookIn name od = some (mA name) :=
  let ⟨od, ho, hl⟩ := lookIn_ns I.ns
  ⟨od, ⟨I.obj, rfl, rfl, ho⟩, hl⟩

section
variable {prog : Program} {w : World} {A : Around} {E : Value → Shared → Prop} {s : Shared} {K : PySem.W.Frag} {x dx C f : Addr} {mA : Str → Option Value} {name : Str} {v : Value}

end

/-! ### the attributes as a list of pairs -/
def putF (f : Str) (v : V) : List (Str × V) → List (Str × V)
  | [] => [(f, v)]
  | (g, x) :: r => if g = f then (g, v) :: r else (g, x) :: putF f v r
theorem RelO.some_of {v : V} {o : Option Value} (r : RelO (some v) o) : ∃ u, o = some u ∧ RelV v u := by
  cases o with
  | none => exact (show False from r).elim
  | some u => exact ⟨u, rfl, r⟩
theorem RelO.none_of {o : Option Value} (r : RelO none o) : o = none := by
  cases o with
  | none => rfl
  | some u => exact (show False from r).elim
section
variable {P : Program} {w : World} {H H' : Hp} {h h' : Heap} {a C dx : Addr} {fs fs' : List (Str × V)}
theorem ins_get (hok : HOk P w H h) (e : H a = some (.ins C dx fs)) : ∃ mA, ObjM h a dx C mA ∧ (∀ f, RelO (fs.lookup f) (mA f)) ∧ PySem.Within mA (fs.map (·.1)) ∧ fs.length ≤ 1000 ∧ H dx = some (.own a) := by
  obtain ⟨d, z, ne, ob, mA, n, r, q⟩ := (show ObjOk P w H h a (.ins C dx fs) from hok a _ e)
  exact ⟨mA, ⟨ob, n, ne⟩, r, q, z, d⟩
end

/-! ### what of the text a class must have -/
structure Cls (K : PySem.W.Frag) (C : Addr) : Prop where
  pg : PySem.W.plainGet K C Str.empty = true
  hd : PySem.W.hasDictIn K C = true
  po : PySem.W.plainOver K C = true
  sa : PySem.W.findIn K (.ref C) "__setattr__" = some (some (.builtin "object.__setattr__"))
theorem Cls.get {K : PySem.W.Frag} {C : Addr} (c : Cls K C) (f : Str) : PySem.W.plainGet K C f = true := c.pg
/-- a constant of the class -/
structure Con (K : PySem.W.Frag) (C : Addr) (f : Str) (v : V) (u : Value) : Prop where
  at_ : PySem.W.findIn K (.ref C) f = some (some u)
  rel : RelV v u
  get : PySem.W.specialIn K u "__get__" = some none
  cp : PySem.W.copiedNames.contains f = false
/-- a method: a plain def of the class or of one above it -/
structure Meth (K : PySem.W.Frag) (C : Addr) (m : Str) (f : Addr) : Prop where
  at_ : PySem.W.findIn K (.ref C) m = some (some (.ref f))
  fn : PySem.W.isFn K (.ref f) = true
  kp : PySem.W.keepIn K (.ref f) = true

section
variable {X : Cx} {pins : List (Addr × Obj)} {σ : St} {H : Hp} {s : Shared} {a C dx : Addr} {fs : List (Str × V)} {f : Str} {v : V} {A : Around} {E : Value → Shared → Prop}

/-- a new instance, tracked, without attributes -/
theorem Inv.made (I : Inv X pins σ H s) : Inv X pins σ (upd (upd H s.heap.objs.size (.own (s.heap.objs.size + 1))) (s.heap.objs.size + 1) (.ins C s.heap.objs.size []))
    { s with heap := (s.heap.push PySem.W.emptyDict).push (PySem.W.instObj C s.heap.objs.size) } := by
  have e1 : (s.heap.push PySem.W.emptyDict).get? s.heap.objs.size = some PySem.W.emptyDict := Heap.get?_push_size s.heap rfl
  have e2 : ((s.heap.push PySem.W.emptyDict).push (PySem.W.instObj C s.heap.objs.size)).get? (s.heap.objs.size + 1) = some (PySem.W.instObj C s.heap.objs.size) := by
    have := Heap.get?_push_size (s.heap.push PySem.W.emptyDict) (o := PySem.W.instObj C s.heap.objs.size) rfl
    rwa [Heap.size_push] at this
  have e3 : (s.heap.push PySem.W.emptyDict).Ns s.heap.objs.size (fun _ => none) := ⟨PySem.W.emptyDict, #[], _, e1, rfl, (fun e he => absurd he (by simp)), fun _ => rfl⟩
  have I1 := I.laid (a := s.heap.objs.size) (o := .own (s.heap.objs.size + 1)) (h' := s.heap.push PySem.W.emptyDict) (t' := s.toks) (fun b u q => Heap.get?_push_of_some _ q) (Nat.le_refl _) ⟨_, e1⟩
  refine I1.laid (a := s.heap.objs.size + 1) (o := .ins C s.heap.objs.size []) (t' := s.toks) (fun b u q => Heap.get?_push_of_some _ q) (Nat.le_of_eq (Heap.size_push _ _)) ?_
  have ne : s.heap.objs.size ≠ s.heap.objs.size + 1 := Nat.ne_of_lt (Nat.lt_succ_self _)
  refine ⟨by rw [upd_ne ne, upd_same], Nat.zero_le _, ne, e2, fun _ => none, (Heap.Ns1.of_empty e3).at fun o q => Heap.get?_push_of_some _ q, fun _ => True.intro, fun y hy => absurd rfl hy⟩

end

/-! ### readings and rules -/
section
variable {X : Cx} {o e value : Expr} {f : Str} {pos pos' tpos : Pos} {ta tv : TE}
end

/-! ### isinstance -/
section
variable {X : Cx} {pins : List (Addr × Obj)} {σ : St} {H : Hp} {s : Shared} {A : Around} {E : Value → Shared → Prop} {Q : Value → Shared → Prop} {c : Value} {b : Bool}
/-- the type of a value, as the fragment's deciders take it; for an instance its class -/
inductive TyOf (K : PySem.W.Frag) (H : Hp) : V → Value → Prop where
  | non : TyOf K H .non (.type "NoneType")
  | bl (x : Bool) : TyOf K H (.bl x) (.type "bool")
  | int (i : Int) : TyOf K H (.int i) (.type "int")
  | str (x : Str) : TyOf K H (.str x) (.type "str")
  | flt (x : UInt64) : TyOf K H (.flt x) (.type "float")
  | lst {a : Addr} {xs : List V} (e : H a = some (.lst xs)) : TyOf K H (.ref a) (.type "list")
  | frz {a : Addr} {o : Obj} {xs : List V} (e : H a = some (.frz o (.lst xs))) : TyOf K H (.ref a) (.type "list")
  | tup {a : Addr} {xs : List V} (e : H a = some (.tup xs)) : TyOf K H (.ref a) (.type "tuple")
  | dK {a : Addr} {kvs : List (Key × V)} (e : H a = some (.dK kvs)) : TyOf K H (.ref a) (.type "dict")
  | dT {a : Addr} {kvs : List (List Key × V)} (e : H a = some (.dT kvs)) : TyOf K H (.ref a) (.type "dict")
  | ins {a C dx : Addr} {fs : List (Str × V)} (e : H a = some (.ins C dx fs)) (cl : Cls K C) (ha : PySem.W.findIn K (.ref C) "__class__" = some (some (.builtin "object.__class__")))
      (hn : PySem.W.specialIn K (.builtin "object.__class__") "__get__" = some (some (.builtin "getset_descriptor.__get__"))) (htk : PySem.W.takesIn K (.builtin "object.__class__") = some true)
      (hm : PySem.W.mroIn K C (.type "object") = some true) : TyOf K H (.ref a) (.ref C)
/-- isinstance(x, c) for one class c, a built-in or an own one: kitOne's answer -/
theorem isinst_ok {x : V} {u t : Value} (I : Inv X pins σ H s) (rx : RelV x u) (ty : TyOf X.K H x t) (e : PySem.W.kitOne X.K t c = some b) (h : ∀ tk, Q (.bool b) { s with toks := tk }) :
    wpAny (model X.prog X.w) A (call (.builtin "isinstance") [u, c]) Q E s := by
  cases ty with
  | non => cases (show u = Value.none from rx); exact PySem.W.kia_one PySem.W.kitx_none I.kIn True.intro e (fun z => nomatch z) h
  | bl y => cases (show u = Value.bool y from rx); exact PySem.W.kia_one PySem.W.kitx_bool I.kIn True.intro e (fun z => nomatch z) h
  | int i => obtain ⟨t, q⟩ := (show ∃ t, u = Value.int i t from rx); cases q; exact PySem.W.kia_one PySem.W.kitx_int I.kIn True.intro e (fun z => nomatch z) h
  | str y => obtain ⟨t, q⟩ := (show ∃ t, u = Value.str y t from rx); cases q; exact PySem.W.kia_one PySem.W.kitx_str I.kIn True.intro e (fun z => nomatch z) h
  | flt y => obtain ⟨t, q⟩ := (show ∃ t, u = Value.float y t from rx); cases q; exact PySem.W.kia_one PySem.W.kitx_float I.kIn True.intro e (fun z => nomatch z) h
  | @lst a xs ea =>
    cases (show u = Value.ref a from rx)
    obtain ⟨_, _, n, _, h1⟩ := (show ObjOk X.prog X.w H s.heap a (.lst xs) from I.hok a _ ea)
    exact PySem.W.kia_one PySem.W.kitx_list I.kIn ⟨_, h1, rfl⟩ e (fun z => nomatch z) h
  | @frz a ob xs ea =>
    cases (show u = Value.ref a from rx)
    obtain ⟨_, _, _, n, _, h1⟩ := (show ObjOk X.prog X.w H s.heap a (.frz ob (.lst xs)) from I.hok a _ ea)
    exact PySem.W.kia_one PySem.W.kitx_list I.kIn ⟨_, h1, rfl⟩ e (fun z => nomatch z) h
  | @tup a xs ea =>
    cases (show u = Value.ref a from rx)
    obtain ⟨_, _, _, p⟩ := (show ObjOk X.prog X.w H s.heap a (.tup xs) from I.hok a _ ea)
    obtain ⟨o, h1, h2, _⟩ := p
    exact PySem.W.kia_one PySem.W.kitx_tuple I.kIn ⟨o, h1, h2⟩ e (fun z => nomatch z) h
  | @dK a kvs ea =>
    cases (show u = Value.ref a from rx)
    obtain ⟨_, _, vs, _, p⟩ := (show ObjOk X.prog X.w H s.heap a (.dK kvs) from I.hok a _ ea)
    obtain ⟨o, es, ep, h1, h2, _⟩ := p
    exact PySem.W.kia_one PySem.W.kitx_dict I.kIn ⟨o, h1, h2.1⟩ e (fun z => nomatch z) h
  | @dT a kvs ea =>
    cases (show u = Value.ref a from rx)
    obtain ⟨_, _, xs, _, o, es, ep, h1, h2, _⟩ := (show ObjOk X.prog X.w H s.heap a (.dT kvs) from I.hok a _ ea)
    exact PySem.W.kia_one PySem.W.kitx_dict I.kIn ⟨o, h1, h2.1⟩ e (fun z => nomatch z) h
  | @ins a C dx fs ea cl ha hn htk hm =>
    cases (show u = Value.ref a from rx)
    obtain ⟨mA, O, _⟩ := ins_get I.hok ea
    obtain ⟨od, J, _⟩ := O.look
    exact PySem.W.kia_one (PySem.W.kitx_own (cl.get _) cl.hd ha hn htk hm) I.kIn J e (fun z => nomatch z) h
end
end L2

namespace L2
open PySem PySem.Spec PyProof.Rows

/-! ### room -/
structure Room (k : Nat) (A : Around) : Prop where
  hd : A.handled = none
  dp : A.depth + 3 * k + 5 < recursionLimit
  un : A.units + 16 * k + 200 < cLine
theorem Room.mono {j k : Nat} {A : Around} (r : Room k A) (h : j ≤ k) : Room j A := ⟨r.hd, by have := r.dp; omega, by have := r.un; omega⟩
theorem Room.deeper {k : Nat} {A : Around} (r : Room (k + 1) A) (env : Env) : Room k (A.deeper env) :=
  ⟨r.hd, by have := r.dp; show A.depth + 1 + 3 * k + 5 < _; omega, by have := r.un; show A.units + 3 + 16 * k + 200 < _; omega⟩
theorem Room.in1 {k : Nat} {A : Around} (r : Room (k + 1) A) : Room k A.in1 :=
  ⟨r.hd, by have := r.dp; show A.depth + 3 * k + 5 < _; omega, by have := r.un; show A.units + 1 + 16 * k + 200 < _; omega⟩
theorem make_depth {A : Around} {C : Addr} {us : List Value} {kw : List (Str × Value)} : (A.under (.builtin "type.__call__" ⟨.ref C :: us, kw⟩)).depth = A.depth + 1 := by
  first | rfl | simp [Around.under, Code.weight, Code.isCreation, Code.isGuard, Code.isCaller, Code.frames, Code.isFrame, guardIds]
theorem make_units {A : Around} {C : Addr} {us : List Value} {kw : List (Str × Value)} : (A.under (.builtin "type.__call__" ⟨.ref C :: us, kw⟩)).units = A.units + 1 := by
  first | rfl | simp [Around.under, Code.cUnits, Code.frames, Code.isFrame]
theorem Room.make {k : Nat} {A : Around} (r : Room (k + 1) A) (C : Addr) (us : List Value) (kw : List (Str × Value)) : Room k (A.under (.builtin "type.__call__" ⟨.ref C :: us, kw⟩)) :=
  ⟨r.hd, by have := r.dp; rw [make_depth]; omega, by have := r.un; rw [make_units]; omega⟩
theorem Room.depth {k : Nat} {A : Around} (r : Room k A) : A.depth < recursionLimit := by have := r.dp; omega
theorem Room.units {k : Nat} {A : Around} (r : Room k A) : A.units + 64 < cLine := by have := r.un; omega
theorem Room.units0 {k : Nat} {A : Around} (r : Room k A) : A.units < cLine := by have := r.un; omega

/-! ### argument lists and displays -/
def tNil : TA := fun _ H Q => Q [] H
def tCons (ta : TE) (tr : TA) : TA := fun σ H Q => ta σ H fun x H1 => tr σ H1 fun xs H2 => Q (x :: xs) H2
section
variable {X : Cx} {e : Expr} {es : List Expr} {te : TE} {t : TA} {pos : Pos}
theorem pa_nil : PA X [] tNil := fun _ _ _ _ H Q I h => Calls.spliced_nil ⟨[], H, I, .nil, h⟩
theorem pa_cons (ha : PE X e te) (hr : PA X es t) (hs : starEach (e :: es) X.env = (false, eval e X.env) :: starEach es X.env := by rfl) : PA X (e :: es) (tCons te t) := by
  intro pos pins s σ H Q I h
  rw [hs]
  show wpAny _ _ (spliced ((false, eval e X.env) :: backTo pos (starEach es X.env))) _ _ s
  refine Calls.spliced_cons (thn (ha pins s σ H _ I h) fun u s1 ⟨x, H1, I1, r1, q1⟩ => ?_)
  exact thn (hr pos pins s1 σ H1 _ I1 q1) fun us s2 ⟨xs, H2, I2, r2, q2⟩ => ⟨x :: xs, H2, I2, .cons r1 r2, q2⟩

/-- a tuple, a list of written items -/
def tTup (t : TA) : TE := fun σ H Q => t σ H fun xs H1 => xs.length ≤ sizeLine ∧ ∀ p, H1 p = none → Q (.ref p) (upd H1 p (.tup xs))
def tLst (t : TA) : TE := fun σ H Q => t σ H fun xs H1 => xs.length ≤ sizeLine ∧ ∀ p, H1 p = none → Q (.ref p) (upd H1 p (.lst xs))
theorem pe_tup {x1} (h : PA X es t) : PE X (.Tuple es x1 pos) (tTup t) := by
  intro pins s σ H Q I hq
  refine wpAny_Tuple_spliced (thn (h pos pins s σ H _ I hq) fun us s1 ⟨xs, H1, I1, r, z, q⟩ => ⟨by rw [← r.length]; exact z, ?_⟩)
  have hf : H1 s1.heap.objs.size = none := I1.hok.fresh (Nat.le_refl _)
  refine ⟨.ref s1.heap.objs.size, upd H1 s1.heap.objs.size (.tup xs), I1.laid (t' := s1.toks) (fun b u e => Heap.get?_push_of_some _ e) (Nat.le_refl _) ?_, rfl, q _ hf⟩
  exact ⟨z, us, r, ⟨_, Heap.get?_push_size _ rfl, rfl, _, rfl⟩⟩
theorem pe_lst (h : PA X es t) : PE X (.List es pos) (tLst t) := by
  intro pins s σ H Q I hq
  refine wpAny_List_spliced (thn (h pos pins s σ H _ I hq) fun us s1 ⟨xs, H1, I1, r, z, q⟩ => ⟨by rw [← r.length]; exact z, ?_⟩)
  have hf : H1 s1.heap.objs.size = none := I1.hok.fresh (Nat.le_refl _)
  refine ⟨.ref s1.heap.objs.size, upd H1 s1.heap.objs.size (.lst xs), I1.laid (t' := s1.toks) (fun b u e => Heap.get?_push_of_some _ e) (Nat.le_refl _) ?_, rfl, q _ hf⟩
  exact ⟨z, us, 0, r, Heap.get?_push_size _ rfl⟩
end

/-! ### what a def promises -/
/-- a def's promise: the bound arguments in the parameters' order, the heap, the wanted end, the wanted exception -/
abbrev Sp := List V → Hp → VK → XK → Prop
/-- how an exception lies behind a call (file 08 gives it): the callers' frames, abstract heap and state ahead of the call, the wish, the exception, the state -/
abbrev CXT := List Env → Hp → Shared → XK → Value → Shared → Prop

/-- the state at a call -/
structure Env0 (P : Program) (w : World) (K : PySem.W.Frag) (mg : Str → Option Value) (base : Heap) (A : Around) (outer : List Env) (s : Shared) (H : Hp) : Prop where
  frames : A.frames = some outer
  mod : Mod K mg base
  bs : ∀ b o, base.get? b = some o → s.heap.get? b = some o ∧ H b = none
  bsz : base.objs.size ≤ s.heap.objs.size
  funs : s.heap.FunFrames base outer
  frf : ∀ b ∈ frs outer, H b = none
  hok : HOk P w H s.heap
  bare : AllBare s.gens
/-- a call's end -/
def CE (outer : List Env) (P : Program) (w : World) (H : Hp) (s : Shared) (Q : VK) (u : Value) (s' : Shared) : Prop :=
  ∃ v H', s'.os = s.os ∧ AllBare s'.gens ∧ Un (frs outer) [] H H' s.heap s'.heap ∧ HOk P w H' s'.heap ∧ RelV v u ∧ Q v H'
def CR (CX : CXT) (outer : List Env) (P : Program) (w : World) (H : Hp) (s : Shared) (Q : VK) (E : XK) (r : Result) (s' : Shared) : Prop :=
  match r with
  | .ok (.ret u) => CE outer P w H s Q u s'
  | .ok _ => False
  | .error e => CX outer H s E e s'
structure FnOk (P : Program) (w : World) (K : PySem.W.Frag) (mg : Str → Option Value) (base : Heap) (CX : CXT) (k : Nat) (f : Addr) (fd : FuncData) (ps : List Str) (sp : Sp) : Prop where
  len : ∀ vs H Q E, sp vs H Q E → vs.length = ps.length
  run : ∀ (A : Around) (outer : List Env) (s : Shared) (H : Hp) (args : Args) (us : List Value) (vs : List V) (Q : VK) (E : XK), Room k A → Env0 P w K mg base A outer s H → BindsTo s fd args (ps.zip us) → Vals vs us → sp vs H Q E →
    codeAny (model P w) A (.call (.ref f) args) (CR CX outer P w H s Q E) s
theorem FnOk.mono {P : Program} {w : World} {K : PySem.W.Frag} {mg : Str → Option Value} {base : Heap} {CX : CXT} {j k : Nat} {f : Addr} {fd : FuncData} {ps : List Str} {sp : Sp} (F : FnOk P w K mg base CX j f fd ps sp) (h : j ≤ k) :
    FnOk P w K mg base CX k f fd ps sp := ⟨F.len, fun A outer s H args us vs Q E hr => F.run A outer s H args us vs Q E (hr.mono h)⟩
/-- a weaker promise -/
theorem FnOk.imp {P : Program} {w : World} {K : PySem.W.Frag} {mg : Str → Option Value} {base : Heap} {CX : CXT} {k : Nat} {f : Addr} {fd : FuncData} {ps : List Str} {sp sp' : Sp} (F : FnOk P w K mg base CX k f fd ps sp)
    (h : ∀ vs H Q E, sp' vs H Q E → sp vs H Q E) : FnOk P w K mg base CX k f fd ps sp' :=
  ⟨fun vs H Q E q => F.len vs H Q E (h _ _ _ _ q), fun A outer s H args us vs Q E hr he hb hv hs => F.run A outer s H args us vs Q E hr he hb hv (h _ _ _ _ hs)⟩

theorem Env0.make {P : Program} {w : World} {K : PySem.W.Frag} {mg : Str → Option Value} {base : Heap} {A : Around} {outer : List Env} {s : Shared} {H : Hp} (e : Env0 P w K mg base A outer s H) (C : Addr) (us : List Value) (kw : List (Str × Value)) :
    Env0 P w K mg base (A.under (.builtin "type.__call__" ⟨.ref C :: us, kw⟩)) outer s H := ⟨by first | exact e.frames | (simpa [Around.under, Code.envs, Code.isFrame, pushEnvs] using e.frames), e.mod, e.bs, e.bsz, e.funs, e.frf, e.hok, e.bare⟩
theorem Env0.in1 {P : Program} {w : World} {K : PySem.W.Frag} {mg : Str → Option Value} {base : Heap} {A : Around} {outer : List Env} {s : Shared} {H : Hp} (e : Env0 P w K mg base A outer s H) :
    Env0 P w K mg base A.in1 outer s H := ⟨e.frames, e.mod, e.bs, e.bsz, e.funs, e.frf, e.hok, e.bare⟩

section
variable {X : Cx} {pins : List (Addr × Obj)} {σ : St} {H : Hp} {s s' : Shared}
/-- from a body: what a callee wants -/
theorem Inv.env0 (I : Inv X pins σ H s) : Env0 X.prog X.w X.K X.mg X.base X.A X.stack s H :=
  ⟨I.ok.frames, I.ok.mod, I.bs, Nat.le_trans I.ok.bsz I.sz, I.stack, I.stkFree, I.hok, I.bare⟩
/-- behind a call -/
theorem Inv.after {Q : VK} {u : Value} (I : Inv X pins σ H s) (h : CE X.stack X.prog X.w H s Q u s') : EP X pins σ Q u s' := by
  obtain ⟨v, H', os, bare, un, hok, r, q⟩ := h
  obtain ⟨hh, g, d, t, os'⟩ := s'
  obtain rfl : os' = s.os := os
  exact ⟨v, H', I.call (h' := hh) (g' := g) (d' := d) (t' := t) (ch := []) un hok bare (fun b z => absurd z (by simp)), r, q⟩
end

/-! ### calls -/
/-- f(..): the written arguments, then the defaults dvs; E: what is wanted of an exception -/
def tCall (sp : Sp) (dvs : List V) (E : XK) (t : TA) : TE := fun σ H Q => t σ H fun vs H1 => sp (vs ++ dvs) H1 Q E
/-- how the parameters are bound: us the positional arguments, kw the keywords' values by name, ds the defaults that fill up -/
def Binds (K : PySem.W.Frag) (fd : FuncData) (ps : List Str) (ds : List Value) : Prop :=
  ∀ (s : Shared) (us : List Value), K.In s.heap → (us ++ ds).length = ps.length → BindsTo s fd ⟨us, []⟩ (ps.zip (us ++ ds))
/-- every parameter is given -/
theorem Binds.all {K : PySem.W.Frag} {fd : FuncData} {ps : List Str} (h : ∀ us : List Value, us.length = ps.length → bindArgs fd ⟨us, []⟩ = pure (ps.zip us)) : Binds K fd ps [] := fun s us _ hl => by
  rw [List.append_nil] at hl ⊢
  exact .of_eq (h us hl)

/-- an exception of a callee reaches what this body wants of exceptions -/
def Passes (CX : CXT) (X : Cx) (E : XK) : Prop := ∀ (pins : List (Addr × Obj)) (σ : St) (H : Hp) (s : Shared) (e : Value) (s' : Shared), Inv X pins σ H s → CX X.stack H s E e s' → X.xe e s'

section
variable {X : Cx} {CX : CXT} {k : Nat} {f C : Addr} {fd : FuncData} {ps : List Str} {sp : Sp} {dvs : List V} {ds : List Value} {E : XK} {x m : Str} {p pos apos : Pos} {e o : Expr} {es : List Expr} {ta : TE} {t : TA}

/-- the callee runs -/
theorem run_fn {pins : List (Addr × Obj)} {σ : St} {H : Hp} {s : Shared} {Q : VK} {us : List Value} {vs : List V} (F : FnOk X.prog X.w X.K X.mg X.base CX k f fd ps sp) (hr : Room k X.A) (hb : Binds X.K fd ps ds) (hd : Vals dvs ds) (hx : Passes CX X E)
    (I : Inv X pins σ H s) (r : Vals vs us) (h : sp (vs ++ dvs) H Q E) : wpAny (model X.prog X.w) X.A (call (.ref f) us) (EP X pins σ Q) X.xe s := by
  have r2 : Vals (vs ++ dvs) (us ++ ds) := r.append hd
  have hl : (us ++ ds).length = ps.length := by rw [← r2.length]; exact F.len _ _ _ _ h
  refine wpAny_call (codeAny_mono (F.run X.A X.stack s H ⟨us, []⟩ (us ++ ds) (vs ++ dvs) Q E hr I.env0 (hb s us I.kIn hl) r2 h) fun r s' hq => ?_)
  cases r with
  | error e => exact hx pins σ H s e s' I hq
  | ok fl =>
    cases fl with
    | ret u => exact I.after hq
    | next => exact False.elim hq
    | brk => exact False.elim hq
    | cont => exact False.elim hq

theorem pe_call (F : FnOk X.prog X.w X.K X.mg X.base CX k f fd ps sp) (hr : Room k X.A) (hg : Gl X x) (hm : X.mg x = some (.ref f)) (hk : PySem.W.keepIn X.K (.ref f) = true) (hb : Binds X.K fd ps ds) (hd : Vals dvs ds) (hx : Passes CX X E)
    (ha : PA X (e :: es) t) (hdb : (x == ("__debug__" : Str)) = false := by decide) (he : starEach (e :: es) X.env = (false, eval e X.env) :: starEach es X.env := by rfl) (hpl : (backTo pos (starEach es X.env)).any (·.1) = false := by rfl) :
    PE X (.Call (.Name x p) (e :: es) [] pos) (tCall sp dvs E t) := by
  intro pins s σ H Q I h
  refine wpAny_Call_Name_kw (ld_glob I hg hm ?_ hdb)
  refine PySem.W.callWith_K (h₀ := X.base) I.ok.mod.kin hk (thn (ha pos pins s σ H _ I h) fun us s1 ⟨vs, H1, I1, r, q⟩ => ⟨I1.kIn, ?_⟩) he hpl
  exact run_fn F hr hb hd hx I1 r q
theorem pe_call0 (F : FnOk X.prog X.w X.K X.mg X.base CX k f fd ps sp) (hr : Room k X.A) (hg : Gl X x) (hm : X.mg x = some (.ref f)) (hk : PySem.W.keepIn X.K (.ref f) = true) (hb : Binds X.K fd ps ds) (hd : Vals dvs ds) (hx : Passes CX X E)
    (hdb : (x == ("__debug__" : Str)) = false := by decide) : PE X (.Call (.Name x p) [] [] pos) (tCall sp dvs E tNil) := by
  intro pins s σ H Q I h
  refine wpAny_Call_Name_kw (ld_glob I hg hm ?_ hdb)
  exact PySem.W.callWith_K0 I.kIn hk (run_fn (us := []) F hr hb hd hx I .nil h)

/-- what a class must have to be made -/
structure Mk (K : PySem.W.Frag) (C f : Addr) : Prop where
  makes : PySem.W.makesIn K C = true
  init : PySem.W.findIn K (.ref C) "__init__" = some (some (.ref f))
  fn : PySem.W.isFn K (.ref f) = true
  kp : PySem.W.keepIn K (.ref C) = true

end

/-! ### keywords -/
section
variable {X : Cx} {CX : CXT} {k : Nat} {f C : Addr} {fd : FuncData} {ps ks : List Str} {sp : Sp} {E : XK} {x m : Str} {p pos apos kpos : Pos} {e o : Expr} {es : List Expr} {kws : List Keyword} {te ta : TE} {t tk : TA} {nm : Option Str}
/-- how a call with keywords binds: g puts the positional values us and the keywords' values ws (names ks) in the parameters' order, defaults among them -/
structure KBinds (K : PySem.W.Frag) (fd : FuncData) (ps ks : List Str) (g : List Value → List Value → List Value) (gV : List V → List V → List V) : Prop where
  to : ∀ (s : Shared) (us ws : List Value), K.In s.heap → (g us ws).length = ps.length → BindsTo s fd ⟨us, ks.zip ws⟩ (ps.zip (g us ws))
  rel : ∀ {vs : List V} {us : List Value} {zs : List V} {ws : List Value}, Vals vs us → Vals zs ws → Vals (gV vs zs) (g us ws)
variable {g : List Value → List Value → List Value} {gV : List V → List V → List V}
end

/-! ### a def's body keeps its promise -/
/-- names: the parameters first -/
structure FnScope (N P : List Str) (sc : Scope) : Prop where
  kind : sc.kind = .function
  co : sc.isCoroutine = false
  gen : sc.isGenerator = false
  nd : N.Nodup
  pre : N.take P.length = P
  par : ∀ x ∈ P, sc.names.lookup x = some .local ∨ sc.names.lookup x = some .cell
  nofree : ∀ y ∈ sc.names, y.2 ≠ .free

theorem bindL_out {kindOf : Str → Option NameKind} {x : Str} : ∀ {binds : List (Str × Value)} {m : Str → Option Value}, (∀ v, (x, v) ∉ binds) → bindL kindOf binds m x = m x
  | [], _, _ => rfl
  | (n, v) :: r, m, h => by
    unfold bindL
    rw [bindL_out fun w hw => h w (List.mem_cons_of_mem _ hw)]
    split
    · have : x ≠ n := by rintro rfl; exact h v List.mem_cons_self
      simp [this]
    · rfl
theorem bindC_out {kindOf : Str → Option NameKind} {x : Str} : ∀ {binds : List (Str × Value)} {m : Str → Option Value}, (∀ v, (x, v) ∉ binds) → bindC kindOf binds m x = m x
  | [], _, _ => rfl
  | (n, v) :: r, m, h => by
    unfold bindC
    rw [bindC_out fun w hw => h w (List.mem_cons_of_mem _ hw)]
    split
    · rfl
    · have : x ≠ n := by rintro rfl; exact h v List.mem_cons_self
      simp [this]
theorem bindL_get {kindOf : Str → Option NameKind} {x : Str} {v : Value} : ∀ {P : List Str} {vs : List Value} {i : Nat} {m : Str → Option Value}, P.Nodup → P[i]? = some x → vs[i]? = some v → kindOf x = some .local →
    bindL kindOf (P.zip vs) m x = some v
  | [], _, _, _, _, h, _, _ => by simp at h
  | _ :: _, [], _, _, _, _, h, _ => by simp at h
  | p :: P, w :: vs, 0, m, nd, h1, h2, hk => by
    simp at h1 h2; subst h1; subst h2
    show bindL kindOf ((p, w) :: P.zip vs) m p = _
    unfold bindL
    rw [bindL_out fun v hv => (List.nodup_cons.mp nd).1 (List.of_mem_zip hv).1, if_pos hk]
    simp
  | p :: P, w :: vs, i + 1, m, nd, h1, h2, hk => by
    show bindL kindOf ((p, w) :: P.zip vs) m x = _
    unfold bindL
    exact bindL_get (i := i) (List.nodup_cons.mp nd).2 (by simpa using h1) (by simpa using h2) hk
theorem bindC_get {kindOf : Str → Option NameKind} {x : Str} {v : Value} : ∀ {P : List Str} {vs : List Value} {i : Nat} {m : Str → Option Value}, P.Nodup → P[i]? = some x → vs[i]? = some v → kindOf x ≠ some .local →
    bindC kindOf (P.zip vs) m x = some v
  | [], _, _, _, _, h, _, _ => by simp at h
  | _ :: _, [], _, _, _, _, h, _ => by simp at h
  | p :: P, w :: vs, 0, m, nd, h1, h2, hk => by
    simp at h1 h2; subst h1; subst h2
    show bindC kindOf ((p, w) :: P.zip vs) m p = _
    unfold bindC
    rw [bindC_out fun v hv => (List.nodup_cons.mp nd).1 (List.of_mem_zip hv).1, if_neg hk]
    simp
  | p :: P, w :: vs, i + 1, m, nd, h1, h2, hk => by
    show bindC kindOf ((p, w) :: P.zip vs) m x = _
    unfold bindC
    exact bindC_get (i := i) (List.nodup_cons.mp nd).2 (by simpa using h1) (by simpa using h2) hk

/-- the names' values at the entry -/
def start (N : List Str) (vs : List V) : St := vs.map some ++ List.replicate (N.length - vs.length) none

/-- the context of a def's body, at its entry; an exception leaves the frame, then lies as CX says -/
def cxOf (CX : CXT) (P : Program) (w : World) (K : PySem.W.Frag) (mg : Str → Option Value) (base : Heap) (N : List Str) (qual : Str) (scope : Scope) (f : Addr) (cd : Value) (A : Around) (outer : List Env) (s : Shared) (H : Hp) (E : XK) : Cx where
  prog := P
  w := w
  K := K
  mg := mg
  base := base
  A := A.deeper (envOfC qual scope s.heap.objs.size f cd)
  N := N
  s₀ := s
  H₀ := H
  env := envOfC qual scope s.heap.objs.size f cd
  outer := outer
  stack := envOfC qual scope s.heap.objs.size f cd :: outer
  ex := []
  calm := true
  fn := fun _ => true
  pn := []
  xe := fun e s' => wpAny (model P w) (A.deeper (envOfC qual scope s.heap.objs.size f cd)) (leaving (envOfC qual scope s.heap.objs.size f cd) e) (fun _ s'' => CX outer H s E e s'') (fun e' s'' => CX outer H s E e' s'') s'

theorem cell_has {sc : Scope} {n : Nat} {x : Str} (h : sc.names.lookup x = some .cell) : ∃ c, (cellsFrom n sc.names []).lookup x = some c := by
  have q := PySem.W.cellsFrom_some sc.names n [] (.inl h)
  exact Option.isSome_iff_exists.mp q

theorem inv_start {CX : CXT} {P : Program} {w : World} {K : PySem.W.Frag} {mg : Str → Option Value} {base : Heap} {N ps : List Str} {qual : Str} {scope : Scope} {f : Addr} {cd : Value} {A : Around} {outer : List Env} {s s1 : Shared} {H : Hp} {E : XK} {us : List Value} {vs : List V}
    (S : FnScope N ps scope) (hd : A.handled = none) (e0 : Env0 P w K mg base A outer s H) (hl : vs.length = ps.length) (r : Vals vs us)
    (x : InCallC s s.heap.objs.size (bindL (envOfC qual scope s.heap.objs.size f cd).kindOf (ps.zip us) fun _ => none) (cellsFrom (s.heap.objs.size + 1) scope.names []) (bindC (envOfC qual scope s.heap.objs.size f cd).kindOf (ps.zip us) fun _ => none) s1) :
    Inv (cxOf CX P w K mg base N qual scope f cd A outer s H E) [] (start N vs) H s1 := by
  have hpl : ps.length ≤ N.length := by have := congrArg List.length S.pre; rw [List.length_take] at this; omega
  obtain ⟨h1, tk, rfl, hk⟩ := x.done
  have noA : ∀ b : Addr, b ∉ (cxOf CX P w K mg base N qual scope f cd A outer s H E).ex := fun b z => absurd (show b ∈ ([] : List Addr) from z) (by simp)
  refine ⟨⟨e0.mod, S.kind, rfl, rfl, Nat.le_refl _, fun y z c h1 h2 => ?_, fun y hy => ?_, fun y c _ h => ?_, fun _ => hd, Around.frames_deeper e0.frames, .inr ⟨rfl, rfl⟩, fun b z => absurd z (noA b), e0.bs, e0.bsz, fun b _ _ => noA b, fun b z => absurd z (noA b), e0.funs, e0.frf⟩,
    rfl, e0.bare, Un.kept hk, ⟨_, x.toInCall.ns, fun i y v h1 h2 h3 => ?_⟩, fun y c h => ⟨_, x.cell y c h⟩, e0.hok.fresh (Nat.le_refl _), fun y c h => ?_, fun p hp => absurd (show p ∈ ([] : List (Addr × Obj)) from hp) (by simp), e0.hok.kept hk, ?_⟩
  · exact name_of_addr x.apart (PySem.mem_of_lookup h1) (PySem.mem_of_lookup h2)
  · have hy : scope.names.lookup y = some .cell ∨ scope.names.lookup y = some .free := hy
    rcases hy with hy | hy
    · exact cell_has hy
    · exact absurd rfl (S.nofree _ (PySem.mem_of_lookup hy))
  · exact Nat.le_of_lt (x.above y c (PySem.mem_of_lookup h))
  · have hi : i < vs.length := by
      unfold start at h2
      by_cases hi : i < vs.length
      · exact hi
      · rw [List.getElem?_append_right (by simpa using hi)] at h2
        rw [List.getElem?_replicate] at h2
        split at h2 <;> cases h2
    have ha : vs[i]? = some v := by
      unfold start at h2
      rw [List.getElem?_append_left (by simpa using hi), List.getElem?_map] at h2
      cases e : vs[i]? with
      | none => rw [e] at h2; cases h2
      | some a => rw [e] at h2; cases h2; rfl
    obtain ⟨u, hu, rv⟩ := r.get ha
    have hp : ps[i]? = some y := by
      rw [← S.pre, List.getElem?_take_of_lt (by omega)]; exact h1
    have ndP : ps.Nodup := by rw [← S.pre]; exact S.nd.sublist (List.take_sublist _ _)
    refine ⟨u, rv, ?_⟩
    rcases S.par y (List.mem_of_getElem? hp) with k | k
    · exact .inl ⟨k, bindL_get ndP hp hu k⟩
    · obtain ⟨c, e⟩ := cell_has (n := s.heap.objs.size + 1) k
      refine .inr ⟨.inl k, c, e, ?_⟩
      have q := x.cell y c e
      rw [bindC_get ndP hp hu (by show scope.names.lookup y ≠ _; rw [k]; decide)] at q
      exact q
  · exact e0.hok.fresh (Nat.le_of_lt (x.above y c (PySem.mem_of_lookup h)))
  · unfold start
    show _ = N.length
    rw [List.length_append, List.length_map, List.length_replicate]
    omega

/-- THE RULE: a def (or a method) of the text, by its body. The body's reading t is chosen for each entry; it is run at the parameters' values -/
theorem fn_of {CX : CXT} {P : Program} {w : World} {K : PySem.W.Frag} {mg : Str → Option Value} {base : Heap} {k : Nat} {f : Addr} {name qual : Str} {params : Arguments} {body : List Stmt} {scope : Scope} {dV kV doc pm cdv ct oc : Value} {an od : Option Addr}
    {osl : Array (Option Value)} {N ps : List Str} {sp : Sp} (lk : K.lookup f = some ⟨oc, od, .func (PySem.W.fnOf name qual params body scope dV kV doc pm an cdv ct), osl⟩) (hcd : PySem.W.codeIn K cdv qual = true) (S : FnScope N ps scope)
    (len : ∀ vs H Q E, sp vs H Q E → vs.length = ps.length)
    (hbody : ∀ (A : Around) (outer : List Env) (s : Shared) (H : Hp) (vs : List V) (Q : VK) (E : XK), Room k (A.deeper (envOfC qual scope s.heap.objs.size f cdv)) → sp vs H Q E →
      ∃ t, PSs (cxOf CX P w K mg base N qual scope f cdv A outer s H E) body t ∧ t { nx := fun _ H' => Q .non H', rt := Q } (start N vs) H) :
    FnOk P w K mg base CX (k + 1) f (PySem.W.fnOf name qual params body scope dV kV doc pm an cdv ct) ps sp := by
  refine ⟨len, fun A outer s H args us vs Q E hr e0 hb r hsp => ?_⟩
  have hl := len _ _ _ _ hsp
  have KX : K.In s.heap := e0.mod.kin.keeps fun b o e => (e0.bs b o e).1
  have lim : s.heap.NoLimit := e0.mod.nolimit.keeps fun b o e => (e0.bs b o e).1
  have hkind : ∀ y ∈ ps.zip us, scope.names.lookup y.1 = some .local ∨ (scope.names.lookup y.1 = some .cell ∧ ((cellsFrom (s.heap.objs.size + 1) scope.names []).lookup y.1).isSome = true) := fun ⟨n, v⟩ hy => by
    rcases S.par n (List.of_mem_zip hy).1 with q | q
    · exact .inl q
    · exact .inr ⟨q, PySem.W.cellsFrom_some _ _ _ (.inl q)⟩
  refine codeAny_call_function hr.depth (KX _ _ lk) rfl S.co S.gen rfl (PySem.W.codeRec_of KX hcd) (hb _ _ _ _ ?_)
  refine wpAny_newFunctionEnv_cells S.kind hkind fun env he s1 x => ?_
  subst he
  refine ⟨lim.keeps x.toInCall.keep, codeAny_func ?_⟩
  obtain ⟨t, ht, hq⟩ := hbody A outer s H vs Q E (hr.deeper _) hsp
  have I : Inv (cxOf CX P w K mg base N qual scope f cdv A outer s H E) [] (start N vs) H s1 := inv_start S hr.hd e0 hl r x
  refine wpAny_mono (ht [] s1 (start N vs) H _ I hq) (fun fl s' hs => ?_) fun e s' hs => hs
  have fin : ∀ {σ' : St} {H' : Hp} {v : V} {u : Value}, Inv (cxOf CX P w K mg base N qual scope f cdv A outer s H E) [] σ' H' s' → RelV v u → Q v H' → CE outer P w H s Q u s' :=
    fun {σ' H' v u} J rv q => ⟨v, H', J.os, J.bare, J.base, J.hok, rv, q⟩
  cases fl with
  | ret u =>
    obtain ⟨v, σ', H', J, rv, q⟩ := hs
    exact fin J rv q
  | next =>
    obtain ⟨σ', H', J, q⟩ := hs
    exact fin (v := V.non) (u := Value.none) J rfl q
  | brk =>
    obtain ⟨_, _, _, q⟩ := hs
    exact False.elim q
  | cont =>
    obtain ⟨_, _, _, q⟩ := hs
    exact False.elim q
end L2

namespace L2
open PySem PySem.Spec PyProof.Rows
section
variable {X : Cx} {x : Str} {p pos : Pos} {e : Expr} {es : List Expr} {t : TA} {id T : String} {r : List V → Hp → VK → Prop}

def tCB (r : List V → Hp → VK → Prop) (t : TA) : TE := fun σ H Q => t σ H fun vs H1 => r vs H1 Q
/-- f(e, ..), f a built-in function -/
theorem pe_callB (hc : CallR X (.builtin id) r) (hg : Gl X x) (hm : X.mg x = none) (hv : bootBuiltins x = some (.builtin id)) (ha : PA X (e :: es) t) (hn : x ≠ "__name__" := by decide) (hdb : (x == ("__debug__" : Str)) = false := by decide)
    (he : starEach (e :: es) X.env = (false, eval e X.env) :: starEach es X.env := by rfl) (hpl : (backTo pos (starEach es X.env)).any (·.1) = false := by rfl) : PE X (.Call (.Name x p) (e :: es) [] pos) (tCB r t) := by
  intro pins s σ H Q I h
  refine wpAny_Call_Name_kw (ld_blt I hg hm hv ?_ hn hdb)
  exact PyProof.Rows.callWith_builtin1 (thn (ha pos pins s σ H _ I h) fun us s1 ⟨vs, H1, I1, r1, q1⟩ => hc pins s1 σ H1 vs us Q I1 r1 q1) he hpl
/-- T(e, ..), T a built-in type -/
theorem pe_callTy (hc : CallR X (.type T) r) (hg : Gl X x) (hm : X.mg x = none) (hv : bootBuiltins x = some (.type T)) (ha : PA X (e :: es) t) (hn : x ≠ "__name__" := by decide) (hdb : (x == ("__debug__" : Str)) = false := by decide)
    (he : starEach (e :: es) X.env = (false, eval e X.env) :: starEach es X.env := by rfl) (hpl : (backTo pos (starEach es X.env)).any (·.1) = false := by rfl) : PE X (.Call (.Name x p) (e :: es) [] pos) (tCB r t) := by
  intro pins s σ H Q I h
  refine wpAny_Call_Name_kw (ld_blt I hg hm hv ?_ hn hdb)
  exact PyProof.Rows.callWith_type1 (thn (ha pos pins s σ H _ I h) fun us s1 ⟨vs, H1, I1, r1, q1⟩ => hc pins s1 σ H1 vs us Q I1 r1 q1) he hpl
end
end L2

namespace HT
open PySem PyProof.Rows

section
open PySem.SeqAt
open PySem.AutoSeq1 (wpAny_loadPart')
open PySem.MeetsSeq PySem.MeetsSeq2 PySem.MeetsSeq3

end

section
variable {prog : Program} {w : World} {A : Around} {E : Value → Shared → Prop} {s : Shared}

/-- t + u, t not empty -/
theorem cat_tup {t b : Addr} {vs ws : List Value} {Q : Value → Shared → Prop} (ht : IsTup s.heap t vs.toArray) (hb : IsTup s.heap b ws.toArray) (hv : vs ≠ [])
    (h1 : ws = [] → Q (.ref t) s) (h2 : ws ≠ [] → Q (.ref s.heap.objs.size) { s with heap := s.heap.push { cls := .type "tuple", data := .seq (vs ++ ws).toArray } })
    (hsz : vs.length + ws.length ≤ sizeLine) : wpAny (model prog w) A (binaryOp .Add (.ref t) (.ref b)) Q E s := by
  obtain ⟨⟨cls, dd, data, sl⟩, ho, hc, n, hd⟩ := id ht
  obtain ⟨⟨cls2, dd2, data2, sl2⟩, ho2, hc2, n2, hd2⟩ := id hb
  simp only at hc hd hc2 hd2
  subst hc hd hc2 hd2
  have e : vs.toArray ++ ws.toArray = (vs ++ ws).toArray := by simp
  by_cases hw : ws = []
  · exact concat_meets ⟨_, ho, rfl⟩ ⟨_, ho2, rfl⟩ noFill_tuple_add seq_tuple_add PySem.F.slot_tuple_add PySem.F.entry_tuple_add (PySem.F.args_tuple_add_2 _ _)
      (tuple_addW1 t b vs.toArray ws.toArray n n2 dd dd2 sl sl2 (by simpa using hv) (by simp [hw])) ⟨ho, ho2, h1 hw⟩
  · refine concat_meets ⟨_, ho, rfl⟩ ⟨_, ho2, rfl⟩ noFill_tuple_add seq_tuple_add PySem.F.slot_tuple_add PySem.F.entry_tuple_add (PySem.F.args_tuple_add_2 _ _)
      (tuple_addW2 t b vs.toArray ws.toArray n n2 dd dd2 sl sl2 (by simpa using hv) (by simpa using hw) (by rw [List.size_toArray, List.size_toArray]; exact hsz)) ⟨ho, ho2, ?_⟩
    rw [e]
    exact h2 hw

/-! ### t[a:b], not the whole -/
/-- a slice's bound as a place among n (d where it is left out) -/
def sIx (n d : Nat) : Option Int → Nat
  | none => d
  | some v => if v < 0 then (v + (n : Int)).toNat else min v.toNat n
theorem sIx_none (n d : Nat) : sIx n d none = d := rfl
theorem sIx_nat (n d k : Nat) : sIx n d (some (k : Int)) = min k n := by
  show (if (k : Int) < 0 then ((k : Int) + (n : Int)).toNat else min (k : Int).toNat n) = min k n
  rw [if_neg (by omega), Int.toNat_natCast]
theorem sIx_le (n d : Nat) (hd : d ≤ n) (o : Option Int) : sIx n d o ≤ n := by
  cases o with
  | none => exact hd
  | some v =>
    show (if v < 0 then (v + (n : Int)).toNat else min v.toNat n) ≤ n
    by_cases hv : v < 0
    · rw [if_pos hv]; omega
    · rw [if_neg hv]; exact Nat.min_le_right _ _
theorem clip_eq (v : Int) (n d : Nat) : (if v < 0 then max (v + (n : Int)) 0 else min v (n : Int)) = ((sIx n d (some v) : Nat) : Int) := by
  show (if v < 0 then max (v + (n : Int)) 0 else min v (n : Int)) = (((if v < 0 then (v + (n : Int)).toNat else min v.toNat n) : Nat) : Int)
  by_cases hv : v < 0
  · simp only [if_pos hv]; omega
  · simp only [if_neg hv]; omega
theorem adjust_gen (lo hi : Option Int) (n : Nat) : Builtin.Slice.sliceAdjust lo hi 1 (n : Int) = (((sIx n 0 lo : Nat) : Int), ((sIx n n hi : Nat) : Int)) := by
  have h1 : ¬ ((1 : Int) < 0) := by omega
  unfold Builtin.Slice.sliceAdjust
  simp only [h1, if_false]
  refine Prod.ext ?_ ?_
  · cases lo with
    | none => rfl
    | some v => exact clip_eq v n 0
  · cases hi with
    | none => rfl
    | some v => exact clip_eq v n n
theorem places_gen (i j : Nat) : Builtin.Slice.slicePlaces (i : Int) (j : Int) 1 = j - i := by
  unfold Builtin.Slice.slicePlaces
  have h1 : (1 : Int) > 0 := by omega
  simp only [h1, if_true, Int.ediv_one]
  split <;> omega
theorem slicePart_ {v : Value} {o : Option Int} {Q : Option Int → Shared → Prop} (p : IsPart v o) (h : Q o s) : wpAny (model prog w) A (Builtin.Slice.slicePartIndex v) Q E s := by
  cases p with
  | none => exact slicePart_none h
  | int i t => exact slicePart_int h
theorem sliceApplied_gen {sl : Addr} {vl vu : Value} {lo hi : Option Int} {n : Nat} {Q : Int × Int × Nat → Shared → Prop} (hs : s.heap.IsSliceOf sl vl vu .none) (pl : IsPart vl lo) (pu : IsPart vu hi)
    (h : Q (((sIx n 0 lo : Nat) : Int), 1, sIx n n hi - sIx n 0 lo) s) : wpAny (model prog w) A (Builtin.Slice.sliceApplied (.ref sl) (pure (n : Int))) Q E s := by
  obtain ⟨os, hos, hcs, hds⟩ := id hs
  unfold Builtin.Slice.sliceApplied Builtin.Slice.sliceFields
  refine wpAny_bind (wpAny_bind (wpAny_field hos hds (x := vl) rfl (wpAny_bind (wpAny_field hos hds (x := vu) rfl (wpAny_bind (wpAny_field hos hds (x := .none) rfl (wpAny_pure ?_)))))))
  refine wpAny_bind (slicePart_none ?_)
  show wpAny _ _ (if ((1 : Int) == 0) = true then _ else _) _ _ s
  rw [if_neg (by decide)]
  refine wpAny_bind (slicePart_ pl (wpAny_bind (slicePart_ pu (wpAny_bind (wpAny_pure ?_)))))
  show wpAny _ _ (match Builtin.Slice.sliceAdjust lo hi 1 (n : Int) with | (lo, hi) => pure (lo, (1 : Int), Builtin.Slice.slicePlaces lo hi 1)) _ _ s
  rw [adjust_gen lo hi n]
  show wpAny _ _ (pure (((sIx n 0 lo : Nat) : Int), (1 : Int), Builtin.Slice.slicePlaces ((sIx n 0 lo : Nat) : Int) ((sIx n n hi : Nat) : Int) 1)) _ _ s
  rw [places_gen]
  exact wpAny_pure h
theorem pick_gen (xs : Array Value) (i k : Nat) : ((List.range k).filterMap fun (m : Nat) => xs[((i : Int) + (m : Int) * 1).toNat]?).toArray = ((xs.toList.drop i).take k).toArray := by
  have e : (fun (m : Nat) => xs[((i : Int) + (m : Int) * 1).toNat]?) = fun m => xs[i + m]? := by
    funext m
    have : ((i : Int) + (m : Int) * 1).toNat = i + m := by omega
    rw [this]
  rw [e]
  have := pick_run xs i k
  rw [List.filterMap_map] at this
  have e2 : ((fun x => xs[x]?) ∘ fun x => i + x) = fun m => xs[i + m]? := rfl
  rw [e2] at this
  rw [this]

theorem getItem_tuple_cut {t sl : Addr} {items : Array Value} {vl vu : Value} {lo hi : Option Int} {Q : Value → Shared → Prop} (ht : IsTup s.heap t items) (hs : s.heap.IsSliceOf sl vl vu .none) (pl : IsPart vl lo) (pu : IsPart vu hi)
    (hw : ¬ (sIx items.size 0 lo = 0 ∧ sIx items.size items.size hi = items.size))
    (h : Q (.ref s.heap.objs.size) { s with heap := s.heap.push { cls := .type "tuple", data := .seq ((items.toList.drop (sIx items.size 0 lo)).take (sIx items.size items.size hi - sIx items.size 0 lo)).toArray } })
    (hsz : items.size ≤ sizeLine) : wpAny (model prog w) A (getItem (.ref t) (.ref sl)) Q E s := by
  have htake : sizeOk (.seq ((items.toList.drop (sIx items.size 0 lo)).take (sIx items.size items.size hi - sIx items.size 0 lo)).toArray) := by
    show ((items.toList.drop (sIx items.size 0 lo)).take (sIx items.size items.size hi - sIx items.size 0 lo)).toArray.size ≤ sizeLine
    rw [List.size_toArray, List.length_take, List.length_drop, Array.length_toList]
    omega
  have hj : sIx items.size items.size hi ≤ items.size := sIx_le _ _ (Nat.le_refl _) hi
  obtain ⟨os, hos, hcs, hds⟩ := id hs
  have hTs : s.TypeIs (.ref sl) "slice" := ⟨os, hos, hcs⟩
  unfold getItem
  try with_reducible refine wpAny_holding ?_
  first | refine wpAny_bind (wpAny_pure ?_) | skip
  refine wpAny_bind (wpAny_sequenceKey ht.typeIs (by decide) ?_)
  refine wpAny_bind (wpAny_callSpecial?_slot (name := Str.ofString "__getitem__") ht.typeIs PyProof.Rows.slot_tuple_getitem
    (wpAny_call_entry PyProof.Rows.slot_tuple_getitem ht.typeIs entry_tuple_getitem ?_ (args_tuple_getitem _ _)))
  show wpAny _ _ (Builtin.Tuple.tupleItemsOf (.ref t) >>= _) _ _ s
  refine wpAny_bind (tupleItemsOf_ ht ?_)
  refine wpAny_bind (wpAny_typeOf hTs ?_)
  rw [if_pos (by decide)]
  refine wpAny_bind (sliceApplied_gen hs pl pu ?_)
  have hno : ¬ ((((sIx items.size 0 lo : Nat) : Int) == 0 && (1 : Int) == 1 && (sIx items.size items.size hi - sIx items.size 0 lo) == items.size) = true) := by
    intro q
    rw [Bool.and_eq_true, Bool.and_eq_true] at q
    have q1 : ((sIx items.size 0 lo : Nat) : Int) = 0 := eq_of_beq q.1.1
    have q2 : sIx items.size items.size hi - sIx items.size 0 lo = items.size := eq_of_beq q.2
    exact hw ⟨by omega, by omega⟩
  show wpAny _ _ (if (((sIx items.size 0 lo : Nat) : Int) == 0 && (1 : Int) == 1 && (sIx items.size items.size hi - sIx items.size 0 lo) == items.size) = true then _ else _) _ _ s
  rw [if_neg hno, pick_gen]
  first
    | exact wpAny_bind (m := Builtin.Tuple.tupleExact _) (wpAny_newObj_type (wpAny_pure ⟨_, rfl, wpAny_pure h⟩) htake)
    | exact wpAny_bind (m := Builtin.Tuple.tupleExact _) (wpAny_newObj_type (wpAny_bind (wpAny_pure (wpAny_pure ⟨_, rfl, wpAny_pure h⟩))) htake)
    | exact wpAny_bind (wpAny_bind (m := Builtin.Tuple.tupleExact _) (wpAny_newObj_type (wpAny_pure (wpAny_pure ⟨_, rfl, wpAny_pure h⟩)) htake))
    | exact wpAny_bind (wpAny_bind (m := Builtin.Tuple.tupleExact _) (wpAny_newObj_type (wpAny_pure ⟨_, rfl, wpAny_pure h⟩) htake))
end
end HT

namespace L2
open PySem PySem.Spec PyProof.Rows

/-! ### the parts of a slice -/
abbrev TO := St → Hp → (Option Int → Hp → Prop) → Prop
/-- a slice's part (left out, or an int) -/
def PO (X : Cx) (e : Option Expr) (t : TO) : Prop :=
  ∀ (pins : List (Addr × Obj)) (s : Shared) (σ : St) (H : Hp) (Q : Option Int → Hp → Prop), Inv X pins σ H s → t σ H Q →
    wpAny (model X.prog X.w) X.A (evalPart e X.env) (fun u s' => ∃ o H', Inv X pins σ H' s' ∧ IsPart u o ∧ Q o H') X.xe s
def tNoPart : TO := fun _ H Q => Q none H
def tPart (t : TE) : TO := fun σ H Q => t σ H fun x H1 => ∃ i, x = .int i ∧ Q (some i) H1

section
variable {X : Cx} {e : Expr} {te : TE} {lo hi : Option Expr} {tl th : TO} {pos p2 : Pos}

theorem po_none : PO X none tNoPart := by
  intro pins s σ H Q I h
  rw [evalPart_none]
  exact wpAny_pure ⟨none, H, I, .none, h⟩
theorem po_some (h : PE X e te) : PO X (some e) (tPart te) := by
  intro pins s σ H Q I hw
  rw [evalPart_some]
  refine thn (h pins s σ H _ I hw) fun u s1 ⟨x, H1, I1, r1, q1⟩ => ?_
  obtain ⟨i, rfl, q⟩ := q1
  obtain ⟨t, rfl⟩ := r1
  exact ⟨some i, H1, I1, .int i t, q⟩

/-- what a slice of a value is, by values: the slice object stands at sl -/
def SlR (X : Cx) (r : V → Option Int → Option Int → Hp → VK → Prop) : Prop :=
  ∀ (pins : List (Addr × Obj)) (s : Shared) (σ : St) (H : Hp) (x : V) (v vl vu : Value) (lo hi : Option Int) (sl : Addr) (Q : VK), Inv X pins σ H s → RelV x v → s.heap.IsSliceOf sl vl vu .none → IsPart vl lo → IsPart vu hi → r x lo hi H Q →
    ∃ T id, typeLookup (.type T) "__getitem__" = pure (some (.builtin id)) ∧ s.TypeIs v T ∧ wpAny (model X.prog X.w) X.A (getItem v (.ref sl)) (EP X pins σ Q) X.xe s
theorem SlR.or {r r' : V → Option Int → Option Int → Hp → VK → Prop} (h : SlR X r) (h' : SlR X r') : SlR X (fun x lo hi H Q => r x lo hi H Q ∨ r' x lo hi H Q) := by
  intro pins s σ H x v vl vu lo hi sl Q I rx hs pl pu q
  rcases q with q | q
  · exact h pins s σ H x v vl vu lo hi sl Q I rx hs pl pu q
  · exact h' pins s σ H x v vl vu lo hi sl Q I rx hs pl pu q
def tSl (r : V → Option Int → Option Int → Hp → VK → Prop) (te : TE) (tl th : TO) : TE := fun σ H Q => te σ H fun x H1 => tl σ H1 fun l H2 => th σ H2 fun u H3 => r x l u H3 Q
/-- a[lo:hi], any a -/
theorem pe_slice {r : V → Option Int → Option Int → Hp → VK → Prop} (hr : SlR X r) (he : PE X e te) (hl : PO X lo tl) (hu : PO X hi th) : PE X (.Subscript e (.Slice lo hi none p2) pos) (tSl r te tl th) := by
  intro pins s σ H Q I h
  refine Subscript_ (thn (he pins s σ H _ I h) fun v s1 ⟨x, H1, I1, r1, q1⟩ => ?_)
  refine wpAny_Slice (thn (hl pins s1 σ H1 _ I1 q1) fun vl s2 ⟨l, H2, I2, pl, q2⟩ => thn (hu pins s2 σ H2 _ I2 q2) fun vu s3 ⟨u, H3, I3, pu, q3⟩ => ?_)
  rw [evalPart_none]
  refine wpAny_pure ?_
  have I4 : Inv X pins σ H3 { s3 with heap := s3.heap.push { cls := .type "slice", data := .fields #[vl, vu, .none] } } := I3.kept (t' := s3.toks) fun b ob q => Heap.get?_push_of_some _ q
  obtain ⟨T, id, hT, ht, hg⟩ := hr pins { s3 with heap := s3.heap.push { cls := .type "slice", data := .fields #[vl, vu, .none] } } σ H3 x v vl vu l u s3.heap.objs.size Q I4 r1 (Heap.IsSliceOf.new ..) pl pu q3
  show wpAny (model X.prog X.w) X.A (subscriptTail e (.Slice lo hi none p2) v (.ref s3.heap.objs.size)) (EP X pins σ Q) X.xe { s3 with heap := s3.heap.push { cls := .type "slice", data := .fields #[vl, vu, .none] } }
  exact tail_any (ops := [.ref s3.heap.objs.size, v]) ht hT hg (by with_unfolding_all rfl)

/-- the items of xs[lo:hi] -/
def cutV (xs : List V) (lo hi : Option Int) : List V := (xs.drop (HT.sIx xs.length 0 lo)).take (HT.sIx xs.length xs.length hi - HT.sIx xs.length 0 lo)
theorem cutV_length (xs : List V) (lo hi : Option Int) : (cutV xs lo hi).length ≤ xs.length := by
  unfold cutV
  rw [List.length_take, List.length_drop]
  omega
/-- t[lo:hi], not the whole of it (the whole would be t itself) -/
def rSlT (K : PySem.W.Frag) : V → Option Int → Option Int → Hp → VK → Prop := fun x lo hi H Q => ∃ a xs, x = .ref a ∧ SqT K H a xs ∧
  ¬ (HT.sIx xs.length 0 lo = 0 ∧ HT.sIx xs.length xs.length hi = xs.length) ∧ ∀ p, H p = none → Q (.ref p) (upd H p (.tup (cutV xs lo hi)))
theorem sl_tup : SlR X (rSlT X.K) := by
  intro pins s σ H x v vl vu lo hi sl Q I rx hs pl pu h
  obtain ⟨a, xs, rfl, hx, hw, q⟩ := h
  cases rx
  obtain ⟨its, r, ht, hz⟩ := I.tuple hx
  have hlen : its.toArray.size = xs.length := by rw [List.size_toArray]; exact r.length.symm
  refine ⟨"tuple", _, PyProof.Rows.slot_tuple_getitem.lookup, ht.typeIs, ?_⟩
  refine HT.getItem_tuple_cut ht hs pl pu (by rw [hlen]; exact hw) ?_ (by rw [hlen]; exact hz)
  rw [hlen]
  refine ⟨.ref s.heap.objs.size, _, I.laid (t' := s.toks) (o := .tup (cutV xs lo hi)) (fun b ob q => Heap.get?_push_of_some _ q) (Nat.le_refl _) ?_, rfl, q _ (I.hok.fresh (Nat.le_refl _))⟩
  exact ⟨Nat.le_trans (cutV_length xs lo hi) hz, _, (r.drop (HT.sIx xs.length 0 lo)).take (HT.sIx xs.length xs.length hi - HT.sIx xs.length 0 lo), IsTup.new _ _⟩

/-! ### t < u, t + u -/
/-- t + u, t not empty: u empty gives t itself -/
def rCatT (K : PySem.W.Frag) : R2 := fun x y H Q => ∃ a b xs ys, x = .ref a ∧ y = .ref b ∧ SqT K H a xs ∧ SqT K H b ys ∧ xs ≠ [] ∧ xs.length + ys.length ≤ sizeLine ∧
  (ys = [] → Q (.ref a) H) ∧ (ys ≠ [] → ∀ p, H p = none → Q (.ref p) (upd H p (.tup (xs ++ ys))))
theorem Vals.nil_iff {xs : List V} {us : List Value} (r : Vals xs us) : us = [] ↔ xs = [] := by
  cases r with
  | nil => simp
  | cons _ _ => simp
theorem op_catT : OpR X (binaryOp .Add) (rCatT X.K) := by
  intro pins s σ H x y v u Q I rx ry h
  obtain ⟨a, b, xs, ys, rfl, rfl, ha, hb, hx, hz, q1, q2⟩ := h
  cases rx
  cases ry
  obtain ⟨its, r1, p1, _⟩ := I.tuple ha
  obtain ⟨its2, r2, p2, _⟩ := I.tuple hb
  refine HT.cat_tup p1 p2 (fun z => hx (r1.nil_iff.mp z)) (fun z => ⟨.ref a, H, I, rfl, q1 (r2.nil_iff.mp z)⟩) (fun z => ?_) (by rw [← r1.length, ← r2.length]; exact hz)
  refine ⟨.ref s.heap.objs.size, _, I.laid (t' := s.toks) (o := .tup (xs ++ ys)) (fun b ob q => Heap.get?_push_of_some _ q) (Nat.le_refl _) ?_, rfl, q2 (fun w => z (r2.nil_iff.mpr w)) _ (I.hok.fresh (Nat.le_refl _))⟩
  exact ⟨by rw [List.length_append]; exact hz, _, r1.append r2, IsTup.new _ _⟩
end
end L2

namespace L2
open PySem PySem.Spec PyProof.Rows

/-! ### places -/
/-- the place that an index of any sign means -/
def ixN (n : Nat) (i : Int) : Option Nat := if 0 ≤ i then (if i < n then some i.toNat else none) else if -(n : Int) ≤ i then some (i + n).toNat else none
def atI {α : Type} (xs : List α) (i : Int) : Option α := (ixN xs.length i).bind fun j => xs[j]?
theorem ixN_seq {n : Nat} {i : Int} {j : Nat} (h : ixN n i = some j) : seqIndex? i n = some j ∧ j < n ∧ -(n : Int) ≤ i ∧ i < n := by
  unfold ixN at h
  by_cases h0 : 0 ≤ i
  · rw [if_pos h0] at h
    by_cases h1 : i < n
    · rw [if_pos h1] at h
      have e : i.toNat = j := Option.some.inj h
      exact ⟨by rw [seqIndex_of h0 h1, e], by omega, by omega, h1⟩
    · rw [if_neg h1] at h; cases h
  · rw [if_neg h0] at h
    by_cases h1 : -(n : Int) ≤ i
    · rw [if_pos h1] at h
      have e : (i + n).toNat = j := Option.some.inj h
      exact ⟨by rw [seqIndex_neg (by omega) h1, e], by omega, h1, by omega⟩
    · rw [if_neg h1] at h; cases h
theorem atI_get {α : Type} {xs : List α} {i : Int} {v : α} (h : atI xs i = some v) : ∃ j, seqIndex? i xs.length = some j ∧ xs[j]? = some v ∧ j < xs.length ∧ -(xs.length : Int) ≤ i ∧ i < xs.length := by
  unfold atI at h
  cases e : ixN xs.length i with
  | none => rw [e] at h; cases h
  | some j =>
    rw [e] at h
    obtain ⟨h1, h2, h3, h4⟩ := ixN_seq e
    exact ⟨j, h1, h, h2, h3, h4⟩
theorem atI_nat {α : Type} {xs : List α} {j : Nat} {v : α} (h : xs[j]? = some v) : atI xs (j : Int) = some v := by
  have hj : j < xs.length := (List.getElem?_eq_some_iff.mp h).1
  have e : ixN xs.length (j : Int) = some j := by
    unfold ixN
    rw [if_pos (by omega), if_pos (by omega)]; simp
  unfold atI; rw [e]; exact h
/-! ### what may be subscripted -/
/-- what stands as an index of a plain subscript -/
def PlainIx (b : Expr) : Prop := ∀ o i, subscripted b false o i = operate [o, i] (getItem o i)
/-- a subscript by values -/
def IxR (X : Cx) (r : R2) : Prop :=
  ∀ (value slice : Expr) (pins : List (Addr × Obj)) (s : Shared) (σ : St) (H : Hp) (x y : V) (v u : Value) (Q : VK), Inv X pins σ H s → RelV x v → RelV y u → r x y H Q →
    subscripted slice false v u = operate [v, u] (getItem v u) → wpAny (model X.prog X.w) X.A (subscriptTail value slice v u) (EP X pins σ Q) X.xe s
/-- a call of a builtin's method by values: the receiver, the arguments -/
def MtR (X : Cx) (id : String) (r : V → List V → Hp → VK → Prop) : Prop :=
  ∀ (pins : List (Addr × Obj)) (s : Shared) (σ : St) (H : Hp) (x : V) (xs : List V) (v : Value) (us : List Value) (Q : VK), Inv X pins σ H s → RelV x v → Vals xs us → r x xs H Q →
    wpAny (model X.prog X.w) X.A (call (.builtin id) (v :: us)) (EP X pins σ Q) X.xe s
section
variable {X : Cx} {a b : Expr} {ta tb : TE} {pos : Pos}
theorem IxR.or {r r' : R2} (h : IxR X r) (h' : IxR X r') : IxR X (fun x y H Q => r x y H Q ∨ r' x y H Q) := by
  intro value slice pins s σ H x y v u Q I rx ry q hs
  rcases q with q | q
  · exact h value slice pins s σ H x y v u Q I rx ry q hs
  · exact h' value slice pins s σ H x y v u Q I rx ry q hs
theorem MtR.or {id : String} {r r' : V → List V → Hp → VK → Prop} (h : MtR X id r) (h' : MtR X id r') : MtR X id (fun x xs H Q => r x xs H Q ∨ r' x xs H Q) := by
  intro pins s σ H x xs v us Q I rx rs q
  rcases q with q | q
  · exact h pins s σ H x xs v us Q I rx rs q
  · exact h' pins s σ H x xs v us Q I rx rs q
/-- a[b] -/
theorem pe_ix {r : R2} (hr : IxR X r) (ha : PE X a ta) (hb : PE X b tb) (hs : PlainIx b) : PE X (.Subscript a b pos) (tOp r ta tb) := by
  intro pins s σ H Q I h
  exact Subscript_ (binT ha hb I h fun v u s2 x y H2 I2 rx ry q => hr a b pins s2 σ H2 x y v u Q I2 rx ry q (hs _ _))

def rIxL (K : PySem.W.Frag) : R2 := fun x y H Q => ∃ p xs i v, x = .ref p ∧ y = .int i ∧ SqL K H p xs ∧ atI xs i = some v ∧ Q v H
def rIxT (K : PySem.W.Frag) : R2 := fun x y H Q => ∃ p xs i v, x = .ref p ∧ y = .int i ∧ SqT K H p xs ∧ atI xs i = some v ∧ Q v H
def rIxS : R2 := fun x y H Q => ∃ z i c, x = .str z ∧ y = .int i ∧ z.length ≤ sizeLine ∧ atI z.cps.toList i = some c ∧ Q (.str ⟨#[c]⟩) H
theorem ix_list : IxR X (rIxL X.K) := by
  intro value slice pins s σ H x y v u Q I rx ry h hs
  obtain ⟨p, xs, i, z, rfl, rfl, hq, he, q⟩ := h
  cases rx
  obtain ⟨t, rfl⟩ := ry
  obtain ⟨its, r, pl, hz⟩ := I.list hq
  obtain ⟨j, h1, h2, h3, h4, h5⟩ := atI_get he
  obtain ⟨w, ew, rw'⟩ := r.get h2
  have hl := r.length
  have hn := line63
  have fin : EP X pins σ Q w s := ⟨z, H, I, rw', q⟩
  by_cases h0 : 0 ≤ i
  · have hj : i.toNat = j := by
      rw [seqIndex_of h0 h5] at h1
      exact Option.some.inj h1
    exact item_listR pl.isList h0 (by omega) (by rw [hj]; simpa using ew) fin hs
  · have hj : (i + (its.toArray.size : Int)).toNat = j := by
      rw [seqIndex_neg (by omega) h4] at h1
      rw [List.size_toArray, ← hl]
      exact Option.some.inj h1
    exact subscriptTail_builtinR (x := w) pl.isList.typeIs slot_list_getitem.lookup
      (wpAny_getItem_list_neg (Q := fun r s' => r = w ∧ EP X pins σ Q r s') pl.isList (by omega) (by rw [List.size_toArray] <;> omega) (by omega) (by rw [hj]; simpa using ew) ⟨rfl, fin⟩) hs
theorem ix_tup : IxR X (rIxT X.K) := by
  intro value slice pins s σ H x y v u Q I rx ry h hs
  obtain ⟨p, xs, i, z, rfl, rfl, hq, he, q⟩ := h
  cases rx
  obtain ⟨t, rfl⟩ := ry
  obtain ⟨its, r, pl, hz⟩ := I.tuple hq
  obtain ⟨j, h1, h2, h3, h4, h5⟩ := atI_get he
  obtain ⟨w, ew, rw'⟩ := r.get h2
  have hl := r.length
  have hn := line63
  have fin : EP X pins σ Q w s := ⟨z, H, I, rw', q⟩
  exact subscriptTail_builtinR (x := w) pl.typeIs slot_tuple_getitem.lookup
    (getItem_tuple (j := j) (Q := fun r s' => r = w ∧ EP X pins σ Q r s') pl (by omega) (by omega) (by rw [List.size_toArray, ← hl]; exact h1) (by simpa using ew) ⟨rfl, fin⟩) hs
theorem ix_str : IxR X rIxS := by
  intro value slice pins s σ H x y v u Q I rx ry h hs
  obtain ⟨z, i, c, rfl, rfl, hz, he, q⟩ := h
  obtain ⟨t, rfl⟩ := rx
  obtain ⟨t', rfl⟩ := ry
  obtain ⟨j, h1, h2, h3, h4, h5⟩ := atI_get he
  have hl : z.cps.toList.length = z.length := by simp [Str.length]
  rw [hl] at h1 h4 h5
  have hn := line63
  exact tail_any (typeIs_str s z t) slot_str_getitem.lookup (getItem_str (c := c) (by
    have e1 : decide (i < -(2 ^ 63 : Int)) = false := decide_eq_false (by omega)
    have e2 : decide (i ≥ 2 ^ 63) = false := decide_eq_false (by omega)
    rw [e1, e2, Bool.or_false]) (by rw [h1]; simpa using h2) ⟨.str ⟨#[c]⟩, H, I.tok _, ⟨_, rfl⟩, q⟩) hs
/-! ### xs[i] = v, any sign -/
theorem Inv.lst {pins : List (Addr × Obj)} {σ : St} {H : Hp} {s : Shared} {p : Addr} {xs : List V} (I : Inv X pins σ H s) (h : H p = some (.lst xs)) :
    ∃ (its : List Value) (n : Nat), Vals xs its ∧ s.heap.get? p = some { cls := .type "list", data := .seq its.toArray n } ∧ xs.length ≤ sizeLine := by
  obtain ⟨z, its, n, r, e⟩ := I.hok p _ h
  exact ⟨its, n, r, e, z⟩
/-! ### slices -/
/-! ### in, not in: flat items -/
def flatV : V → Bool
  | .non => true
  | .bl _ => true
  | .int _ => true
  | .str _ => true
  | _ => false
/-- == of flat values -/
def eqV : V → V → Bool
  | .non, .non => true
  | .bl a, .bl b => a == b
  | .bl a, .int b => (if a then 1 else 0) == b
  | .int a, .bl b => a == (if b then 1 else 0)
  | .int a, .int b => a == b
  | .str a, .str b => a == b
  | _, _ => false
theorem eqAt_V {A : Around} {s : Shared} {y x : V} {u v : Value} (ry : RelV y u) (rx : RelV x v) (fy : flatV y = true) (fx : flatV x = true) : SeqAt.EqAt A s u v (eqV y x) := by
  cases y with
  | non =>
    cases ry
    cases x with
    | non => cases rx; exact SeqAt.EqAt.same _
    | bl b => cases rx; exact SeqAt.EqAt.none_bool b
    | int b => obtain ⟨t, rfl⟩ := rx; exact SeqAt.EqAt.none_int b t
    | str b => obtain ⟨t, rfl⟩ := rx; exact SeqAt.EqAt.none_str b t
    | _ => exact absurd (show false = true from fx) Bool.false_ne_true
  | bl a =>
    cases ry
    cases x with
    | non => cases rx; exact SeqAt.EqAt.bool_none a
    | bl b => cases rx; exact SeqAt.EqAt.bool_bool a b
    | int b => obtain ⟨t, rfl⟩ := rx; exact SeqAt.EqAt.bool_int a b t
    | str b => obtain ⟨t, rfl⟩ := rx; exact SeqAt.EqAt.bool_str a b t
    | _ => exact absurd (show false = true from fx) Bool.false_ne_true
  | int a =>
    obtain ⟨t', rfl⟩ := ry
    cases x with
    | non => cases rx; exact SeqAt.EqAt.int_none a t'
    | bl b => cases rx; exact SeqAt.EqAt.int_bool a t' b
    | int b => obtain ⟨t, rfl⟩ := rx; exact SeqAt.EqAt.int_int a t' b t
    | str b => obtain ⟨t, rfl⟩ := rx; exact SeqAt.EqAt.int_str a t' b t
    | _ => exact absurd (show false = true from fx) Bool.false_ne_true
  | str a =>
    obtain ⟨t', rfl⟩ := ry
    cases x with
    | non => cases rx; exact SeqAt.EqAt.str_none a t'
    | bl b => cases rx; exact SeqAt.EqAt.str_bool a t' b
    | int b => obtain ⟨t, rfl⟩ := rx; exact SeqAt.EqAt.str_int a t' b t
    | str b => obtain ⟨t, rfl⟩ := rx; exact SeqAt.EqAt.str_str a t' b t
    | _ => exact absurd (show false = true from fx) Bool.false_ne_true
  | _ => exact absurd (show false = true from fy) Bool.false_ne_true
/-! ### len, list(x), tuple(x) of any list or tuple that is read -/
theorem call_len_seq : CallR X (.builtin "len") (fun xs H Q => ∃ p ys, xs = [.ref p] ∧ (SqL X.K H p ys ∨ SqT X.K H p ys) ∧ Q (.int ys.length) H) := by
  intro pins s σ H xs us Q I r h
  obtain ⟨p, ys, rfl, hq, q⟩ := h
  obtain ⟨u, rfl, rx⟩ := vals1 r
  cases rx
  have hn := line63
  rcases hq with hq | hq
  · obtain ⟨its, r', pl, hz⟩ := I.list hq
    have hlen := r'.length
    exact Calls.call_len_list pl.isList (by simp only [List.size_toArray] <;> omega) ⟨.int ys.length, H, I.tok _, ⟨s.toks + 1, by rw [List.size_toArray, hlen]⟩, q⟩
  · obtain ⟨its, r', pl, hz⟩ := I.tuple hq
    have hlen := r'.length
    exact len_tuple pl (by simp only [List.size_toArray] <;> omega) ⟨.int ys.length, H, I.tok _, ⟨s.toks + 1, by rw [List.size_toArray, hlen]⟩, q⟩
theorem CallR.or {f : Value} {r r' : List V → Hp → VK → Prop} (h : CallR X f r) (h' : CallR X f r') : CallR X f (fun xs H Q => r xs H Q ∨ r' xs H Q) := by
  intro pins s σ H xs us Q I rs q
  rcases q with q | q
  · exact h pins s σ H xs us Q I rs q
  · exact h' pins s σ H xs us Q I rs q
theorem call_tuple_of : CallR X (.type "tuple") (fun xs H Q => ∃ p ys, xs = [.ref p] ∧ ((SqL X.K H p ys ∧ ∀ l, H l = none → Q (.ref l) (upd H l (.tup ys))) ∨ (SqT X.K H p ys ∧ Q (.ref p) H))) := by
  intro pins s σ H xs us Q I r h
  obtain ⟨p, ys, rfl, h⟩ := h
  obtain ⟨u, rfl, rx⟩ := vals1 r
  cases rx
  rcases h with ⟨hq, q⟩ | ⟨hq, q⟩
  · obtain ⟨its, r', pl, hz⟩ := I.list hq
    have hlen := r'.length
    refine call_tuple_list pl.isList (fun h' kp => ?_) (by simp only [List.size_toArray] <;> omega)
    have I1 : Inv X pins σ H { s with heap := h' } := I.kept (t' := s.toks) kp
    have I2 : Inv X pins σ (upd H h'.objs.size (.tup ys)) { s with heap := h'.push { cls := .type "tuple", data := .seq its.toArray } } :=
      I1.laid (t' := s.toks) (fun b o e => Heap.get?_push_of_some _ e) (Nat.le_refl _) (show ObjOk X.prog X.w _ _ _ (.tup ys) from ⟨hz, its, r', IsTup.new _ _⟩)
    exact ⟨.ref h'.objs.size, _, I2, rfl, q _ (I1.hok.fresh (Nat.le_refl _))⟩
  · obtain ⟨its, r', pl, hz⟩ := I.tuple hq
    exact call_tuple_same pl ⟨.ref p, H, I, rfl, q⟩

/-! ### the call of a builtin's method: o.m(..) -/
variable {o e : Expr} {es : List Expr} {to : TE} {t : TA} {name : Str} {apos cpos : Pos} {T id : String} {r : V → List V → Hp → VK → Prop}
/- xs.append(e), list.index on a module's tuple .. are MtR facts of 06m -/
end
end L2

namespace L2
open PySem PySem.Spec PyProof.Rows

def MtM (X : Cx) (id : String) (r : V → List V → Hp → VK → Prop) : Prop :=
  ∀ (pins : List (Addr × Obj)) (s : Shared) (σ : St) (H : Hp) (x : V) (xs : List V) (v : Value) (us : List Value) (Q : VK), Inv X pins σ H s → RelV x v → Vals xs us → r x xs H Q →
    wpAny (model X.prog X.w) X.A (call (.builtin id) (v :: us)) (EP X pins σ Q) X.xe s

/-! ### lists of values -/
theorem Vals.one : ∀ {x : V} {us : List Value}, Vals [x] us → ∃ u, us = [u] ∧ RelV x u
  | _, _, .cons r .nil => ⟨_, rfl, r⟩
theorem Vals.two : ∀ {x y : V} {us : List Value}, Vals [x, y] us → ∃ u v, us = [u, v] ∧ RelV x u ∧ RelV y v
  | _, _, _, .cons r (.cons q .nil) => ⟨_, _, rfl, r, q⟩
theorem Vals.zero : ∀ {us : List Value}, Vals [] us → us = []
  | _, .nil => rfl
theorem Vals.reverse {xs : List V} {us : List Value} (h : Vals xs us) : Vals xs.reverse us.reverse := by
  induction h with
  | nil => exact .nil
  | cons r t ih => rw [List.reverse_cons, List.reverse_cons]; exact Vals.append ih (.cons r .nil)
section
variable {X : Cx} {pins : List (Addr × Obj)} {σ : St} {H : Hp} {s : Shared} {l b : Addr} {xs ys zs : List V}

/-! ### the two steps: a tracked list is rewritten, a new list is laid -/
theorem Inv.lset {its its' : List Value} {n : Nat} {f : Array Value → Array Value} {t' : Nat} (I : Inv X pins σ H s) (hH : H l = some (.lst xs))
    (e : s.heap.get? l = some { cls := .type "list", data := .seq its.toArray n }) (hf : f its.toArray = its'.toArray) (hv : Vals ys its') (hz : ys.length ≤ sizeLine) :
    Inv X pins σ (upd H l (.lst ys)) { s with heap := s.heap.update l (Obj.mapSeq f), toks := t' } := by
  have q := PySem.IsL.update e f
  rw [hf] at q
  refine I.write (x := l) (e := l) (by rw [hH]; exact trivial) (.inl rfl) (fun b' u hb hu => (Heap.get?_update_other s.heap (Obj.mapSeq f) (Ne.symm hb)).trans hu) ⟨_, q⟩ ?_
  exact ⟨hz, its', _, hv, q⟩
theorem Inv.lnew {its : List Value} {t' : Nat} (I : Inv X pins σ H s) (hv : Vals ys its) (hz : ys.length ≤ sizeLine) :
    Inv X pins σ (upd H s.heap.objs.size (.lst ys)) { s with heap := s.heap.push { cls := .type "list", data := .seq its.toArray }, toks := t' } :=
  I.laid (fun _ _ q => Heap.get?_push_of_some _ q) (Nat.le_refl _) ⟨hz, its, 0, hv, Heap.get?_push_size _ rfl⟩
theorem Inv.fresh (I : Inv X pins σ H s) : H s.heap.objs.size = none := I.hok.fresh (Nat.le_refl _)
theorem Inv.lstM (I : Inv X pins σ H s) (hH : H l = some (.lst xs)) : xs.length ≤ sizeLine ∧ ∃ (its : List Value) (n : Nat), Vals xs its ∧ xs.length = its.length ∧ s.heap.get? l = some { cls := .type "list", data := .seq its.toArray n } := by
  obtain ⟨z, its, n, r, e⟩ := I.hok l _ hH
  exact ⟨z, its, n, r, r.length, e⟩

end

section
variable {X : Cx}

/-! ### methods -/
def rAppend : V → List V → Hp → VK → Prop := fun x vs H Q => ∃ l xs y, x = .ref l ∧ vs = [y] ∧ H l = some (.lst xs) ∧ xs.length < sizeLine ∧ Q .non (upd H l (.lst (xs ++ [y])))
theorem mt_append : MtM X "list.append" rAppend := by
  intro pins s σ H x vs v us Q I rx rv h
  obtain ⟨l, xs, y, rfl, rfl, hH, hz, q⟩ := h
  cases rx
  obtain ⟨u, rfl, ru⟩ := rv.one
  obtain ⟨z, its, n, r, hl, e⟩ := I.lstM hH
  refine call_meets F.slot_list_append ⟨_, e, rfl⟩ F.entry_list_append (F.args_list_append_2 _ _) (PySem.list_append l its.toArray n u (by rw [List.size_toArray]; omega)) ⟨e, ?_⟩
  refine ⟨.non, _, I.lset (its' := its ++ [u]) hH e (by simp) (r.append (.cons ru .nil)) ?_, rfl, q⟩
  rw [List.length_append, List.length_singleton]
  omega

/-! ### list + list, list += list, list * int -/
def rCat : R2 := fun x y H Q => ∃ l b xs zs, x = .ref l ∧ y = .ref b ∧ H l = some (.lst xs) ∧ H b = some (.lst zs) ∧ xs.length + zs.length ≤ sizeLine ∧ ∀ p, H p = none → Q (.ref p) (upd H p (.lst (xs ++ zs)))
theorem op_cat : OpR X (binaryOp .Add) rCat := by
  intro pins s σ H x y v u Q I rx ry h
  obtain ⟨l, b, xs, zs, rfl, rfl, hH, hB, hz, q⟩ := h
  cases rx
  cases ry
  obtain ⟨z, its, n, r, hl, e⟩ := I.lstM hH
  obtain ⟨z2, its2, n2, r2, hl2, e2⟩ := I.lstM hB
  refine PySem.P.add_list e e2 ?_ (by rw [List.size_toArray, List.size_toArray]; omega)
  have ea : its.toArray ++ its2.toArray = (its ++ its2).toArray := by simp
  rw [ea]
  exact ⟨.ref _, _, I.lnew (t' := s.toks) (r.append r2) (by rw [List.length_append]; omega), rfl, q _ I.fresh⟩
/-! ### del xs[i] -/
end

/-! ### xs[a:b] = ys -/
section
variable {prog : Program} {w : World} {A : Around} {E : Value → Shared → Prop} {s : Shared}
set_option maxRecDepth 100000 in
end

section
variable {X : Cx}
end
end L2

namespace Att
open PySem PySem.W PySem.Calls PyProof.Rows

/-! ### the script -/
theorem ints_of_wellAll {P : Params} {h : Heap} : ∀ (ns : List Int) (vs : List Value), WellAll P h vs (ns.map WData.int) → IntsAre vs ns := by
  intro ns
  induction ns with
  | nil =>
    intro vs w
    rw [List.map_nil] at w
    cases w
    exact .nil
  | cons n ns ih =>
    intro vs w
    rw [List.map_cons] at w
    cases w with
    | cons a b =>
      cases a
      exact .cons _ _ (ih _ b)

theorem script_of {l : OpenLaw} {n : Nat} (hn : l.most = some n) {P : Params} {h : Heap} {args : List WData} {vals : List Value}
    (hpre : l.row.toRowW.claim.pre args = true) (hwl : WellAll P h vals args) :
    ∃ a vs ns, vals = [Value.ref a] ∧ args = [WData.list (ns.map WData.int)] ∧ h.get? a = some { cls := .type "list", data := .seq vs.toArray } ∧ IntsAre vs ns ∧ ns.length ≤ n := by
  have hsh : WShape.hasAll [] args [.list .int] = true := (pre_splitW hpre).1
  have hc : l.pre.holds [] { args := args } = true := (pre_splitW hpre).2
  obtain ⟨d, r, rfl, h1, h2⟩ := hasAllW_cons hsh
  obtain rfl := hasAllW_nil h2
  obtain ⟨xs, rfl, h3⟩ := hasW_list h1
  obtain ⟨ns, rfl⟩ := items_int h3
  have hlen : ns.length ≤ n := by
    unfold OpenLaw.pre at hc
    have h4 : (WTm.not (.lt (.lit (.int (n : Int))) (.len (.arg 0)))).holds [] { args := [.list (ns.map .int)] } = true := by
      have h4 := (holds_andW hc).1
      rw [hn] at h4
      exact h4
    have h5 := condW_of h4 (w_not (w_lt w_lit (w_len_list (w_arg rfl))))
    rw [List.length_map] at h5
    refine Nat.le_of_not_lt fun q => ?_
    have q' : (n : Int) < ((ns.length : Nat) : Int) := by omega
    first
      | (rw [decide_eq_true q'] at h5; exact absurd h5 (by decide))
      | (simp at h5; omega)
  cases hwl with
  | cons w1 w2 =>
    cases w2
    cases w1 with
    | list ho hall => exact ⟨_, _, ns, rfl, rfl, ho, ints_of_wellAll ns _ hall, hlen⟩

theorem post_true (l : OpenLaw) (args : List WData) : l.row.toRowW.claim.post args (.bool true) args = true :=
  postW_of (r := l.row.toRowW) (X := (true == true))
    (show WShape.has [] (.bool true) .bool = true by first | rfl | decide | simp [WShape.has, WShape.arms, WShape.armsAll])
    (show (WTm.eq .res (.lit (.bool true))).value [] { args := args, res := some (.bool true), after := args } = some (.bool (true == true)) from w_eq_bool (w_res rfl) w_lit) rfl

/-! ### the attachment: holds_open's last premise (the goal 'hc' behind k_head) from a wpAny of the law's body -/
/-- the same from a codeAny of the CALL (for a layer whose function contracts speak of calls) -/
theorem attach_call {l : OpenLaw} {n : Nat} {q : Program} {loose : List Str} {XP : (Str → Option Value) → Heap → Prop} {YP : World → Heap → Prop} {d : DefRec}
    (hn : l.most = some n) (hdf : d.params.defaults = [])
    (call : ∀ (w : World) (s₀ s₁ : Shared) (mg mb : Str → Option Value) (fa : Addr) (o : Obj) (pm cd doc : Value) (a : Addr) (vs : List Value) (ns : List Int),
      Ground q loose [] XP w s₀ mg mb s₁.heap → YP w s₁.heap →
      s₁.heap.get? fa = some o → o.data = .func (docDef d.name d.params d.body d.scope pm cd doc) → s₁.heap.CodeRec cd d.name → mg d.name = some (.ref fa) →
      s₁.heap.get? a = some { cls := .type "list", data := .seq vs.toArray } → IntsAre vs ns → ns.length ≤ n → s₁.gens = #[] →
      codeAny (model l.prog w) callerA (.call (.ref fa) ⟨[.ref a], []⟩) (fun r s' => r = .ok (.ret (.bool true)) ∧ OldK s₁.heap s'.heap ∧ s'.os = s₁.os ∧ AllBare s'.gens) s₁) :
    WalkO q loose XP YP l.row.toRowW d [] (fun f vs => PySem.call f vs) := by
  intro w s₀ s₁ mg mb G Y fa o pm cd doc dV kV ho hd hcd hD hmg hg args vals as hpre hlay hrd hwl hlo
  obtain rfl : dV = .none := Dflts.none hD hdf
  obtain rfl : kV = .none := Dflts.noKw hD
  obtain ⟨a, vs, ns, rfl, rfl, hobj, hints, hlen⟩ := script_of hn hpre hwl
  refine enter_call (codeAny_mono (call w s₀ s₁ mg mb fa o pm cd doc a vs ns G Y ho (fd_plain hd) hcd hmg hobj hints hlen hg) fun r s' hq => ?_)
  obtain ⟨rfl, h2, h3, h4⟩ := hq
  exact ⟨.inl ⟨.bool true, .bool true, [], rfl, fun _ => rfl, .bool true, post_true l _, fun _ => ⟨List.Pairwise.nil, fun _ hm => (nomatch hm)⟩⟩, h2, h3, h4⟩

/-! ### rules over ANY heap (no ledger) from facts about the written part K: the library's own take a ledger (News) for what they write -/
section
variable {prog : Program} {w : World} {A : Around} {E : Value → Shared → Prop} {s : Shared} {K : Frag}

/-! the whole heap as the ledger: makes every rule that writes through a ledger a rule over any heap -/
def ledger (h : Heap) (L d : Addr) : List (Addr × Obj) := (List.range h.objs.size).filterMap fun a => if a = L ∨ a = d then none else (h.get? a).map fun o => (a, o)
end
end Att

namespace L2
open PySem PySem.Spec PyProof.Rows

theorem vals_ints : ∀ {vs : List Value} {ns : List Int}, IntsAre vs ns → Vals (ns.map V.int) vs
  | _, _, .nil => .nil
  | _, _, .cons n t h => .cons ⟨t, rfl⟩ (vals_ints h)

/-- nothing is tracked but the script, known to the object (or it is an object of the module) -/
def Only (H : Hp) : Prop := ∀ b, H b = none ∨ ∃ o xs, H b = some (.frz o (.lst xs))

/-- THE HEAD: the law's promise, at the heap behind the top. F, the promise of the law's def, may use that base is part of the heap (so K.In base, base.Ns mainGlobals mg stand in Mod) -/
theorem law_call {P : Program} {w : World} {K : PySem.W.Frag} {mg mb : Str → Option Value} {CX : CXT} {k : Nat} {fa a : Addr} {fd : FuncData} {x : Str} {sp : Sp} {s₁ : Shared} {vs : List Value} {ns : List Int}
    (KX : K.In s₁.heap) (hns : s₁.heap.Ns mainGlobals mg) (hb : s₁.heap.Ns builtinsNs mb) (hbb : ∀ x : Str, x ≠ "__name__" → mb x = bootBuiltins x) (hlim : s₁.heap.NoLimit) (hg : s₁.gens = #[])
    (ha : s₁.heap.get? a = some { cls := .type "list", data := .seq vs.toArray }) (hi : IntsAre vs ns) (hl : ns.length ≤ sizeLine) (hr : Room k callerA)
    (F : ∀ base : Heap, K.In base → base.Ns mainGlobals mg → FnOk P w K mg base CX k fa fd [x] sp) (hbind : ∀ (s : Shared) (u : Value), BindsTo s fd ⟨[u], []⟩ [(x, u)])
    (hsp : ∀ H : Hp, Only H → SqL K H a (ns.map V.int) → sp [.ref a] H (fun v _ => v = .bl true) fun _ _ _ => False)
    (hCX : ∀ H e s', CX [] H s₁ (fun _ _ _ => False) e s' → False) :
    codeAny (model P w) callerA (.call (.ref fa) ⟨[.ref a], []⟩) (fun r s' => r = .ok (.ret (.bool true)) ∧ OldK s₁.heap s'.heap ∧ s'.os = s₁.os ∧ AllBare s'.gens) s₁ := by
  have rv := vals_ints hi
  have lenV := hi.length
  -- from an abstract heap in which nothing but the script may be tracked
  have core : ∀ H : Hp, Only H → SqL K H a (ns.map V.int) → HOk P w H s₁.heap → (∀ b, H b ≠ none → b = a) → (H a ≠ none → K.lookup a = none) →
      codeAny (model P w) callerA (.call (.ref fa) ⟨[.ref a], []⟩) (fun r s' => r = .ok (.ret (.bool true)) ∧ OldK s₁.heap s'.heap ∧ s'.os = s₁.os ∧ AllBare s'.gens) s₁ := by
    intro H hO hS hok hA hK
    have base_of : ∀ {b : Addr} {o : Obj}, s₁.heap.get? b = some o → H b = none → (hidT s₁.heap H).get? b = some o := fun e n => hidT_get e n
    have noA : ∀ {b : Addr} {o : Obj} {es : Array DictEntry} {ep : Nat}, s₁.heap.get? b = some o → o.data = .dict es ep → H b = none := fun {b o es ep} e d => by
      cases q : H b with
      | none => rfl
      | some u =>
        have e' : b = a := hA b (by rw [q]; simp)
        subst e'
        rw [ha] at e; cases e
        have d' : Data.seq vs.toArray _ = Data.dict es ep := d
        cases d'
    have nsK : ∀ {b : Addr} {m : Str → Option Value}, s₁.heap.Ns b m → (hidT s₁.heap H).Ns b m := fun {b m} ⟨o, es, ep, e, d, r⟩ => ⟨o, es, ep, base_of e (noA e d), d, r⟩
    have hKb : K.In (hidT s₁.heap H) := fun b o e => base_of (KX b o e) (by
      cases q : H b with
      | none => rfl
      | some u =>
        have e' : b = a := hA b (by rw [q]; simp)
        subst e'
        rw [hK (by rw [q]; simp)] at e; cases e)
    have hM : Mod K mg (hidT s₁.heap H) := ⟨hKb, nsK hns, ⟨mb, nsK hb, hbb⟩, let ⟨mc, h1, h2⟩ := hlim; ⟨mc, nsK h1, h2⟩⟩
    have e0 : Env0 P w K mg (hidT s₁.heap H) callerA [] s₁ H := ⟨rfl, hM, fun b o e => of_hidT e, Nat.le_of_eq (hidT_size _ _), trivial, fun b hb => absurd (show b ∈ ([] : List Addr) from hb) (by simp), hok, .of_eq hg⟩
    refine codeAny_mono ((F _ hKb (nsK hns)).run callerA [] s₁ H ⟨[.ref a], []⟩ [.ref a] [.ref a] _ _ hr e0 (hbind s₁ (.ref a)) (.cons rfl .nil) (hsp H hO hS)) fun r s' h => ?_
    cases r with
    | error e => exact (hCX H e s' h).elim
    | ok fl =>
      cases fl with
      | next => exact False.elim h
      | brk => exact False.elim h
      | cont => exact False.elim h
      | ret u =>
        obtain ⟨v, H', os, bare, un, hok', r', q⟩ := h
        have q' : v = .bl true := q
        subst q'
        obtain rfl : u = Value.bool true := r'
        refine ⟨rfl, OldK.of_keep fun b o e => ?_, os, bare⟩
        cases q : H b with
        | none => exact un.keep b o e q (by intro z; exact absurd (show b ∈ ([] : List Addr) from z) (by simp)) (by simp)
        | some u =>
          rcases hO b with z | ⟨ob, xs, z⟩
          · rw [q] at z; cases z
          · have z2 := un.frzs b ob _ z
            obtain ⟨e1, _⟩ := hok b _ z
            obtain ⟨e2, _⟩ := hok' b _ z2
            rw [e] at e1; cases e1
            exact e2
  cases hk : K.lookup a with
  | some o =>
    -- the script is one of the module's own objects
    have e := KX a o hk
    rw [ha] at e
    cases e
    refine core (fun _ => none) (fun _ => .inl rfl) (.inr ⟨_, vs.toArray, _, hk, rfl, rfl, rfl, by rw [List.size_toArray, lenV]; exact hl, by simpa using rv⟩) (fun b u z => by have z' : (none : Option HO) = some u := z; cases z') (fun b z => absurd rfl z) fun z => absurd rfl z
  | none =>
    refine core (fun b => if b = a then some (.frz { cls := .type "list", data := .seq vs.toArray } (.lst (ns.map V.int))) else none) (fun b => ?_) (.inl (.inr ⟨{ cls := .type "list", data := .seq vs.toArray }, if_pos rfl⟩)) (fun b u z => ?_) (fun b z => ?_) fun _ => hk
    · by_cases hb : b = a
      · exact .inr ⟨_, _, if_pos hb⟩
      · exact .inl (if_neg hb)
    · by_cases hb : b = a
      · have z' := (if_pos hb).symm.trans z
        cases z'
        subst hb
        exact ⟨ha, by rw [List.length_map]; exact hl, vs, _, rv, ha⟩
      · have z' := (if_neg hb).symm.trans z
        cases z'
    · by_cases hb : b = a
      · exact hb
      · exact absurd (if_neg hb) z
end L2

namespace L2
open PySem PySem.Spec PyProof.Rows

abbrev KOf {K : PySem.W.Frag} {h : Heap} (_ : K.In h) : PySem.W.Frag := K

/-- the goal that k_head leaves (case hc), from the law's promise. F gives the function object fd (K's own) once, then the promise over every base -/
theorem walk_of {l : PySem.W.OpenLaw} {n k : Nat} {q : Program} {loose : List Str} {XP : (Str → Option Value) → Heap → Prop} {YP : World → Heap → Prop} {d : DefRec} {K : Params → PySem.W.Frag} {CX : World → CXT} {sp : World → Sp} {x : Str}
    (hn : l.most = some n) (hn2 : n ≤ sizeLine) (hdf : d.params.defaults = []) (hr : Room k callerA)
    (hY : ∀ (w : World) (h : Heap), YP w h → (K w.params).In h)
    (F : ∀ (w : World) (mg : Str → Option Value) (fa : Addr) (h : Heap), (K w.params).In h → h.Ns mainGlobals mg → mg d.name = some (.ref fa) →
      ∃ fd : FuncData, (∀ (s : Shared) (u : Value), BindsTo s fd ⟨[u], []⟩ [(x, u)]) ∧
        ∀ base : Heap, (K w.params).In base → base.Ns mainGlobals mg → FnOk l.prog w (K w.params) mg base (CX w) k fa fd [x] (sp w))
    (hsp : ∀ (w : World) (H : Hp) (a : Addr) (ns : List Int), ns.length ≤ n → Only H → SqL (K w.params) H a (ns.map V.int) → sp w [.ref a] H (fun v _ => v = .bl true) fun _ _ _ => False)
    (hCX : ∀ (w : World) (H : Hp) (s : Shared) (e : Value) (s' : Shared), CX w [] H s (fun _ _ _ => False) e s' → False) :
    PySem.W.WalkO q loose XP YP l.row.toRowW d [] (fun f vs => PySem.call f vs) := by
  refine Att.attach_call hn hdf fun w s₀ s₁ mg mb fa o pm cd doc a vs ns G Y ho hd hcd hmg hobj hints hlen hg => ?_
  have KX := hY w _ Y
  obtain ⟨fd, hb, hF⟩ := F w mg fa _ KX G.T.g hmg
  exact law_call KX G.T.g G.T.b G.T.builtins G.T.nolimit hg hobj hints (Nat.le_trans hlen hn2) hr hF hb (fun H hO hS => hsp w H a ns hlen hO hS) fun H e s' => hCX w H s₁ e s'
end L2

/- THE LAST THEOREM (shape; LID, My.* are yours):
   My.Adr: a structure of the addresses that your layer names (classes, functions); My.Txt K t: a structure (Prop) of the equations over K;
   My.txt_mk : {K} {implicit addresses ..} (e1 : nsIn K mainGlobals "law" = some (some (.ref f))) (e2 : K.lookup f = some ⟨oc, od, .func (fnOf "law" "law" params body scope dV kV doc pm an cdv ct), sl⟩) (e3 : codeIn K cdv "law" = true) .. : ∃ t, My.Txt K t

set_option maxRecDepth 100000 in
set_option maxHeartbeats 0 in
theorem PySem.Challenge.cw_LID_holds : PySem.Challenge.rw_LID.Holds := by
  w_on; o_law; k_head; (case hw => w_witness2)
  k_fill
  refine L2.walk_of (l := PySem.Challenge.rw_LID) (n := 63) (k := 40) (x := "script") (CX := fun w => ..) (sp := fun _ => My.sp_law) rfl (by decide) rfl ⟨rfl, by decide, by decide⟩ (fun w h Y => PySem.W.kIn_of Y) ?F ?S ?C
  case F =>
    intro w mg fa h KX G hmg
    have T : ∃ t, My.Txt (L2.KOf KX) t := by
      dsimp only [L2.KOf]                          -- K must stand as «<heap const> w.params» for k_is
      refine' My.txt_mk ?e1 ?e2 ?e3 ..
      (case e1 => PySem.W.k_is)                    -- in the order: a name -> its address -> its object -> its parts
      (case e2 => PySem.W.k_is)
      ..
    obtain ⟨t, T⟩ := T
    have e0 := hmg.symm.trans (PySem.W.mg_of KX G T.law)
    cases e0                                       -- fa is the law's own address
    exact ⟨_, fun s u => .of_eq rfl, fun base kb nb => My.law_fn T kb nb⟩     -- if «.of_eq rfl» comes too early: refine' ⟨_, ?b, fun base kb nb => My.law_fn T kb nb⟩; exact fun s u => .of_eq rfl
  case S => exact fun w H a ns hl hO hS => ..
  case C => exact ..
(the tactic k_is has no namespace: write k_is) -/

/-! SHORT WORDS over the layer: a def of the text, its body, what a loop and a test want. -/
namespace L2
open PySem PySem.Spec PyProof.Rows

/-! ### the text by places -/
def defArgs (s : Stmt) : Arguments := match s with
  | .FunctionDef _ a _ _ _ _ _ _ _ _ => a
  | _ => { posonlyargs := [], args := [], vararg := none, kwonlyargs := [], kw_defaults := [], kwarg := none, defaults := [] }
def defBody (s : Stmt) : List Stmt := match s with
  | .FunctionDef _ _ b _ _ _ _ _ _ _ => b
  | _ => []
def defScope (s : Stmt) : Scope := match s with
  | .FunctionDef _ _ _ _ _ _ sc _ _ _ => sc
  | _ => { kind := .function, names := [], isGenerator := false, isCoroutine := false }

/-! ### no exception leaves a def -/
abbrev CX0 : CXT := fun _ _ _ _ _ _ => False
abbrev E0 : XK := fun _ _ _ => False
theorem pass0 {X : Cx} : Passes CX0 X E0 := fun _ _ _ _ _ _ _ h => h.elim

/-! ### a def (or method) of the text as it stands behind the top -/
structure Fun (K : PySem.W.Frag) (x qual : Str) (st : Stmt) (f : Addr) (fd : FuncData) : Prop where
  ex : ∃ (oc : Value) (od : Option Addr) (kV doc pm : Value) (an : Option Addr) (cdv ct : Value) (osl : Array (Option Value)),
    fd = PySem.W.fnOf x qual (defArgs st) (defBody st) (defScope st) .none kV doc pm an cdv ct ∧ K.lookup f = some ⟨oc, od, .func fd, osl⟩ ∧ PySem.W.codeIn K cdv qual = true
  kp : PySem.W.keepIn K (.ref f) = true
section
variable {P : Program} {w : World} {K : PySem.W.Frag} {mg : Str → Option Value} {base : Heap}
/-- THE RULE for a def: its body as a term of rules, and the reading of that term -/
theorem Fun.ok {x qual : Str} {st : Stmt} {f : Addr} {fd : FuncData} {N ps : List Str} {k : Nat} {sp : Sp} (F : Fun K x qual st f fd) (S : FnScope N ps (defScope st)) (len : ∀ vs H Q E, sp vs H Q E → vs.length = ps.length)
    (hbody : ∀ (cdv : Value) (A : Around) (outer : List Env) (s : Shared) (H : Hp) (vs : List V) (Q : VK) (E : XK), Room k (A.deeper (envOfC qual (defScope st) s.heap.objs.size f cdv)) → sp vs H Q E →
      ∃ t, PSs (cxOf CX0 P w K mg base N qual (defScope st) f cdv A outer s H E).nox (defBody st) t ∧ t { nx := fun _ H' => Q .non H', rt := Q } (start N vs) H) : FnOk P w K mg base CX0 (k + 1) f fd ps sp := by
  obtain ⟨oc, od, kV, doc, pm, an, cdv, ct, osl, rfl, lk, hcd⟩ := F.ex
  refine fn_of lk hcd S len fun A outer s H vs Q E hr hsp => ?_
  obtain ⟨t, h, q⟩ := hbody cdv A outer s H vs Q E hr hsp
  exact ⟨t, h.nox, q⟩
/-- how its arguments bind (no defaults): h is «fun _ _ _ _ _ _ us hl => match us, hl with | [_, _], _ => rfl», one _ a parameter -/
theorem Fun.binds {x qual : Str} {st : Stmt} {f : Addr} {fd : FuncData} {ps : List Str} (F : Fun K x qual st f fd)
    (h : ∀ (kV doc pm : Value) (an : Option Addr) (cdv ct : Value) (us : List Value), us.length = ps.length → bindArgs (PySem.W.fnOf x qual (defArgs st) (defBody st) (defScope st) .none kV doc pm an cdv ct) ⟨us, []⟩ = pure (ps.zip us)) : Binds K fd ps [] := by
  obtain ⟨oc, od, kV, doc, pm, an, cdv, ct, osl, rfl, lk, hcd⟩ := F.ex
  exact .all (h kV doc pm an cdv ct)
theorem fun_mk {x qual : Str} {st : Stmt} {f : Addr} {oc : Value} {od an : Option Addr} {osl : Array (Option Value)} {kV doc pm cdv ct : Value} (l : K.lookup f = some ⟨oc, od, .func (PySem.W.fnOf x qual (defArgs st) (defBody st) (defScope st) .none kV doc pm an cdv ct), osl⟩)
    (c : PySem.W.codeIn K cdv qual = true) (k : PySem.W.keepIn K (.ref f) = true) : Fun K x qual st f (PySem.W.fnOf x qual (defArgs st) (defBody st) (defScope st) .none kV doc pm an cdv ct) := ⟨⟨oc, od, kV, doc, pm, an, cdv, ct, osl, rfl, l, c⟩, k⟩
end
theorem hu_of {A : Around} {k : Nat} (hr : Room k A) : A.units + 1 < cLine := Nat.lt_of_le_of_lt (Nat.add_le_add_left (by decide : 1 ≤ 64) _) hr.units
/-! ### expressions in short: the name that stands in the i-th slot -/
section
variable {X : Cx}
theorem pv (i : Nat) {x : Str} {pos : Pos} (hN : X.N[i]? = some x := by rfl) (hv : Vis X.env.scope x := by first | exact Or.inl rfl | exact Or.inr (Or.inl rfl) | exact Or.inr (Or.inr rfl)) (hd : (x == ("__debug__" : Str)) = false := by decide)
    (hcd : (x == ("__classdict__" : Str)) = false := by decide) : PE X (.Name x pos) (tVar i) := pe_var hN hv hd hcd
end

/-! ### tests -/
theorem iteF {A B : Prop} (h : B) : if false = true then A else B := by
  rw [if_neg Bool.false_ne_true]
  exact h
theorem iteT {A B : Prop} (h : A) : if true = true then A else B := by
  rw [if_pos rfl]
  exact h
theorem ite2 {c A B : Prop} [Decidable c] (h1 : c → A) (h2 : ¬ c → B) : if c then A else B := by
  by_cases h : c
  · rw [if_pos h]
    exact h1 h
  · rw [if_neg h]
    exact h2 h
/-! ### heaps -/
/-- all that was tracked is as it was -/
def Same (H H' : Hp) : Prop := ∀ b o, H b = some o → H' b = some o
theorem Same.refl (H : Hp) : Same H H := fun _ _ h => h
theorem Same.trans {H H1 H2 : Hp} (a : Same H H1) (b : Same H1 H2) : Same H H2 := fun c o h => b c o (a c o h)
theorem Same.free {H H' : Hp} (e : Same H H') {l : Addr} (h : H' l = Option.none) : H l = Option.none := by
  cases q : H l with
  | none => rfl
  | some o =>
    rw [e l o q] at h
    cases h
theorem Same.seq {K : PySem.W.Frag} {H H' : Hp} {a : Addr} {xs : List V} (e : Same H H') (h : SqL K H a xs) : SqL K H' a xs := by
  rcases h with (h | ⟨o, h⟩) | h
  · exact .inl (.inl (e _ _ h))
  · exact .inl (.inr ⟨o, e _ _ h⟩)
  · exact .inr h

end L2
set_option Elab.async false
set_option linter.all false
set_option maxRecDepth 100000
set_option maxHeartbeats 4000000
namespace L2
open PySem PySem.Spec PyProof.Rows

/-! ### the cells that a comprehension's block takes over -/
def clo (cells : List (Str × Addr)) : List (Str × NameKind) → List (Str × Addr) → List (Str × Addr)
  | [], cs => cs
  | p :: r, cs => clo cells r (if (p.2 == NameKind.free) = true then (match cells.lookup p.1 with | some a => (p.1, a) :: cs | none => cs) else cs)

theorem clo_run {env : Env} {f : Str × NameKind → List (Str × Addr) → Sem (ForInStep (List (Str × Addr)))}
    (hf : ∀ p cs, f p cs = if (p.2 == NameKind.free) = true then (cellOf env p.1 >>= fun a => pure (ForInStep.yield ((p.1, a) :: cs))) else pure (ForInStep.yield cs)) :
    ∀ (names : List (Str × NameKind)) (cs : List (Str × Addr)), (∀ p ∈ names, p.2 = .free → ∃ a, env.cells.lookup p.1 = some a) →
      (forIn names cs f : Sem (List (Str × Addr))) = pure (clo env.cells names cs) := by
  intro names
  induction names with
  | nil => intro cs _; rfl
  | cons p r ih =>
    intro cs h
    have hr := fun cs => ih cs fun q hq => h q (List.mem_cons_of_mem _ hq)
    rw [List.forIn_cons, hf]
    by_cases hk : p.2 = .free
    · obtain ⟨a, ha⟩ := h p List.mem_cons_self hk
      have hb : (p.2 == NameKind.free) = true := by rw [hk]; rfl
      rw [if_pos hb]
      have hc : cellOf env p.1 = pure a := by unfold cellOf; rw [ha]
      rw [hc]
      show (forIn r ((p.1, a) :: cs) f : Sem _) = _
      rw [hr, clo, if_pos hb, ha]
    · have hb : ¬ (p.2 == NameKind.free) = true := by simpa using hk
      rw [if_neg hb]
      show (forIn r cs f : Sem _) = _
      rw [hr, clo, if_neg hb]
theorem clo_for {env : Env} {scope : Scope} (h : ∀ p ∈ scope.names, p.2 = .free → ∃ a, env.cells.lookup p.1 = some a) : closureFor scope env = pure (clo env.cells scope.names []) := by
  simp only [closureFor]
  rw [clo_run (env := env) (fun p cs => by obtain ⟨n, k⟩ := p; cases hk : (k == NameKind.free) <;> simp [hk] <;> rfl) scope.names [] h]
  rfl
theorem clo_old {cells : List (Str × Addr)} {x : Str} {c : Addr} : ∀ (names : List (Str × NameKind)) (cs : List (Str × Addr)), (clo cells names cs).lookup x = some c → cells.lookup x = some c ∨ cs.lookup x = some c := by
  intro names
  induction names with
  | nil => intro cs h; exact .inr h
  | cons p r ih =>
    intro cs h
    rw [clo] at h
    rcases ih _ h with e | e
    · exact .inl e
    · split at e
      · cases ha : cells.lookup p.1 with
        | none => rw [ha] at e; exact .inr e
        | some a =>
          rw [ha] at e
          rw [List.lookup_cons] at e
          cases hx : x == p.1 with
          | true =>
            rw [hx] at e
            have : x = p.1 := by simpa using hx
            subst this
            left
            rw [ha]; exact e
          | false => rw [hx] at e; exact .inr e
      · exact .inr e
theorem clo_new {cells : List (Str × Addr)} {x : Str} {a : Addr} (ha : cells.lookup x = some a) : ∀ (names : List (Str × NameKind)) (cs : List (Str × Addr)),
    ((x, NameKind.free) ∈ names ∨ cs.lookup x = some a) → (clo cells names cs).lookup x = some a := by
  intro names
  induction names with
  | nil => intro cs h; rcases h with h | h
           · cases h
           · exact h
  | cons p r ih =>
    intro cs h
    rw [clo]
    by_cases hr : (x, NameKind.free) ∈ r
    · exact ih _ (.inl hr)
    · refine ih _ (.inr ?_)
      by_cases hb : (p.2 == NameKind.free) = true
      · rw [if_pos hb]
        by_cases hx : x = p.1
        · subst hx
          rw [ha]
          simp [List.lookup_cons]
        · have h2 : cs.lookup x = some a := by
            rcases h with h | h
            · rcases List.mem_cons.mp h with e | e
              · exact absurd (congrArg Prod.fst e) hx
              · exact absurd e hr
            · exact h
          cases hc : cells.lookup p.1 with
          | none => exact h2
          | some b =>
            have hx' : (x == p.1) = false := by simpa using hx
            simp [List.lookup_cons, hx', h2]
      · rw [if_neg hb]
        rcases h with h | h
        · rcases List.mem_cons.mp h with e | e
          · exact absurd (by rw [← e]; rfl) hb
          · exact absurd e hr
        · exact h

theorem mem_lookup {α β : Type} [BEq α] [LawfulBEq α] {x : α} {y : β} : ∀ {l : List (α × β)}, l.lookup x = some y → (x, y) ∈ l
  | [], h => by cases h
  | p :: r, h => by
    rw [List.lookup_cons] at h
    cases hx : x == p.1 with
    | true =>
      rw [hx] at h
      have e : x = p.1 := by simpa using hx
      cases h
      rw [e]
      exact List.mem_cons_self
    | false => rw [hx] at h; exact List.mem_cons_of_mem _ (mem_lookup h)

/-- how a name of the block is seen behind the relabelling -/
theorem relabG {f : Str × NameKind → Str × NameKind} (hf : ∀ p, f p = p ∨ (p.2 = .free ∧ f p = (p.1, .cell))) {x : Str} : ∀ {names : List (Str × NameKind)}, (names.map f).lookup x = names.lookup x ∨ (names.lookup x = some .free ∧ (names.map f).lookup x = some .cell)
  | [] => .inl rfl
  | p :: r => by
    have ih := @relabG f hf x r
    rw [List.map_cons]
    rcases hf p with e | ⟨e1, e2⟩
    · rw [e, List.lookup_cons, List.lookup_cons]
      cases hx : x == p.1 with
      | true => exact .inl rfl
      | false => exact ih
    · rw [e2, List.lookup_cons, List.lookup_cons]
      cases hx : x == p.1 with
      | true => exact .inr ⟨congrArg some e1, rfl⟩
      | false => exact ih
theorem relab {env : Env} {x : Str} {names : List (Str × NameKind)} :
    ((names.map fun (n, k) => if (k == NameKind.free && env.scope.kind == .function && env.kindOf n == some .cell) then (n, NameKind.cell) else (n, k)).lookup x = names.lookup x) ∨
    (names.lookup x = some .free ∧ (names.map fun (n, k) => if (k == NameKind.free && env.scope.kind == .function && env.kindOf n == some .cell) then (n, NameKind.cell) else (n, k)).lookup x = some .cell) := by
  refine relabG (fun p => ?_)
  obtain ⟨n, k⟩ := p
  by_cases hc : (k == NameKind.free && env.scope.kind == .function && env.kindOf n == some .cell) = true
  · right
    have hk : k = .free := by
      simp only [Bool.and_eq_true, beq_iff_eq] at hc
      exact hc.1.1
    exact ⟨hk, by show (if _ then _ else _) = _; rw [if_pos hc]⟩
  · left
    show (if _ then _ else _) = _
    rw [if_neg hc]

/-! ### the block's context -/
def cxB (X : Cx) (NB : List Str) (scope : Scope) (cl : List (Str × Addr)) (C : Addr) (fp : List Addr) (s : Shared) (H : Hp) : Cx where
  prog := X.prog
  w := X.w
  K := X.K
  mg := X.mg
  base := X.base
  A := X.A
  N := NB
  s₀ := s
  H₀ := H
  env := compEnvC scope cl C X.env
  outer := X.stack
  stack := X.stack
  ex := fp
  fn := fun _ => false
  calm := X.calm
  pn := []
  xe := fun _ _ => False

/-- the tests of a clause -/
def PIfs (X : Cx) (ifs : List Expr) (t : TT) : Prop :=
  ∀ (pins : List (Addr × Obj)) (s : Shared) (σ : St) (H : Hp) (Q : Bool → Hp → Prop), Inv X pins σ H s → t σ H Q →
    wpAny (model X.prog X.w) X.A (forIn ifs true fun c r => if r = true then do let ok ← isTrue c X.env (eval c X.env); pure (ForInStep.yield ok) else pure (ForInStep.yield r)) (TP X pins σ Q) X.xe s
def tYes : TT := fun _ H Q => Q true H
theorem pifs_nil {X : Cx} : PIfs X [] tYes := fun _ _ _ H _ I h => wpAny_tests_nil ⟨H, I, h⟩
theorem pifs_one {X : Cx} {c : Expr} {t : TT} (h : PT X c t) : PIfs X [c] t := fun pins s σ H Q I q => wpAny_tests_one (h pins s σ H Q I q)

section
variable {prog : Program} {w : World} {A : Around} {R : Result → Shared → Prop} {s : Shared}
/-- the loop of a list's comprehension by an invariant; nothing is raised in it -/
theorem comp_loop {elt target iter : Expr} {ifs : List Expr} {scope : Scope} {pos : Pos} {it acc : Value} {env : Env} (I : Nat → Shared → Prop)
    (turn : ∀ n s, I n s → wpAny (model prog w) A (pyNext it) (fun r s1 => (r = none ∧ R (.ok .next) s1) ∨ ∃ v, r = some v ∧
      wpAny (model prog w) A (letOwnedTupleGo target it v) (fun _ s2 => wpAny (model prog w) A (assign target env v) (fun _ s3 =>
        wpAny (model prog w) A (forIn ifs true fun c r => if r = true then do let ok ← isTrue c env (eval c env); pure (ForInStep.yield ok) else pure (ForInStep.yield r)) (fun ok s4 =>
          if ok = true then wpAny (model prog w) A (eval elt env) (fun x s5 => wpAny (model prog w) A (call (.builtin "list.append") [acc, x]) (fun _ s6 => ∃ m, m < n ∧ I m s6) (fun _ _ => False) s5) (fun _ _ => False) s4
          else ∃ m, m < n ∧ I m s4) (fun _ _ => False) s3) (fun _ _ => False) s2) (fun _ _ => False) s1) (fun _ _ => False) s)
    (n : Nat) (h : I n s) : codeAny (model prog w) A (.compLoop (.ListComp elt [⟨target, iter, ifs, 0⟩] scope pos) 0 it acc env) R s := by
  refine codeAny_loop rfl I (fun k s0 hk => ?_) n h
  show wpAny _ A (Sem.onRaise (compTurn (.ListComp elt [⟨target, iter, ifs, 0⟩] scope pos) 0 it acc env) (fun x => do noteFrame x env; theTreesLotGoes x)) _ _ s0
  refine wpAny_noted ?_
  rw [compTurn_list]
  refine wpAny_bind (wpAny_standAt (wpAny_bind (wpAny_mono (turn k s0 hk) (fun r s1 h1 => ?_) fun _ _ z => z.elim)))
  rcases h1 with ⟨rfl, h1⟩ | ⟨v, rfl, h1⟩
  · exact wpAny_pure h1
  · refine wpAny_bind (wpAny_mono h1 (fun _ s2 h2 => wpAny_bind (wpAny_mono h2 (fun _ s3 h3 => wpAny_bind (wpAny_mono h3 (fun ok s4 h4 => ?_) fun _ _ z => z.elim)) fun _ _ z => z.elim)) fun _ _ z => z.elim)
    cases ok with
    | false => exact wpAny_pure ⟨rfl, h4⟩
    | true => exact wpAny_bind (wpAny_bind (wpAny_mono h4 (fun x s5 h5 => wpAny_bind (wpAny_mono h5 (fun _ s6 h6 => wpAny_pure (wpAny_pure ⟨rfl, h6⟩)) fun _ _ z => z.elim)) fun _ _ z => z.elim))
end

/-- the tracked things stay when an untracked one is changed -/
theorem HOk.but {P : Program} {w : World} {H : Hp} {h h' : Heap} {C : Addr} (x : HOk P w H h) (hC : H C = none) (k : ∀ b o, b ≠ C → h.get? b = some o → h'.get? b = some o) : HOk P w H h' := fun b u e => by
  have nit : ∀ c v, H c = some v → c ≠ C := fun c v q z => by rw [z, hC] at q; cases q
  refine (x b u e).stay (fun c v hc q => k c v ?_ q) (fun _ q => q) fun _ _ q => q
  rcases hc with z | z
  · rw [z]; exact nit b u e
  · exact nit c _ z

/-- what a comprehension's loop wants: W the invariant, by the turn and a measure; D the list that is made -/
def CompGo (frs : St) (g : TG) (tt : TT) (te : TE) (Q : VK) (J : It) (H1 : Hp) : Prop := ∀ D, H1 D = none →
  ∃ W : Nat → Nat → List V → St → Hp → Prop, (∃ m, W 0 m [] frs (upd H1 D (.lst []))) ∧
    ∀ i m ys σ' H', W i m ys σ' H' → H' D = some (.lst ys) →
      (J.stop i H' ∧ Q (.ref D) H') ∨
      (J.go i H' ∧ ys.length < sizeLine ∧ ∀ x H2, J.yld i H' x H2 → g x σ' H2 fun σ3 H3 => tt σ3 H3 fun b H4 =>
        if b = true then te σ3 H4 fun v H5 => H5 D = some (.lst ys) ∧ ∃ m', m' < m ∧ W (i + 1) m' (ys ++ [v]) σ3 (upd H5 D (.lst (ys ++ [v])))
        else H4 D = some (.lst ys) ∧ ∃ m', m' < m ∧ W (i + 1) m' ys σ3 H4)
def tComp (n : Nat) (fr : List Nat) (wi : TI) (g : TG) (tt : TT) (te : TE) : TE := fun σ H Q => wi σ H (CompGo (List.replicate n none ++ fr.map fun k => (σ[k]?).join) g tt te Q)

section
variable {X : Cx} {elt tg iter : Expr} {ifs : List Expr} {scope : Scope} {pos : Pos} {NB : List Str} {n : Nat} {fr : List Nat} {wi : TI} {g : TG} {tt : TT} {te : TE}

structure CompOk (X : Cx) (scope : Scope) (NB : List Str) (n : Nat) (fr : List Nat) : Prop where
  kind : scope.kind = .function
  nocell : ∀ y ∈ scope.names, y.2 ≠ .cell
  names : ∀ y ∈ scope.names, y.2 = .local → scope.names.lookup y.1 = some .local
  free : ∀ y ∈ scope.names, y.2 = .free → X.env.kindOf y.1 = some .cell ∨ X.env.kindOf y.1 = some .free
  len : NB.length = n + fr.length
  own : ∀ (j k : Nat), fr[j]? = some k → ∃ x, NB[n + j]? = some x ∧ X.N[k]? = some x ∧ scope.names.lookup x = some .free

theorem blk_ok {pins : List (Addr × Obj)} {σ : St} {H : Hp} {s : Shared} {fp : List Addr} {C : Addr} (O : CompOk X scope NB n fr) (I : Inv X pins σ H s) (hf : ∀ b ∈ fp, FpOk X pins H b) (hfl : ∀ b ∈ fp, b < s.heap.objs.size) (hC : s.heap.objs.size ≤ C) :
    (cxB X NB scope (clo X.env.cells scope.names []) C fp s H).Ok where
  mod := I.ok.mod
  kind := O.kind
  glob := I.ok.glob
  blt := I.ok.blt
  above := hC
  inj := fun x y c h1 h2 => by
    have e1 := (clo_old scope.names [] h1).resolve_right (by intro z; cases z)
    have e2 := (clo_old scope.names [] h2).resolve_right (by intro z; cases z)
    exact I.ok.inj x y c e1 e2
  has := fun x hx => by
    have hx' : (relabel scope X.env).names.lookup x = some .cell ∨ (relabel scope X.env).names.lookup x = some .free := hx
    have hfree : scope.names.lookup x = some .free := by
      have r := @relab X.env x scope.names
      rcases r with r | r
      · have hx2 : scope.names.lookup x = some .cell ∨ scope.names.lookup x = some .free := by rw [← r]; exact hx'
        rcases hx2 with e | e
        · exact absurd rfl (O.nocell _ (mem_lookup e))
        · exact e
      · exact r.1
    have hm := mem_lookup hfree
    obtain ⟨c, hc⟩ := I.ok.has x (O.free _ hm rfl)
    exact ⟨c, clo_new hc scope.names [] (.inl hm)⟩
  cab := fun x c h => nomatch h
  hd := fun h => I.ok.hd h
  frames := I.ok.frames
  stk := .inl rfl
  exf := fun b hb => ⟨Nat.ne_of_lt (Nat.lt_of_lt_of_le (hfl b hb) hC), fun x c h => by
    have e1 := (clo_old scope.names [] h).resolve_right (by intro z; cases z)
    exact (hf b hb).2.2.2.2.1 x c e1⟩
  bs := I.bs
  bsz := Nat.le_trans I.ok.bsz I.sz
  noex := fun b o e hb => by
    rcases (hf b hb).2.2.2.1 with z | z
    · exact I.ok.noex b o e z
    · exact absurd (Nat.lt_of_lt_of_le (Heap.lt_size e) (Nat.le_trans I.ok.bsz z)) (Nat.lt_irrefl _)
  exfs := fun b hb z => by
    rcases List.mem_cons.mp (I.stkSub b z) with e | e
    · exact (hf b hb).2.1 e
    · exact (hf b hb).2.2.1 e
  funs := I.stack
  frf := I.stkFree

/-- a state whose block's own names are let go -/
theorem Inv.but {pins : List (Addr × Obj)} {σ : St} {H : Hp} {s : Shared} {C : Addr} {h' : Heap} (I : Inv X pins σ H s) (hC : X.s₀.heap.objs.size ≤ C) (hH : H C = none) (hL : C ≠ X.env.locals) (hcl : ∀ x c, X.env.cells.lookup x = some c → c ≠ C) (hpn : ∀ p ∈ X.pn ++ pins, p.1 ≠ C) (sb : Heap.SameBut C s.heap h') :
    Inv X pins σ H { s with heap := h' } := by
  refine I.call' (s' := { s with heap := h' }) (ch := [C]) rfl ?_ (HOk.but I.hok hH fun b o hb e => sb.extBut b o hb e) I.bare (fun b hb => ?_)
  · have ne : ∀ {b : Addr}, b ∉ [C] → b ≠ C := fun {b} h z => h (by rw [z]; exact List.mem_cons_self)
    exact ⟨fun b o e _ _ hx => sb.extBut b o (ne hx) e, fun b o e _ _ hx => ⟨o.slots, sb.extBut b o (ne hx) e⟩, fun _ _ _ n _ => n, fun b o e hx => ⟨o, sb.extBut b o (ne hx) e⟩, fun _ _ q => q, fun _ _ _ q => q, fun _ ps q => ⟨#[], by rw [q]; simp⟩⟩
  · have e : b = C := by simpa using hb
    subst e
    exact ⟨.inr hC, hL, hcl, hpn⟩
/-- the block itself, with what is done with its list -/
theorem comp_core {use : Option (Value → Sem Unit)} {QQ : Value → Shared → Prop} {pins : List (Addr × Obj)} {s : Shared} {σ : St} {H : Hp} {Q : VK} {pos2 : Pos} (O : CompOk X scope NB n fr) (hc : X.calm = true) (hi : PI X tg iter wi)
    (hg : ∀ cl C fp s H, PG (cxB X NB scope cl C fp s H) tg g) (ht : ∀ cl C fp s H, PIfs (cxB X NB scope cl C fp s H) ifs tt) (he : ∀ cl C fp s H, PE (cxB X NB scope cl C fp s H) elt te)
    (hs : ∀ x, foldedSetIterable iter X.env x = pure x) (I : Inv X pins σ H s) (h : tComp n fr wi g tt te σ H Q)
    (fin0 : ∀ (D C : Addr) (H' : Hp) (s' : Shared) (m : Str → Option Value), s'.heap.Ns C m → Inv X pins σ H' s' → X.s₀.heap.objs.size ≤ C → H' C = none → C ≠ X.env.locals → (∀ x c, X.env.cells.lookup x = some c → c ≠ C) → (∀ p ∈ X.pn ++ pins, p.1 ≠ C) → Q (.ref D) H' →
      compPost (model X.prog X.w) X.A X.xe use QQ (.ref D) C (.ok .next) s') :
    wpAny (model X.prog X.w) X.A (comprehension (.ListComp elt [⟨tg, iter, ifs, 0⟩] scope pos) scope X.env pos2 (newList []) false (eval iter X.env) use) QQ X.xe s := by
  have hcl : closureFor scope X.env = pure (clo X.env.cells scope.names []) := clo_for fun p hp hk => I.ok.has p.1 (O.free p hp hk)
  refine wpAny_comprehension_free (use := use) rfl hs hcl O.kind O.names (thn (hi pins s σ H _ I h) fun v s1 h1 => thn h1 fun itv s2 h2 => ?_)
  obtain ⟨it, fp, tn, J, H2, e, I2, T, st2, f2, R⟩ := h2
  subst e
  have fpl : ∀ b ∈ fp, b < s2.heap.objs.size := fun b hb => by
    obtain ⟨o, ho, _⟩ := T.obj 0 _ st2 b hb
    exact Heap.lt_size ho
  refine wpAny_newObj_type (wpAny_newFunctionEnv O.nocell (fun y hy => absurd hy (by simp)) (fun h1 ns1 sb1 => ?_) O.kind)
  dsimp only at ns1 sb1 ⊢
  generalize hD2 : s2.heap.push { cls := .type "list", dict := none, data := .seq ([] : List Value).toArray } = hp2 at ns1 sb1 ⊢
  have zC : hp2.objs.size = s2.heap.objs.size + 1 := by rw [← hD2, Heap.size_push]
  have kept : ∀ b o, s2.heap.get? b = some o → h1.get? b = some o := fun b o q => by
    have lt := Heap.lt_size q
    refine sb1.extBut b o (by rw [zC]; exact Nat.ne_of_lt (Nat.lt_succ_of_lt lt)) (Heap.get?_push_of_some _ ?_)
    rw [← hD2]
    exact Heap.get?_push_of_some _ q
  have gD : h1.get? s2.heap.objs.size = some { cls := .type "list", data := .seq ([] : List Value).toArray 0 } := by
    refine sb1.extBut _ _ (by rw [zC]; exact Nat.ne_of_lt (Nat.lt_succ_self _)) (Heap.get?_push_of_some _ ?_)
    rw [← hD2]
    exact Heap.get?_push_size _ rfl
  generalize hD : s2.heap.objs.size = D at *
  have fD : H2 D = none := I2.hok.fresh (Nat.le_of_eq hD)
  have fC : H2 hp2.objs.size = none := I2.hok.fresh (by rw [hD, zC]; exact Nat.le_succ _)
  have nCD : hp2.objs.size ≠ D := by rw [zC]; exact Nat.succ_ne_self _
  have hCle : s2.heap.objs.size ≤ hp2.objs.size := by rw [hD, zC]; exact Nat.le_succ _
  have ok := blk_ok (C := hp2.objs.size) O I2 f2 (fun b hb => by rw [hD]; exact fpl b hb) hCle
  obtain ⟨W, ⟨m0, w0⟩, turn⟩ := R D fD
  generalize hY : cxB X NB scope (clo X.env.cells scope.names []) hp2.objs.size fp s2 H2 = Y at ok
  have eY : Y.env = compEnvC scope (clo X.env.cells scope.names []) hp2.objs.size X.env := by rw [← hY]; rfl
  have I0 : Inv Y [] (List.replicate n none ++ fr.map fun k => (σ[k]?).join) (upd H2 D (.lst [])) { s2 with heap := h1, toks := s2.toks + ([] : List (Str × Value)).length } := by
    subst hY
    refine ⟨ok, rfl, I2.bare, Un.laid kept (Nat.le_of_eq hD) fD, ⟨_, ns1, fun i x v e1 e2 e3 => ?_⟩, fun x c h => ?_, ?_, fun x c h => ?_, fun p hp => absurd (show p ∈ ([] : List (Addr × Obj)) from hp) (by simp), ?_, ?_⟩
    · have hin : n ≤ i := by
        refine Nat.le_of_not_lt fun z => ?_
        rw [List.getElem?_append_left (by simpa using z), List.getElem?_replicate] at e2
        split at e2 <;> cases e2
      obtain ⟨j, rfl⟩ := Nat.exists_eq_add_of_le hin
      rw [List.getElem?_append_right (by simp)] at e2
      simp only [List.length_replicate, Nat.add_sub_cancel_left, List.getElem?_map] at e2
      cases hk : fr[j]? with
      | none => rw [hk] at e2; cases e2
      | some k =>
        rw [hk] at e2
        obtain ⟨x', n1, n2, n3⟩ := O.own j k hk
        have e1' : NB[n + j]? = some x := e1
        rw [n1] at e1'
        cases e1'
        have e4 : (σ[k]?).join = some v := Option.some.inj e2
        have e5 : σ[k]? = some (some v) := by
          cases q : σ[k]? with
          | none => rw [q] at e4; cases e4
          | some z => rw [q] at e4; exact congrArg some e4
        have hm := mem_lookup n3
        have kd := O.free _ hm rfl
        obtain ⟨m, hn, hl⟩ := I2.loc
        obtain ⟨u, ru, lk⟩ := hl k x v n2 e5 (by rcases kd with z | z; exact .inr (.inl z); exact .inr (.inr z))
        refine ⟨u, ru, .inr ⟨?_, ?_⟩⟩
        · show (relabel scope X.env).names.lookup x = some .cell ∨ (relabel scope X.env).names.lookup x = some .free
          rcases @relab X.env x scope.names with r | r
          · exact .inr (Eq.trans r n3)
          · exact .inl r.2
        · rcases lk with ⟨z, _⟩ | ⟨_, c, hc1, hc2⟩
          · rcases kd with q | q <;> (rw [z] at q; cases q)
          · refine ⟨c, clo_new hc1 scope.names [] (.inl hm), ?_⟩
            obtain ⟨o, ho, hd⟩ := hc2
            exact ⟨o, kept c o ho, hd⟩
    · have e1 := (clo_old scope.names [] (show (clo X.env.cells scope.names []).lookup x = some c from h)).resolve_right (by intro z; cases z)
      obtain ⟨v, o, ho, hd⟩ := I2.cell x c e1
      exact ⟨v, o, kept c o ho, hd⟩
    · show upd H2 D (.lst []) hp2.objs.size = none
      rw [upd_ne nCD]; exact fC
    · have e1 := (clo_old scope.names [] (show (clo X.env.cells scope.names []).lookup x = some c from h)).resolve_right (by intro z; cases z)
      obtain ⟨v, o, ho, hd⟩ := I2.cell x c e1
      rw [upd_ne (by rw [← hD]; exact Nat.ne_of_lt (Heap.lt_size ho))]
      exact I2.freeC x c e1
    · exact I2.hok.laid kept (Nat.le_of_eq hD) ⟨by simp, [], 0, .nil, gD⟩
    · show _ = NB.length
      rw [O.len]; simp
  have fY : ∀ {H' : Hp}, (∀ b ∈ fp, H' b = none) → ∀ b ∈ fp, FpOk Y [] H' b := fun {H'} hn b hb => by
    subst hY
    refine ⟨hn b hb, (ok.exf b hb).1, ok.exfs b hb, .inl hb, fun x c z => (ok.exf b hb).2 x c z, fun p hp => absurd (show p ∈ ([] : List (Addr × Obj)) from hp) (by simp)⟩
  have pY : Y.prog = X.prog ∧ Y.w = X.w ∧ Y.K = X.K ∧ Y.A = X.A ∧ Y.calm = true ∧ Y.xe = fun _ _ => False := by subst hY; exact ⟨rfl, rfl, rfl, rfl, hc, rfl⟩
  obtain ⟨p1, p2, p3, p4, p5, p6⟩ := pY
  have fin : ∀ {σ' : St} {H' : Hp} {s' : Shared}, Inv Y [] σ' H' s' → Q (.ref D) H' → compPost (model X.prog X.w) X.A X.xe use QQ (.ref D) hp2.objs.size (.ok .next) s' := fun {σ' H' s'} J' q => by
    subst hY
    obtain ⟨m, hn, _⟩ := J'.loc
    have fr' : H' hp2.objs.size = none := J'.free
    have neC : ∀ b o, s2.heap.get? b = some o → b ≠ hp2.objs.size := fun b o e => Nat.ne_of_lt (Nat.lt_of_lt_of_le (Heap.lt_size e) hCle)
    have J : Inv X pins σ H' s' := I2.call' (s' := s') J'.os J'.base J'.hok J'.bare fun b hb => by
      obtain ⟨_, a2, _, a4, a5, a6⟩ := f2 b hb
      exact ⟨a4, a2, a5, a6⟩
    refine fin0 D _ H' s' m hn J (Nat.le_trans I2.sz hCle) fr' (Ne.symm (Nat.ne_of_lt (Nat.lt_of_lt_of_le I2.lt hCle))) (fun x c e => ?_) (fun p hp => ?_) q
    · obtain ⟨v, o, ho, _⟩ := I2.cell x c e
      exact neC c o ho
    · exact neC _ _ (I2.pin p hp).1
  have st0 : tn 0 h1 := T.keep 0 _ _ st2 fun b hb o q => kept b o q
  have fp0 : ∀ b ∈ fp, upd H2 D (.lst []) b = none := fun b hb => by
    rw [upd_ne (Nat.ne_of_lt (fpl b hb))]; exact (f2 b hb).1
  have loop : ∀ s3 : Shared, s3 = { s2 with heap := h1, toks := s2.toks + ([] : List (Str × Value)).length } →
      codeAny (model X.prog X.w) X.A (.compLoop (.ListComp elt [⟨tg, iter, ifs, 0⟩] scope pos) 0 (.ref it) (.ref D) (compEnvC scope (clo X.env.cells scope.names []) hp2.objs.size X.env))
        (compPost (model X.prog X.w) X.A X.xe use QQ (.ref D) hp2.objs.size) s3 := by
    rintro s3 rfl
    refine comp_loop (fun k s' => ∃ i ys σ' H', Inv Y [] σ' H' s' ∧ tn i s'.heap ∧ (∀ b ∈ fp, H' b = none) ∧ H' D = some (.lst ys) ∧ W i k ys σ' H') ?_ m0 ⟨0, [], _, _, I0, st0, fp0, upd_same, w0⟩
    rintro k s4 ⟨i, ys, σ4, H4, I4, t4, fr4, d4, w4⟩
    have hgY : PG Y tg g := by subst hY; exact hg _ _ _ _ _
    have htY : PIfs Y ifs tt := by subst hY; exact ht _ _ _ _ _
    have heY : PE Y elt te := by subst hY; exact he _ _ _ _ _
    rcases turn i k ys σ4 H4 w4 d4 with ⟨stop, q⟩ | ⟨go, hlen, step⟩
    · have z := T.done Y p1 p2 p3 p5 i [] s4 σ4 H4 (fun _ _ => False) I4 (fY fr4) t4 stop
      rw [p4] at z
      exact thn z fun r s5 ⟨hr, I5⟩ => .inl ⟨hr, fin I5 q⟩
    · have z := T.item Y p1 p2 p3 p5 i [] s4 σ4 H4 (fun _ _ => False) I4 (fY fr4) t4 go
      rw [p4] at z
      refine thn z fun r s5 ⟨u, hr, h5⟩ => .inr ⟨u, hr, thn h5 fun _ s6 ⟨x, H6, I6, r6, y6, t6, fr6⟩ => ?_⟩
      have I6' := I6.pinned (fY fr6) (T.obj _ _ t6)
      have back : ∀ {σ7 : St} {H7 : Hp} {s7 : Shared}, Inv Y ([] ++ pinsAt fp s6.heap) σ7 H7 s7 → Inv Y [] σ7 H7 s7 ∧ tn (i + 1) s7.heap ∧ ∀ b ∈ fp, H7 b = none := fun {σ7 H7 s7} I7 => by
        refine ⟨I7.unpinned, T.keep _ _ _ t6 fun b hb o e => (I7.pin (b, o) (List.mem_append_right _ (List.mem_append_right _ (mem_pinsAt hb e)))).1, fun b hb => ?_⟩
        obtain ⟨o, e, _⟩ := T.obj _ _ t6 b hb
        exact (I7.pin (b, o) (List.mem_append_right _ (List.mem_append_right _ (mem_pinsAt hb e)))).2.1
      have a7 := hgY _ s6 σ4 H6 x u _ I6' r6 (step x H6 y6)
      rw [p1, p2, p4, p6, eY] at a7
      refine thn a7 fun _ s7 ⟨σ7, H7, I7, q7⟩ => ?_
      have a8 := htY _ s7 σ7 H7 _ I7 q7
      rw [p1, p2, p4, p6, eY] at a8
      refine thn a8 fun b s8 ⟨H8, I8, q8⟩ => ?_
      cases b with
      | false =>
        obtain ⟨d8, m', hm, w8⟩ := q8
        rw [if_neg Bool.false_ne_true]
        obtain ⟨b1, b2, b3⟩ := back I8
        exact ⟨m', hm, i + 1, ys, σ7, H8, b1, b2, b3, d8, w8⟩
      | true =>
        rw [if_pos rfl]
        have a9 := heY _ s8 σ7 H8 _ I8 q8
        rw [p1, p2, p4, p6, eY] at a9
        refine thn a9 fun uv s9 ⟨v, H9, I9, r9, d9, m', hm, w9⟩ => ?_
        have a10 := mt_append (X := Y) _ s9 σ7 H9 (.ref D) [v] (.ref D) [uv] (fun x H' => H' = upd H9 D (.lst (ys ++ [v]))) I9 rfl (.cons r9 .nil) ⟨D, ys, v, rfl, rfl, d9, hlen, rfl⟩
        rw [p1, p2, p4, p6] at a10
        refine thn a10 fun _ s10 ⟨_, H10, I10, _, e10⟩ => ?_
        subst e10
        obtain ⟨b1, b2, b3⟩ := back I10
        exact ⟨m', hm, i + 1, _, σ7, _, b1, b2, b3, upd_same, w9⟩
  refine codeAny_compStart_list (loop _ rfl) ?_
  exact T.self _ 0 _ _ _ st0 (loop _ rfl)
theorem pe_comp (O : CompOk X scope NB n fr) (hc : X.calm = true) (hi : PI X tg iter wi)
    (hg : ∀ cl C fp s H, PG (cxB X NB scope cl C fp s H) tg g) (ht : ∀ cl C fp s H, PIfs (cxB X NB scope cl C fp s H) ifs tt) (he : ∀ cl C fp s H, PE (cxB X NB scope cl C fp s H) elt te)
    (hs : ∀ x, foldedSetIterable iter X.env x = pure x := by intro _; rfl) : PE X (.ListComp elt [⟨tg, iter, ifs, 0⟩] scope pos) (tComp n fr wi g tt te) := by
  intro pins s σ H Q I h
  rw [eval_ListComp]
  exact comp_core (QQ := EP X pins σ Q) O hc hi hg ht he hs I h fun D C H' s' m hn J h1 h2 h3 h4 h5 q => ⟨m, hn, fun h' sb => ⟨.ref D, H', J.but h1 h2 h3 h4 h5 sb, rfl, q⟩⟩
/-- name = [ .. ] -/
theorem ps_comp {i : Nat} {x : Str} {py spos : Pos} (hN : X.N.Nodup) (hi1 : X.N[i]? = some x) (hx : Loc X.env.scope x) (O : CompOk X scope NB n fr) (hc : X.calm = true) (hi : PI X tg iter wi)
    (hg : ∀ cl C fp s H, PG (cxB X NB scope cl C fp s H) tg g) (ht : ∀ cl C fp s H, PIfs (cxB X NB scope cl C fp s H) ifs tt) (he : ∀ cl C fp s H, PE (cxB X NB scope cl C fp s H) elt te)
    (hs : ∀ x, foldedSetIterable iter X.env x = pure x := by intro _; rfl) (hsw : swapsWith (.ListComp elt [⟨tg, iter, ifs, 0⟩] scope pos) (some (.Name x py)) spos.line X.env = pure true := by rfl)
    (hf : X.fn x = true ∨ X.env.scope.names.lookup x = some .local := by first | exact .inl rfl | exact .inr rfl | assumption) :
    PS X (.Assign [.Name x py] (.ListComp elt [⟨tg, iter, ifs, 0⟩] scope pos) spos) (tAsg (tComp n fr wi g tt te) (gName i)) := by
  intro pins s σ H D I h
  rw [exec_Assign_Name_used _ _ _ _ hsw]
  refine wpAny_bind (wpAny_standAt (wpAny_bind ?_))
  show wpAny _ X.A (do let _ ← comprehension (.ListComp elt [⟨tg, iter, ifs, 0⟩] scope pos) scope X.env _ (newList []) false (eval iter X.env) (some (assign (.Name x py) X.env))) _ _ s
  refine wpAny_bind (wpAny_mono (comp_core (QQ := fun _ s' => SP X pins D .next s') (use := some (assign (.Name x py) X.env)) O hc hi hg ht he hs I h fun D1 C H' s' m hn J h1 h2 h3 h4 h5 q => ?_) (fun _ s' hq => wpAny_pure (wpAny_pure hq)) fun _ _ e => e)
  show wpAny _ X.A (assign (.Name x py) X.env (.ref D1)) _ _ _
  refine wpAny_assign_Name (store_ok2 (v := .ref D1) J hN hi1 hx rfl (fun s2 J2 ⟨a, sb, ha⟩ => ?_) hf)
  refine ⟨m, hn.sameBut sb ?_, fun h' sb2 => ⟨_, H', J2.but h1 h2 h3 h4 h5 sb2, q⟩⟩
  rcases ha with e | e
  · rw [e]; exact h3
  · exact Ne.symm (h4 _ _ e)
end
end L2
set_option Elab.async false
set_option linter.all false
set_option maxRecDepth 100000
set_option maxHeartbeats 4000000
namespace L2
open PySem PySem.Spec PyProof.Rows

/-! ### an iterator over a list (false) or a tuple (true), at place k -/
def Src (t : Bool) (h : Heap) (it l : Addr) (xs : Array Value) (k : Nat) : Prop := match t with
  | true => h.IsTupleIter it l k ∧ h.IsTuple l xs
  | false => h.IsListIter it l k ∧ h.IsList l xs
theorem Src.keep {t : Bool} {h h' : Heap} {it l : Addr} {xs : Array Value} {k : Nat} (x : Src t h it l xs k) (a : ∀ o, h.get? it = some o → h'.get? it = some o) (b : ∀ o, h.get? l = some o → h'.get? l = some o) : Src t h' it l xs k := by
  cases t with
  | true => obtain ⟨⟨o, h1, r1⟩, ⟨o2, h2, r2⟩⟩ := x; exact ⟨⟨o, a o h1, r1⟩, ⟨o2, b o2 h2, r2⟩⟩
  | false => obtain ⟨⟨o, h1, r1⟩, ⟨o2, h2, r2⟩⟩ := x; exact ⟨⟨o, a o h1, r1⟩, ⟨o2, b o2 h2, r2⟩⟩

section
variable {prog : Program} {w : World} {A : Around} {E : Value → Shared → Prop} {st : Shared}
theorem draw_tup_end {it l : Addr} {i : Nat} {its : Array Value} {Q : Value → Shared → Prop} (hh : A.handled = none) (hit : st.heap.IsTupleIter it l i) (hl : st.heap.IsTuple l its) (hx : its[i]? = none)
    (hE : ∀ h' e, Heap.ExtBut it st.heap h' → (∃ o, h'.get? e = some o ∧ o.cls = .type "StopIteration") → E (.ref e) { st with heap := h' }) : wpAny (model prog w) A (Builtin.SmallTypes.nextOf (.ref it)) Q E st := by
  obtain ⟨o, ho, hc, hd⟩ := id hit
  obtain ⟨o2, ho2, _, n2, hd2⟩ := hl
  unfold Builtin.SmallTypes.nextOf
  refine wpAny_bind (wpAny_callSpecial?_slot (name := Str.ofString "__next__") hit.typeIs F.slot_tuple_iterator_next (wpAny_call_entry F.slot_tuple_iterator_next hit.typeIs F.entry_tuple_iterator_next ?_ (F.args_tuple_iterator_next_1 _)))
  show wpAny _ A.in1 (field (.ref it) 0 >>= _) _ _ st
  refine wpAny_bind (wpAny_field ho hd (x := .ref l) rfl ?_)
  show wpAny _ A.in1 (if (Value.ref l == Value.none) = true then _ else _) _ _ st
  rw [if_neg (fun z : (Value.ref l == Value.none) = true => Bool.false_ne_true z)]
  show wpAny _ A.in1 (field (.ref it) 1 >>= _) _ _ st
  refine wpAny_bind (wpAny_field (x := .int i 0) ho hd rfl ?_)
  show wpAny _ A.in1 (seqItems? (.ref l) >>= _) _ _ st
  refine wpAny_bind (wpAny_seqItems ho2 hd2 ?_)
  simp only [Int.toNat_natCast, hx]
  refine wpAny_bind (wpAny_rule (wpAny_bind (wpAny_setField ho hd (by simp) (wpAny_bind ?_))))
  show wpAny _ A.in1 (newExc (.type "StopIteration") []) _ _ _
  simp only [newTuple, newExc]
  refine wpAny_bind (wpAny_newObj_type (wpAny_bind (m := firstArgMember _ _) (wpAny_of_eq (a := Value.none) (by first | rfl | (simp only [firstArgMember]; rfl)) (wpAny_newObj_type ?_ (by size_fits)))) (by size_fits))
  simp only [raiseNew]
  refine wpAny_bind (wpAny_handled ?_)
  first | rw [hh] | rw [show A.in1.handled = none from hh]
  exact wpAny_bind (wpAny_pure (wpAny_throw (hE _ _ (((Heap.SameBut.update ..).extBut.push _).push _) ⟨_, Heap.get?_push_size _ rfl, rfl⟩)))

theorem Src.none {t : Bool} {it l : Addr} {i : Nat} {its : Array Value} {Q : Value → Shared → Prop} (hh : A.handled = none) (S : Src t st.heap it l its i) (hx : its[i]? = none)
    (hE : ∀ h' e, Heap.ExtBut it st.heap h' → (∃ o, h'.get? e = some o ∧ o.cls = .type "StopIteration") → E (.ref e) { st with heap := h' }) : wpAny (model prog w) A (Builtin.SmallTypes.nextOf (.ref it)) Q E st := by
  cases t with
  | true => exact draw_tup_end hh S.1 S.2 hx hE
  | false => exact wpAny_nextOf_list_end hh S.1 S.2 hx hE

/-- the five own records of a zip stand apart, and from what it walks -/
structure Apart (z TI TO i1 i2 l1 l2 : Addr) : Prop where
  a : TI ≠ z ∧ TO ≠ z ∧ i1 ≠ z ∧ i2 ≠ z
  b : TI ≠ TO ∧ TI ≠ i1 ∧ TI ≠ i2 ∧ TO ≠ i1 ∧ TO ≠ i2 ∧ i1 ≠ i2
  c : l1 ≠ z ∧ l1 ≠ TO ∧ l1 ≠ i1 ∧ l1 ≠ i2
  d : l2 ≠ z ∧ l2 ≠ TO ∧ l2 ≠ i1 ∧ l2 ≠ i2

end
section
def SqK (t : Bool) (h : Heap) (l : Addr) (xs : Array Value) : Prop := match t with
  | true => h.IsTuple l xs
  | false => h.IsList l xs
def itObj (t : Bool) (l : Addr) : Obj := { cls := .type (if t then "tuple_iterator" else "list_iterator"), data := .fields #[.ref l, .int 0 0] }
theorem SqK.push {t : Bool} {h : Heap} {l : Addr} {xs : Array Value} (x : SqK t h l xs) (o : Obj) : SqK t (h.push o) l xs := by
  cases t with
  | true => exact Heap.IsTuple.push x o
  | false => exact Heap.IsList.push x o
theorem Src.new {t : Bool} {h : Heap} {it l : Addr} {xs : Array Value} (e : h.get? it = some (itObj t l)) (q : SqK t h l xs) : Src t h it l xs 0 := by
  cases t with
  | true => exact ⟨⟨_, e, rfl, rfl⟩, q⟩
  | false => exact ⟨⟨_, e, rfl, rfl⟩, q⟩
variable {prog : Program} {w : World} {A : Around} {E : Value → Shared → Prop} {st : Shared}
end
end L2
set_option Elab.async false
set_option linter.all false
set_option maxRecDepth 100000
set_option maxHeartbeats 4000000
namespace L2
open PySem PySem.Spec PyProof.Rows

/-! ### for sign in text -/
/-! ### for a, b in zip(x, y) -/
def SqB (t : Bool) (K : PySem.W.Frag) (H : Hp) (a : Addr) (xs : List V) : Prop := match t with
  | true => SqT K H a xs
  | false => SqL K H a xs
section
variable {X : Cx} {pins : List (Addr × Obj)} {σ : St} {H : Hp} {s : Shared}
theorem Inv.sq {t : Bool} {a : Addr} {xs : List V} (I : Inv X pins σ H s) (h : SqB t X.K H a xs) : ∃ its : List Value, Vals xs its ∧ SqK t s.heap a its.toArray ∧ xs.length ≤ sizeLine := by
  cases t with
  | true => obtain ⟨its, r, p, z⟩ := I.tuple h; exact ⟨its, r, p, z⟩
  | false => obtain ⟨its, r, p, z⟩ := I.list h; exact ⟨its, r, p.isList, z⟩
end
def ItB (t : Bool) (h : Heap) (it l : Addr) (k : Nat) : Prop := match t with
  | true => h.IsTupleIter it l k
  | false => h.IsListIter it l k
theorem Src.it {t : Bool} {h : Heap} {it l : Addr} {k : Nat} {xs : Array Value} (a : Src t h it l xs k) : ItB t h it l k := by cases t <;> exact a.1
theorem ItB.ob {t : Bool} {h : Heap} {it l : Addr} {k : Nat} (a : ItB t h it l k) : ∃ o, h.get? it = some o ∧ ∀ v, o.data ≠ .cell v := by
  cases t <;> (obtain ⟨o, e, _, d⟩ := a; exact ⟨o, e, fun v z => by rw [d] at z; cases z⟩)
theorem ItB.keep {t : Bool} {h h' : Heap} {it l : Addr} {k : Nat} (a : ItB t h it l k) (e : ∀ o, h.get? it = some o → h'.get? it = some o) : ItB t h' it l k := by
  cases t <;> (obtain ⟨o, q, r⟩ := a; exact ⟨o, e o q, r⟩)

end L2
set_option Elab.async false
set_option linter.all false
set_option maxRecDepth 100000
set_option maxHeartbeats 4000000
namespace L2
open PySem PySem.Spec PyProof.Rows
section
variable {X : Cx} {a b : Expr} {ta tb : TE} {pos : Pos}

/-! ### all(list of truths) -/
/-! ### isinstance(x, T) -/
def rIsi (K : PySem.W.Frag) : List V → Hp → VK → Prop := fun xs H Q => ∃ x c t k, xs = [x, .ty c] ∧ TyOf K H x t ∧ PySem.W.kitOne K t (.type c) = some k ∧ Q (.bl k) H
theorem call_isi : CallR X (.builtin "isinstance") (rIsi X.K) := by
  intro pins s σ H xs us Q I r h
  obtain ⟨x, c, t, k, rfl, ty, e, q⟩ := h
  obtain ⟨u, u', rfl, rx, rc⟩ := vals2 r
  cases rc
  exact isinst_ok I rx ty e fun tk => ⟨.bl k, H, I.tok tk, rfl, q⟩

/-! ### f(e, ..) where f is a name that holds a def -/
/-! ### texts -/
def rSlS : V → Option Int → Option Int → Hp → VK → Prop := fun x lo hi H Q => ∃ z, x = .str z ∧ z.length ≤ sizeLine ∧ ∀ y, y.length ≤ z.length → y = Txt.slice z lo hi → Q (.str y) H
theorem sl_str : SlR X rSlS := by
  intro pins s σ H x v vl vu lo hi sl Q I rx hs pl pu h
  obtain ⟨z, rfl, hz, q⟩ := h
  obtain ⟨t, rfl⟩ := rx
  refine ⟨"str", _, F.slot_str_getitem.lookup, typeIs_str _ _ _, ?_⟩
  have fin : ∀ y, y = Txt.slice z lo hi → y.length ≤ z.length → ∀ t' k, EP X pins σ Q (.str y t') { s with toks := k } := fun y e hy t' k => ⟨.str y, H, I.tok _, ⟨_, rfl⟩, q y hy e⟩
  have le := Txt.slice_le z lo hi
  cases pl with
  | none =>
    cases pu with
    | none => exact wpAny_getItem_str_slice (l := none) (u := none) (st := none) hs rfl (post_val_or_str ⟨Nat.le_trans le hz, fin _ rfl le⟩)
    | int j uj => exact wpAny_getItem_str_slice (l := none) (u := some (j, uj)) (st := none) hs rfl (post_val_or_str ⟨Nat.le_trans le hz, fin _ rfl le⟩)
  | int i ui =>
    cases pu with
    | none => exact wpAny_getItem_str_slice (l := some (i, ui)) (u := none) (st := none) hs rfl (post_val_or_str ⟨Nat.le_trans le hz, fin _ rfl le⟩)
    | int j uj => exact wpAny_getItem_str_slice (l := some (i, ui)) (u := some (j, uj)) (st := none) hs rfl (post_val_or_str ⟨Nat.le_trans le hz, fin _ rfl le⟩)

/-! ### two lists of flat things compared -/
end

/-! ### t[::-1] of a tuple -/
section
variable {prog : Program} {w : World} {A : Around} {E : Value → Shared → Prop} {s : Shared}
end
end L2
namespace L2
open PySem PySem.Spec PyProof.Rows
/-! ### t + u of two tuples, either may be empty -/
def rCatU : R2 := fun x y H Q => ∃ a b xs ys, x = .ref a ∧ y = .ref b ∧ H a = some (.tup xs) ∧ H b = some (.tup ys) ∧ xs.length + ys.length ≤ sizeLine ∧ ∀ p H', H' p = some (.tup (xs ++ ys)) → Same H H' → Q (.ref p) H'
theorem op_catU {X : Cx} : OpR X (binaryOp .Add) rCatU := by
  intro pins s σ H x y v u Q I rx ry h
  obtain ⟨a, b, xs, ys, rfl, rfl, ha, hb, hz, q⟩ := h
  by_cases hx : xs = []
  · subst hx
    cases rx
    cases ry
    obtain ⟨its, r1, p1, _⟩ := I.tuple (SqT.of ha)
    obtain ⟨its2, r2, p2, _⟩ := I.tuple (SqT.of hb)
    have e1 : its = [] := r1.nil_iff.mpr rfl
    obtain ⟨⟨cls, dd, data, sl⟩, ho, hc, n, hd⟩ := id p1
    obtain ⟨⟨cls2, dd2, data2, sl2⟩, ho2, hc2, n2, hd2⟩ := id p2
    simp only at hc hd hc2 hd2
    subst hc hd hc2 hd2
    exact concat_meets ⟨_, ho, rfl⟩ ⟨_, ho2, rfl⟩ noFill_tuple_add seq_tuple_add PySem.F.slot_tuple_add PySem.F.entry_tuple_add (PySem.F.args_tuple_add_2 _ _)
      (tuple_addW0 a b its.toArray its2.toArray n n2 dd dd2 sl sl2 (by simp [e1])) ⟨ho, ho2, ⟨.ref b, H, I, rfl, q b H (by simpa using hb) (Same.refl _)⟩⟩
  · refine op_catT pins s σ H (.ref a) (.ref b) v u Q I rx ry ⟨a, b, xs, ys, rfl, rfl, SqT.of ha, SqT.of hb, hx, hz, fun e => ?_, fun _ p hp => ?_⟩
    · subst e
      exact q a H (by simpa using ha) (Same.refl _)
    · exact q p _ upd_same fun c o e => by rw [upd_ne (ne_of_none e hp)]; exact e
theorem PT.weak {X : Cx} {e : Expr} {t t' : TT} (h : PT X e t) (w : ∀ σ H Q, t' σ H Q → t σ H Q) : PT X e t' := fun pins s σ H Q I q => h pins s σ H Q I (w σ H Q q)
theorem PE.weak {X : Cx} {e : Expr} {t t' : TE} (h : PE X e t) (w : ∀ σ H Q, t' σ H Q → t σ H Q) : PE X e t' := fun pins s σ H Q I q => h pins s σ H Q I (w σ H Q q)
end L2
set_option Elab.async false
set_option linter.all false
namespace Kp
open PySem PyProof.Rows
def abc : Str := "abcdefghijklmnopqrstuvwxyz"
theorem abc_len : abc.length = 26 := by decide +kernel
/-- a thing, as data -/
inductive D where
  | non | bl (b : Bool) | int (i : Int) | str (x : Str) | tup (xs : List D) | lst (xs : List D)

/-! ### names -/
/-! ### seats -/
end Kp
set_option Elab.async false
set_option linter.all false
set_option maxRecDepth 100000
set_option maxHeartbeats 4000000
namespace Kp
open PySem L2

mutual
/-- v is the thing d in the heap H; its texts and rows are of at most B parts -/
inductive Is (B : Nat) (H : Hp) : V → D → Prop
  | non : Is B H .non .non
  | bl (b : Bool) : Is B H (.bl b) (.bl b)
  | int (i : Int) : Is B H (.int i) (.int i)
  | str (x : Str) (h : x.length ≤ B) : Is B H (.str x) (.str x)
  | tup {a : Addr} {vs : List V} {ds : List D} (e : H a = some (.tup vs)) (l : vs.length ≤ B) (r : IsL B H vs ds) : Is B H (.ref a) (.tup ds)
  | lst {a : Addr} {vs : List V} {ds : List D} (e : H a = some (.lst vs)) (l : vs.length ≤ B) (r : IsL B H vs ds) : Is B H (.ref a) (.lst ds)
inductive IsL (B : Nat) (H : Hp) : List V → List D → Prop
  | nil : IsL B H [] []
  | cons {v : V} {d : D} {vs : List V} {ds : List D} (h : Is B H v d) (t : IsL B H vs ds) : IsL B H (v :: vs) (d :: ds)
end
mutual
theorem Is.mono {B B' : Nat} {H H' : Hp} (hB : B ≤ B') (s : Same H H') : ∀ {v d}, Is B H v d → Is B' H' v d
  | _, _, .non => .non
  | _, _, .bl b => .bl b
  | _, _, .int i => .int i
  | _, _, .str x h => .str x (Nat.le_trans h hB)
  | _, _, .tup e l r => .tup (s _ _ e) (Nat.le_trans l hB) (IsL.mono hB s r)
  | _, _, .lst e l r => .lst (s _ _ e) (Nat.le_trans l hB) (IsL.mono hB s r)
theorem IsL.mono {B B' : Nat} {H H' : Hp} (hB : B ≤ B') (s : Same H H') : ∀ {vs ds}, IsL B H vs ds → IsL B' H' vs ds
  | _, _, .nil => .nil
  | _, _, .cons h t => .cons (Is.mono hB s h) (IsL.mono hB s t)
end
theorem Is.same {B : Nat} {H H' : Hp} {v : V} {d : D} (h : Is B H v d) (s : Same H H') : Is B H' v d := h.mono (Nat.le_refl _) s
theorem IsL.same {B : Nat} {H H' : Hp} {v : List V} {d : List D} (h : IsL B H v d) (s : Same H H') : IsL B H' v d := h.mono (Nat.le_refl _) s
theorem IsL.length {B : Nat} {H : Hp} : ∀ {vs ds}, IsL B H vs ds → vs.length = ds.length
  | _, _, .nil => rfl
  | _, _, .cons _ t => by simp [IsL.length t]
theorem IsL.get {B : Nat} {H : Hp} : ∀ {vs ds} {i : Nat} {v : V}, IsL B H vs ds → vs[i]? = some v → ∃ d, ds[i]? = some d ∧ Is B H v d
  | _, _, _, _, .nil, h => by simp at h
  | _, _, 0, _, .cons h _, e => by simp at e; subst e; exact ⟨_, rfl, h⟩
  | _, _, i + 1, v, .cons _ t, e => by
    obtain ⟨d, e', h⟩ := IsL.get (i := i) (v := v) t (by simpa using e)
    exact ⟨d, by simpa using e', h⟩
theorem IsL.append {B : Nat} {H : Hp} : ∀ {vs ds vs' ds'}, IsL B H vs ds → IsL B H vs' ds' → IsL B H (vs ++ vs') (ds ++ ds')
  | _, _, _, _, .nil, h => h
  | _, _, _, _, .cons h t, h' => .cons h (IsL.append t h')
theorem IsL.take {B : Nat} {H : Hp} : ∀ (n : Nat) {vs ds}, IsL B H vs ds → IsL B H (vs.take n) (ds.take n)
  | 0, _, _, _ => .nil
  | _ + 1, _, _, .nil => .nil
  | n + 1, _, _, .cons h t => .cons h (IsL.take n t)
theorem IsL.drop {B : Nat} {H : Hp} : ∀ (n : Nat) {vs ds}, IsL B H vs ds → IsL B H (vs.drop n) (ds.drop n)
  | 0, _, _, h => h
  | _ + 1, _, _, .nil => .nil
  | n + 1, _, _, .cons _ t => IsL.drop n t
theorem IsL.reverse {B : Nat} {H : Hp} {vs ds} (h : IsL B H vs ds) : IsL B H vs.reverse ds.reverse := by
  induction vs generalizing ds with
  | nil => cases h; exact .nil
  | cons v vs ih =>
    cases h with
    | cons h t => rw [List.reverse_cons, List.reverse_cons]; exact (ih t).append (.cons h .nil)
theorem IsL.ints {B : Nat} {H : Hp} : ∀ (ns : List Int), IsL B H (ns.map V.int) (ns.map D.int)
  | [] => .nil
  | n :: r => .cons (.int n) (IsL.ints r)
/-- some thing of at most B parts -/
def Th (B : Nat) (H : Hp) (v : V) : Prop := ∃ d, Is B H v d
def ThL (B : Nat) (H : Hp) (vs : List V) : Prop := ∃ ds, IsL B H vs ds
theorem Th.mono {B B' : Nat} {H H' : Hp} {v : V} (h : Th B H v) (hB : B ≤ B') (s : Same H H') : Th B' H' v := let ⟨d, q⟩ := h; ⟨d, q.mono hB s⟩
theorem ThL.mono {B B' : Nat} {H H' : Hp} {v : List V} (h : ThL B H v) (hB : B ≤ B') (s : Same H H') : ThL B' H' v := let ⟨d, q⟩ := h; ⟨d, q.mono hB s⟩
theorem ThL.nil {B : Nat} {H : Hp} : ThL B H [] := ⟨[], .nil⟩
theorem ThL.cons {B : Nat} {H : Hp} {v : V} {vs : List V} (h : Th B H v) (t : ThL B H vs) : ThL B H (v :: vs) := let ⟨d, q⟩ := h; let ⟨ds, r⟩ := t; ⟨d :: ds, .cons q r⟩
theorem ThL.append {B : Nat} {H : Hp} {vs us : List V} (h : ThL B H vs) (t : ThL B H us) : ThL B H (vs ++ us) := let ⟨_, q⟩ := h; let ⟨_, r⟩ := t; ⟨_, q.append r⟩
theorem ThL.take {B : Nat} {H : Hp} {vs : List V} (n : Nat) (h : ThL B H vs) : ThL B H (vs.take n) := let ⟨_, q⟩ := h; ⟨_, q.take n⟩
theorem ThL.drop {B : Nat} {H : Hp} {vs : List V} (n : Nat) (h : ThL B H vs) : ThL B H (vs.drop n) := let ⟨_, q⟩ := h; ⟨_, q.drop n⟩
theorem ThL.reverse {B : Nat} {H : Hp} {vs : List V} (h : ThL B H vs) : ThL B H vs.reverse := let ⟨_, q⟩ := h; ⟨_, q.reverse⟩
theorem ThL.get {B : Nat} {H : Hp} {vs : List V} {i : Nat} {v : V} (h : ThL B H vs) (e : vs[i]? = some v) : Th B H v := let ⟨_, q⟩ := h; let ⟨d, _, r⟩ := q.get e; ⟨d, r⟩
theorem Th.tup {B : Nat} {H : Hp} {a : Addr} {vs : List V} (e : H a = some (.tup vs)) (l : vs.length ≤ B) (h : ThL B H vs) : Th B H (.ref a) := let ⟨_, q⟩ := h; ⟨_, .tup e l q⟩
theorem Th.lst {B : Nat} {H : Hp} {a : Addr} {vs : List V} (e : H a = some (.lst vs)) (l : vs.length ≤ B) (h : ThL B H vs) : Th B H (.ref a) := let ⟨_, q⟩ := h; ⟨_, .lst e l q⟩
theorem Th.int {B : Nat} {H : Hp} (i : Int) : Th B H (.int i) := ⟨_, .int i⟩
theorem Th.bl {B : Nat} {H : Hp} (i : Bool) : Th B H (.bl i) := ⟨_, .bl i⟩
theorem Th.non {B : Nat} {H : Hp} : Th B H .non := ⟨_, .non⟩
theorem Th.str {B : Nat} {H : Hp} (x : Str) (h : x.length ≤ B) : Th B H (.str x) := ⟨_, .str x h⟩
/-- a new object leaves all as it was -/
theorem same_upd {H : Hp} {p : Addr} {o : HO} (h : H p = none) : Same H (upd H p o) := fun b u e => by rw [upd_ne (ne_of_none e h)]; exact e

/-! ### the kinds -/
def tyN : D → String
  | .non => "NoneType" | .bl _ => "bool" | .int _ => "int" | .str _ => "str" | .tup _ => "tuple" | .lst _ => "list"
theorem Is.ty {B : Nat} {H : Hp} {K : PySem.W.Frag} {v : V} {d : D} (h : Is B H v d) : TyOf K H v (.type (tyN d)) := by
  cases h with
  | non => exact .non
  | bl b => exact .bl b
  | int i => exact .int i
  | str x _ => exact .str x
  | tup e _ _ => exact .tup e
  | lst e _ _ => exact .lst e
def isInt : D → Bool | .int _ => true | .bl _ => true | _ => false
def isBool : D → Bool | .bl _ => true | _ => false
def isStr : D → Bool | .str _ => true | _ => false
def isTup : D → Bool | .tup _ => true | _ => false
theorem kit_int (K : PySem.W.Frag) : ∀ d : D, PySem.W.kitOne K (.type (tyN d)) (.type "int") = some (isInt d)
  | .non => by with_unfolding_all rfl
  | .bl _ => by with_unfolding_all rfl
  | .int _ => by with_unfolding_all rfl
  | .str _ => by with_unfolding_all rfl
  | .tup _ => by with_unfolding_all rfl
  | .lst _ => by with_unfolding_all rfl
theorem kit_bool (K : PySem.W.Frag) : ∀ d : D, PySem.W.kitOne K (.type (tyN d)) (.type "bool") = some (isBool d)
  | .non => by with_unfolding_all rfl
  | .bl _ => by with_unfolding_all rfl
  | .int _ => by with_unfolding_all rfl
  | .str _ => by with_unfolding_all rfl
  | .tup _ => by with_unfolding_all rfl
  | .lst _ => by with_unfolding_all rfl
theorem kit_str (K : PySem.W.Frag) : ∀ d : D, PySem.W.kitOne K (.type (tyN d)) (.type "str") = some (isStr d)
  | .non => by with_unfolding_all rfl
  | .bl _ => by with_unfolding_all rfl
  | .int _ => by with_unfolding_all rfl
  | .str _ => by with_unfolding_all rfl
  | .tup _ => by with_unfolding_all rfl
  | .lst _ => by with_unfolding_all rfl
theorem kit_tup (K : PySem.W.Frag) : ∀ d : D, PySem.W.kitOne K (.type (tyN d)) (.type "tuple") = some (isTup d)
  | .non => by with_unfolding_all rfl
  | .bl _ => by with_unfolding_all rfl
  | .int _ => by with_unfolding_all rfl
  | .str _ => by with_unfolding_all rfl
  | .tup _ => by with_unfolding_all rfl
  | .lst _ => by with_unfolding_all rfl
theorem boot_isi : bootBuiltins "isinstance" = some (.builtin "isinstance") := by decide +kernel
theorem boot_int : bootBuiltins "int" = some (.type "int") := by decide +kernel
theorem boot_bool : bootBuiltins "bool" = some (.type "bool") := by decide +kernel
theorem boot_str : bootBuiltins "str" = some (.type "str") := by decide +kernel
theorem boot_tuple : bootBuiltins "tuple" = some (.type "tuple") := by decide +kernel
theorem pe_ty {X : Cx} {x : Str} {n : String} {pos : Pos} (hg : Gl X x) (hm : X.mg x = none) (hv : bootBuiltins x = some (.type n)) (hn : x ≠ "__name__" := by decide) (hd : (x == ("__debug__" : Str)) = false := by decide) : PE X (.Name x pos) (tC (.ty n)) := pe_bltn (v := .ty n) hg hm hv rfl hn hd
end Kp
set_option Elab.async false
set_option linter.all false
set_option maxRecDepth 100000
set_option maxHeartbeats 4000000
namespace Kp
open PySem L2

/-! ### rules whose reading names the written part, for a block -/
section
variable {X : Cx} {K : PySem.W.Frag} {pos : Pos}
theorem pg_tupK {es : List Expr} {k : Nat} {t : TGs} {n : Nat} (hK : X.K = K) (hc : X.calm = true) (h : PGs X es t) (hn : (assignEach es X.env).length = n := by rfl) (hst : (assignEach es X.env).findIdx? (·.1) = none := by rfl) : PG X (.Tuple es k pos) (gTup K n t) := by
  subst hK
  exact pg_tup hc h hn hst
theorem ix_listK (hK : X.K = K) : IxR X (rIxL K) := by subst hK; exact ix_list
theorem pe_fn {x : Str} {f : Addr} (hg : Gl X x) (hm : X.mg x = some (.ref f)) (hd : (x == ("__debug__" : Str)) = false := by decide) : PE X (.Name x pos) (tC (.ref f)) := pe_glob (v := .ref f) hg hm rfl hd
end

/-! ### a comprehension's names -/
def compChk (outer scope : Scope) : Bool := scope.kind == .function && scope.names.all fun y => y.2 != .cell && (y.2 != .local || scope.names.lookup y.1 == some .local) && (y.2 != .free || outer.names.lookup y.1 == some .cell)
theorem compOkN {X : Cx} {outer scope : Scope} {NB : List Str} {n : Nat} {fr : List Nat} (hX : X.env.scope = outer) (h : compChk outer scope = true) (hl : NB.length = n + fr.length)
    (ho : ∀ (j k : Nat), fr[j]? = some k → ∃ x, NB[n + j]? = some x ∧ X.N[k]? = some x ∧ scope.names.lookup x = some .free) : CompOk X scope NB n fr := by
  unfold compChk at h
  rw [Bool.and_eq_true, List.all_eq_true] at h
  obtain ⟨h1, h2⟩ := h
  refine ⟨by simpa using h1, fun y hy => ?_, fun y hy hk => ?_, fun y hy hk => ?_, hl, ho⟩
  · have := h2 y hy
    simp only [Bool.and_eq_true, bne_iff_ne, ne_eq] at this
    exact this.1.1
  · have := h2 y hy
    simp only [Bool.and_eq_true, Bool.or_eq_true, bne_iff_ne, ne_eq, beq_iff_eq] at this
    exact this.1.2.resolve_left (fun z => z hk)
  · have := h2 y hy
    simp only [Bool.and_eq_true, Bool.or_eq_true, bne_iff_ne, ne_eq, beq_iff_eq] at this
    refine .inl ?_
    show X.env.scope.names.lookup y.1 = some .cell
    rw [hX]
    exact this.2.resolve_left (fun z => z hk)
theorem compOk0 {X : Cx} {outer scope : Scope} {NB : List Str} {n : Nat} (hX : X.env.scope = outer) (h : compChk outer scope = true) (hl : NB.length = n + 0) : CompOk X scope NB n [] :=
  compOkN hX h hl fun j k e => by simp at e
theorem compOk1 {X : Cx} {outer scope : Scope} {NB : List Str} {n k0 : Nat} {x : Str} (hX : X.env.scope = outer) (h : compChk outer scope = true) (hl : NB.length = n + 1) (h1 : NB[n]? = some x) (h2 : X.N[k0]? = some x) (h3 : scope.names.lookup x = some .free) : CompOk X scope NB n [k0] :=
  compOkN hX h hl fun j k e => by
    cases j with
    | zero => cases e; exact ⟨x, h1, h2, h3⟩
    | succ j => simp at e
theorem compOk2 {X : Cx} {outer scope : Scope} {NB : List Str} {n k0 k1 : Nat} {x y : Str} (hX : X.env.scope = outer) (h : compChk outer scope = true) (hl : NB.length = n + 2) (h1 : NB[n]? = some x) (h2 : X.N[k0]? = some x) (h3 : scope.names.lookup x = some .free)
    (g1 : NB[n + 1]? = some y) (g2 : X.N[k1]? = some y) (g3 : scope.names.lookup y = some .free) : CompOk X scope NB n [k0, k1] :=
  compOkN hX h hl fun j k e => by
    match j, e with
    | 0, e => cases e; exact ⟨x, h1, h2, h3⟩
    | 1, e => cases e; exact ⟨y, g1, g2, g3⟩
    | j + 2, e => simp at e

/-! ### a comprehension that changes nothing -/
theorem comp_pure {J : It} {H1 : Hp} {n k : Nat} {frs : St} {g : TG} {tt : TT} {te : TE} {Q : VK} (p : Nat → Bool) (f : Nat → V) (hn : n < sizeLine)
    (go : ∀ i H, i < n → Same H1 H → J.go i H) (stop : ∀ H, Same H1 H → J.stop n H)
    (turn : ∀ i H t x H2 (R : St → Hp → Option V → Prop), i < n → Same H1 H → t.length = k → J.yld i H x H2 →
      (∀ t' H', t'.length = k → Same H H' → R (t' ++ frs) H' (if p i = true then some (f i) else none)) →
      g x (t ++ frs) H2 fun σ3 H3 => tt σ3 H3 fun b H4 => if b = true then te σ3 H4 fun v H5 => R σ3 H5 (some v) else R σ3 H4 none)
    (hq : ∀ D H', Same H1 H' → H1 D = none → H' D = some (.lst (((List.range n).filter p).map f)) → Q (.ref D) H') : CompGo (List.replicate k none ++ frs) g tt te Q J H1 := by
  intro D hD
  refine ⟨fun i m ys σ H => i ≤ n ∧ m = n - i ∧ ys = ((List.range i).filter p).map f ∧ Same H1 H ∧ ∃ t, t.length = k ∧ σ = t ++ frs, ⟨n, Nat.zero_le _, rfl, rfl, same_upd hD, _, by simp, rfl⟩, ?_⟩
  rintro i m ys σ H ⟨hi, rfl, rfl, s1, t, ht, rfl⟩ hd
  by_cases hlt : i < n
  · right
    refine ⟨go i H hlt s1, ?_, fun x H2 y => ?_⟩
    · refine Nat.lt_of_le_of_lt ?_ hn
      rw [List.length_map]
      exact Nat.le_trans (List.length_filter_le _ _) (by simpa using hi)
    · have h := turn i H t x H2 (fun σ3 H5 r => match r with
        | some v => H5 D = some (.lst (((List.range i).filter p).map f)) ∧ ∃ m', m' < n - i ∧ (i + 1 ≤ n ∧ m' = n - (i + 1) ∧ ((List.range i).filter p).map f ++ [v] = ((List.range (i + 1)).filter p).map f ∧ Same H1 (upd H5 D (.lst (((List.range i).filter p).map f ++ [v]))) ∧ ∃ t, t.length = k ∧ σ3 = t ++ frs)
        | none => H5 D = some (.lst (((List.range i).filter p).map f)) ∧ ∃ m', m' < n - i ∧ (i + 1 ≤ n ∧ m' = n - (i + 1) ∧ ((List.range i).filter p).map f = ((List.range (i + 1)).filter p).map f ∧ Same H1 H5 ∧ ∃ t, t.length = k ∧ σ3 = t ++ frs)) hlt s1 ht y ?_
      · exact h
      · intro t' H' ht' s2
        cases hp : p i with
        | true =>
          rw [if_pos rfl]
          refine ⟨s2 _ _ hd, n - (i + 1), by omega, by omega, rfl, ?_, fun b o e => ?_, t', ht', rfl⟩
          · rw [List.range_succ, List.filter_append, List.map_append]
            simp [hp]
          · rw [upd_ne (ne_of_none e hD)]; exact s2 _ _ (s1 _ _ e)
        | false =>
          rw [if_neg Bool.false_ne_true]
          refine ⟨s2 _ _ hd, n - (i + 1), by omega, by omega, rfl, ?_, s1.trans s2, t', ht', rfl⟩
          rw [List.range_succ, List.filter_append, List.map_append]
          simp [hp]
  · have e : i = n := by omega
    subst e
    exact .inl ⟨stop H s1, hq D H s1 hD hd⟩

/-! ### promises -/
/-- a teller: of a thing, a truth; nothing is changed -/
def spP (f : D → Bool) : Sp := fun vs H Q _ => ∃ B v d, B ≤ 1000 ∧ vs = [v] ∧ Is B H v d ∧ ∀ H', Same H H' → Q (.bl (f d)) H'
/-- a def of the text that keeps its promise, as a caller sees it -/
structure Cal (P : Program) (w : World) (K : PySem.W.Frag) (mg : Str → Option Value) (base : Heap) (name : Str) (k : Nat) (ps : List Str) (sp : Sp) : Prop where
  ex : ∃ f fd, FnOk P w K mg base CX0 k f fd ps sp ∧ mg name = some (.ref f) ∧ PySem.W.keepIn K (.ref f) = true ∧ Binds K fd ps []
def whole (d : D) : Bool := isInt d && !isBool d
end Kp
set_option Elab.async false
set_option linter.all false
namespace Kp
open PySem L2
section
variable {X : Cx} {es : List Expr} {te : TE} {t : TA} {pos : Pos}
/-! ### argument lists by the first one's form: that it is no star is known once -/
theorem pa_i {c : Const} {k : Nat} (ha : PE X (.Constant c k pos) te) (hr : PA X es t) : PA X (.Constant c k pos :: es) (tCons te t) := pa_cons ha hr rfl
theorem pa_n {x : Str} (ha : PE X (.Name x pos) te) (hr : PA X es t) : PA X (.Name x pos :: es) (tCons te t) := pa_cons ha hr rfl
theorem pa_t {l : List Expr} {k : Nat} (ha : PE X (.Tuple l k pos) te) (hr : PA X es t) : PA X (.Tuple l k pos :: es) (tCons te t) := pa_cons ha hr rfl
theorem pa_b {o : Operator} {a b : Expr} (ha : PE X (.BinOp a o b pos) te) (hr : PA X es t) : PA X (.BinOp a o b pos :: es) (tCons te t) := pa_cons ha hr rfl
theorem pa_k {f : Expr} {as : List Expr} {ks : List Keyword} (ha : PE X (.Call f as ks pos) te) (hr : PA X es t) : PA X (.Call f as ks pos :: es) (tCons te t) := pa_cons ha hr rfl
theorem pa_s {a b : Expr} (ha : PE X (.Subscript a b pos) te) (hr : PA X es t) : PA X (.Subscript a b pos :: es) (tCons te t) := pa_cons ha hr rfl
end
end Kp
namespace Kp
open PySem L2
theorem px_b {a b : Expr} {o : Operator} {pos : Pos} : PlainIx (.BinOp a o b pos) := fun _ _ => rfl
theorem px_n {x : Str} {pos : Pos} : PlainIx (.Name x pos) := fun _ _ => rfl
theorem px_i {c : Const} {k : Nat} {pos : Pos} : PlainIx (.Constant c k pos) := fun _ _ => rfl
end Kp
namespace Kp
open PySem L2
theorem sw_l {l : List Expr} {p : Pos} {t : Option Expr} {n : Nat} {env : Env} : swapsWith (.List l p) t n env = pure false := rfl
end Kp
namespace Kp
open PySem L2
/-! ### displays of written things -/
structure QA (X : Cx) (es : List Expr) (t : TA) : Prop where
  h : PA X es t
section
variable {X : Cx} {es l : List Expr} {t u : TA} {p p' : Pos} {j : Nat}
theorem qa_nil : QA X [] tNil := ⟨pa_nil⟩
theorem qa_int {i : Int} (r : QA X es t) : QA X (.Constant (.int i) j p :: es) (tCons (tC (.int i)) t) := ⟨pa_cons pe_int r.h rfl⟩
theorem qa_str {i : Str} (r : QA X es t) : QA X (.Constant (.str i) j p :: es) (tCons (tC (.str i)) t) := ⟨pa_cons pe_str r.h rfl⟩
theorem qa_tup (a : QA X l u) (r : QA X es t) : QA X (.Tuple l j p :: es) (tCons (tTup u) t) := ⟨pa_cons (pe_tup a.h) r.h rfl⟩
end
end Kp
namespace Kp
open PySem L2
/-! ### judgements in boxes: the elaborator looks into the bare ones, and runs a written display -/
structure QE (X : Cx) (e : Expr) (t : TE) : Prop where
  h : PE X e t
structure QS (X : Cx) (st : Stmt) (t : TS) : Prop where
  h : PS X st t
structure QB (X : Cx) (sts : List Stmt) (t : TS) : Prop where
  h : PSs X sts t
section
variable {X : Cx} {es : List Expr} {t : TA} {p p' pos : Pos} {j : Nat}
theorem qx_lst (a : QA X es t) : QE X (.List es p) (tLst t) := ⟨pe_lst a.h⟩
theorem qs_set {i : Nat} {x : Str} {e : Expr} {te : TE} (hN : X.N.Nodup) (hi : X.N[i]? = some x) (hx : Loc X.env.scope x) (he : QE X e te) (hs : swapsWith e (some (.Name x p')) pos.line X.env = pure false) (hf : X.fn x = true ∨ X.env.scope.names.lookup x = some .local := by first | exact .inl rfl | exact .inr rfl | assumption) :
    QS X (.Assign [.Name x p'] e pos) (tAsg te (gName i)) := ⟨ps_set hN hi hx he.h hs hf⟩
end
end Kp
set_option Elab.async false
set_option linter.all false
set_option maxRecDepth 100000
set_option maxHeartbeats 4000000
namespace Kp
open PySem L2 PyProof.Rows

/-! ### D.get(word) of a dict of the module -/
/-! ### a teller that is known by its address only -/
structure Tl (P : Program) (w : World) (K : PySem.W.Frag) (mg : Str → Option Value) (base : Heap) (k : Nat) (g : Addr) (p : D → Bool) : Prop where
  ex : ∃ k' fd px, k' ≤ k ∧ FnOk P w K mg base CX0 k' g fd [px] (spP p) ∧ PySem.W.keepIn K (.ref g) = true ∧ Binds K fd [px] []
section
variable {P : Program} {w : World} {K : PySem.W.Frag} {mg : Str → Option Value} {base : Heap}
theorem Tl.mono {k k' : Nat} {g : Addr} {p : D → Bool} (h : Tl P w K mg base k g p) (hk : k ≤ k') : Tl P w K mg base k' g p := let ⟨j, fd, px, a, b⟩ := h.ex; ⟨j, fd, px, Nat.le_trans a hk, b⟩
/-- tellers and what they tell -/
inductive Tls (P : Program) (w : World) (K : PySem.W.Frag) (mg : Str → Option Value) (base : Heap) (k : Nat) : List V → List (D → Bool) → Prop
  | nil : Tls P w K mg base k [] []
  | cons {g : Addr} {p : D → Bool} {gs : List V} {ps : List (D → Bool)} (h : Tl P w K mg base k g p) (t : Tls P w K mg base k gs ps) : Tls P w K mg base k (.ref g :: gs) (p :: ps)
theorem Tls.length {k : Nat} : ∀ {gs ps}, Tls P w K mg base k gs ps → gs.length = ps.length
  | _, _, .nil => rfl
  | _, _, .cons _ t => by simp [Tls.length t]
theorem Tls.get {k : Nat} : ∀ {gs ps} {i : Nat} {v : V}, Tls P w K mg base k gs ps → gs[i]? = some v → ∃ g p, v = .ref g ∧ ps[i]? = some p ∧ Tl P w K mg base k g p
  | _, _, _, _, .nil, e => by simp at e
  | _, _, 0, _, .cons h _, e => by simp at e; subst e; exact ⟨_, _, rfl, rfl, h⟩
  | _, _, i + 1, v, .cons _ t, e => by
    obtain ⟨g, p, a, b, c⟩ := Tls.get (i := i) (v := v) t (by simpa using e)
    exact ⟨g, p, a, by simpa using b, c⟩
theorem Tls.mono {k k' : Nat} (hk : k ≤ k') : ∀ {gs ps}, Tls P w K mg base k gs ps → Tls P w K mg base k' gs ps
  | _, _, .nil => .nil
  | _, _, .cons h t => .cons (h.mono hk) (Tls.mono hk t)

/-! ### a table of tellers by words -/
inductive Tbl (P : Program) (w : World) (K : PySem.W.Frag) (mg : Str → Option Value) (base : Heap) (k : Nat) : List DictEntry → List (Str × List (D → Bool)) → Prop
  | nil : Tbl P w K mg base k [] []
  | cons {x : Str} {tk : Tok} {t : Addr} {gs : List V} {ps : List (D → Bool)} {es : List DictEntry} {tb : List (Str × List (D → Bool))} (hs : ∀ H : Hp, SqT K H t gs) (ht : Tls P w K mg base k gs ps) (r : Tbl P w K mg base k es tb) :
      Tbl P w K mg base k (⟨PyData.keyHash w.params x, .str x tk, .ref t⟩ :: es) ((x, ps) :: tb)
theorem Tbl.keys {k : Nat} : ∀ {es tb}, Tbl P w K mg base k es tb → PySem.W.KeysLit w.params es
  | _, _, .nil => trivial
  | _, _, .cons _ _ r => ⟨⟨_, _, rfl, rfl⟩, Tbl.keys r⟩
theorem Tbl.find {k : Nat} {x : Str} : ∀ {es tb}, Tbl P w K mg base k es tb → ∃ v, RelV v (((es.find? fun e => Value.isStrOf x e.key).map (·.val)).getD .none) ∧
    ((tb.lookup x = none ∧ v = .non) ∨ ∃ ps t gs, tb.lookup x = some ps ∧ v = .ref t ∧ (∀ H : Hp, SqT K H t gs) ∧ Tls P w K mg base k gs ps)
  | _, _, .nil => ⟨.non, rfl, .inl ⟨rfl, rfl⟩⟩
  | _, _, @Tbl.cons _ _ _ _ _ _ y tk t gs ps es tb hs ht r => by
    rw [List.find?_cons, List.lookup_cons]
    have e : Value.isStrOf x (Value.str y tk) = (x == y) := by
      show (y == x) = (x == y)
      rw [Bool.eq_iff_iff, beq_iff_eq, beq_iff_eq]
      exact eq_comm
    dsimp only
    rw [e]
    cases hx : x == y with
    | true => exact ⟨.ref t, rfl, .inr ⟨ps, t, gs, rfl, rfl, hs, ht⟩⟩
    | false => exact Tbl.find r
end
end Kp
set_option Elab.async false
set_option linter.all false
set_option maxRecDepth 100000
set_option maxHeartbeats 4000000
namespace Kp
open PySem

/-! ### tuples by tellers, things by their first word -/
/-! ### the law's -/
def one (p : D → Bool) : List D → Bool
  | [a] => p a
  | _ => false
def two (p q : D → Bool) : List D → Bool
  | [a, b] => p a && q b
  | _ => false
end Kp
set_option Elab.async false
set_option linter.all false
set_option maxRecDepth 100000
set_option maxHeartbeats 4000000
namespace K1
open PySem L2 Kp
def top (i : Nat) : Stmt := PySem.Challenge.pw_keeplog_k33_packs.main.body.getD i (.Pass ⟨0, 0, 0, 0⟩)
abbrev s_end_of : Stmt := top 8
abbrev s_entry_at : Stmt := top 9
abbrev s_term_at : Stmt := top 10
abbrev s_behind : Stmt := top 11
abbrev s_holds_seats : Stmt := top 13
abbrev s_seats_of : Stmt := top 14
abbrev s_fresh : Stmt := top 16
abbrev s_part_of : Stmt := top 17
abbrev s_with_part : Stmt := top 18
abbrev s_number_at : Stmt := top 19
abbrev s_value_of : Stmt := top 20
abbrev s_with_value : Stmt := top 21
abbrev s_done : Stmt := top 22
abbrev s_number_of : Stmt := top 23
abbrev s_applied : Stmt := top 24
abbrev s_replayed : Stmt := top 25
abbrev s_first_pack : Stmt := top 27
abbrev s_pack_at : Stmt := top 28
abbrev sCell : Stmt := top 30
abbrev sMixed : Stmt := top 31
abbrev s__law_alike_by : Stmt := top 32
abbrev sNameBy : Stmt := top 33
abbrev s__law_caller_by : Stmt := top 34
abbrev s__law_value_by : Stmt := top 35
abbrev s__law_deed_by : Stmt := top 36
abbrev sSeatsBy : Stmt := top 37
abbrev s__law_what_by : Stmt := top 38
abbrev s__law_many_by : Stmt := top 39
abbrev s__law_store_by : Stmt := top 40
abbrev s__law_value : Stmt := top 41
abbrev s__law_stand : Stmt := top 42
abbrev s__law_with : Stmt := top 43
abbrev s__law_done : Stmt := top 44
abbrev s__law_applied : Stmt := top 45
abbrev s__law_replayed : Stmt := top 46
abbrev s__law_whole : Stmt := top 47
abbrev s__law_rows : Stmt := top 48
abbrev s__law_same : Stmt := top 49
abbrev s__law_row_by : Stmt := top 50
abbrev s__law_is_pack : Stmt := top 51
abbrev s__law_due : Stmt := top 52
abbrev s__law_told : Stmt := top 53
abbrev sLaw : Stmt := top 54
end K1
set_option Elab.async false
set_option linter.all false
set_option maxRecDepth 100000
namespace Kp
open PySem L2
theorem tiny {n : Nat} (h : n ≤ 1000) : n ≤ sizeLine := by rw [sizeLine_eq]; omega
section
variable {X : Cx} {es l : List Expr} {te : TE} {t u : TA} {p p' pos : Pos} {j : Nat}
theorem qa_n {x : Str} (ha : PE X (.Name x p) te) (r : QA X es t) : QA X (.Name x p :: es) (tCons te t) := ⟨pa_n ha r.h⟩
theorem qa_k {f : Expr} {as : List Expr} {ks : List Keyword} (ha : PE X (.Call f as ks p) te) (r : QA X es t) : QA X (.Call f as ks p :: es) (tCons te t) := ⟨pa_k ha r.h⟩
theorem qa_s {a b : Expr} (ha : PE X (.Subscript a b p) te) (r : QA X es t) : QA X (.Subscript a b p :: es) (tCons te t) := ⟨pa_s ha r.h⟩
theorem qa_b {o : Operator} {a b : Expr} (ha : PE X (.BinOp a o b p) te) (r : QA X es t) : QA X (.BinOp a o b p :: es) (tCons te t) := ⟨pa_b ha r.h⟩
theorem qx_tup (a : QA X es t) : QE X (.Tuple es j p) (tTup t) := ⟨pe_tup a.h⟩
theorem qx_ix {a b : Expr} {ta tb : TE} {r : R2} (hx : IxR X r) (ha : QE X a ta) (hb : PE X b tb) (px : PlainIx b) : QE X (.Subscript a b pos) (tOp r ta tb) := ⟨pe_ix hx ha.h hb px⟩
end
end Kp
set_option Elab.async false
set_option linter.all false
set_option maxRecDepth 100000
set_option maxHeartbeats 4000000
namespace Kp
open PySem L2
/-! ### displays of written things, by «things of at most 16 parts» -/
theorem PA.weak {X : Cx} {es : List Expr} {t t' : TA} (h : PA X es t) (w : ∀ σ H Q, t' σ H Q → t σ H Q) : PA X es t' := fun pos pins s σ H Q I q => h pos pins s σ H Q I (w σ H Q q)
def tAnyA (n : Nat) : TA := fun _ H Q => ∀ vs H', ThL 16 H' vs → vs.length = n → Same H H' → Q vs H'
structure DA (X : Cx) (es : List Expr) (n : Nat) : Prop where
  h : PA X es (tAnyA n)
section
variable {X : Cx} {es l : List Expr} {n m : Nat} {p p' : Pos} {j : Nat}
/-- a display of tuples alone -/
def TupV (H : Hp) (v : V) : Prop := ∃ a xs, v = .ref a ∧ H a = some (.tup xs) ∧ xs.length ≤ 16 ∧ ThL 16 H xs
theorem TupV.mono {H H' : Hp} {v : V} (h : TupV H v) (s : Same H H') : TupV H' v := let ⟨a, xs, e, ha, l, t⟩ := h; ⟨a, xs, e, s _ _ ha, l, t.mono (Nat.le_refl _) s⟩
def tTupA (n : Nat) : TA := fun _ H Q => ∀ vs H', (∀ v ∈ vs, TupV H' v) → vs.length = n → Same H H' → Q vs H'
structure DT (X : Cx) (es : List Expr) (n : Nat) : Prop where
  h : PA X es (tTupA n)
end
end Kp
set_option Elab.async false
set_option linter.all false
set_option maxRecDepth 100000
namespace Kp
open PySem L2
section
variable {es l : List Expr} {te : TE} {t u : TA} {p p' pos : Pos} {j : Nat}
/- written with @ and holes for the rest: what is under them is built first, and met with the goal at the end -/
theorem pss_q {X : Cx} {st : Stmt} {rest : List Stmt} {t u : TS} (h1 : QS X st t) (h2 : PSs X rest u) : PSs X (st :: rest) (tSeq t u) := pss_cons h1.h h2
theorem pss_p {X : Cx} {st : Stmt} {rest : List Stmt} {t u : TS} (h1 : PS X st t) (h2 : PSs X rest u) : PSs X (st :: rest) (tSeq t u) := pss_cons h1 h2
theorem pss_o {X : Cx} {st : Stmt} {t : TS} (h1 : PS X st t) : PSs X [st] t := pss_one h1
end
end Kp
set_option Elab.async false
set_option linter.all false
set_option maxRecDepth 100000
set_option maxHeartbeats 4000000
namespace L2
open PySem PySem.Spec PyProof.Rows
/-! ### for k, x in enumerate(list) -/
/-! ### sorted(list of texts), list.count(text) -/
section
variable {X : Cx}
theorem strs_back : ∀ {xs : List Str} {us : List Value}, StrsAre us xs → Vals (xs.map V.str) us
  | [], _, h => by cases h; exact .nil
  | x :: xs, _, h => by
    cases h with
    | cons _ _ t => exact .cons ⟨_, rfl⟩ (strs_back t)
end
end L2
set_option Elab.async false
set_option linter.all false
set_option maxRecDepth 100000
set_option maxHeartbeats 4000000
namespace Kp
open PySem

/-! ### rows by the alphabet -/
/-! ### the law's -/
end Kp
set_option Elab.async false
set_option linter.all false
set_option maxRecDepth 100000
set_option maxHeartbeats 4000000
namespace Kp
open PySem L2
/-! ### a comprehension whose items are known by a property only -/
/-- tuples stay -/
def SameT (H H' : Hp) : Prop := ∀ b xs, H b = some (.tup xs) → H' b = some (.tup xs)
theorem comp_ex {J : It} {H1 : Hp} {n k : Nat} {frs : St} {g : TG} {tt : TT} {te : TE} {Q : VK} (R : Hp → V → Prop) (mono : ∀ H H' v, SameT H H' → R H v → R H' v) (hn : n < sizeLine)
    (go : ∀ i H, i < n → Same H1 H → J.go i H) (stop : ∀ H, Same H1 H → J.stop n H)
    (turn : ∀ i H t x H2 (S : St → Hp → Option V → Prop), i < n → Same H1 H → t.length = k → J.yld i H x H2 →
      (∀ t' H' v, t'.length = k → Same H H' → R H' v → S (t' ++ frs) H' (some v)) → (∀ t' H', t'.length = k → Same H H' → S (t' ++ frs) H' none) →
      g x (t ++ frs) H2 fun σ3 H3 => tt σ3 H3 fun b H4 => if b = true then te σ3 H4 fun v H5 => S σ3 H5 (some v) else S σ3 H4 none)
    (hq : ∀ D H' ys, Same H1 H' → H1 D = none → H' D = some (.lst ys) → ys.length ≤ n → (∀ v ∈ ys, R H' v) → Q (.ref D) H') : CompGo (List.replicate k none ++ frs) g tt te Q J H1 := by
  intro D hD
  refine ⟨fun i m ys σ H => i ≤ n ∧ m = n - i ∧ ys.length ≤ i ∧ (∀ v ∈ ys, R H v) ∧ Same H1 H ∧ ∃ t, t.length = k ∧ σ = t ++ frs, ⟨n, Nat.zero_le _, rfl, Nat.le_refl _, fun v hv => (List.not_mem_nil hv).elim, same_upd hD, _, by simp, rfl⟩, ?_⟩
  rintro i m ys σ H ⟨hi, rfl, hl, hR, s1, t, ht, rfl⟩ hd
  by_cases hlt : i < n
  · right
    refine ⟨go i H hlt s1, by omega, fun x H2 y => ?_⟩
    have keep : ∀ (H5 : Hp) (zs : List V), H5 D = some (.lst ys) → SameT H5 (upd H5 D (.lst zs)) := fun H5 zs h5 b xs e => by
      rw [upd_ne (fun q => by rw [q, h5] at e; cases e)]; exact e
    have tup : ∀ {H H' : Hp}, Same H H' → SameT H H' := fun s b xs e => s _ _ e
    refine turn i H t x H2 (fun σ3 H5 r => match r with
      | some v => H5 D = some (.lst ys) ∧ ∃ m', m' < n - i ∧ (i + 1 ≤ n ∧ m' = n - (i + 1) ∧ (ys ++ [v]).length ≤ i + 1 ∧ (∀ u ∈ ys ++ [v], R (upd H5 D (.lst (ys ++ [v]))) u) ∧ Same H1 (upd H5 D (.lst (ys ++ [v]))) ∧ ∃ t, t.length = k ∧ σ3 = t ++ frs)
      | none => H5 D = some (.lst ys) ∧ ∃ m', m' < n - i ∧ (i + 1 ≤ n ∧ m' = n - (i + 1) ∧ ys.length ≤ i + 1 ∧ (∀ u ∈ ys, R H5 u) ∧ Same H1 H5 ∧ ∃ t, t.length = k ∧ σ3 = t ++ frs)) hlt s1 ht y ?_ ?_
    · intro t' H' v ht' s2 rv
      have h5 := s2 _ _ hd
      refine ⟨h5, n - (i + 1), by omega, by omega, rfl, by rw [List.length_append]; show ys.length + 1 ≤ _; omega, fun u hu => ?_, fun b o e => ?_, t', ht', rfl⟩
      · rcases List.mem_append.mp hu with z | z
        · exact mono _ _ _ (keep H' _ h5) (mono _ _ _ (tup s2) (hR u z))
        · rw [List.mem_singleton.mp z]
          exact mono _ _ _ (keep H' _ h5) rv
      · rw [upd_ne (ne_of_none e hD)]; exact s2 _ _ (s1 _ _ e)
    · intro t' H' ht' s2
      exact ⟨s2 _ _ hd, n - (i + 1), by omega, by omega, rfl, by omega, fun u hu => mono _ _ _ (tup s2) (hR u hu), s1.trans s2, t', ht', rfl⟩
  · have e : i = n := by omega
    subst e
    exact .inl ⟨stop H s1, hq D H ys s1 hD hd hl hR⟩
/-- a short text -/
def ShortS (_ : Hp) (v : V) : Prop := ∃ x : Str, v = .str x ∧ x.length ≤ 16
theorem ShortS.list {H : Hp} : ∀ {ys : List V}, (∀ v ∈ ys, ShortS H v) → ∃ ws : List Str, ys = ws.map V.str ∧ ∀ x ∈ ws, x.length ≤ 16
  | [], _ => ⟨[], rfl, fun x hx => (List.not_mem_nil hx).elim⟩
  | y :: ys, h => by
    obtain ⟨x, rfl, hx⟩ := h y List.mem_cons_self
    obtain ⟨ws, rfl, hw⟩ := ShortS.list (fun v hv => h v (List.mem_cons_of_mem _ hv))
    exact ⟨x :: ws, rfl, fun z hz => by
      rcases List.mem_cons.mp hz with rfl | hz
      · exact hx
      · exact hw z hz⟩
theorem one_slot {t : St} (h : t.length = 1) : ∃ t0, t = [t0] := by
  match t, h with
  | [t0], _ => exact ⟨t0, rfl⟩
theorem two_slots {t : St} (h : t.length = 2) : ∃ t0 t1, t = [t0, t1] := by
  match t, h with
  | [t0, t1], _ => exact ⟨t0, t1, rfl⟩
end Kp
set_option Elab.async false
set_option linter.all false
set_option maxRecDepth 100000
set_option maxHeartbeats 4000000
namespace L2
open PySem PySem.Spec PyProof.Rows
/-! ### lists of pairs as tables -/
section
variable {κ : Type} [DecidableEq κ]
def valV (kvs : List (κ × V)) (k : κ) : Option V := (kvs.find? fun kv => decide (kv.1 = k)).map (·.2)
/-- in its place, or at the end -/
def putK (kvs : List (κ × V)) (k : κ) (v : V) : List (κ × V) :=
  if (kvs.any fun kv => decide (kv.1 = k)) = true then kvs.map (fun kv => if kv.1 = k then (kv.1, v) else kv) else kvs ++ [(k, v)]
def dropK (kvs : List (κ × V)) (k : κ) : List (κ × V) := kvs.filter fun kv => decide (kv.1 ≠ k)

theorem valV_pos {p : κ × V} {r : List (κ × V)} {k : κ} (e : p.1 = k) : valV (p :: r) k = some p.2 := by simp [valV, List.find?_cons, e]
theorem valV_neg {p : κ × V} {r : List (κ × V)} {k : κ} (e : ¬ p.1 = k) : valV (p :: r) k = valV r k := by simp [valV, List.find?_cons, e]
theorem valV_any (k : κ) : ∀ kvs : List (κ × V), (kvs.any fun kv => decide (kv.1 = k)) = (valV kvs k).isSome
  | [] => rfl
  | p :: r => by
    rw [List.any_cons]
    by_cases e : p.1 = k
    · simp only [valV_pos e, decide_eq_true e, Bool.true_or, Option.isSome_some]
    · rw [valV_neg e, decide_eq_false e, Bool.false_or]; exact valV_any k r
theorem length_putK (kvs : List (κ × V)) (k : κ) (v : V) : (putK kvs k v).length ≤ kvs.length + 1 := by
  unfold putK
  split
  · rw [List.length_map]; omega
  · rw [List.length_append, List.length_cons, List.length_nil]; omega
theorem RelO.isSome_eq {o : Option V} {u : Option Value} (r : RelO o u) : o.isSome = u.isSome := by
  cases o with
  | none => cases u with
    | none => rfl
    | some _ => exact (show False from r).elim
  | some _ => cases u with
    | none => exact (show False from r).elim
    | some _ => rfl
theorem RelO.getD {o : Option V} {u : Option Value} {d : V} {d' : Value} (r : RelO o u) (rd : RelV d d') : RelV (o.getD d) (u.getD d') := by
  cases o with
  | none => cases u with
    | none => exact rd
    | some _ => exact (show False from r).elim
  | some _ => cases u with
    | none => exact (show False from r).elim
    | some _ => exact r

/-- raw tables of the same keys -/
theorem KV.val {kvs : List (κ × V)} {vs : List (κ × Value)} (r : KV kvs vs) (k : κ) : RelO (valV kvs k) (valueAt vs k) := by
  unfold KV at r
  induction r with
  | nil => exact True.intro
  | @cons p q ps qs h t ih =>
    obtain ⟨h1, h2⟩ := h
    by_cases e : p.1 = k
    · have e' : q.1 = k := h1.symm.trans e
      have b : valueAt (q :: qs) k = some q.2 := by simp [valueAt, List.find?_cons, e']
      rw [valV_pos e, b]; exact h2
    · have e' : ¬ q.1 = k := fun z => e (h1.trans z)
      have b : valueAt (q :: qs) k = valueAt qs k := by simp [valueAt, List.find?_cons, e']
      rw [valV_neg e, b]; exact ih
theorem KV.any {kvs : List (κ × V)} {vs : List (κ × Value)} (r : KV kvs vs) (k : κ) : (kvs.any fun kv => decide (kv.1 = k)) = vs.any fun kv => decide (kv.1 = k) := by
  unfold KV at r
  induction r with
  | nil => rfl
  | cons h t ih => rw [List.any_cons, List.any_cons, ih, h.1]
theorem KV.repl {kvs : List (κ × V)} {vs : List (κ × Value)} (r : KV kvs vs) (k : κ) {y : V} {u : Value} (ry : RelV y u) :
    KV (kvs.map fun kv => if kv.1 = k then (kv.1, y) else kv) (vs.map fun kv => if kv.1 = k then (kv.1, u) else kv) := by
  unfold KV at r ⊢
  induction r with
  | nil => exact .nil
  | @cons p q ps qs h t ih =>
    rw [List.map_cons, List.map_cons]
    refine .cons ?_ ih
    obtain ⟨h1, h2⟩ := h
    by_cases e : p.1 = k
    · rw [if_pos e, if_pos (h1.symm.trans e)]; exact ⟨h1, ry⟩
    · rw [if_neg e, if_neg (fun z => e (h1.trans z))]; exact ⟨h1, h2⟩
theorem KV.put {kvs : List (κ × V)} {vs : List (κ × Value)} (r : KV kvs vs) (k : κ) {y : V} {u : Value} (ry : RelV y u) : KV (putK kvs k y) (stored vs k u) := by
  unfold putK stored
  rw [r.any k]
  by_cases e : (vs.any fun kv => decide (kv.1 = k)) = true
  · rw [if_pos e, if_pos e]; exact r.repl k ry
  · rw [if_neg e, if_neg e]; exact Paired.snoc r ⟨rfl, ry⟩
theorem KV.drop {kvs : List (κ × V)} {vs : List (κ × Value)} (r : KV kvs vs) (k : κ) : KV (dropK kvs k) (without vs k) := by
  unfold KV at r ⊢
  unfold dropK without
  induction r with
  | nil => exact .nil
  | @cons p q ps qs h t ih =>
    obtain ⟨h1, h2⟩ := h
    rw [List.filter_cons, List.filter_cons]
    by_cases e : p.1 = k
    · have a : ¬ decide (p.1 ≠ k) = true := by simp [e]
      have b : ¬ decide (q.1 ≠ k) = true := by simp [h1.symm.trans e]
      rw [if_neg a, if_neg b]; exact ih
    · have e' : ¬ q.1 = k := fun z => e (h1.trans z)
      have a : decide (p.1 ≠ k) = true := by simp [e]
      have b : decide (q.1 ≠ k) = true := by simp [e']
      rw [if_pos a, if_pos b]; exact .cons ⟨h1, h2⟩ ih
theorem KV.keys {kvs : List (κ × V)} {vs : List (κ × Value)} (r : KV kvs vs) : kvs.map (·.1) = vs.map (·.1) := by
  unfold KV at r
  induction r with
  | nil => rfl
  | cons h t ih => rw [List.map_cons, List.map_cons, ih, h.1]
theorem KV.length {kvs : List (κ × V)} {vs : List (κ × Value)} (r : KV kvs vs) : kvs.length = vs.length := Paired.length r
end


/-! ### a tracked dict, its keys ints and texts or tuples of these -/
theorem kV_is {P : Program} {w : World} {k : Key} {u : Value} (r : RelV (kV k) u) : (mixKind P w).is k u = true := by
  cases k with
  | inl i => obtain ⟨t, e⟩ := (show ∃ t, u = Value.int i t from r); subst e; exact mixKind_int P w i t
  | inr x => obtain ⟨t, e⟩ := (show ∃ t, u = Value.str x t from r); subst e; exact mixKind_str P w x t
theorem items_are {P : Program} {w : World} : ∀ {ks : List Key} {us : List Value}, Vals (ks.map kV) us → ItemsAre (mixKind P w) ks us
  | [], _, r => by rw [List.map_nil] at r; cases r; exact .nil
  | k :: ks, _, r => by
    rw [List.map_cons] at r
    cases r with
    | cons h t => exact .cons (kV_is h) (items_are t)

/-- raw entries of a dict with tuple keys -/
abbrev KT (H : Hp) : List (List Key × V) → List (List Key × Addr × Value) → Prop := Paired fun p q => p.1 = q.1 ∧ H q.2.1 = some (.tup (p.1.map kV)) ∧ RelV p.2 q.2.2
theorem KT.val {H : Hp} {kvs : List (List Key × V)} {xs : List (List Key × Addr × Value)} (r : KT H kvs xs) (k : List Key) : RelO (valV kvs k) ((atKey xs k).map (·.2)) := by
  induction r with
  | nil => exact True.intro
  | @cons p q ps qs h t ih =>
    obtain ⟨h1, _, h2⟩ := h
    by_cases e : p.1 = k
    · have e' : q.1 = k := h1.symm.trans e
      have b : atKey (q :: qs) k = some q.2 := by simp [atKey, List.find?_cons, e']
      rw [valV_pos e, b]; exact h2
    · have e' : ¬ q.1 = k := fun z => e (h1.trans z)
      have b : atKey (q :: qs) k = atKey qs k := by simp [atKey, List.find?_cons, e']
      rw [valV_neg e, b]; exact ih
theorem KT.repl {H : Hp} {kvs : List (List Key × V)} {xs : List (List Key × Addr × Value)} (r : KT H kvs xs) (k : List Key) {y : V} {u : Value} (ry : RelV y u) :
    KT H (kvs.map fun kv => if kv.1 = k then (kv.1, y) else kv) (xs.map (putAt k u)) := by
  induction r with
  | nil => exact .nil
  | @cons p q ps qs h t ih =>
    rw [List.map_cons, List.map_cons]
    refine .cons ?_ ih
    obtain ⟨h1, h2, h3⟩ := h
    unfold putAt
    by_cases e : p.1 = k
    · rw [if_pos e, if_pos (h1.symm.trans e)]; exact ⟨h1, h2, ry⟩
    · rw [if_neg e, if_neg (fun z => e (h1.trans z))]; exact ⟨h1, h2, h3⟩
theorem KT.put {H : Hp} {kvs : List (List Key × V)} {xs : List (List Key × Addr × Value)} (r : KT H kvs xs) (k : List Key) {b : Addr} {y : V} {u : Value} (hb : H b = some (.tup (k.map kV))) (ry : RelV y u) :
    KT H (putK kvs k y) (storedH xs k b u) := by
  have e : (kvs.any fun kv => decide (kv.1 = k)) = (atKey xs k).isSome := by
    rw [valV_any, (r.val k).isSome_eq, Option.isSome_map]
  unfold putK storedH
  rw [e]
  by_cases q : (atKey xs k).isSome = true
  · rw [if_pos q, if_pos q]; exact r.repl k ry
  · rw [if_neg q, if_neg q]; exact Paired.snoc r ⟨rfl, hb, ry⟩
theorem KT.keeps {H H' : Hp} {kvs : List (List Key × V)} {xs : List (List Key × Addr × Value)} (r : KT H kvs xs) (ht : ∀ b ys, H b = some (.tup ys) → H' b = some (.tup ys)) : KT H' kvs xs :=
  Paired.mapP r fun _ _ z => ⟨z.1, ht _ _ z.2.1, z.2.2⟩

section
variable {P : Program} {w : World} {H : Hp} {h : Heap} {a : Addr}
theorem rd_of {u : HO} (ok : HOk P w H h) (e : Rd H a u) : ObjOk P w H h a u := e.ok ok
theorem dk_rd {kvs : List (Key × V)} (ok : HOk P w H h) (e : Rd H a (.dK kvs)) : kvs.length ≤ sizeLine ∧ (a == sysModules) = false ∧ ∃ vs, KV kvs vs ∧ h.DictOf (mixKind P w) a vs :=
  show ObjOk P w H h a (.dK kvs) from rd_of ok e
theorem dk_of {kvs : List (Key × V)} (ok : HOk P w H h) (e : H a = some (.dK kvs)) : kvs.length ≤ sizeLine ∧ (a == sysModules) = false ∧ ∃ vs, KV kvs vs ∧ h.DictOf (mixKind P w) a vs := dk_rd ok (.inl e)
/-- a tracked tuple of ints and texts is a key -/
theorem key_of {ks : List Key} (ok : HOk P w H h) (e : H a = some (.tup (ks.map kV))) : (tupleKind (mixKind P w)).is h ks a := by
  obtain ⟨_, its, r, o, h1, h2, n, h3⟩ := (show ObjOk P w H h a (.tup (ks.map kV)) from ok a _ e)
  exact ⟨o, its.toArray, n, h1, h2, h3, by simpa using items_are r⟩
theorem dt_rd {kvs : List (List Key × V)} (ok : HOk P w H h) (e : Rd H a (.dT kvs)) : kvs.length ≤ sizeLine ∧ (a == sysModules) = false ∧
    ∃ xs, KT H kvs xs ∧ h.DictOfH (tupleKind (mixKind P w)) a xs := by
  obtain ⟨z, y, xs, r, o, es, ep, h1, h2, h3, h4, h5⟩ := (show ObjOk P w H h a (.dT kvs) from rd_of ok e)
  refine ⟨z, y, xs, r, o, es, ep, h1, h2, h3, h4, fun x hx => ?_, h5⟩
  have all : ∀ {l : List (List Key × V)} {m : List (List Key × Addr × Value)}, KT H l m → ∀ x ∈ m, (tupleKind (mixKind P w)).is h x.1 x.2.1 := by
    intro l m q
    induction q with
    | nil => intro x hx; exact nomatch hx
    | @cons p q ps qs hq t ih =>
      intro x hx
      rcases List.mem_cons.mp hx with e | hx
      · subst e
        exact key_of ok (by rw [← hq.1]; exact hq.2.1)
      · exact ih x hx
  exact all r x hx
theorem dt_of {kvs : List (List Key × V)} (ok : HOk P w H h) (e : H a = some (.dT kvs)) : kvs.length ≤ sizeLine ∧ (a == sysModules) = false ∧
    ∃ xs, KT H kvs xs ∧ h.DictOfH (tupleKind (mixKind P w)) a xs := dt_rd ok (.inl e)
end

/-- what the dict at a holds at the key y -/
def DGet (H : Hp) (a : Addr) (y : V) (r : Option V) : Prop :=
  (∃ kvs k, Rd H a (.dK kvs) ∧ y = kV k ∧ r = valV kvs k) ∨ ∃ kvs k b, Rd H a (.dT kvs) ∧ y = .ref b ∧ H b = some (.tup (k.map kV)) ∧ r = valV kvs k
/-- the heap behind a[y] = v -/
def DPut (H : Hp) (a : Addr) (y v : V) (H' : Hp) : Prop :=
  (∃ kvs k, H a = some (.dK kvs) ∧ y = kV k ∧ kvs.length < sizeLine ∧ H' = upd H a (.dK (putK kvs k v))) ∨
  ∃ kvs k b, H a = some (.dT kvs) ∧ y = .ref b ∧ H b = some (.tup (k.map kV)) ∧ kvs.length < sizeLine ∧ H' = upd H a (.dT (putK kvs k v))
theorem DGet.k {H : Hp} {a : Addr} {kvs : List (Key × V)} {k : Key} (e : H a = some (.dK kvs)) : DGet H a (kV k) (valV kvs k) := .inl ⟨kvs, k, .inl e, rfl, rfl⟩
theorem DGet.t {H : Hp} {a b : Addr} {kvs : List (List Key × V)} {k : List Key} (e : H a = some (.dT kvs)) (eb : H b = some (.tup (k.map kV))) : DGet H a (.ref b) (valV kvs k) := .inr ⟨kvs, k, b, .inl e, rfl, eb, rfl⟩
theorem DPut.k {H : Hp} {a : Addr} {kvs : List (Key × V)} {k : Key} {v : V} (e : H a = some (.dK kvs)) (hl : kvs.length < sizeLine) : DPut H a (kV k) v (upd H a (.dK (putK kvs k v))) := .inl ⟨kvs, k, e, rfl, hl, rfl⟩
theorem DPut.t {H : Hp} {a b : Addr} {kvs : List (List Key × V)} {k : List Key} {v : V} (e : H a = some (.dT kvs)) (eb : H b = some (.tup (k.map kV))) (hl : kvs.length < sizeLine) :
    DPut H a (.ref b) v (upd H a (.dT (putK kvs k v))) := .inr ⟨kvs, k, b, e, rfl, eb, hl, rfl⟩


section
variable {X : Cx} {pins : List (Addr × Obj)} {σ : St} {H : Hp} {s : Shared} {a : Addr} {y v : V} {u r : Value} {o : Option V} {A : Around} {E : Value → Shared → Prop}

theorem Inv.big (I : Inv X pins σ H s) : sysModules < s.heap.objs.size := by
  have h : mainGlobals < s.heap.objs.size := (I.mod.glob.keeps I.bk).lt
  exact Nat.lt_trans (by decide) h

/-- d[y], there -/
theorem d_getItem {Q : Value → Shared → Prop} (hu : A.units + 1 < cLine) (I : Inv X pins σ H s) (g : DGet H a y (some v)) (ry : RelV y u) (h : ∀ w' s', Inv X pins σ H s' → RelV v w' → Q w' s') :
    wpAny (model X.prog X.w) A (getItem (.ref a) u) Q E s := by
  rcases g with ⟨kvs, k, e, ey, l⟩ | ⟨kvs, k, b, e, ey, eb, l⟩
  · subst ey
    obtain ⟨z, hd, vs, rel, dd⟩ := dk_rd I.hok e
    obtain ⟨w', hw, rw'⟩ := RelO.some_of (v := v) (o := valueAt vs k) (by rw [l]; exact rel.val k)
    exact wpAny_getItem_of (kV_is ry) dd.mapOf hw (h w' _ (I.tok _) rw')
  · subst ey
    cases (show u = Value.ref b from ry)
    obtain ⟨z, hd, xs, rel, dd⟩ := dt_rd I.hok e
    obtain ⟨w', hw, rw'⟩ := RelO.some_of (v := v) (o := (atKey xs k).map (·.2)) (by rw [l]; exact rel.val k)
    obtain ⟨p, hp, hp2⟩ := Option.map_eq_some_iff.mp hw
    refine wpAny_getItem_heap (tupleKind_room_in1 hu) (key_of I.hok eb) dd hp ?_
    rw [hp2]
    exact h w' _ (I.tok _) rw'
/-- a dict's object is replaced -/
theorem d_write {h' : Heap} {t' : Nat} {ob : HO} (I : Inv X pins σ H s) (mu : Mut (H a)) (hs : Heap.SameBut a s.heap h') (he : ∃ q, h'.get? a = some q) (new : ObjOk X.prog X.w (upd H a ob) h' a ob) :
    Inv X pins σ (upd H a ob) { s with heap := h', toks := t' } :=
  I.write (x := a) (e := a) mu (.inl rfl) (fun b q hb z => (hs.2 b hb).trans z) he new
theorem dk_new {P : Program} {w : World} {H' : Hp} {h' : Heap} {kvs : List (Key × V)} {vs : List (Key × Value)} (z : kvs.length ≤ sizeLine) (hd : (a == sysModules) = false) (rel : KV kvs vs) (dd : h'.DictOf (mixKind P w) a vs) :
    ObjOk P w H' h' a (.dK kvs) := ⟨z, hd, vs, rel, dd⟩
/-- d[y] = v -/
theorem d_setItem {H' : Hp} {Q : Unit → Shared → Prop} (hu : A.units + 1 < cLine) (I : Inv X pins σ H s) (g : DPut H a y v H') (ry : RelV y u) (rv : RelV v r) (h : ∀ s', Inv X pins σ H' s' → Q () s') :
    wpAny (model X.prog X.w) A (setItem (.ref a) u r) Q E s := by
  rcases g with ⟨kvs, k, e, ey, l, eH⟩ | ⟨kvs, k, b, e, ey, eb, l, eH⟩
  · subst ey eH
    obtain ⟨z, hd, vs, rel, dd⟩ := dk_of I.hok e
    have hz : vs.length ≤ sizeLine := by rw [← rel.length]; exact z
    have hl : (putK kvs k v).length ≤ sizeLine := by have := length_putK kvs k v; omega
    refine wpAny_setItem_pairs (hsz := hz) (kV_is ry) dd fun h' dd' hs => h _ ?_
    have he : ∃ q, h'.get? a = some q := let ⟨q, _, _, hq, _⟩ := dd'; ⟨q, hq⟩
    exact d_write I (by rw [e]; exact True.intro) hs he (dk_new hl hd (rel.put k rv) dd')
  · subst ey eH
    cases (show u = Value.ref b from ry)
    obtain ⟨z, hd, xs, rel, dd⟩ := dt_of I.hok e
    have hz : xs.length ≤ sizeLine := by rw [← Paired.length rel]; exact z
    have hl : (putK kvs k v).length ≤ sizeLine := by have := length_putK kvs k v; omega
    refine wpAny_setItem_heap (hsz := hz) (tupleKind_room_in1 hu) (key_of I.hok eb) dd fun h' dd' hs => h _ ?_
    obtain ⟨q, es, ep, hq, h2, h3, h4, _, h5⟩ := dd'
    refine d_write I (by rw [e]; exact True.intro) hs ⟨q, hq⟩ ⟨hl, hd, _, (rel.put k eb rv).keeps fun c ys ec => ?_, q, es, ep, hq, h2, h3, h4, h5⟩
    rw [upd_ne (ne_of ec e (fun z => nomatch z))]
    exact ec
end

section
variable {X : Cx} {pins : List (Addr × Obj)} {σ : St} {H : Hp} {s : Shared} {a : Addr} {kvs : List (Key × V)} {k : Key} {u : Value} {A : Around} {E : Value → Shared → Prop}
end


/-! ### readings and rules -/
/-- the element of a subscription, not a slice -/
def NoSl (i : Expr) : Prop := ∀ ov iv, subscripted i false ov iv = operate [ov, iv] (getItem ov iv)
theorem subD_of {prog : Program} {w : World} {A : Around} {E : Value → Shared → Prop} {s : Shared} {env : Env} {value slice : Expr} {pos : Pos} {T id : String} {Q : Value → Shared → Prop}
    (hl : typeLookup (.type T) "__getitem__" = pure (some (.builtin id))) (hs : NoSl slice)
    (h : wpAny (model prog w) A (eval value env) (fun o s₁ => wpAny (model prog w) A (eval slice env) (fun i s₂ => s₂.TypeIs o T ∧ wpAny (model prog w) A (getItem o i) Q E s₂) E s₁) E s) :
    wpAny (model prog w) A (eval (.Subscript value slice pos) env) Q E s := by
  refine Subscript_ (wpAny_mono h (fun o s₁ h₁ => wpAny_mono h₁ (fun i s₂ h₂ => ?_) fun _ _ x => x) fun _ _ x => x)
  obtain ⟨hT, h₂⟩ := h₂
  unfold subscriptTail
  refine wpAny_bind ?_
  rw [getitemInPython_of_ne hT.not_modules]
  refine wpAny_bind (wpAny_specialOf hT hl ?_)
  have fin : wpAny (model prog w) A (subscripted slice false o i) (fun r s₃ => wpAny (model prog w) A (letTemporaryGo value o r >>= fun _ => pure r) Q E s₃) E s₂ := by
    rw [hs o i]
    exact wpAny_operating (wpAny_mono h₂ (fun r s₃ h₃ => wpAny_bind (wpAny_letTemporaryGo (wpAny_pure h₃))) fun _ _ x => x)
  first
    | exact wpAny_pure (wpAny_bind fin)
    | exact wpAny_bind (wpAny_pure (wpAny_bind fin))
    | exact wpAny_bind fin

theorem dict_typeIs {X : Cx} {pins : List (Addr × Obj)} {σ : St} {H : Hp} {s : Shared} {a : Addr} {y : V} {o : Option V} (I : Inv X pins σ H s) (g : DGet H a y o) : s.TypeIs (.ref a) "dict" := by
  rcases g with ⟨kvs, k, e, _, _⟩ | ⟨kvs, k, b, e, _, _, _⟩
  · obtain ⟨_, _, vs, _, dd⟩ := dk_rd I.hok e
    exact dd.typeIs
  · obtain ⟨_, _, xs, _, dd⟩ := dt_rd I.hok e
    exact dd.typeIs
/-- d[y] -/
def tDGet (td ty : TE) : TE := fun σ H Q => td σ H fun x H1 => ty σ H1 fun y H2 => ∃ a v, x = .ref a ∧ DGet H2 a y (some v) ∧ Q v H2
/-- d[y] = v -/
def sDPut (td ty tv : TE) : TS := fun D σ H => tv σ H fun v H1 => td σ H1 fun x H2 => ty σ H2 fun y H3 => ∃ a H4, x = .ref a ∧ DPut H3 a y v H4 ∧ D.nx σ H4
section
variable {X : Cx} {o i e value : Expr} {pos pos' tpos : Pos} {td ty tv : TE}
theorem pe_dget (hu : X.A.units + 1 < cLine) (ho : PE X o td) (hi : PE X i ty) (hs : NoSl i) : PE X (.Subscript o i pos) (tDGet td ty) := by
  intro pins s σ H Q I h
  refine subD_of PySem.F.slot_dict_getitem.lookup hs (thn (ho pins s σ H _ I h) fun u s1 ⟨x, H1, I1, rx, q1⟩ => thn (hi pins s1 σ H1 _ I1 q1) fun iv s2 ⟨y, H2, I2, ry, a, v, ex, g, q2⟩ => ?_)
  subst ex
  obtain rfl : u = Value.ref a := rx
  exact ⟨dict_typeIs I2 g, d_getItem hu I2 g ry fun w' s3 I3 rw' => ⟨v, H2, I3, rw', q2⟩⟩
theorem ps_dput (hu : X.A.units + 1 < cLine) (ho : PE X o td) (hi : PE X i ty) (hv : PE X value tv) (hs : swapsWith value (some (.Subscript o i pos')) pos.line X.env = pure false) :
    PS X (.Assign [.Subscript o i pos'] value pos) (sDPut td ty tv) := by
  intro pins s σ H D I h
  refine wpAny_Assign_Subscript (thn (hv pins s σ H _ I h) fun r s1 ⟨v, H1, I1, rv, q1⟩ => thn (ho pins s1 σ H1 _ I1 q1) fun u s2 ⟨x, H2, I2, rx, q2⟩ => thn (hi pins s2 σ H2 _ I2 q2) fun iv s3 ⟨y, H3, I3, ry, a, H4, ex, g, q3⟩ => ?_) hs
  subst ex
  obtain rfl : u = Value.ref a := rx
  exact d_setItem hu I3 g ry rv fun s4 I4 => ⟨σ, H4, I4, q3⟩
end


/-! ### displays -/
theorem dk_empty {P : Program} {w : World} {H : Hp} (h : Heap) (hb : sysModules < h.objs.size) : ObjOk P w H (h.push { cls := .type "dict", data := .dict #[] }) h.objs.size (.dK []) :=
  ⟨Nat.zero_le _, beq_eq_false_iff_ne.mpr (Ne.symm (Nat.ne_of_lt hb)), [], .nil, Heap.DictOf.new h⟩
/-- {}, to be a dict of the kind that is wanted -/
def tDNewK : TE := fun _ H Q => ∀ p, H p = none → Q (.ref p) (upd H p (.dK []))
section
variable {X : Cx} {pos : Pos}
theorem pe_dnewK : PE X (.Dict [] [] pos) tDNewK := fun pins s σ H Q I h =>
  wpAny_Dict_empty ⟨.ref s.heap.objs.size, _, I.laid (a := s.heap.objs.size) (o := .dK []) (t' := s.toks) (fun _ _ q => Heap.get?_push_of_some _ q) (Nat.le_refl _) (dk_empty s.heap I.big), rfl, h _ (I.hok.fresh (Nat.le_refl _))⟩
end

end L2
set_option Elab.async false
set_option linter.all false
set_option maxRecDepth 100000
set_option maxHeartbeats 4000000
namespace Kp
open PySem L2 PySem.Spec PyProof.Rows
end Kp
set_option Elab.async false
set_option linter.all false
set_option maxRecDepth 100000
set_option maxHeartbeats 4000000
namespace Kp
open PySem L2
/-! ### things without lists: they stay while tuples stay -/
mutual
inductive ThN (B : Nat) (H : Hp) : V → Prop
  | non : ThN B H .non
  | bl (b : Bool) : ThN B H (.bl b)
  | int (i : Int) : ThN B H (.int i)
  | str (x : Str) (h : x.length ≤ B) : ThN B H (.str x)
  | tup {a : Addr} {vs : List V} (e : H a = some (.tup vs)) (l : vs.length ≤ B) (r : ThNL B H vs) : ThN B H (.ref a)
inductive ThNL (B : Nat) (H : Hp) : List V → Prop
  | nil : ThNL B H []
  | cons {v : V} {vs : List V} (h : ThN B H v) (t : ThNL B H vs) : ThNL B H (v :: vs)
end
mutual
theorem ThN.sameT {B B' : Nat} {H H' : Hp} (hB : B ≤ B') (s : SameT H H') : ∀ {v}, ThN B H v → ThN B' H' v
  | _, .non => .non
  | _, .bl b => .bl b
  | _, .int i => .int i
  | _, .str x h => .str x (Nat.le_trans h hB)
  | _, .tup e l r => .tup (s _ _ e) (Nat.le_trans l hB) (ThNL.sameT hB s r)
theorem ThNL.sameT {B B' : Nat} {H H' : Hp} (hB : B ≤ B') (s : SameT H H') : ∀ {vs}, ThNL B H vs → ThNL B' H' vs
  | _, .nil => .nil
  | _, .cons h t => .cons (ThN.sameT hB s h) (ThNL.sameT hB s t)
end
mutual
theorem ThN.th {B : Nat} {H : Hp} : ∀ {v}, ThN B H v → Th B H v
  | _, .non => Th.non
  | _, .bl b => Th.bl b
  | _, .int i => Th.int i
  | _, .str x h => Th.str x h
  | _, .tup e l r => Th.tup e l (ThNL.th r)
theorem ThNL.th {B : Nat} {H : Hp} : ∀ {vs}, ThNL B H vs → ThL B H vs
  | _, .nil => ThL.nil
  | _, .cons h t => ThL.cons (ThN.th h) (ThNL.th t)
end
theorem sameT_of {H H' : Hp} (s : Same H H') : SameT H H' := fun b xs e => s _ _ e
theorem ThN.mono {B B' : Nat} {H H' : Hp} {v : V} (h : ThN B H v) (hB : B ≤ B') (s : Same H H') : ThN B' H' v := ThN.sameT hB (sameT_of s) h
theorem ThNL.mono {B B' : Nat} {H H' : Hp} {v : List V} (h : ThNL B H v) (hB : B ≤ B') (s : Same H H') : ThNL B' H' v := ThNL.sameT hB (sameT_of s) h
theorem ThNL.ints {B : Nat} {H : Hp} : ∀ (ns : List Int), ThNL B H (ns.map V.int)
  | [] => .nil
  | n :: r => .cons (.int n) (ThNL.ints r)
theorem ThNL.of {B : Nat} {H : Hp} : ∀ {vs : List V}, (∀ v ∈ vs, ThN B H v) → ThNL B H vs
  | [], _ => .nil
  | v :: vs, h => .cons (h v List.mem_cons_self) (ThNL.of fun u hu => h u (List.mem_cons_of_mem _ hu))
end Kp
set_option Elab.async false
set_option linter.all false
set_option maxRecDepth 100000
set_option maxHeartbeats 4000000
namespace HT
open PySem PySem.Spec PyProof.Rows L2
section
variable {prog : Program} {w : World} {A : Around} {E : Value → Shared → Prop} {s : Shared}
theorem getItem_tuple_whole {t sl : Addr} {items : Array Value} {vl vu : Value} {lo hi : Option Int} {Q : Value → Shared → Prop} (ht : IsTup s.heap t items) (hs : s.heap.IsSliceOf sl vl vu .none) (pl : IsPart vl lo) (pu : IsPart vu hi)
    (hw : sIx items.size 0 lo = 0 ∧ sIx items.size items.size hi = items.size) (h : Q (.ref t) s) : wpAny (model prog w) A (getItem (.ref t) (.ref sl)) Q E s := by
  obtain ⟨os, hos, hcs, hds⟩ := id hs
  have hTs : s.TypeIs (.ref sl) "slice" := ⟨os, hos, hcs⟩
  unfold getItem
  try with_reducible refine wpAny_holding ?_
  first | refine wpAny_bind (wpAny_pure ?_) | skip
  refine wpAny_bind (wpAny_sequenceKey ht.typeIs (by decide) ?_)
  refine wpAny_bind (wpAny_callSpecial?_slot (name := Str.ofString "__getitem__") ht.typeIs PyProof.Rows.slot_tuple_getitem
    (wpAny_call_entry PyProof.Rows.slot_tuple_getitem ht.typeIs entry_tuple_getitem ?_ (args_tuple_getitem _ _)))
  show wpAny _ _ (Builtin.Tuple.tupleItemsOf (.ref t) >>= _) _ _ s
  refine wpAny_bind (tupleItemsOf_ ht ?_)
  refine wpAny_bind (wpAny_typeOf hTs ?_)
  rw [if_pos (by decide)]
  refine wpAny_bind (sliceApplied_gen hs pl pu ?_)
  have hyes : (((sIx items.size 0 lo : Nat) : Int) == 0 && (1 : Int) == 1 && (sIx items.size items.size hi - sIx items.size 0 lo) == items.size) = true := by
    rw [hw.1, hw.2]; simp
  show wpAny _ _ (if (((sIx items.size 0 lo : Nat) : Int) == 0 && (1 : Int) == 1 && (sIx items.size items.size hi - sIx items.size 0 lo) == items.size) = true then _ else _) _ _ s
  rw [if_pos hyes]
  refine wpAny_bind (m := Builtin.Tuple.tupleIsExact _) (wpAny_bind (wpAny_typeOf ht.typeIs (wpAny_pure ?_)))
  rw [if_pos (by decide)]
  refine wpAny_bind (wpAny_rule ?_)
  first
    | exact wpAny_bind (wpAny_pure (wpAny_pure ⟨_, rfl, wpAny_pure h⟩))
    | exact wpAny_pure ⟨_, rfl, wpAny_pure h⟩
    | exact wpAny_bind (wpAny_pure ⟨_, rfl, wpAny_pure h⟩)
end
end HT
namespace L2
open PySem PySem.Spec PyProof.Rows L2
theorem cutV_whole {xs : List V} {lo hi : Option Int} (h1 : HT.sIx xs.length 0 lo = 0) (h2 : HT.sIx xs.length xs.length hi = xs.length) : cutV xs lo hi = xs := by
  unfold cutV; rw [h1, h2]; simp
end L2
set_option Elab.async false
set_option linter.all false
set_option maxRecDepth 100000
set_option maxHeartbeats 4000000
namespace Kp
open PySem L2 PySem.Spec PyProof.Rows
/-! ### the same thing twice: == -/
theorem all_true (n : Nat) : ((List.range n).all fun _ => true) = true := by simp
theorem Vals.at {xs : List V} {us : List Value} (r : Vals xs us) {j : Nat} (h : j < us.toArray.size) : ∃ x, xs[j]? = some x ∧ RelV x us.toArray[j] := by
  have h' : j < us.length := by simpa using h
  have hx : j < xs.length := by rw [r.length]; exact h'
  obtain ⟨u, e, rv⟩ := r.get (i := j) (x := xs[j]) (by simp [hx])
  have e2 : us.toArray[j] = u := by
    have := (List.getElem?_eq_some_iff.mp e).2
    simpa using this
  exact ⟨xs[j], by simp [hx], e2 ▸ rv⟩
end Kp
set_option Elab.async false
set_option linter.all false
set_option maxRecDepth 100000
set_option maxHeartbeats 4000000
namespace K1
open PySem L2 Kp
structure Txt (mg : Str → Option Value) : Prop where
  isi : mg "isinstance" = none
  int : mg "int" = none
  bool : mg "bool" = none
  str : mg "str" = none
  tuple : mg "tuple" = none
  list : mg "list" = none
  all : mg "all" = none
  zip : mg "zip" = none
  len : mg "len" = none
  range : mg "range" = none
  max : mg "max" = none
  min : mg "min" = none
  sorted : mg "sorted" = none
  any : mg "any" = none
  sum : mg "sum" = none
section
variable {P : Program} {w : World} {K : PySem.W.Frag} {mg : Str → Option Value} {base : Heap}
theorem SqT.same {H H' : Hp} {a : Addr} {xs : List V} (h : SqT K H a xs) (s : Same H H') : SqT K H' a xs := by
  rcases h with h | h
  · exact .inl (h.elim (fun e => .inl (s _ _ e)) fun ⟨o, e⟩ => .inr ⟨o, s _ _ e⟩)
  · exact .inr h
theorem SqL.same {H H' : Hp} {a : Addr} {xs : List V} (h : SqL K H a xs) (s : Same H H') : SqL K H' a xs := by
  rcases h with h | h
  · exact .inl (h.elim (fun e => .inl (s _ _ e)) fun ⟨o, e⟩ => .inr ⟨o, s _ _ e⟩)
  · exact .inr h
theorem emod_in (x : Int) {m : Int} (h : 0 < m) : 0 ≤ x % m ∧ x % m < m := ⟨Int.emod_nonneg _ (Int.ne_of_gt h), Int.emod_lt_of_pos _ h⟩
end
end K1
set_option Elab.async false
set_option linter.all false
set_option maxRecDepth 100000
set_option maxHeartbeats 4000000
namespace L2
open PySem PySem.Spec PyProof.Rows
/-! ### rows of ints -/
def isInt (z : Int) : Value → Bool
  | .int i _ => i == z
  | _ => false
end L2
set_option Elab.async false
set_option linter.all false
set_option maxRecDepth 100000
set_option maxHeartbeats 4000000
namespace L2
open PySem PySem.Spec PyProof.Rows
/-! ### a tuple whose methods may be called: it has no dict of its own -/
def TupF (H : Hp) (a : Addr) (ys : List V) : Prop := ∃ o : Obj, H a = some (.frz o (.tup ys)) ∧ o.cls = .type "tuple" ∧ o.dict = none
theorem TupF.sq {K : PySem.W.Frag} {H : Hp} {a : Addr} {ys : List V} (h : TupF H a ys) : SqT K H a ys := by
  obtain ⟨o, e, _⟩ := h
  exact .inl (.inr ⟨o, e⟩)
section
variable {X : Cx}
variable {o e : Expr} {es : List Expr} {to : TE} {t : TA} {name : Str} {apos cpos : Pos} {id : String} {r : V → List V → Hp → VK → Prop}
end
end L2
set_option Elab.async false
set_option linter.all false
set_option maxRecDepth 100000
set_option maxHeartbeats 4000000
namespace L2
open PySem PySem.Spec PyProof.Rows
/-! ### rows of ints: remove, sorted -/
section
variable {X : Cx}
end
end L2
namespace K1
open PySem L2 Kp
theorem PS.weakU {X : Cx} {st : Stmt} {t t' : TS} (h : PS X st t) (w : ∀ D σ H, t' D σ H → t D σ H) : PS X st t' := fun pins s σ H D I q => h pins s σ H D I (w D σ H q)
theorem boot_max : bootBuiltins "max" = some (.builtin "max") := by decide +kernel
theorem max0 (z : Int) : ∃ k : Nat, (if z > 0 then z else 0) = (k : Int) := by
  by_cases h : z > 0
  · rw [if_pos h]; exact ⟨z.toNat, by omega⟩
  · rw [if_neg h]; exact ⟨0, rfl⟩
end K1
set_option Elab.async false
set_option linter.all false
set_option maxRecDepth 100000
set_option maxHeartbeats 4000000
namespace L2
open PySem PySem.Spec PyProof.Rows
/-! ### two tuples of flat things compared -/
section
variable {X : Cx}
end
end L2
namespace K1
open PySem L2 Kp
theorem SqT.same' {K : PySem.W.Frag} {H H' : Hp} {a : Addr} {xs : List V} (h : SqT K H a xs) (s : Same H H') : SqT K H' a xs := by
  rcases h with h | h
  · exact .inl (h.elim (fun e => .inl (s _ _ e)) fun ⟨o, e⟩ => .inr ⟨o, s _ _ e⟩)
  · exact .inr h
theorem SqL.same' {K : PySem.W.Frag} {H H' : Hp} {a : Addr} {xs : List V} (h : SqL K H a xs) (s : Same H H') : SqL K H' a xs := by
  rcases h with h | h
  · exact .inl (h.elim (fun e => .inl (s _ _ e)) fun ⟨o, e⟩ => .inr ⟨o, s _ _ e⟩)
  · exact .inr h
end K1
set_option Elab.async false
set_option linter.all false
set_option maxRecDepth 100000
set_option maxHeartbeats 4000000
namespace K1
open PySem L2 Kp
section
variable {P : Program} {w : World} {K : PySem.W.Frag} {mg : Str → Option Value} {base : Heap}
/-! ### a whole number -/
def spWholeI : Sp := fun vs H Q _ => ∃ z : Int, vs = [.int z] ∧ Q (.bl true) H
theorem scWh : FnScope ["_law_found"] ["_law_found"] (defScope s__law_whole) := ⟨rfl, rfl, rfl, by decide +kernel, rfl, by decide +kernel, by decide +kernel⟩
theorem ok_wholeI {f : Addr} {fd : FuncData} (F : Fun K "_law_whole" "_law_whole" s__law_whole f fd) (T : Txt mg) : FnOk P w K mg base CX0 1 f fd ["_law_found"] spWholeI := by
  refine F.ok scWh (fun vs H Q E ⟨_, e, _⟩ => by subst e; rfl) (fun cdv A outer s H vs Q E hr h => ?_)
  obtain ⟨z, rfl, q⟩ := h
  refine ⟨_, @pss_o _ _ _ (ps_ret (pe_and (pe_callB call_isi (by rfl) T.isi boot_isi (pa_n (pv 0) (pa_n (pe_ty (by rfl) T.int boot_int) pa_nil))) (pe_one (pe_not (pe_callB call_isi (by rfl) T.isi boot_isi (pa_n (pv 0) (pa_n (pe_ty (by rfl) T.bool boot_bool) pa_nil))))))), ?_⟩
  exact ⟨_, rfl, _, _, _, _, rfl, .int _, kit_int K (.int z), _, rfl, iteT ⟨_, rfl, _, _, _, _, rfl, .int _, kit_bool K (.int z), _, rfl, q⟩⟩
end
end K1
set_option Elab.async false
set_option linter.all false
set_option maxRecDepth 100000
set_option maxHeartbeats 4000000
namespace Kp
open PySem L2 PySem.Spec PyProof.Rows
/-! ### a sort of fewer than 64 things whose keys are all unlike, by any kind of comparing -/
abbrev Ord := PyProof.Rows.KeyKind
section
variable {prog : Program} {w : World} {A : Around} {E : Value → Shared → Prop} {s : Shared} {a0 : Array Keyed} {κ : Ord} {kd : SortKind} {st : SortSt}
structure TB (κ : Ord) (kd : SortKind) (a0 : Array Keyed) (st : SortSt) : Prop where
  pm : (arrOf st).Perm a0
  kn : kindOf st = kd
  fl : failedOf st = none
  pe : pendingOf st = #[]
  un : ∀ i j, i < a0.size → j < a0.size → KK κ (arrOf st) i = KK κ (arrOf st) j → i = j
def LtT (prog : Program) (w : World) (A : Around) (s : Shared) (κ : Ord) (kd : SortKind) (a0 : Array Keyed) : Prop :=
  ∀ (E : Value → Shared → Prop) (st : SortSt) (i j : Nat) (Q : Option Bool → SortSt → Prop), TB κ kd a0 st → i < a0.size → j < a0.size → i ≠ j → Q (some (κ.blt (KK κ (arrOf st) i) (KK κ (arrOf st) j))) st → wpS (model prog w) A E s (ltAt' i j) Q st
def Up (κ : Ord) (xs : Array Keyed) (k : Nat) : Prop := ∀ i j, i < j → j < k → κ.blt (KK κ xs i) (KK κ xs j) = true
def Dn (κ : Ord) (xs : Array Keyed) (k : Nat) : Prop := ∀ i j, i < j → j < k → κ.blt (KK κ xs j) (KK κ xs i) = true
theorem TB.sz (B : TB κ kd a0 st) : (arrOf st).size = a0.size := B.pm.size_eq
theorem TB.lt (B : TB κ kd a0 st) {i j : Nat} (hi : i < a0.size) (hj : j < a0.size) (hne : i ≠ j) (h : κ.blt (KK κ (arrOf st) i) (KK κ (arrOf st) j) = false) : κ.blt (KK κ (arrOf st) j) (KK κ (arrOf st) i) = true := by
  cases e : κ.blt (KK κ (arrOf st) j) (KK κ (arrOf st) i) with
  | true => rfl
  | false => exact absurd (B.un i j hi hj (κ.total _ _ h e)) hne
theorem Up.more (B : TB κ kd a0 st) {x : Nat} (h1 : 1 ≤ x) (hx : x < a0.size) (u : Up κ (arrOf st) x) (h : κ.blt (KK κ (arrOf st) x) (KK κ (arrOf st) (x - 1)) = false) : Up κ (arrOf st) (x + 1) := by
  intro i j hij hj
  by_cases hjx : j < x
  · exact u i j hij hjx
  · obtain rfl : j = x := by omega
    have t := B.lt hx (by omega) (by omega) h
    by_cases hi : i = j - 1
    · subst hi; exact t
    · exact κ.trans _ _ _ (u i (j - 1) (by omega) (by omega)) t
theorem Dn.more {x : Nat} {xs : Array Keyed} (h1 : 1 ≤ x) (u : Dn κ xs x) (h : κ.blt (KK κ xs x) (KK κ xs (x - 1)) = true) : Dn κ xs (x + 1) := by
  intro i j hij hj
  by_cases hjx : j < x
  · exact u i j hij hjx
  · obtain rfl : j = x := by omega
    by_cases hi : i = j - 1
    · subst hi; exact h
    · exact κ.trans _ _ _ h (u i (j - 1) (by omega) (by omega))
theorem TB.mir (B : TB κ kd a0 st) {n : Nat} (hn : n ≤ a0.size) : TB κ kd a0 (setArr st (mirror (arrOf st) 0 n ((n - 0) / 2))) := by
  refine ⟨(mirror_perm _ _ _ _).trans B.pm, B.kn, B.fl, B.pe, fun i j hi hj e => ?_⟩
  have hz : n ≤ (arrOf st).size := by rw [B.sz]; exact hn
  change KK κ (mirror (arrOf st) 0 n ((n - 0) / 2)) i = KK κ (mirror (arrOf st) 0 n ((n - 0) / 2)) j at e
  rw [KK_mirror hz, KK_mirror hz] at e
  split at e <;> split at e <;> (have := B.un _ _ (by omega) (by omega) e; omega)
theorem TB.bub (B : TB κ kd a0 st) {k l : Nat} (hk : k < a0.size) (hl : l ≤ k) : TB κ kd a0 (setArr st (bubble (arrOf st) k (k - l))) := by
  refine ⟨(bubble_perm _ _ _).trans B.pm, B.kn, B.fl, B.pe, fun i j hi hj e => ?_⟩
  have hz : k < (arrOf st).size := by rw [B.sz]; exact hk
  change KK κ (PyProof.Rows.bubble (arrOf st) k (k - l)) i = KK κ (PyProof.Rows.bubble (arrOf st) k (k - l)) j at e
  rw [KK_bubble hz (by omega), KK_bubble hz (by omega)] at e
  repeat' split at e
  all_goals first
    | omega
    | (have := B.un _ _ (by omega) (by omega) e; omega)
theorem asc_ok {a r : Nat} {Q : AscSt → SortSt → Prop} (L : LtT prog w A s κ kd a0) (hr : r ≤ a0.size) (ha : 1 ≤ a) (har : a ≤ r) (B : TB κ kd a0 st) (u : Up κ (arrOf st) a)
    (h : ∀ n, a ≤ n → n ≤ r → Up κ (arrOf st) n → (n = r ∨ κ.blt (KK κ (arrOf st) n) (KK κ (arrOf st) (n - 1)) = true) → Q (none, n) st) : wpS (model prog w) A E s (ascLoop a r) Q st := by
  unfold ascLoop
  refine wpS_forRange (I := fun x c z => z = st ∧ c = (none, x) ∧ Up κ (arrOf st) x) ?_ ?_ ⟨rfl, rfl, u⟩
  · rintro x c z h1 h2 ⟨rfl, rfl, v⟩
    refine wpS_bind (L _ _ _ _ _ B (by show x < _; omega) (by show x - 1 < _; omega) (by show x ≠ x - 1; omega) ?_)
    show wpS _ _ _ _ (if κ.blt (KK κ (arrOf z) x) (KK κ (arrOf z) (x - 1)) = true then _ else _) _ _
    cases e : κ.blt (KK κ (arrOf z) x) (KK κ (arrOf z) (x - 1)) with
    | true => rw [if_pos rfl]; exact wpS_pure (h x h1 (by omega) v (.inr e))
    | false => rw [if_neg (by decide)]; exact wpS_pure ⟨rfl, rfl, v.more B (by omega) (by omega) e⟩
  · rintro c z ⟨rfl, rfl, v⟩
    rw [Nat.max_eq_right har] at v ⊢
    exact h r har (Nat.le_refl _) v (.inl rfl)
theorem desc_ok {n r : Nat} {Q : DescSt → SortSt → Prop} (L : LtT prog w A s κ kd a0) (hr : r ≤ a0.size) (hn : 1 ≤ n) (hnr : n ≤ r) (B : TB κ kd a0 st) (u : Dn κ (arrOf st) n)
    (h : ∀ m, n ≤ m → m ≤ r → Dn κ (arrOf st) m → Q (none, m, 0) st) : wpS (model prog w) A E s (descLoop n r) Q st := by
  unfold descLoop
  refine wpS_forRange (I := fun x c z => z = st ∧ c = (none, x, 0) ∧ Dn κ (arrOf st) x) ?_ ?_ ⟨rfl, rfl, u⟩
  · rintro x c z h1 h2 ⟨rfl, rfl, v⟩
    refine wpS_bind (L _ _ _ _ _ B (by show x < _; omega) (by show x - 1 < _; omega) (by show x ≠ x - 1; omega) ?_)
    dsimp only
    cases e : κ.blt (KK κ (arrOf z) x) (KK κ (arrOf z) (x - 1)) with
    | true =>
      rw [if_pos rfl, if_neg (by decide)]
      exact wpS_pure ⟨rfl, rfl, v.more (by omega) e⟩
    | false =>
      rw [if_neg (by decide)]
      refine wpS_bind (L _ _ _ _ _ B (by omega) (by omega) (by omega) ?_)
      rw [B.lt (by omega) (by omega) (by omega) e]
      exact wpS_pure (h x h1 (by omega) v)
  · rintro c z ⟨rfl, rfl, v⟩
    rw [Nat.max_eq_right hnr] at v ⊢
    exact h r hnr (Nat.le_refl _) v
theorem count_ok {r : Nat} {Q : Option Nat → SortSt → Prop} (L : LtT prog w A s κ kd a0) (hr : r ≤ a0.size) (h1 : 1 ≤ r) (B : TB κ kd a0 st)
    (h : ∀ m z, TB κ kd a0 z → 1 ≤ m → m ≤ r → Up κ (arrOf z) m → Q (some m) z) : wpS (model prog w) A E s (countRun' 0 r) Q st := by
  rw [countRun0_eq]
  refine wpS_bind (asc_ok L hr (Nat.le_refl 1) h1 B (fun i j a b => by omega) fun n n1 n2 u o => ?_)
  dsimp only
  by_cases hnr : n = r
  · subst hnr
    rw [if_pos (by simp)]
    exact wpS_pure (h n st B n1 n2 u)
  · rw [if_neg (by simpa using hnr)]
    have lt := o.resolve_left hnr
    by_cases hn : n > 1
    · rw [if_pos hn]
      refine wpS_bind (L _ _ _ _ _ B (by omega) (by omega) (by omega) ?_)
      rw [u 0 (n - 1) (by omega) (by omega)]
      exact wpS_pure (h n st B n1 n2 u)
    · rw [if_neg hn]
      obtain rfl : n = 1 := by omega
      unfold descPart
      refine wpS_bind (wpS_lift (wpAny_rule ⟨rfl, ?_⟩))
      refine wpS_bind (desc_ok L hr (by omega) (by omega) B (fun i j a b => ?_) fun m m1 m2 d => ?_)
      · obtain rfl : i = 0 := by omega
        obtain rfl : j = 1 := by omega
        exact lt
      · dsimp only
        rw [if_neg (by decide)]
        unfold tail3
        refine wpS_bind (wpS_reverse ?_)
        have B2 := B.mir (n := m) (by omega)
        refine wpS_bind (asc_ok L hr (by omega) m2 B2 (fun i j a b => ?_) fun k k1 k2 u2 _ => wpS_pure (h k _ B2 (by omega) k2 u2))
        have hz : m ≤ (arrOf st).size := by rw [B.sz]; omega
        show κ.blt (KK κ (mirror (arrOf st) 0 m ((m - 0) / 2)) i) (KK κ (mirror (arrOf st) 0 m ((m - 0) / 2)) j) = true
        rw [KK_mirror hz, KK_mirror hz, if_pos (by omega), if_pos (by omega)]
        exact d _ _ (by omega) (by omega)
theorem ins_ok {n ok : Nat} {Q : Bool → SortSt → Prop} (L : LtT prog w A s κ kd a0) (hn : n ≤ a0.size) (hok : ok ≤ n) (h1 : 1 ≤ ok) (B : TB κ kd a0 st) (u : Up κ (arrOf st) ok)
    (h : ∀ z, TB κ kd a0 z → Up κ (arrOf z) n → Q true z) : wpS (model prog w) A E s (binarySort' 0 n ok) Q st := by
  rw [binarySort'_eq]
  simp only [Nat.zero_add]
  rw [Nat.max_eq_left h1]
  refine wpS_bind (wpS_mono (wpS_forRange (I := fun k c z => c = (none, ()) ∧ TB κ kd a0 z ∧ Up κ (arrOf z) k ∧ k ≤ n) (Q := fun c z => c = (none, ()) ∧ TB κ kd a0 z ∧ Up κ (arrOf z) n) ?_ ?_ ⟨rfl, B, u, hok⟩) ?_)
  · rintro k c z k1 k2 ⟨rfl, Z, v, _⟩
    refine wpS_bind (wpS_mono (wpS_forRange (I := fun x c y => y = z ∧ ∃ l r, c = (none, l, r) ∧ l ≤ r ∧ r ≤ k ∧ r - l ≤ k - x ∧ (∀ i, i < l → κ.blt (KK κ (arrOf z) i) (KK κ (arrOf z) k) = true) ∧ (∀ i, r ≤ i → i < k → κ.blt (KK κ (arrOf z) k) (KK κ (arrOf z) i) = true))
      (Q := fun c y => y = z ∧ ∃ l r, c = (none, l, r) ∧ l ≤ k ∧ (∀ i, i < l → κ.blt (KK κ (arrOf z) i) (KK κ (arrOf z) k) = true) ∧ (∀ i, l ≤ i → i < k → κ.blt (KK κ (arrOf z) k) (KK κ (arrOf z) i) = true)) ?_ ?_ ⟨rfl, 0, k, rfl, by omega, by omega, by omega, fun i hi => by omega, fun i a b => by omega⟩) ?_)
    · rintro x c y _ xk ⟨rfl, l, r, rfl, lr, rk, mm, lo, hi⟩
      dsimp only
      by_cases ge : l ≥ r
      · rw [if_pos ge]
        obtain rfl : l = r := by omega
        exact wpS_pure ⟨rfl, l, l, rfl, rk, lo, hi⟩
      · rw [if_neg ge]
        refine wpS_bind (L _ _ _ _ _ Z (by omega) (by omega) (by omega) ?_)
        dsimp only
        cases e : κ.blt (KK κ (arrOf y) k) (KK κ (arrOf y) ((l + r) / 2)) with
        | true =>
          rw [if_pos rfl]
          refine wpS_pure ⟨rfl, l, (l + r) / 2, rfl, by omega, by omega, by omega, lo, fun i a b => ?_⟩
          by_cases hi2 : i = (l + r) / 2
          · subst hi2; exact e
          · exact κ.trans _ _ _ e (v _ i (by omega) b)
        | false =>
          rw [if_neg (by decide)]
          have e2 := Z.lt (i := k) (j := (l + r) / 2) (by omega) (by omega) (by omega) e
          refine wpS_pure ⟨rfl, (l + r) / 2 + 1, r, rfl, by omega, by omega, by omega, fun i a => ?_, hi⟩
          by_cases hi2 : i = (l + r) / 2
          · subst hi2; exact e2
          · exact κ.trans _ _ _ (v i _ (by omega) (by omega)) e2
    · rintro c y ⟨rfl, l, r, rfl, lr, rk, mm, lo, hi⟩
      obtain rfl : l = r := by omega
      exact ⟨rfl, l, l, rfl, rk, lo, hi⟩
    · rintro c y ⟨rfl, l, r, rfl, lk, lo, hi⟩
      show wpS _ _ _ _ (moveDown' k l >>= fun _ => pure (ForInStep.yield (none, ()))) _ _
      rw [moveDown'_eq]
      have Z2 := Z.bub (k := k) (l := l) (by omega) lk
      refine wpS_bind (wpS_modify (wpS_pure ⟨rfl, Z2, fun i j ij jk => ?_, by omega⟩))
      have hz : k < (arrOf y).size := by rw [Z.sz]; omega
      show κ.blt (KK κ (bubble (arrOf y) k (k - l)) i) (KK κ (bubble (arrOf y) k (k - l)) j) = true
      rw [KK_bubble hz (by omega), KK_bubble hz (by omega), show k - (k - l) = l by omega]
      repeat' split
      all_goals first
        | omega
        | exact hi _ (by omega) (by omega)
        | exact lo _ (by omega)
        | exact v _ _ (by omega) (by omega)
  · rintro c z ⟨rfl, Z, v, _⟩
    rw [Nat.max_eq_right hok] at v
    exact ⟨rfl, Z, v⟩
  · rintro c z ⟨rfl, Z, v⟩
    exact wpS_pure (h z Z v)
def TD (κ : Ord) (a0 : Array Keyed) (st : SortSt) : Prop := (arrOf st).Perm a0 ∧ failedOf st = none ∧ pendingOf st = #[(0, a0.size, 0)] ∧ Up κ (arrOf st) a0.size
theorem TB.td (B : TB κ kd a0 st) (u : Up κ (arrOf st) a0.size) : TD κ a0 (setPending st ((pendingOf st).push (0, a0.size, 0))) :=
  ⟨B.pm, B.fl, by show (pendingOf st).push _ = _; rw [B.pe]; rfl, u⟩
theorem runs_ok {Q : Unit → SortSt → Prop} (L : LtT prog w A s κ kd a0) (B : TB κ kd a0 st) (h2 : 2 ≤ a0.size) (h64 : a0.size < 64)
    (h : ∀ z, (arrOf z).Perm a0 → failedOf z = none → Up κ (arrOf z) a0.size → Q () z) : wpS (model prog w) A E s sortRuns' Q st := by
  have hm : minRun' a0.size a0.size 0 = a0.size := by
    obtain ⟨f, hf⟩ : ∃ f, a0.size = f + 1 := ⟨a0.size - 1, by omega⟩
    have : minRun' (f + 1) a0.size 0 = a0.size := by rw [minRun'_succ, if_pos h64]; rfl
    rwa [← hf] at this
  rw [sortRuns'_eq]
  refine wpS_bind (wpS_get ?_)
  dsimp only
  simp only [B.sz, hm]
  refine wpS_bind (wpS_mono (wpS_forRange (I := fun x c z => (x = 0 ∧ c = (none, 0) ∧ TB κ kd a0 z) ∨ (1 ≤ x ∧ c = (none, a0.size) ∧ TD κ a0 z)) (Q := fun c z => c = (none, a0.size) ∧ TD κ a0 z) ?_ ?_ (.inl ⟨rfl, rfl, B⟩)) ?_)
  · rintro x c z _ hx (⟨rfl, rfl, Z⟩ | ⟨x1, rfl, D⟩)
    · dsimp only
      rw [if_neg (by omega)]
      simp only [Nat.sub_zero, Nat.min_self, Nat.zero_add]
      refine wpS_bind (count_ok L (Nat.le_refl _) (by omega) Z fun m y Y m1 m2 u => ?_)
      dsimp only
      by_cases lt : m < a0.size
      · rw [if_pos lt]
        refine wpS_bind (wpS_lift (wpAny_rule ⟨rfl, ?_⟩))
        refine wpS_bind (ins_ok L (Nat.le_refl _) m2 m1 Y u fun q X v => ?_)
        rw [if_neg (by decide)]
        refine wpS_bind (wpS_get ?_)
        rw [show (pendingOf q).back? = none by rw [X.pe]; rfl]
        exact wpS_bind (wpS_modify (wpS_pure (.inr ⟨by omega, rfl, X.td v⟩)))
      · rw [if_neg lt]
        obtain rfl : m = a0.size := by omega
        refine wpS_bind (wpS_get ?_)
        rw [show (pendingOf y).back? = none by rw [Y.pe]; rfl]
        exact wpS_bind (wpS_modify (wpS_pure (.inr ⟨by omega, rfl, Y.td u⟩)))
    · dsimp only
      rw [if_pos (Nat.le_refl _)]
      exact wpS_pure ⟨rfl, D⟩
  · rintro c z (⟨hx, _, _⟩ | ⟨_, hc, D⟩)
    · omega
    · exact ⟨hc, D⟩
  · rintro c z ⟨rfl, D⟩
    dsimp only
    refine wpS_bind (wpS_mono (wpS_forRange (I := fun _ c y => y = z ∧ c = (none, ())) (Q := fun c y => y = z ∧ c = (none, ())) ?_ (fun _ _ q => q) ⟨rfl, rfl⟩) ?_)
    · rintro x c y _ _ ⟨rfl, rfl⟩
      refine wpS_bind (wpS_get ?_)
      rw [if_pos (by rw [D.2.2.1]; exact Nat.le_refl 1)]
      exact wpS_pure ⟨rfl, rfl⟩
    · rintro c y ⟨rfl, rfl⟩
      exact wpS_pure (h _ D.1 D.2.1 D.2.2.2)
end
end Kp
set_option Elab.async false
set_option linter.all false
set_option maxRecDepth 100000
set_option maxHeartbeats 4000000
namespace Kp
open PySem L2 PySem.Spec PyProof.Rows
/-! ### sorted(list of tuples that begin with unlike texts) -/
def TupS (h : Heap) (v : Value) (k : Str) : Prop := ∃ (p : Addr) (t : Tok) (xs : List Value), v = .ref p ∧ h.IsTuple p (Value.str k t :: xs).toArray
theorem TupS.kept {h h' : Heap} {v : Value} {k : Str} (x : TupS h v k) (o : ∀ b u, h.get? b = some u → h'.get? b = some u) : TupS h' v k := by
  obtain ⟨p, t, xs, rfl, u, hu, e⟩ := x
  exact ⟨p, t, xs, rfl, u, o _ _ hu, e⟩
section
variable {prog : Program} {w : World} {A : Around} {E : Value → Shared → Prop} {s : Shared}
theorem keyLt_split (b : Bool) (x y : Value) : keyLt' (tuples' b) x y = (do
    let xs ← Builtin.List.listItems x; let ys ← Builtin.List.listItems y
    for ((p, q), i) in (xs.toList.zip ys.toList).zipIdx do
      if !(← eqBool p q) then return ← oneLt' (b && i == 0) p q
    return decide (xs.size < ys.size)) := rfl
theorem keyLt_tup {x y : Value} {a b : Str} {Q : Bool → Shared → Prop} (hx : TupS s.heap x a) (hy : TupS s.heap y b) (hne : a ≠ b) (h : Q (decide (a.cps.toList < b.cps.toList)) s) : wpAny (model prog w) A (keyLt' (tuples' true) x y) Q E s := by
  obtain ⟨p, t, xs, rfl, o, ho, hc, n, hd⟩ := hx
  obtain ⟨q, u, ys, rfl, o2, ho2, hc2, n2, hd2⟩ := hy
  rw [keyLt_split]
  refine wpAny_bind (listItems_at ho hd (wpAny_bind (listItems_at ho2 hd2 ?_)))
  show wpAny _ _ (forIn (((Value.str a t, Value.str b u), 0) :: (xs.zip ys).zipIdx 1) _ _ >>= _) _ _ _
  rw [List.forIn_cons]
  refine wpAny_bind (wpAny_bind (wpAny_bind (SeqAt.EqAt.str_str a t b u prog w _ _ ?_)))
  rw [show (a == b) = false by simpa using hne]
  refine wpAny_bind (oneLt_str ?_)
  exact wpAny_pure (wpAny_pure (wpAny_pure h))
theorem firsts_ok : ∀ (vs : List Value) {Q : List (Option Value) → Shared → Prop}, (∀ v ∈ vs, ∃ k, TupS s.heap v k) → (∀ (us : List Value) (ks : List Str), StrsAre us ks → us.length = vs.length → Q (us.map some) s) → wpAny (model prog w) A (vs.mapM firstOfTuple') Q E s
  | [], Q, _, h => by rw [List.mapM_nil]; exact wpAny_pure (h [] [] .nil rfl)
  | v :: vs, Q, hv, h => by
    obtain ⟨k, p, t, xs, rfl, o, ho, hc, n, hd⟩ := hv v List.mem_cons_self
    rw [List.mapM_cons]
    show wpAny _ _ ((typeOf (.ref p) >>= fun z => _) >>= _) _ _ _
    refine wpAny_bind (wpAny_bind (wpAny_typeOf (T := "tuple") ⟨o, ho, hc⟩ ?_))
    rw [if_neg (by decide)]
    refine wpAny_bind (listItems_at ho hd (wpAny_pure (wpAny_bind ?_)))
    refine firsts_ok vs (fun u hu => hv u (List.mem_cons_of_mem _ hu)) fun us ks hs hl => wpAny_pure ?_
    exact h (.str k t :: us) (k :: ks) (.cons k t hs) (by rw [List.length_cons, List.length_cons, hl])
theorem kind_tup {vs : List Value} {Q : SortKind → Shared → Prop} (hv : ∀ v ∈ vs, ∃ k, TupS s.heap v k) (hne : vs ≠ []) (h : Q (tuples' true) s) : wpAny (model prog w) A (keyKind' vs.toArray) Q E s := by
  rw [keyKind'_eq, List.mapM_toArray]
  refine wpAny_bind (wpAny_map (firsts_ok vs hv fun us ks hs hl => ?_))
  have e1 : ((us.map some).toArray.all fun x => x.isSome) = true := by simp
  rw [e1, if_pos rfl]
  refine wpAny_bind (wpAny_rule ?_)
  have e2 : (us.map some).toArray.filterMap id = us.toArray := by simp
  rw [e2, oneTypeOnly'_eq, List.mapM_toArray, mapM_typeOf_strs hs]
  simp only [map_pure, pure_bind]
  cases us with
  | nil => simp at hl; exact absurd hl.symm (by simpa using hne)
  | cons u us =>
    have e3 : ((List.map (fun _ => Value.type "str") (u :: us)).toArray.all fun x => x == Value.type "str") = true := by
      simp only [List.all_toArray, List.all_map, List.all_eq_true]
      intro _ _
      rfl
    have e4 : (List.map (fun _ => Value.type "str") (u :: us)).toArray[0]? = some (Value.type "str") := by simp
    rw [e4]
    simp only [e3, if_true, pure_bind]
    exact wpAny_pure h
end
end Kp
set_option Elab.async false
set_option linter.all false
set_option maxRecDepth 100000
set_option maxHeartbeats 4000000
namespace Kp
open PySem L2 PySem.Spec PyProof.Rows
/-- the key of a tuple: its first text, in a heap -/
def headOf (h : Heap) : Value → Option (List Nat)
  | .ref p => match h.get? p with
    | some ⟨_, _, .seq xs _, _⟩ => match (xs[0]? : Option Value) with
      | some (.str k _) => some k.cps.toList
      | _ => none
    | _ => none
  | _ => none
def tupKind (h : Heap) : Ord := { toKeyOrd := strKind.toKeyOrd, keyOf := headOf h, dflt := [] }
theorem TupS.key {h : Heap} {v : Value} {k : Str} (x : TupS h v k) : headOf h v = some k.cps.toList := by
  obtain ⟨p, t, xs, rfl, ⟨cls, dd, data, sl⟩, ho, hc, n, hd⟩ := x
  simp only at hd
  subst hd
  unfold headOf
  simp only [ho]
  rfl
section
variable {prog : Program} {w : World} {A : Around} {E : Value → Shared → Prop} {s : Shared}
theorem pair_at {vs : List Value} {xs : Array Keyed} (hp : xs.Perm (pairsOf vs)) {i : Nat} (hi : i < xs.size) : xs[i].1 = xs[i].2 ∧ xs[i].1 ∈ vs := by
  have hm : xs[i] ∈ (pairsOf vs).toList := (Array.perm_iff_toList_perm.mp hp).mem_iff.mp (by simp)
  rw [pairsOf_toList] at hm
  exact mem_zip_self hm
theorem KK_tup {h : Heap} {vs : List Value} {xs : Array Keyed} (hp : xs.Perm (pairsOf vs)) (hv : ∀ v ∈ vs, ∃ k, TupS h v k) {i : Nat} (hi : i < xs.size) : ∃ k, TupS h xs[i].1 k ∧ KK (tupKind h) xs i = k.cps.toList := by
  obtain ⟨k, hk⟩ := hv _ (pair_at hp hi).2
  refine ⟨k, hk, ?_⟩
  unfold KK
  rw [getElem?_pos xs i hi]
  show (headOf h xs[i].1).getD _ = _
  rw [hk.key]; rfl
theorem ltT_tup {h0 : Heap} {vs : List Value} (hv : ∀ v ∈ vs, ∃ k, TupS h0 v k) (old : ∀ b u, h0.get? b = some u → s.heap.get? b = some u) : LtT prog w A s (tupKind h0) (tuples' true) (pairsOf vs) := by
  intro E st i j Q B hi hj hne h
  have i1 : i < (arrOf st).size := by rw [B.sz]; exact hi
  have j1 : j < (arrOf st).size := by rw [B.sz]; exact hj
  obtain ⟨k, tk, ek⟩ := KK_tup B.pm hv i1
  obtain ⟨l, tl, el⟩ := KK_tup B.pm hv j1
  have hkl : k ≠ l := fun e => hne (B.un i j hi hj (by rw [ek, el, e]))
  rw [ek, el] at h
  rw [ltAt'_eq]
  refine wpS_bind (wpS_get ?_)
  show wpS _ _ _ _ (elem' (arrOf st) i >>= fun x => elem' (arrOf st) j >>= fun y => lt' x y) Q st
  rw [elem'_eq, elem'_eq, getElem?_pos (arrOf st) i i1, getElem?_pos (arrOf st) j j1]
  refine wpS_bind (wpS_pure (wpS_bind (wpS_pure ?_)))
  rw [lt'_eq]
  refine wpS_bind (wpS_get ?_)
  rw [B.kn]
  exact wpS_bind (wpS_lift (wpAny_attempt (keyLt_tup (tk.kept old) (tl.kept old) hkl ⟨rfl, wpS_pure h⟩)))
/-- list.sort by any kind of comparing -/
theorem sort_any {κ : Ord} {kd : SortKind} {a : Addr} {vs : List Value} {n : Nat} {P : Fin → Shared → Prop} (ho : s.heap.get? a = some (seqObj "list" vs.toArray n)) (h64 : vs.length < 64)
    (un : ∀ i j, i < (pairsOf vs).size → j < (pairsOf vs).size → KK κ (pairsOf vs) i = KK κ (pairsOf vs) j → i = j)
    (go : ∀ s6 : Shared, (∀ b u, b ≠ a → s.heap.get? b = some u → s6.heap.get? b = some u) → 2 ≤ vs.length → LtT prog w A s6 κ kd (pairsOf vs) ∧ ∀ Q : SortKind → Shared → Prop, Q kd s6 → wpAny (model prog w) A (keyKind' vs.toArray) Q E s6)
    (h : ∀ xs : Array Keyed, xs.Perm (pairsOf vs) → Up κ xs (pairsOf vs).size → P (.done (.ret .none)) { s with heap := sortedHeap s.heap a vs (xs.map (·.2)) }) :
    wpAny (model prog w) A (Builtin.«list.sort» ⟨[.ref a], []⟩) P E s := by
  rw [list_sort_plain]
  have ha : a < s.heap.objs.size := Heap.lt_size ho
  refine wpAny_bind (listItems_at ho rfl (wpAny_bind (listUpdate_at ho rfl ?_)))
  obtain ⟨e1, ho1⟩ : ∃ e1, (s.heap.update a (Obj.mapSeq fun _ => #[])).get? a = some (seqObj "list" #[] e1) := ⟨_, get?_update_seq ho fun _ => #[]⟩
  refine wpAny_bind (seqEpoch_at ho1 rfl (wpAny_bind (wpAny_newTuple (wpAny_bind (wpAny_newList (wpAny_holding ?_))))))
  obtain ⟨h6, e6⟩ : ∃ h6, h6 = ((s.heap.update a (Obj.mapSeq fun _ => #[])).push (seqObj "tuple" vs.toArray 0)).push (seqObj "list" #[] 0) := ⟨_, rfl⟩
  have ho6 : h6.get? a = some (seqObj "list" #[] e1) := by
    rw [e6, Heap.get?_push_ne _ _ _ (by rw [size_push', Heap.size_update]; exact Nat.ne_of_lt (Nat.lt_succ_of_lt ha)), Heap.get?_push_ne _ _ _ (by rw [Heap.size_update]; exact Nat.ne_of_lt ha)]
    exact ho1
  have old : ∀ b u, b ≠ a → s.heap.get? b = some u → h6.get? b = some u := fun b u hb hu => by
    have hb2 := Heap.lt_size hu
    rw [e6, Heap.get?_push_ne _ _ _ (by rw [size_push', Heap.size_update]; exact Nat.ne_of_lt (Nat.lt_succ_of_lt hb2)), Heap.get?_push_ne _ _ _ (by rw [Heap.size_update]; exact Nat.ne_of_lt hb2), Heap.get?_update_ne _ _ _ _ hb]
    exact hu
  have fin : ∀ z : SortSt, (arrOf z).Perm (pairsOf vs) → failedOf z = none → Up κ (arrOf z) (pairsOf vs).size → wpAny (model prog w) A (do
      let touched := (← seqEpoch a) != e1
      Builtin.List.listUpdate (.ref a) fun _ => (arrOf z).map (·.2)
      if let some e := failedOf z then rule "list.sort.comparison-raised"; throw e
      if touched then rule "list.sort.modified"; raiseError "ValueError" "list modified during sort"
      ret .none) P E { s with heap := h6 } := fun z zp zf zu => by
    refine wpAny_bind (seqEpoch_at ho6 rfl (wpAny_bind (listUpdate_at ho6 rfl ?_ (hsz2 := ?_))))
    · rw [zf]
      simp only [bne_self_eq_false, Bool.false_eq_true, if_false]
      refine wpAny_pure ?_
      have := h (arrOf z) zp zu
      unfold sortedHeap at this
      rw [← e6] at this
      exact this
    · refine Nat.le_trans (Nat.le_of_eq ((Array.size_map ..).trans (zp.size_eq.trans (pairsOf_size _)))) ?_
      rw [sizeLine_eq]; omega
  show wpAny (model prog w) A _ P E { s with heap := ((s.heap.update a (Obj.mapSeq fun _ => #[])).push (seqObj "tuple" vs.toArray 0)).push (seqObj "list" #[] 0) }
  rw [← e6]
  by_cases h2 : vs.toArray.size < 2
  · rw [if_pos h2, if_pos h2]
    refine wpAny_bind (wpAny_pure ?_)
    dsimp only
    rw [StateT.run_pure]
    refine wpAny_bind (wpAny_pure (fin _ (Array.Perm.refl _) rfl fun i j ij jk => ?_))
    rw [pairsOf_size] at jk
    simp at h2
    omega
  · rw [if_neg h2, if_neg h2]
    have h3 : 2 ≤ vs.length := by simp at h2; omega
    obtain ⟨L, kq⟩ := go { s with heap := h6 } old h3
    refine wpAny_bind (kq _ ?_)
    refine wpAny_bind (wpAny_mono (runs_ok (κ := κ) (kd := kd) (a0 := pairsOf vs) (st := SortSt.mk' kd (vs.toArray.zip vs.toArray) #[] 7 none)
      (Q := fun _ z => (arrOf z).Perm (pairsOf vs) ∧ failedOf z = none ∧ Up κ (arrOf z) (pairsOf vs).size) L ⟨Array.Perm.refl _, rfl, rfl, rfl, un⟩ (by rw [pairsOf_size]; exact h3) (by rw [pairsOf_size]; exact h64) fun z a1 a2 a3 => ⟨a1, a2, a3⟩) ?_ fun _ _ e => e)
    rintro ⟨⟨⟩, z⟩ s' ⟨rfl, zp, zf, zu⟩
    exact fin z zp zf zu
theorem sorted_any {κ : Ord} {kd : SortKind} {l : Addr} {vs : List Value} {Q : Value → Shared → Prop} (hl : s.heap.IsList l vs.toArray) (h64 : vs.length < 64)
    (un : ∀ i j, i < (pairsOf vs).size → j < (pairsOf vs).size → KK κ (pairsOf vs) i = KK κ (pairsOf vs) j → i = j)
    (go : ∀ (A' : Around) (E' : Value → Shared → Prop) (s6 : Shared), (∀ b u, s.heap.get? b = some u → s6.heap.get? b = some u) → 2 ≤ vs.length → LtT prog w A' s6 κ kd (pairsOf vs) ∧ ∀ Q : SortKind → Shared → Prop, Q kd s6 → wpAny (model prog w) A' (keyKind' vs.toArray) Q E' s6)
    (h : ∀ xs : Array Keyed, xs.Perm (pairsOf vs) → Up κ xs (pairsOf vs).size → Q (.ref (s.heap.objs.size + 1)) { s with heap := sortedAll s.heap vs (xs.map (·.2)) }) :
    wpAny (model prog w) A (call (.builtin "sorted") [.ref l]) Q E s := by
  refine Calls.call_function_entry kind_sorted plain_sorted entry_sorted (args_sorted1 _) ?_
  unfold Builtin.«sorted»
  refine wpAny_bind (m := checkCount "sorted" 1 1 _) (wpAny_pure (wpAny_bind (collect_list hl (wpAny_bind (wpAny_newList ?_)) (by rw [sizeLine_eq]; omega))))
  have hsz : ((s.heap.push (seqObj "list" #[] 0)).update s.heap.objs.size (Obj.mapSeq (· ++ vs.toArray))).objs.size = s.heap.objs.size + 1 := by rw [Heap.size_update, size_push']
  have hoL : (((s.heap.push (seqObj "list" #[] 0)).update s.heap.objs.size (Obj.mapSeq (· ++ vs.toArray))).push (seqObj "list" vs.toArray 0)).get? (s.heap.objs.size + 1) = some (seqObj "list" vs.toArray 0) := by
    rw [← hsz]; exact Heap.get?_push_size _ rfl
  have old : ∀ b u, s.heap.get? b = some u → (((s.heap.push (seqObj "list" #[] 0)).update s.heap.objs.size (Obj.mapSeq (· ++ vs.toArray))).push (seqObj "list" vs.toArray 0)).get? b = some u := fun b u hu => by
    have hb2 := Heap.lt_size hu
    rw [Heap.get?_push_ne _ _ _ (by rw [hsz]; exact Nat.ne_of_lt (Nat.lt_succ_of_lt hb2)), Heap.get?_update_ne _ _ _ _ (Nat.ne_of_lt hb2), Heap.get?_push_ne _ _ _ (Nat.ne_of_lt hb2)]
    exact hu
  show wpAny _ _ _ _ _ { s with heap := ((s.heap.push (seqObj "list" #[] 0)).update s.heap.objs.size (Obj.mapSeq (· ++ vs.toArray))).push (seqObj "list" vs.toArray 0) }
  rw [hsz]
  refine wpAny_bind (wpAny_holding (wpAny_call_entry slot_list_sort ⟨_, hoL, rfl⟩ entry_list_sort (sort_any (κ := κ) (kd := kd) hoL h64 un (fun s6 o6 h2 => ?_) fun xs a1 a2 => ⟨_, rfl, wpAny_pure ⟨_, rfl, h xs a1 a2⟩⟩) (args_list_sort _)))
  exact go _ _ s6 (fun b u hu => o6 b u (Nat.ne_of_lt (Nat.lt_succ_of_lt (Heap.lt_size hu))) (old b u hu)) h2
end
end Kp
set_option Elab.async false
set_option linter.all false
set_option maxRecDepth 100000
set_option maxHeartbeats 4000000
namespace Kp
open PySem L2 PySem.Spec PyProof.Rows
/-- a text before another by the alphabet -/
def before (a b : Str) : Prop := a.cps.toList < b.cps.toList
def toV : Value → V
  | .ref p => .ref p
  | _ => .non
def seenV (h : Heap) (v : Value) : V × Str := (toV v, ⟨((headOf h v).getD []).toArray⟩)
def TupD (H : Hp) (d : V × Str) : Prop := ∃ p rest, d.1 = .ref p ∧ H p = some (.tup (.str d.2 :: rest))
section
variable {X : Cx}
theorem seen_all {pins : List (Addr × Obj)} {σ : L2.St} {H : Hp} {s : Shared} (I : Inv X pins σ H s) : ∀ {D : List (V × Str)} {us : List Value}, Vals (D.map (·.1)) us → (∀ d ∈ D, TupD H d) → us.map (seenV s.heap) = D ∧ ∀ v ∈ us, (∃ k, TupS s.heap v k) ∧ ∃ p, v = .ref p
  | [], _, h, _ => by cases h; exact ⟨rfl, fun v hv => absurd hv List.not_mem_nil⟩
  | d :: D, _, h, hd => by
    cases h with
    | @cons _ u _ us r t =>
      obtain ⟨p, rest, e, hp⟩ := hd d List.mem_cons_self
      obtain ⟨d1, d2⟩ := d
      simp only at e hp r
      subst e
      cases r
      obtain ⟨ih1, ih2⟩ := seen_all I t fun x hx => hd x (List.mem_cons_of_mem _ hx)
      obtain ⟨its, rv, ht, _⟩ := I.tuple (SqT.of hp)
      have ts : TupS s.heap (.ref p) d2 := by
        cases rv with
        | cons r0 t0 => obtain ⟨tk, rfl⟩ := r0; exact ⟨p, tk, _, rfl, ht⟩
      refine ⟨?_, fun v hv => ?_⟩
      · rw [List.map_cons, ih1]
        unfold seenV
        rw [ts.key]
        rfl
      · rcases List.mem_cons.mp hv with rfl | hv
        · exact ⟨⟨d2, ts⟩, p, rfl⟩
        · exact ih2 v hv
theorem vals_back : ∀ {us : List Value}, (∀ v ∈ us, ∃ p, v = Value.ref p) → Vals (us.map toV) us
  | [], _ => .nil
  | u :: us, h => by
    obtain ⟨p, rfl⟩ := h u List.mem_cons_self
    exact .cons rfl (vals_back fun v hv => h v (List.mem_cons_of_mem _ hv))
theorem call_sortedT : CallR X (.builtin "sorted") (fun xs H Q => ∃ (p : Addr) (D : List (V × Str)), xs = [.ref p] ∧ SqL X.K H p (D.map (·.1)) ∧ (∀ d ∈ D, TupD H d) ∧ (D.map (·.2)).Nodup ∧ D.length < 64 ∧
    ∀ l (D' : List (V × Str)), H l = none → D'.Perm D → D'.Pairwise (fun a b => before a.2 b.2) → Q (.ref l) (upd H l (.lst (D'.map (·.1))))) := by
  intro pins s σ H xs us Q I r h
  obtain ⟨p, D, rfl, hq, hD, nd, h64, q⟩ := h
  obtain ⟨u, rfl, rx⟩ := vals1 r
  cases rx
  obtain ⟨its, rv, pl, hz⟩ := I.list hq
  have hlen : its.length = D.length := by rw [← rv.length, List.length_map]
  obtain ⟨sn, al⟩ := seen_all I rv hD
  have hT : ∀ v ∈ its, ∃ k, TupS s.heap v k := fun v hv => (al v hv).1
  have keyAt : ∀ (ys : Array Keyed), ys.Perm (pairsOf its) → ∀ i (hi : i < ys.size), KK (tupKind s.heap) ys i = (seenV s.heap ys[i].1).2.cps.toList := fun ys hp i hi => by
    obtain ⟨k, hk, e⟩ := KK_tup hp hT hi
    rw [e]
    unfold seenV
    rw [hk.key]
    rfl
  have un : ∀ i j, i < (pairsOf its).size → j < (pairsOf its).size → KK (tupKind s.heap) (pairsOf its) i = KK (tupKind s.heap) (pairsOf its) j → i = j := fun i j hi hj e => by
    rw [keyAt _ (Array.Perm.refl _) i hi, keyAt _ (Array.Perm.refl _) j hj] at e
    have hi' : i < its.length := by rw [pairsOf_size] at hi; exact hi
    have hj' : j < its.length := by rw [pairsOf_size] at hj; exact hj
    have e1 : (pairsOf its)[i].1 = its[i] := by simp [pairsOf]
    have e2 : (pairsOf its)[j].1 = its[j] := by simp [pairsOf]
    rw [e1, e2] at e
    have e3 : (seenV s.heap its[i]).2 = (seenV s.heap its[j]).2 := by
      generalize (seenV s.heap its[i]).2 = x at e ⊢
      generalize (seenV s.heap its[j]).2 = y at e ⊢
      obtain ⟨⟨x⟩⟩ := x
      obtain ⟨⟨y⟩⟩ := y
      simp only at e
      rw [e]
    have l1 : i < (D.map (·.2)).length := by rw [List.length_map]; omega
    have l2 : j < (D.map (·.2)).length := by rw [List.length_map]; omega
    have f : ∀ k (h1 : k < its.length) (h2 : k < (D.map (·.2)).length), (D.map (·.2))[k] = (seenV s.heap its[k]).2 := fun k h1 h2 => by
      simp only [List.getElem_map]
      congr 1
      have : D[k]'(by simpa using h2) = (its.map (seenV s.heap))[k]'(by rw [List.length_map]; exact h1) := by simp only [sn]
      rw [this, List.getElem_map]
    rw [← f i hi' l1, ← f j hj' l2] at e3
    have pw := List.pairwise_iff_getElem.mp nd
    rcases Nat.lt_trichotomy i j with g | g | g
    · exact absurd e3 (pw i j l1 l2 g)
    · exact g
    · exact absurd e3.symm (pw j i l2 l1 g)
  refine sorted_any (κ := tupKind s.heap) (kd := tuples' true) pl.isList (by omega) un (fun A' E' s6 old h2 => ⟨ltT_tup hT old, fun Q' q' => kind_tup (fun v hv => let ⟨k, hk⟩ := hT v hv; ⟨k, hk.kept old⟩) (by intro e; rw [e] at h2; simp at h2) q'⟩) fun ys hp up => ?_
  obtain ⟨e, he⟩ := sortedAll_at s.heap its (ys.map (·.2))
  have fr : H (s.heap.objs.size + 1) = none := I.hok.fresh (Nat.le_add_right s.heap.objs.size 1)
  have hpl : ys.toList.Perm (its.zip its) := by rw [← pairsOf_toList]; exact Array.perm_iff_toList_perm.mp hp
  have hmem : ∀ x ∈ ys.toList, x.1 = x.2 ∧ x.1 ∈ its := fun x hx => mem_zip_self (hpl.mem_iff.mp hx)
  have o2 : (ys.map (·.2)).toList = ys.toList.map (·.1) := by
    rw [Array.toList_map]; exact List.map_congr_left fun x hx => (hmem x hx).1.symm
  have hperm : ((ys.toList.map (·.1)).map (seenV s.heap)).Perm D := by
    have h1 := (hpl.map (·.1)).map (seenV s.heap)
    rw [List.map_fst_zip (Nat.le_refl _), sn] at h1
    exact h1
  have hfst : ((ys.toList.map (·.1)).map (seenV s.heap)).map (·.1) = (ys.toList.map (·.1)).map toV := by rw [List.map_map]; rfl
  have hlen2 : ((ys.toList.map (·.1)).map (seenV s.heap)).length = D.length := hperm.length_eq
  refine ⟨.ref _, _, I.laid (t' := s.toks) (o := .lst (((ys.toList.map (·.1)).map (seenV s.heap)).map (·.1))) (fun b o => sortedAll_old) (Nat.le_add_right s.heap.objs.size 1) ⟨?_, (ys.map (·.2)).toList, e, ?_, by rw [Array.toArray_toList]; exact he⟩, rfl, q _ _ fr hperm ?_⟩
  · rw [List.length_map, hlen2, sizeLine_eq]; omega
  · rw [hfst, o2]
    exact vals_back fun v hv => by
      obtain ⟨x, hx, rfl⟩ := List.mem_map.mp hv
      exact (al _ (hmem x hx).2).2
  · rw [List.pairwise_iff_getElem]
    intro i j hi hj hij
    have hi' : i < ys.size := by simpa using hi
    have hj' : j < ys.size := by simpa using hj
    have := up i j hij (by rw [← hp.size_eq]; exact hj')
    rw [keyAt ys hp i hi', keyAt ys hp j hj'] at this
    have t : (seenV s.heap ys[i].1).2.cps.toList < (seenV s.heap ys[j].1).2.cps.toList := of_decide_eq_true this
    simpa [before] using t
end
end Kp
set_option Elab.async false
set_option linter.all false
set_option maxRecDepth 100000
set_option maxHeartbeats 4000000
namespace Kp
open PySem L2 PySem.Spec PyProof.Rows
/-! ### sorted(dict of texts), sorted(list of texts): rising -/
section
variable {X : Cx}
theorem strs_of_keys {P : Program} {w : World} : ∀ {us : List Value} {ns : List Str}, us.length = ns.length → (∀ (j : Nat) (u : Value), us[j]? = some u → ∃ n, ns[j]? = some n ∧ (mixKind P w).is (Sum.inr n) u = true) → StrsAre us ns
  | [], [], _, _ => .nil
  | [], _ :: _, h, _ => by simp at h
  | _ :: _, [], h, _ => by simp at h
  | u :: us, n :: ns, hl, h => by
    obtain ⟨m, e, hm⟩ := h 0 u rfl
    cases e
    rcases keyIs_shape (show keyIs (Sum.inr n) u = true from hm) with ⟨i, t, a, _⟩ | ⟨x, t, a, rfl⟩
    · cases a
    · cases a
      refine .cons _ _ (strs_of_keys (P := P) (w := w) (by simpa using hl) fun j v hv => h (j + 1) v hv)
theorem rising_of {vs : List Value} {ss : List Str} (hS : StrsAre vs ss) {xs : Array Keyed} (hp : xs.Perm (pairsOf vs)) (hs : SortedToK strKind xs (pairsOf vs).size) : ∃ ss', StrsAre (xs.map (·.2)).toList ss' ∧ ss'.Perm ss ∧ ss'.Pairwise fun a b => ¬ before b a := by
  have hpl : xs.toList.Perm (vs.zip vs) := by rw [← pairsOf_toList]; exact Array.perm_iff_toList_perm.mp hp
  have hmem : ∀ x ∈ xs.toList, x.1 = x.2 ∧ x.1 ∈ vs := fun x hx => mem_zip_self (hpl.mem_iff.mp hx)
  have o2 : (xs.map (·.2)).toList = xs.toList.map (·.1) := by rw [Array.toList_map]; exact List.map_congr_left fun x hx => (hmem x hx).1.symm
  have hpm : ((xs.toList.map (·.1)).map strOf).Perm ss := by
    have h1 := (hpl.map (·.1)).map strOf
    rw [List.map_fst_zip (Nat.le_refl _), hS.strs] at h1
    exact h1
  refine ⟨(xs.toList.map (·.1)).map strOf, ?_, hpm, ?_⟩
  · rw [o2]
    exact strsAre_map _ fun v hv => by
      obtain ⟨x, hx, rfl⟩ := List.mem_map.mp hv
      exact hS.all _ (hmem x hx).2
  · rw [List.pairwise_iff_getElem]
    intro i j hi hj hij
    have hi' : i < xs.size := by simpa using hi
    have hj' : j < xs.size := by simpa using hj
    have h1 := hs i j (Nat.le_of_lt hij) (by rw [← hp.size_eq]; exact hj')
    obtain ⟨x, t, ex⟩ := hS.all _ (hmem xs[i] (by simp)).2
    obtain ⟨y, u, ey⟩ := hS.all _ (hmem xs[j] (by simp)).2
    rw [KK_str hi' (x := x) (t := t) (q := xs[i].2) (Prod.ext ex rfl), KK_str hj' (x := y) (t := u) (q := xs[j].2) (Prod.ext ey rfl)] at h1
    have h2 : ¬ y.cps.toList < x.cps.toList := of_decide_eq_false h1
    simp only [List.getElem_map, Array.getElem_toList]
    rw [show strOf xs[i].1 = x by rw [ex]; rfl, show strOf xs[j].1 = y by rw [ey]; rfl]
    exact h2
theorem call_sortedD (hc : X.calm = true) : CallR X (.builtin "sorted") (fun xs H Q => ∃ (p : Addr) (kvs : List (Key × V)) (ns : List Str), xs = [.ref p] ∧ H p = some (.dK kvs) ∧ kvs.map (·.1) = ns.map Sum.inr ∧ ns.length < 64 ∧
    ∀ l (ns' : List Str), H l = none → ns'.Perm ns → ns'.Pairwise (fun a b => ¬ before b a) → Q (.ref l) (upd H l (.lst (ns'.map V.str)))) := by
  intro pins s σ H xs us Q I r h
  obtain ⟨p, kvs, ns, rfl, hp, hks, h64, q⟩ := h
  obtain ⟨u, rfl, rx⟩ := vals1 r
  cases rx
  obtain ⟨hz, hsm, vs, rel, dd⟩ := dk_of I.hok hp
  obtain ⟨ep, hat⟩ := dd.dictAt
  have hvl : vs.length = ns.length := by
    have := congrArg List.length hks
    rw [List.length_map, List.length_map, rel.length] at this
    exact this
  have hh := I.ok.hd hc
  refine Calls.call_function_entry kind_sorted plain_sorted entry_sorted (args_sorted1 _) ?_
  unfold Builtin.«sorted»
  refine wpAny_bind (m := checkCount "sorted" 1 1 _) (wpAny_pure ?_)
  refine wpAny_bind (PySem.W.kdu_collect (A := X.A.in1) (PySem.W.kdl_dict (knd := mixKind X.prog X.w) (kvs := vs) (ep := ep) hsm) hh hat (by rw [hvl, sizeLine_eq]; omega) fun h' tk acc hk hacc => ?_)
  have hlen : acc.toList.length = ns.length := by rw [Array.length_toList, hacc.1, hvl]
  have hS : StrsAre acc.toList ns := strs_of_keys (P := X.prog) (w := X.w) hlen fun j v hv => by
    obtain ⟨k, x, e, hi⟩ := hacc.2 j v (by rw [← Array.getElem?_toList]; exact hv)
    have e2 := congrArg (fun l => l[j]?) (rel.keys.symm.trans hks)
    simp only [List.getElem?_map, e] at e2
    cases en : ns[j]? with
    | none => rw [en] at e2; cases e2
    | some n =>
      rw [en] at e2
      cases e2
      exact ⟨n, rfl, hi⟩
  refine wpAny_bind (wpAny_newList ?_ (by rw [hlen, sizeLine_eq]; omega))
  have hoL : (h'.push (seqObj "list" acc.toList.toArray 0)).get? h'.objs.size = some (seqObj "list" acc.toList.toArray 0) := Heap.get?_push_size _ rfl
  refine wpAny_bind (wpAny_holding (wpAny_call_entry slot_list_sort ⟨_, hoL, rfl⟩ entry_list_sort (list_sort_treeK strKind_oneLt hoL hS.keysOf (fun v₁ v₂ rest e => keyKind_strs (by rw [← e]; exact hS)) (by omega) fun st' a1 a2 => ⟨_, rfl, wpAny_pure ⟨_, rfl, ?_⟩⟩) (args_list_sort _)))
  obtain ⟨ss', b1, b2, b3⟩ := rising_of hS a1 a2
  have I1 : Inv X pins σ H { s with heap := h', toks := tk } := I.kept hk
  have fr : H h'.objs.size = none := I1.hok.fresh (Nat.le_refl _)
  obtain ⟨e, he⟩ := sortedHeap_at (out := (arrOf st').map (·.2)) hoL
  refine ⟨.ref _, _, I1.laid (t' := tk) (o := .lst (ss'.map V.str)) (fun b o hb => ?_) (Nat.le_refl _) ⟨?_, ((arrOf st').map (·.2)).toList, e, strs_back b1, by rw [Array.toArray_toList]; exact he⟩, rfl, q _ ss' fr b2 b3⟩
  · have hb2 := Heap.lt_size hb
    rw [sortedHeap_old (Nat.ne_of_lt hb2) (by rw [size_push']; exact Nat.lt_succ_of_lt hb2), Heap.get?_push_ne _ _ _ (Nat.ne_of_lt hb2)]
    exact hb
  · rw [List.length_map, b2.length_eq, sizeLine_eq]; omega
end
end Kp
set_option Elab.async false
set_option linter.all false
set_option maxRecDepth 100000
set_option maxHeartbeats 4000000
namespace L2
open PySem PySem.Spec PyProof.Rows
/-! ### t + u of two tuples, however they are known -/
/-- a slice of a tuple that is tracked -/
def rSlV : V → Option Int → Option Int → Hp → VK → Prop := fun x lo hi H Q => ∃ a xs, x = .ref a ∧ H a = some (.tup xs) ∧ ∀ p H', H' p = some (.tup (cutV xs lo hi)) → Same H H' → Q (.ref p) H'
theorem sl_tupV {X : Cx} : SlR X rSlV := by
  intro pins s σ H x v vl vu lo hi sl Q I rx hs pl pu h
  obtain ⟨a, xs, rfl, hx, q⟩ := h
  by_cases hw : HT.sIx xs.length 0 lo = 0 ∧ HT.sIx xs.length xs.length hi = xs.length
  · cases rx
    obtain ⟨its, r, ht, hz⟩ := I.tuple (SqT.of hx)
    have hlen : its.toArray.size = xs.length := by rw [List.size_toArray]; exact r.length.symm
    refine ⟨"tuple", _, PyProof.Rows.slot_tuple_getitem.lookup, ht.typeIs, ?_⟩
    refine HT.getItem_tuple_whole ht hs pl pu (by rw [hlen]; exact hw) ⟨.ref a, H, I, rfl, q a H (by rw [cutV_whole hw.1 hw.2]; exact hx) (Same.refl _)⟩
  · exact sl_tup pins s σ H _ _ vl vu lo hi sl Q I rx hs pl pu ⟨a, xs, rfl, SqT.of hx, hw, fun p hp => q p _ upd_same (Kp.same_upd hp)⟩
end L2
namespace K1
open PySem L2 Kp
theorem drop_min {α : Type} (xs : List α) (k : Nat) : xs.drop (min k xs.length) = xs.drop k := by
  by_cases h : k ≤ xs.length
  · rw [Nat.min_eq_left h]
  · rw [Nat.min_eq_right (by omega), List.drop_length, List.drop_eq_nil_of_le (by omega)]
theorem take_min {α : Type} (xs : List α) (k : Nat) : xs.take (min k xs.length) = xs.take k := by
  by_cases h : k ≤ xs.length
  · rw [Nat.min_eq_left h]
  · rw [Nat.min_eq_right (by omega), List.take_length, List.take_of_length_le (by omega)]
theorem cut_toN (xs : List V) (k : Nat) : cutV xs none (some (k : Int)) = xs.take k := by
  unfold cutV; rw [HT.sIx_nat, HT.sIx_none, List.drop_zero, Nat.sub_zero, take_min]
theorem cut_bothN (xs : List V) (i j : Nat) : cutV xs (some (i : Int)) (some (j : Int)) = (xs.drop i).take (j - i) := by
  unfold cutV; rw [HT.sIx_nat, HT.sIx_nat, drop_min]
  by_cases h : j ≤ xs.length
  · rw [Nat.min_eq_left h]
    by_cases h2 : i ≤ xs.length
    · rw [Nat.min_eq_left h2]
    · rw [Nat.min_eq_right (by omega), List.drop_eq_nil_of_le (by omega)]; simp
  · rw [Nat.min_eq_right (by omega)]
    by_cases h2 : i ≤ xs.length
    · rw [Nat.min_eq_left h2, List.take_of_length_le (by rw [List.length_drop]; omega), List.take_of_length_le (by rw [List.length_drop]; omega)]
    · rw [Nat.min_eq_right (by omega), List.drop_eq_nil_of_le (by omega)]; simp
/-! ### rows: a base, a last term, entries with their terms -/
inductive Ents (H : Hp) : List V → List Int → Prop
  | nil : Ents H [] []
  | cons {p : Addr} {x : V} {t : Int} {vs : List V} {ts : List Int} : H p = some (.tup [.int t, x]) → ThN 16 H x → Ents H vs ts → Ents H (.ref p :: vs) (t :: ts)
theorem Ents.same {H H' : Hp} (s : Same H H') : ∀ {vs ts}, Ents H vs ts → Ents H' vs ts
  | _, _, .nil => .nil
  | _, _, .cons e t r => .cons (s _ _ e) (t.mono (Nat.le_refl _) s) (Ents.same s r)
theorem Ents.length {H : Hp} : ∀ {vs ts}, Ents H vs ts → vs.length = ts.length
  | _, _, .nil => rfl
  | _, _, .cons _ _ r => by rw [List.length_cons, List.length_cons, Ents.length r]
theorem Ents.append {H : Hp} : ∀ {vs ts us rs}, Ents H vs ts → Ents H us rs → Ents H (vs ++ us) (ts ++ rs)
  | _, _, _, _, .nil, r => r
  | _, _, _, _, .cons e t r, q => .cons e t (Ents.append r q)
theorem Ents.get {H : Hp} : ∀ {vs : List V} {ts : List Int} {i : Nat} (h : i < ts.length), Ents H vs ts → ∃ p x, vs[i]? = some (.ref p) ∧ H p = some (.tup [.int ts[i], x]) ∧ ThN 16 H x
  | _, _, _, h, .nil => absurd h (Nat.not_lt_zero _)
  | _, _, 0, _, .cons e t _ => ⟨_, _, rfl, e, t⟩
  | _, _, i + 1, h, .cons _ _ r => Ents.get (i := i) (by simpa using h) r
theorem Ents.take {H : Hp} : ∀ {vs : List V} {ts : List Int} (n : Nat), Ents H vs ts → Ents H (vs.take n) (ts.take n)
  | _, _, 0, _ => by rw [List.take_zero, List.take_zero]; exact .nil
  | _, _, _ + 1, .nil => .nil
  | _, _, n + 1, .cons e t r => .cons e t (Ents.take n r)
theorem Ents.drop {H : Hp} : ∀ {vs : List V} {ts : List Int} (n : Nat), Ents H vs ts → Ents H (vs.drop n) (ts.drop n)
  | _, _, 0, r => r
  | _, _, _ + 1, .nil => .nil
  | _, _, n + 1, .cons _ _ r => Ents.drop n r
structure RowX (K : PySem.W.Frag) (H : Hp) (v : V) (b l : Int) (es : List V) (ts : List Int) : Prop where
  ex : ∃ rb c, v = .ref rb ∧ H rb = some (.tup [.int b, .int l, .ref c]) ∧ H c = some (.tup es)
  ents : Ents H es ts
  few : ts.length ≤ 900
theorem RowX.same {K : PySem.W.Frag} {H H' : Hp} {v : V} {b l : Int} {es : List V} {ts : List Int} (r : RowX K H v b l es ts) (s : Same H H') : RowX K H' v b l es ts :=
  let ⟨rb, c, e, h1, h2⟩ := r.ex
  ⟨⟨rb, c, e, s _ _ h1, s _ _ h2⟩, r.ents.same s, r.few⟩
def RowV (K : PySem.W.Frag) (H : Hp) (v : V) (b l : Int) (ts : List Int) : Prop := ∃ es, RowX K H v b l es ts
theorem RowV.same {K : PySem.W.Frag} {H H' : Hp} {v : V} {b l : Int} {ts : List Int} (r : RowV K H v b l ts) (s : Same H H') : RowV K H' v b l ts :=
  let ⟨es, x⟩ := r
  ⟨es, x.same s⟩
theorem ndec {p : Prop} [Decidable p] (h : ¬ decide p = true) : ¬ p := fun g => h (decide_eq_true g)
theorem getD_at {ts : List Int} {i : Nat} (h : i < ts.length) : ts.getD i 0 = ts[i] := by simp [h]
end K1
set_option Elab.async false
set_option linter.all false
set_option maxRecDepth 100000
set_option maxHeartbeats 4000000
namespace Kp
open PySem L2 PySem.Spec PyProof.Rows
/-! ### things that are the same at every part, however they are known: == is True -/
inductive Alike (K : PySem.W.Frag) (H : Hp) : Nat → V → V → Prop
  | flat {n : Nat} {v : V} (h : flatV v = true) : Alike K H n v v
  | ref {n : Nat} (a : Addr) : Alike K H n (.ref a) (.ref a)
  | tup {n : Nat} {a b : Addr} {xs ys : List V} (h1 : SqT K H a xs) (h2 : SqT K H b ys) (hl : xs.length = ys.length) (h : ∀ (i : Nat) (x y : V), xs[i]? = some x → ys[i]? = some y → Alike K H n x y) : Alike K H (n + 1) (.ref a) (.ref b)
theorem Alike.self {K : PySem.W.Frag} {H : Hp} {n B : Nat} {v : V} (t : ThN B H v) : Alike K H n v v := by
  cases t with
  | tup e l r => exact .ref _
  | _ => exact .flat rfl
theorem eqV_self {v : V} (h : flatV v = true) : eqV v v = true := by
  cases v with
  | bl b => cases b <;> rfl
  | int i => simp [eqV]
  | str x => simp [eqV]
  | non => rfl
  | _ => cases h
theorem eq_alike {X : Cx} {pins : List (Addr × Obj)} {σ : L2.St} {H : Hp} {s : Shared} (I : Inv X pins σ H s) : ∀ (n : Nat) (v u : V) (uv uu : Value) (A : Around), Alike X.K H n v u → RelV v uv → RelV u uu → A.units + n < cLine → SeqAt.EqAt A s uv uu true := by
  intro n
  induction n with
  | zero =>
    intro v u uv uu A h rv ru hu
    cases h with
    | flat f =>
      have := eqAt_V (A := A) (s := s) rv ru f f
      rw [eqV_self f] at this
      exact this
    | ref a => cases rv; cases ru; exact .same _
  | succ n ih =>
    intro v u uv uu A h rv ru hu
    cases h with
    | flat f =>
      have := eqAt_V (A := A) (s := s) rv ru f f
      rw [eqV_self f] at this
      exact this
    | ref a => cases rv; cases ru; exact .same _
    | @tup _ a b xs ys h1 h2 hl h =>
      cases rv
      cases ru
      by_cases hab : a = b
      · subst hab; exact .same _
      · refine SeqAt.EqAt.of_refs hab ?_
        have hu0 : A.units < cLine := by omega
        obtain ⟨its, q1, p1, _⟩ := I.tuple h1
        obtain ⟨jts, q2, p2, _⟩ := I.tuple h2
        have hl2 : its.toArray.size = jts.toArray.size := by simp [← q1.length, ← q2.length, hl]
        have z := SeqAt.RcAt.tuples (e := fun _ => true) (show s.heap.IsTuple a its.toArray from p1) (show s.heap.IsTuple b jts.toArray from p2) hu0 (fun j g1 g2 => by
          obtain ⟨x, ex, rx⟩ := Vals.at q1 g1
          obtain ⟨y, ey, ry⟩ := Vals.at q2 g2
          exact ih x y _ _ A.in1 (h j x y ex ey) rx ry (by show A.units + 1 + n < cLine; omega))
        rw [all_true, hl2, beq_self_eq_true] at z
        exact z
def rAl (K : PySem.W.Frag) (c : Bool) : R2 := fun x y H Q => ∃ p q xs ys n, x = .ref p ∧ y = .ref q ∧ SqT K H p xs ∧ SqT K H q ys ∧ xs.length = ys.length ∧ (∀ (i : Nat) (x y : V), xs[i]? = some x → ys[i]? = some y → Alike K H n x y) ∧ n ≤ 90 ∧ Q (.bl c) H
def rAlL (K : PySem.W.Frag) (c : Bool) : R2 := fun x y H Q => ∃ p q xs ys n, x = .ref p ∧ y = .ref q ∧ SqL K H p xs ∧ SqL K H q ys ∧ xs.length = ys.length ∧ (∀ (i : Nat) (x y : V), xs[i]? = some x → ys[i]? = some y → Alike K H n x y) ∧ n ≤ 90 ∧ Q (.bl c) H
theorem op_eqA {X : Cx} (hu : X.A.units + 100 < cLine) : OpR X (compareOp .Eq) (rAl X.K true) := by
  intro pins s σ H x y v u Q I rx ry h
  obtain ⟨p, q', xs, ys, n, rfl, rfl, h1, h2, hl, h, hn, q⟩ := h
  cases rx
  cases ry
  obtain ⟨its, q1, p1, _⟩ := I.tuple h1
  obtain ⟨jts, q2, p2, _⟩ := I.tuple h2
  have hl2 : its.toArray.size = jts.toArray.size := by simp [← q1.length, ← q2.length, hl]
  refine SeqAt.eq_tupleAt (e := fun _ => true) (show s.heap.IsTuple p its.toArray from p1) (show s.heap.IsTuple q' jts.toArray from p2) (by omega) (fun j g1 g2 => ?_) ⟨.bl true, H, I, ?_, q⟩
  · obtain ⟨x, ex, rx⟩ := Vals.at q1 g1
    obtain ⟨y, ey, ry⟩ := Vals.at q2 g2
    exact eq_alike I n x y _ _ X.A.in1 (h j x y ex ey) rx ry (by show X.A.units + 1 + n < cLine; omega)
  · rw [all_true, hl2, beq_self_eq_true]; rfl
theorem op_neA {X : Cx} (hu : X.A.units + 100 < cLine) : OpR X (compareOp .NotEq) (rAl X.K false) := by
  intro pins s σ H x y v u Q I rx ry h
  obtain ⟨p, q', xs, ys, n, rfl, rfl, h1, h2, hl, h, hn, q⟩ := h
  cases rx
  cases ry
  obtain ⟨its, q1, p1, _⟩ := I.tuple h1
  obtain ⟨jts, q2, p2, _⟩ := I.tuple h2
  have hl2 : its.toArray.size = jts.toArray.size := by simp [← q1.length, ← q2.length, hl]
  refine SeqAt.RcNeAt.tuples (e := fun _ => true) (show s.heap.IsTuple p its.toArray from p1) (show s.heap.IsTuple q' jts.toArray from p2) (by omega) (fun j g1 g2 => ?_) X.prog X.w X.xe _ ⟨.bl false, H, I, ?_, q⟩
  · obtain ⟨x, ex, rx⟩ := Vals.at q1 g1
    obtain ⟨y, ey, ry⟩ := Vals.at q2 g2
    exact eq_alike I n x y _ _ X.A.in1 (h j x y ex ey) rx ry (by show X.A.units + 1 + n < cLine; omega)
  · rw [all_true, hl2, beq_self_eq_true]; rfl
theorem op_neAL {X : Cx} (hu : X.A.units + 100 < cLine) : OpR X (compareOp .NotEq) (rAlL X.K false) := by
  intro pins s σ H x y v u Q I rx ry h
  obtain ⟨p, q', xs, ys, n, rfl, rfl, h1, h2, hl, h, hn, q⟩ := h
  cases rx
  cases ry
  obtain ⟨its, q1, p1, _⟩ := I.list h1
  obtain ⟨jts, q2, p2, _⟩ := I.list h2
  refine SeqAt.RcNeAt.lists (e := fun _ => true) p1.isList p2.isList (by simp [← q1.length, ← q2.length, hl]) (by omega) (fun j g1 g2 => ?_) _ _ _ _ ⟨.bl false, H, I, ?_, q⟩
  · obtain ⟨x, ex, rx⟩ := Vals.at q1 g1
    obtain ⟨y, ey, ry⟩ := Vals.at q2 g2
    exact eq_alike I n x y _ _ X.A.in1 (h j x y ex ey) rx ry (by show X.A.units + 1 + n < cLine; omega)
  · rw [all_true]; rfl
end Kp
namespace L2
open PySem
theorem Room.units100 {k : Nat} {A : Around} (r : Room k A) : A.units + 100 < cLine := by have := r.un; omega
end L2
set_option Elab.async false
set_option linter.all false
set_option maxRecDepth 100000
set_option maxHeartbeats 1000000
namespace L2
open PySem PySem.Spec PyProof.Rows
/-! ### max of a list of ints; min of one, with a default -/
section
variable {prog : Program} {w : World} {A : Around} {R : Result → Shared → Prop} {it : Addr} {fp wr : List Addr} {n : Nat} {Pv : Nat → Value → Prop} {St : Nat → Heap → Prop} {dv : Value}
end
section
variable {X : Cx}
end
end L2
namespace K1
open PySem L2 Kp
theorem ix_tupK {X : Cx} {K : PySem.W.Frag} (hK : X.K = K) : IxR X (rIxT K) := by subst hK; exact ix_tup
end K1
namespace Kp
open PySem L2
theorem Cal.mono {P : Program} {w : World} {K : PySem.W.Frag} {mg : Str → Option Value} {base : Heap} {x : Str} {k k' : Nat} {ps : List Str} {sp : Sp} (C : Cal P w K mg base x k ps sp) (h : k ≤ k') : Cal P w K mg base x k' ps sp :=
  let ⟨f, fd, F, a, b, c⟩ := C.ex
  ⟨⟨f, fd, F.mono h, a, b, c⟩⟩
end Kp
set_option Elab.async false
set_option linter.all false
set_option maxRecDepth 100000
set_option maxHeartbeats 4000000
namespace Kp
open PySem L2
/-- a comprehension without a condition whose items are known by their places -/
theorem comp_idx {J : It} {H1 : Hp} {n k : Nat} {frs : St} {g : TG} {tt : TT} {te : TE} {Q : VK} (R : Nat → Hp → V → Prop) (mono : ∀ i H H' v, SameT H H' → R i H v → R i H' v) (hn : n < sizeLine)
    (go : ∀ i H, i < n → Same H1 H → J.go i H) (stop : ∀ H, Same H1 H → J.stop n H)
    (turn : ∀ i H t x H2 (S : St → Hp → Option V → Prop), i < n → Same H1 H → t.length = k → J.yld i H x H2 →
      (∀ t' H' v, t'.length = k → Same H H' → R i H' v → S (t' ++ frs) H' (some v)) →
      g x (t ++ frs) H2 fun σ3 H3 => tt σ3 H3 fun b H4 => if b = true then te σ3 H4 fun v H5 => S σ3 H5 (some v) else S σ3 H4 none)
    (hq : ∀ D H' ys, Same H1 H' → H1 D = none → H' D = some (.lst ys) → ys.length = n → (∀ i v, ys[i]? = some v → R i H' v) → Q (.ref D) H') : CompGo (List.replicate k none ++ frs) g tt te Q J H1 := by
  intro D hD
  refine ⟨fun i m ys σ H => i ≤ n ∧ m = n - i ∧ ys.length = i ∧ (∀ j v, ys[j]? = some v → R j H v) ∧ Same H1 H ∧ ∃ t, t.length = k ∧ σ = t ++ frs, ⟨n, Nat.zero_le _, rfl, rfl, fun j v hv => by simp at hv, same_upd hD, _, by simp, rfl⟩, ?_⟩
  rintro i m ys σ H ⟨hi, rfl, hl, hR, s1, t, ht, rfl⟩ hd
  by_cases hlt : i < n
  · right
    refine ⟨go i H hlt s1, by omega, fun x H2 y => ?_⟩
    have keep : ∀ (H5 : Hp) (zs : List V), H5 D = some (.lst ys) → SameT H5 (upd H5 D (.lst zs)) := fun H5 zs h5 b xs e => by
      rw [upd_ne (fun q => by rw [q, h5] at e; cases e)]; exact e
    have tup : ∀ {H H' : Hp}, Same H H' → SameT H H' := fun s b xs e => s _ _ e
    refine turn i H t x H2 (fun σ3 H5 r => match r with
      | some v => H5 D = some (.lst ys) ∧ ∃ m', m' < n - i ∧ (i + 1 ≤ n ∧ m' = n - (i + 1) ∧ (ys ++ [v]).length = i + 1 ∧ (∀ j u, (ys ++ [v])[j]? = some u → R j (upd H5 D (.lst (ys ++ [v]))) u) ∧ Same H1 (upd H5 D (.lst (ys ++ [v]))) ∧ ∃ t, t.length = k ∧ σ3 = t ++ frs)
      | none => H5 D = some (.lst ys) ∧ ∃ m', m' < n - i ∧ (i + 1 ≤ n ∧ m' = n - (i + 1) ∧ ys.length = i + 1 ∧ (∀ j u, ys[j]? = some u → R j H5 u) ∧ Same H1 H5 ∧ ∃ t, t.length = k ∧ σ3 = t ++ frs)) hlt s1 ht y ?_
    intro t' H' v ht' s2 rv
    have h5 := s2 _ _ hd
    refine ⟨h5, n - (i + 1), by omega, by omega, rfl, by rw [List.length_append, hl]; rfl, fun j u hu => ?_, fun b o e => ?_, t', ht', rfl⟩
    · by_cases hj : j < ys.length
      · rw [List.getElem?_append_left hj] at hu
        exact mono _ _ _ _ (keep H' _ h5) (mono _ _ _ _ (tup s2) (hR j u hu))
      · rw [List.getElem?_append_right (by omega)] at hu
        have e0 : j - ys.length = 0 := by
          cases e : j - ys.length with
          | zero => rfl
          | succ m => rw [e] at hu; simp at hu
        rw [e0] at hu
        cases hu
        obtain rfl : j = i := by omega
        exact mono _ _ _ _ (keep H' _ h5) rv
    · rw [upd_ne (ne_of_none e hD)]; exact s2 _ _ (s1 _ _ e)
  · have e : i = n := by omega
    subst e
    exact .inl ⟨stop H s1, hq D H ys s1 hD hd hl hR⟩
end Kp
namespace K1
open PySem L2 Kp
/-! ### rows of a store: a name and whole numbers -/
abbrev Rw := Str × List Int
theorem str_ext {a b : Str} (h : a.cps.toList = b.cps.toList) : a = b := by
  obtain ⟨⟨x⟩⟩ := a
  obtain ⟨⟨y⟩⟩ := b
  simp only at h
  rw [h]
instance (a b : Str) : Decidable (before a b) := inferInstanceAs (Decidable (a.cps.toList < b.cps.toList))
theorem before_irrefl (a : Str) : ¬ before a a := List.lt_irrefl _
theorem before_trans {a b c : Str} (h : before a b) (h' : before b c) : before a c := List.lt_trans h h'
theorem before_asymm {a b : Str} (h : before a b) : ¬ before b a := fun h' => before_irrefl _ (before_trans h h')
theorem before_tri {a b : Str} (h : ¬ before a b) (h' : ¬ before b a) : a = b := str_ext (List.le_antisymm (List.not_lt.mp h') (List.not_lt.mp h))
theorem before_ne {a b : Str} (h : before a b) : a ≠ b := fun e => before_irrefl _ (e ▸ h)
structure RwOk (W : List Str) (n : Nat) (rs : List Rw) : Prop where
  up : rs.Pairwise fun a b => before a.1 b.1
  inW : ∀ r ∈ rs, r.1 ∈ W
  sz : ∀ r ∈ rs, r.2.length = n
theorem nodup_len : ∀ (l W : List Str), l.Nodup → (∀ x ∈ l, x ∈ W) → l.length ≤ W.length
  | [], _, _, _ => Nat.zero_le _
  | x :: l, W, hn, h => by
    have hx := h x List.mem_cons_self
    rw [List.nodup_cons] at hn
    have := nodup_len l (W.erase x) hn.2 fun y hy => (List.mem_erase_of_ne (fun e : y = x => hn.1 (by rw [← e]; exact hy))).mpr (h y (List.mem_cons_of_mem _ hy))
    rw [List.length_erase_of_mem hx] at this
    have := List.length_pos_of_mem hx
    rw [List.length_cons]
    omega
theorem RwOk.nodup {W : List Str} {n : Nat} {rs : List Rw} (h : RwOk W n rs) : (rs.map (·.1)).Nodup := by
  unfold List.Nodup
  rw [List.pairwise_map]
  exact h.up.imp fun h => before_ne h
theorem RwOk.len {W : List Str} {n : Nat} {rs : List Rw} (h : RwOk W n rs) : rs.length ≤ W.length := by
  have := nodup_len _ W h.nodup fun x hx => by
    obtain ⟨r, hr, rfl⟩ := List.mem_map.mp hx
    exact h.inW r hr
  rwa [List.length_map] at this
/-- a row put at its place by the alphabet -/
def putF (rs : List Rw) (r : Rw) : List Rw := rs.filter (fun x => decide (before x.1 r.1)) ++ r :: rs.filter fun x => decide (before r.1 x.1)
theorem putF_ok {W : List Str} {n : Nat} {rs : List Rw} {r : Rw} (h : RwOk W n rs) (h1 : r.1 ∈ W) (h2 : r.2.length = n) : RwOk W n (putF rs r) := by
  refine ⟨?_, fun x hx => ?_, fun x hx => ?_⟩
  · unfold putF
    rw [List.pairwise_append, List.pairwise_cons]
    refine ⟨h.up.filter _, ⟨fun x hx => ?_, h.up.filter _⟩, fun x hx y hy => ?_⟩
    · exact of_decide_eq_true (List.mem_filter.mp hx).2
    · have hx2 : before x.1 r.1 := of_decide_eq_true (List.mem_filter.mp hx).2
      rcases List.mem_cons.mp hy with rfl | hy
      · exact hx2
      · exact before_trans hx2 (of_decide_eq_true (List.mem_filter.mp hy).2)
  all_goals
    unfold putF at hx
    rcases List.mem_append.mp hx with hx | hx
    · first | exact h.inW x (List.mem_filter.mp hx).1 | exact h.sz x (List.mem_filter.mp hx).1
    · rcases List.mem_cons.mp hx with rfl | hx
      · first | exact h1 | exact h2
      · first | exact h.inW x (List.mem_filter.mp hx).1 | exact h.sz x (List.mem_filter.mp hx).1
theorem up_unique : ∀ (l m : List Rw), l.Perm m → l.Pairwise (fun a b => before a.1 b.1) → m.Pairwise (fun a b => before a.1 b.1) → l = m
  | [], m, hp, _, _ => hp.symm.eq_nil.symm
  | a :: l, [], hp, _, _ => absurd hp.length_eq (by simp)
  | a :: l, b :: m, hp, h1, h2 => by
    rw [List.pairwise_cons] at h1 h2
    have hab : a = b := by
      have ha : a ∈ b :: m := hp.mem_iff.mp List.mem_cons_self
      have hb : b ∈ a :: l := hp.mem_iff.mpr List.mem_cons_self
      rcases List.mem_cons.mp ha with e | ha
      · exact e
      · rcases List.mem_cons.mp hb with e | hb
        · exact e.symm
        · exact absurd (h2.1 a ha) (before_asymm (h1.1 b hb))
    subst hab
    rw [up_unique l m hp.cons_inv h1.2 h2.2]
theorem put_perm {rs : List Rw} {r : Rw} : (rs.filter (fun x => decide (x.1 ≠ r.1)) ++ [r]).Perm (putF rs r) := by
  have h : (rs.filter (fun x => decide (x.1 ≠ r.1))).Perm (rs.filter (fun x => decide (before x.1 r.1)) ++ rs.filter fun x => decide (before r.1 x.1)) := by
    induction rs with
    | nil => exact .nil
    | cons x rs ih =>
      by_cases e1 : before x.1 r.1
      · have e2 := before_ne e1
        have e3 := before_asymm e1
        simp only [List.filter_cons, e1, e2, e3, decide_true, decide_false, if_true, Bool.false_eq_true, if_false, ne_eq, not_false_eq_true, List.cons_append]
        exact ih.cons x
      · by_cases e2 : before r.1 x.1
        · have e3 : x.1 ≠ r.1 := fun e => before_ne e2 e.symm
          simp only [List.filter_cons, e1, e2, e3, decide_true, decide_false, if_true, Bool.false_eq_true, if_false, ne_eq, not_false_eq_true]
          exact (ih.cons x).trans List.perm_middle.symm
        · have e3 : x.1 = r.1 := before_tri e1 e2
          have e4 := before_irrefl r.1
          simp only [List.filter_cons, e3, e4, decide_true, decide_false, if_true, Bool.false_eq_true, if_false, ne_eq, not_true_eq_false]
          exact ih
  unfold putF
  exact (h.append_right [r]).trans (by
    rw [List.append_assoc]
    exact List.Perm.append_left _ List.perm_append_comm)
/-- the value that stands at a name -/
def valF (rs : List Rw) (n : Str) : Int := match rs.filter fun r => decide (r.1 = n) with
  | [] => 0
  | r :: _ => r.2.headD 0
inductive Deed | get (n : Str) | set (n : Str) (x : Int) | add (n : Str) (x : Int)
def Deed.nm : Deed → Str
  | .get n => n
  | .set n _ => n
  | .add n _ => n
abbrev Sto := List Rw × List Rw
def doneF (S : Sto) : Deed → Sto × Int
  | .get n => (S, valF S.1 n)
  | .add n x => ((putF S.1 (n, [valF S.1 n + x]), S.2), valF S.1 n + x)
  | .set n x => ((putF S.1 (n, [x]), S.2), valF S.1 n)
structure StoOk (W C : List Str) (S : Sto) : Prop where
  ns : RwOk W 1 S.1
  cs : RwOk C 2 S.2
  ge : ∀ r ∈ S.2, 1 ≤ r.2.headD 0
theorem doneF_ok {W C : List Str} {S : Sto} {d : Deed} (h : StoOk W C S) (hd : d.nm ∈ W) : StoOk W C (doneF S d).1 := by
  cases d with
  | get n => exact h
  | set n x => exact ⟨putF_ok h.ns hd rfl, h.cs, h.ge⟩
  | add n x => exact ⟨putF_ok h.ns hd rfl, h.cs, h.ge⟩
/-! ### in the heap -/
inductive Rws (H : Hp) : List V → List Rw → Prop
  | nil : Rws H [] []
  | cons {p : Addr} {n : Str} {is : List Int} {vs : List V} {rs : List Rw} : H p = some (.tup (.str n :: is.map V.int)) → Rws H vs rs → Rws H (.ref p :: vs) ((n, is) :: rs)
theorem Rws.sameT {H H' : Hp} (s : SameT H H') : ∀ {vs rs}, Rws H vs rs → Rws H' vs rs
  | _, _, .nil => .nil
  | _, _, .cons e r => .cons (s _ _ e) (Rws.sameT s r)
theorem Rws.same {H H' : Hp} {vs : List V} {rs : List Rw} (h : Rws H vs rs) (s : Same H H') : Rws H' vs rs := h.sameT (sameT_of s)
theorem Rws.length {H : Hp} : ∀ {vs rs}, Rws H vs rs → vs.length = rs.length
  | _, _, .nil => rfl
  | _, _, .cons _ r => by rw [List.length_cons, List.length_cons, Rws.length r]
theorem Rws.get {H : Hp} : ∀ {vs : List V} {rs : List Rw} {i : Nat} (h : i < rs.length), Rws H vs rs → ∃ p, vs[i]? = some (.ref p) ∧ H p = some (.tup (.str (rs[i]).1 :: (rs[i]).2.map V.int))
  | _, _, _, h, .nil => absurd h (Nat.not_lt_zero _)
  | _, _, 0, _, .cons e _ => ⟨_, rfl, e⟩
  | _, _, i + 1, h, .cons _ r => Rws.get (i := i) (by simpa using h) r
theorem Rws.append {H : Hp} : ∀ {vs rs us qs}, Rws H vs rs → Rws H us qs → Rws H (vs ++ us) (rs ++ qs)
  | _, _, _, _, .nil, r => r
  | _, _, _, _, .cons e r, q => .cons e (Rws.append r q)
def RwT (H : Hp) (a : Addr) (rs : List Rw) : Prop := ∃ vs, H a = some (.tup vs) ∧ Rws H vs rs
theorem RwT.same {H H' : Hp} {a : Addr} {rs : List Rw} (h : RwT H a rs) (s : Same H H') : RwT H' a rs := let ⟨vs, e, r⟩ := h; ⟨vs, s _ _ e, r.same s⟩
def StV (H : Hp) (v : V) (S : Sto) : Prop := ∃ s a c, v = .ref s ∧ H s = some (.tup [.ref a, .ref c]) ∧ RwT H a S.1 ∧ RwT H c S.2
theorem StV.same {H H' : Hp} {v : V} {S : Sto} (h : StV H v S) (s : Same H H') : StV H' v S := let ⟨p, a, c, e, h1, h2, h3⟩ := h; ⟨p, a, c, e, s _ _ h1, h2.same s, h3.same s⟩
theorem RwT.alike {K : PySem.W.Frag} {H : Hp} {a c : Addr} {rs : List Rw} (h : RwT H a rs) (h' : RwT H c rs) : Alike K H 2 (.ref a) (.ref c) := by
  obtain ⟨vs, e, r⟩ := h
  obtain ⟨us, e', r'⟩ := h'
  refine .tup (SqT.of e) (SqT.of e') (by rw [r.length, r'.length]) fun i x y hx hy => ?_
  have hi : i < rs.length := by rw [← r.length]; exact (List.getElem?_eq_some_iff.mp hx).1
  obtain ⟨p, g, hp⟩ := r.get hi
  obtain ⟨q, g', hq⟩ := r'.get hi
  rw [g] at hx
  rw [g'] at hy
  cases hx
  cases hy
  refine .tup (SqT.of hp) (SqT.of hq) rfl fun j x y hx hy => ?_
  rw [hx] at hy
  cases hy
  cases j with
  | zero => cases hx; exact .flat rfl
  | succ j =>
    rw [List.getElem?_cons_succ, List.getElem?_map] at hx
    cases e2 : (rs[i]).2[j]? with
    | none => rw [e2] at hx; cases hx
    | some z => rw [e2] at hx; cases hx; exact .flat rfl
def DeedV (H : Hp) (v : V) : Deed → Prop
  | .get n => ∃ p, v = .ref p ∧ H p = some (.tup [.str "get", .str n])
  | .set n x => ∃ p, v = .ref p ∧ H p = some (.tup [.str "set", .str n, .int x])
  | .add n x => ∃ p, v = .ref p ∧ H p = some (.tup [.str "add", .str n, .int x])
theorem DeedV.same {H H' : Hp} {v : V} {d : Deed} (h : DeedV H v d) (s : Same H H') : DeedV H' v d := by
  cases d <;> (obtain ⟨p, e, hp⟩ := h; exact ⟨p, e, s _ _ hp⟩)
end K1
set_option Elab.async false
set_option linter.all false
set_option maxRecDepth 100000
namespace Kp
open PySem L2
/-! ### displays of written flat things, as they are -/
def tFix (xs : List V) : TA := fun _ H Q => Q xs H
def tFixL (xs : List V) : TE := fun _ H Q => ∀ p, H p = none → Q (.ref p) (upd H p (.lst xs))
structure FA (X : Cx) (es : List Expr) (xs : List V) : Prop where
  h : PA X es (tFix xs)
section
variable {X : Cx} {es : List Expr} {xs : List V} {p : Pos} {j : Nat}
theorem fa_nil : FA X [] [] := ⟨PA.weak pa_nil fun σ H Q q => q⟩
theorem fa_str {i : Str} (r : FA X es xs) : FA X (.Constant (.str i) j p :: es) (.str i :: xs) := ⟨PA.weak (pa_i pe_str r.h) fun σ H Q q => q⟩
theorem fa_int {i : Int} (r : FA X es xs) : FA X (.Constant (.int i) j p :: es) (.int i :: xs) := ⟨PA.weak (pa_i pe_int r.h) fun σ H Q q => q⟩
theorem fx_lst (a : FA X es xs) (hn : xs.length ≤ 1000) : QE X (.List es p) (tFixL xs) := ⟨PE.weak (pe_lst a.h) fun σ H Q q => ⟨tiny hn, q⟩⟩
end
end Kp
namespace Kp
open PySem L2
/-- a display of texts, taken out of the text itself -/
def strsOf : List Expr → List Str
  | .Constant (.str x) _ _ :: r => x :: strsOf r
  | _ => []
def strsOk : List Expr → Bool
  | [] => true
  | .Constant (.str _) _ _ :: r => strsOk r
  | _ => false
theorem fs_all {X : Cx} : ∀ {es : List Expr}, strsOk es = true → FA X es ((strsOf es).map V.str)
  | [], _ => fa_nil
  | .Constant (.str x) _ _ :: r, h => fa_str (fs_all (es := r) h)
theorem fs_lst {X : Cx} {es : List Expr} {p : Pos} (h : strsOk es = true) (hn : (strsOf es).length ≤ 1000) : QE X (.List es p) (tFixL ((strsOf es).map V.str)) := fx_lst (fs_all h) (by rw [List.length_map]; exact hn)
end Kp
namespace Kp
open PySem L2
/-- to be written with @ and holes: else the elaborator runs what the statement holds -/
theorem ps_retB {X : Cx} {e : Expr} {te : TE} {pos : Pos} (he : QE X e te) : PS X (.Return (some e) pos) (tRet te) := ps_ret he.h
end Kp
set_option Elab.async false
set_option linter.all false
set_option maxRecDepth 100000
set_option maxHeartbeats 4000000
namespace K1
open PySem L2 Kp
section
variable {P : Program} {w : World} {K : PySem.W.Frag} {mg : Str → Option Value} {base : Heap}
theorem atI_mem {α : Type} {xs : List α} {i : Int} (h0 : 0 ≤ i) (h1 : i < xs.length) : ∃ v, atI xs i = some v ∧ v ∈ xs := by
  obtain ⟨j, rfl⟩ := Int.eq_ofNat_of_zero_le h0
  have hj : j < xs.length := by omega
  exact ⟨xs[j], atI_nat (by simp [hj]), List.getElem_mem _⟩
def cellF (ns : List Int) (k : Int) : Int := ns.getD k.toNat 0
def spCellF (K : PySem.W.Frag) : Sp := fun vs H Q _ => ∃ (a : Addr) (ns : List Int) (k : Int), vs = [.ref a, .int k] ∧ SqL K H a (ns.map V.int) ∧ 0 ≤ k ∧ Q (.int (cellF ns k)) H
theorem scCf : FnScope ["_law_script", "_law_k"] ["_law_script", "_law_k"] (defScope sCell) := ⟨rfl, rfl, rfl, by decide +kernel, rfl, by decide +kernel, by decide +kernel⟩
theorem ok_cellF {f : Addr} {fd : FuncData} (F : Fun K "_law_cell_at" "_law_cell_at" sCell f fd) (T : Txt mg) : FnOk P w K mg base CX0 1 f fd ["_law_script", "_law_k"] (spCellF K) := by
  refine F.ok scCf (fun vs H Q E ⟨_, _, _, e, _⟩ => by subst e; rfl) (fun cdv A outer s H vs Q E hr h => ?_)
  obtain ⟨a, ns, k, rfl, hS, h0, q⟩ := h
  obtain ⟨j, rfl⟩ := Int.eq_ofNat_of_zero_le h0
  refine ⟨_, @pss_p _ _ _ _ _ (ps_if (pt_cmpR op_lt (pv 1) (pe_callB call_len_seq (by rfl) T.len PySem.boot_len (pa_n (pv 0) pa_nil)) (nomark _)) (@pss_o _ _ _ (ps_ret (pe_ix ix_list (pv 0) (pv 1) px_n))) pss_nil)
    (@pss_o _ _ _ (ps_ret (pe_int))), ?_⟩
  unfold cellF at q
  rw [Int.toNat_natCast] at q
  refine ⟨_, rfl, _, rfl, a, _, rfl, .inl hS, _, _, rfl, rfl, _, rfl, ite2 (fun hlt => ?_) (fun hlt => ?_)⟩
  · have hj : j < ns.length := by have := of_decide_eq_true hlt; rw [List.length_map] at this; omega
    rw [getD_at hj] at q
    exact ⟨_, rfl, _, rfl, a, _, _, .int ns[j], rfl, rfl, hS, atI_nat (by simp [hj]), q⟩
  · have hj : ns.length ≤ j := by have := ndec hlt; rw [List.length_map] at this; omega
    rw [List.getD_eq_getElem?_getD, List.getElem?_eq_none hj] at q
    exact q
def mixN (c k : Int) : Int := (c + 7919 * k + 1) * 48271 % 2147483647
def mixV (n k : Int) : Int := (n * n + 7 * n + k) % 2147483629
def mixF (ns : List Int) (k : Int) : Int := mixV (mixN (cellF ns (k % 40)) k) k
theorem mixF_in (ns : List Int) (k : Int) : 0 ≤ mixF ns k ∧ mixF ns k < 2147483629 := emod_in _ (by decide)
def spMixF (K : PySem.W.Frag) : Sp := fun vs H Q _ => ∃ (a : Addr) (ns : List Int) (k : Int), vs = [.ref a, .int k] ∧ SqL K H a (ns.map V.int) ∧ 0 ≤ k ∧ Q (.int (mixF ns k)) H
theorem scMx : FnScope ["_law_script", "_law_k", "_law_number"] ["_law_script", "_law_k"] (defScope sMixed) := ⟨rfl, rfl, rfl, by decide +kernel, rfl, by decide +kernel, by decide +kernel⟩
theorem ok_mixF {f : Addr} {fd : FuncData} (F : Fun K "_law_mixed" "_law_mixed" sMixed f fd) (CC : Cal P w K mg base "_law_cell_at" 1 ["_law_script", "_law_k"] (spCellF K)) : FnOk P w K mg base CX0 2 f fd ["_law_script", "_law_k"] (spMixF K) := by
  refine F.ok scMx (fun vs H Q E ⟨_, _, _, e, _⟩ => by subst e; rfl) (fun cdv A outer s H vs Q E hr h => ?_)
  obtain ⟨a, ns, k, rfl, hS, h0, q⟩ := h
  obtain ⟨gC, dC, GC, mC, kC, bC⟩ := CC.ex
  refine ⟨_, @pss_p _ _ _ _ _ (ps_set (i := 2) scMx.nd (by rfl) (by exact Or.inl rfl) (pe_op op_mod (pe_op op_mul (pe_op op_add (pe_op op_add (pe_call GC hr (by rfl) mC kC bC .nil pass0 (pa_n (pv 0) (pa_b (pe_op op_mod (pv 1) (pe_int)) pa_nil))) (pe_op op_mul (pe_int) (pv 1))) (pe_int)) (pe_int)) (pe_int)))
    (@pss_o _ _ _ (ps_ret (pe_op op_mod (pe_op op_add (pe_op op_add (pe_op op_mul (pv 2) (pv 2)) (pe_op op_mul (pe_int) (pv 2))) (pv 1)) (pe_int)))), ?_⟩
  refine ⟨_, rfl, _, rfl, _, _, rfl, rfl, (by show (0 : Int) < 40; decide), a, ns, _, rfl, hS, (emod_in k (m := 40) (by decide)).1, _, rfl, _, _, rfl, rfl, .inl ⟨by decide, by decide⟩, _, _, rfl, rfl, _, _, rfl, rfl, _, _, rfl, rfl, .inr ⟨by decide, by decide⟩, _, _, rfl, rfl, (by show (0 : Int) < 2147483647; decide), ?_⟩
  show gName 2 (V.int (mixN (cellF ns (k % 40)) k)) _ _ _
  have b := emod_in ((cellF ns (k % 40) + 7919 * k + 1) * 48271) (m := 2147483647) (by decide)
  have b1 : 0 ≤ mixN (cellF ns (k % 40)) k := b.1
  have b2 : mixN (cellF ns (k % 40)) k < 2147483647 := b.2
  exact ⟨_, rfl, _, rfl, _, _, rfl, rfl, .inl ⟨by omega, by omega⟩, _, rfl, _, _, rfl, rfl, .inl ⟨by decide, by decide⟩, _, _, rfl, rfl, _, rfl, _, _, rfl, rfl, _, _, rfl, rfl, (by show (0 : Int) < 2147483629; decide), q⟩
/-! ### names that are alike but for one sign -/
def abc : Str := "abcdefghijklmnopqrstuvwxyz"
def alW (st : Int) (w : Str) : List Str := abc.cps.toList.map fun c => Txt.slice w none (some (st / 8 % (1 + st % 8))) ++ (⟨#[c]⟩ : Str) ++ Txt.slice w (some (st / 8 % (1 + st % 8) + 1)) (some (1 + st % 8))
theorem abc_len : abc.cps.toList.length = 26 := by decide +kernel
theorem alW_len (st : Int) (w : Str) : (alW st w).length = 26 := by unfold alW; rw [List.length_map, abc_len]
theorem app_lenS (x y : Str) : (x ++ y).length = x.length + y.length := by
  show (x.cps ++ y.cps).size = _
  rw [Array.size_append]
  rfl
def spAl : Sp := fun vs H Q _ => ∃ (st : Int) (w : Str) (n : Int), vs = [.int st, .str w, .int n] ∧ w.length ≤ 16 ∧ ∀ (x : Str) (H' : Hp), x ∈ alW st w → Same H H' → Q (.str x) H'
theorem scAb : FnScope ["_law_style", "_law_word", "_law_number", "_law_size", "_law_at", "_law_sign"] ["_law_style", "_law_word", "_law_number"] (defScope s__law_alike_by) := ⟨rfl, rfl, rfl, by decide +kernel, rfl, by decide +kernel, by decide +kernel⟩
theorem ok_al {f : Addr} {fd : FuncData} (F : Fun K "_law_alike_by" "_law_alike_by" s__law_alike_by f fd) : FnOk P w K mg base CX0 1 f fd ["_law_style", "_law_word", "_law_number"] spAl := by
  refine F.ok scAb (fun vs H Q E ⟨_, _, _, e, _⟩ => by subst e; rfl) (fun cdv A outer s H vs Q E hr h => ?_)
  obtain ⟨st, w0, n, rfl, hw, q⟩ := h
  refine ⟨_, @pss_p _ _ _ _ _ (ps_set (i := 3) scAb.nd (by rfl) (by exact Or.inl rfl) (pe_op op_add (pe_int) (pe_op op_mod (pv 0) (pe_int))))
    (@pss_p _ _ _ _ _ (ps_set (i := 4) scAb.nd (by rfl) (by exact Or.inl rfl) (pe_op op_mod (pe_op op_fdiv (pv 0) (pe_int)) (pv 3)))
    (@pss_p _ _ _ _ _ (ps_set (i := 5) scAb.nd (by rfl) (by exact Or.inl rfl) (pe_ix ix_str pe_str (pe_op op_mod (pv 2) (QE.h (qx_ix ix_list (qx_lst (qa_int (qa_int qa_nil))) (pe_op op_mod (pe_op op_fdiv (pv 0) (pe_int)) (pe_int)) px_b))) px_b))
    (@pss_o _ _ _ (ps_ret (pe_op op_add_str (pe_op op_add_str (pe_slice sl_str (pv 1) po_none (po_some (pv 4))) (pv 5)) (pe_slice sl_str (pv 1) (po_some (pe_op op_add (pv 4) (pe_int))) (po_some (pv 3)))))))), ?_⟩
  refine ⟨_, rfl, _, _, rfl, rfl, (by show (0 : Int) < 8; decide), _, _, rfl, rfl, ?_⟩
  have hz := emod_in st (m := 8) (by decide)
  refine ⟨_, rfl, _, _, rfl, rfl, ⟨by decide, by decide⟩, _, rfl, _, _, rfl, rfl, (by show (0 : Int) < 1 + st % 8; omega), ?_⟩
  refine ⟨_, rfl, tiny (by show 2 ≤ 1000; decide), fun l hl => ?_⟩
  obtain ⟨e0, e1⟩ := emod_in (st / 64) (m := 2) (by decide)
  obtain ⟨v, hv, hm⟩ := atI_mem (xs := [V.int 3, V.int 26]) e0 (by simpa using e1)
  obtain ⟨m, rfl, hm0, hm1⟩ : ∃ m : Int, v = .int m ∧ 0 < m ∧ m ≤ 26 := by
    simp only [List.mem_cons, List.not_mem_nil, or_false] at hm
    rcases hm with rfl | rfl
    · exact ⟨3, rfl, by decide, by decide⟩
    · exact ⟨26, rfl, by decide, by decide⟩
  have f := emod_in n hm0
  have la : abc.length = 26 := by decide +kernel
  obtain ⟨c, hc, hcm⟩ := atI_mem (xs := abc.cps.toList) f.1 (by rw [abc_len]; show n % m < 26; omega)
  refine ⟨_, rfl, _, _, rfl, rfl, ⟨by decide, by decide⟩, _, _, rfl, rfl, (by show (0 : Int) < 2; decide), l, _, _, .int m, rfl, rfl, SqL.of upd_same, hv, _, _, rfl, rfl, hm0, _, _, c, rfl, rfl, (by show abc.length ≤ sizeLine; rw [la, sizeLine_eq]; decide), hc, ?_⟩
  have hw2 : w0.length ≤ sizeLine := by rw [sizeLine_eq]; omega
  have l1 : (⟨#[c]⟩ : Str).length = 1 := rfl
  refine ⟨_, rfl, _, rfl, _, rfl, w0, rfl, hw2, fun y hy ey => ⟨_, rfl, _, _, rfl, rfl, ?_, _, rfl, _, rfl, _, _, rfl, rfl, _, rfl, _, rfl, _, rfl, w0, rfl, hw2, fun z hz2 ez => ⟨_, _, rfl, rfl, ?_, ?_⟩⟩⟩
  · rw [l1, sizeLine_eq]; omega
  · rw [app_lenS, l1, sizeLine_eq]; omega
  · subst ey ez
    exact q _ _ (List.mem_map.mpr ⟨c, hcm, rfl⟩) (same_upd hl)
end
end K1
set_option Elab.async false
set_option linter.all false
set_option maxRecDepth 100000
set_option maxHeartbeats 4000000
namespace K1
open PySem L2 Kp
section
variable {P : Program} {w : World} {K : PySem.W.Frag} {mg : Str → Option Value} {base : Heap}
def nmW (ns : List Int) : List Str := if mixF ns 5 / 7 % 2 = 1 then alW (mixF ns 5 / 7 / 2) "counters" else ["a", "ab", "b", "zz", "abcdefgh", "ba", "open", "wish", "seats", "set", "add", "get"]
def clW (ns : List Int) : List Str := if mixF ns 6 / 7 % 2 = 1 then alW (mixF ns 6 / 7 / 2) "clientab" else ["ann", "bo", "cy", "anna", "a", "zoe", "seats", "wish"]
theorem nmW_len (ns : List Int) : (nmW ns).length ≤ 26 := by
  unfold nmW; split
  · rw [alW_len]; omega
  · decide
theorem clW_len (ns : List Int) : (clW ns).length ≤ 26 := by
  unfold clW; split
  · rw [alW_len]; omega
  · decide
def spNmF (K : PySem.W.Frag) (W : List Int → List Str) : Sp := fun vs H Q _ => ∃ (a : Addr) (ns : List Int) (n : Int), vs = [.ref a, .int n] ∧ SqL K H a (ns.map V.int) ∧ ∀ (x : Str) (H' : Hp), x ∈ W ns → Same H H' → Q (.str x) H'
theorem scNf : FnScope ["_law_script", "_law_number", "_law_style"] ["_law_script", "_law_number"] (defScope sNameBy) := ⟨rfl, rfl, rfl, by decide +kernel, rfl, by decide +kernel, by decide +kernel⟩
theorem ok_nmF {f : Addr} {fd : FuncData} (F : Fun K "_law_name_by" "_law_name_by" sNameBy f fd) (T : Txt mg) (CM : Cal P w K mg base "_law_mixed" 2 ["_law_script", "_law_k"] (spMixF K)) (CA : Cal P w K mg base "_law_alike_by" 1 ["_law_style", "_law_word", "_law_number"] spAl) : FnOk P w K mg base CX0 3 f fd ["_law_script", "_law_number"] (spNmF K nmW) := by
  refine F.ok scNf (fun vs H Q E ⟨_, _, _, e, _⟩ => by subst e; rfl) (fun cdv A outer s H vs Q E hr h => ?_)
  obtain ⟨a, ns, n, rfl, hS, q⟩ := h
  obtain ⟨gM, dM, GM, mM, kM, bM⟩ := CM.ex
  obtain ⟨gA, dA, GA, mA, kA, bA⟩ := CA.ex
  have r1 := hr.mono (show 1 ≤ 2 by omega)
  refine ⟨_, @pss_p _ _ _ _ _ (ps_set (i := 2) scNf.nd (by rfl) (by exact Or.inl rfl) (pe_op op_fdiv (pe_call GM hr (by rfl) mM kM bM .nil pass0 (pa_n (pv 0) (pa_i pe_int pa_nil))) (pe_int)))
    (@pss_p _ _ _ _ _ (ps_if (pt_cmpR op_eq (pe_op op_mod (pv 2) (pe_int)) (pe_int) (nomark _)) (@pss_o _ _ _ (ps_ret (pe_call GA r1 (by rfl) mA kA bA .nil pass0 (pa_b (pe_op op_fdiv (pv 2) (pe_int)) (pa_i pe_str (pa_n (pv 1) pa_nil)))))) pss_nil)
    (@pss_o _ _ _ (@ps_retB _ _ _ _ (qx_ix ix_list (fs_lst (by rfl) (by decide)) (pe_op op_mod (pv 1) (pe_int)) px_b)))), ?_⟩
  unfold nmW at q
  refine ⟨_, rfl, a, ns, 5, rfl, hS, by decide, _, _, rfl, rfl, ⟨by decide, by decide⟩, ?_⟩
  refine ⟨_, rfl, _, _, rfl, rfl, (by show (0 : Int) < 2; decide), rfl, _, rfl, ite2 (fun h => ?_) (fun h => ?_)⟩
  · have e : mixF ns 5 / 7 % 2 = 1 := by
      have := of_decide_eq_true h
      simpa using this
    rw [if_pos e] at q
    exact ⟨_, rfl, _, _, rfl, rfl, ⟨by decide, by decide⟩, _, rfl, _, _, n, rfl, by decide +kernel, fun x H' hx s' => q x H' hx s'⟩
  · have e : ¬ mixF ns 5 / 7 % 2 = 1 := fun e => h (decide_eq_true (congrArg V.int e))
    rw [if_neg e] at q
    refine fun p hp => ?_
    obtain ⟨e0, e1⟩ := emod_in n (m := 12) (by decide)
    obtain ⟨v, hv, hm⟩ := atI_mem (xs := [V.str "a", V.str "ab", V.str "b", V.str "zz", V.str "abcdefgh", V.str "ba", V.str "open", V.str "wish", V.str "seats", V.str "set", V.str "add", V.str "get"]) e0 (by simpa using e1)
    refine ⟨_, rfl, _, _, rfl, rfl, (by show (0 : Int) < 12; decide), p, _, _, v, rfl, rfl, SqL.of upd_same, hv, ?_⟩
    obtain ⟨x, hx, rfl⟩ := List.mem_map.mp (show v ∈ ([("a" : Str), ("ab" : Str), ("b" : Str), ("zz" : Str), ("abcdefgh" : Str), ("ba" : Str), ("open" : Str), ("wish" : Str), ("seats" : Str), ("set" : Str), ("add" : Str), ("get" : Str)]).map V.str from hm)
    exact q x _ hx (same_upd hp)
theorem scCl : FnScope ["_law_script", "_law_number", "_law_style"] ["_law_script", "_law_number"] (defScope s__law_caller_by) := ⟨rfl, rfl, rfl, by decide +kernel, rfl, by decide +kernel, by decide +kernel⟩
theorem ok_clF {f : Addr} {fd : FuncData} (F : Fun K "_law_caller_by" "_law_caller_by" s__law_caller_by f fd) (T : Txt mg) (CM : Cal P w K mg base "_law_mixed" 2 ["_law_script", "_law_k"] (spMixF K)) (CA : Cal P w K mg base "_law_alike_by" 1 ["_law_style", "_law_word", "_law_number"] spAl) : FnOk P w K mg base CX0 3 f fd ["_law_script", "_law_number"] (spNmF K clW) := by
  refine F.ok scCl (fun vs H Q E ⟨_, _, _, e, _⟩ => by subst e; rfl) (fun cdv A outer s H vs Q E hr h => ?_)
  obtain ⟨a, ns, n, rfl, hS, q⟩ := h
  obtain ⟨gM, dM, GM, mM, kM, bM⟩ := CM.ex
  obtain ⟨gA, dA, GA, mA, kA, bA⟩ := CA.ex
  have r1 := hr.mono (show 1 ≤ 2 by omega)
  refine ⟨_, @pss_p _ _ _ _ _ (ps_set (i := 2) scCl.nd (by rfl) (by exact Or.inl rfl) (pe_op op_fdiv (pe_call GM hr (by rfl) mM kM bM .nil pass0 (pa_n (pv 0) (pa_i pe_int pa_nil))) (pe_int)))
    (@pss_p _ _ _ _ _ (ps_if (pt_cmpR op_eq (pe_op op_mod (pv 2) (pe_int)) (pe_int) (nomark _)) (@pss_o _ _ _ (ps_ret (pe_call GA r1 (by rfl) mA kA bA .nil pass0 (pa_b (pe_op op_fdiv (pv 2) (pe_int)) (pa_i pe_str (pa_n (pv 1) pa_nil)))))) pss_nil)
    (@pss_o _ _ _ (@ps_retB _ _ _ _ (qx_ix ix_list (fs_lst (by rfl) (by decide)) (pe_op op_mod (pv 1) (pe_int)) px_b)))), ?_⟩
  unfold clW at q
  refine ⟨_, rfl, a, ns, 6, rfl, hS, by decide, _, _, rfl, rfl, ⟨by decide, by decide⟩, ?_⟩
  refine ⟨_, rfl, _, _, rfl, rfl, (by show (0 : Int) < 2; decide), rfl, _, rfl, ite2 (fun h => ?_) (fun h => ?_)⟩
  · have e : mixF ns 6 / 7 % 2 = 1 := by
      have := of_decide_eq_true h
      simpa using this
    rw [if_pos e] at q
    exact ⟨_, rfl, _, _, rfl, rfl, ⟨by decide, by decide⟩, _, rfl, _, _, n, rfl, by decide +kernel, fun x H' hx s' => q x H' hx s'⟩
  · have e : ¬ mixF ns 6 / 7 % 2 = 1 := fun e => h (decide_eq_true (congrArg V.int e))
    rw [if_neg e] at q
    refine fun p hp => ?_
    obtain ⟨e0, e1⟩ := emod_in n (m := 8) (by decide)
    obtain ⟨v, hv, hm⟩ := atI_mem (xs := [V.str "ann", V.str "bo", V.str "cy", V.str "anna", V.str "a", V.str "zoe", V.str "seats", V.str "wish"]) e0 (by simpa using e1)
    refine ⟨_, rfl, _, _, rfl, rfl, (by show (0 : Int) < 8; decide), p, _, _, v, rfl, rfl, SqL.of upd_same, hv, ?_⟩
    obtain ⟨x, hx, rfl⟩ := List.mem_map.mp (show v ∈ ([("ann" : Str), ("bo" : Str), ("cy" : Str), ("anna" : Str), ("a" : Str), ("zoe" : Str), ("seats" : Str), ("wish" : Str)]).map V.str from hm)
    exact q x _ hx (same_upd hp)
end
end K1
set_option Elab.async false
set_option linter.all false
set_option maxRecDepth 100000
set_option maxHeartbeats 4000000
namespace K1
open PySem L2 Kp
section
variable {P : Program} {w : World} {K : PySem.W.Frag} {mg : Str → Option Value} {base : Heap}
/-! ### values, deeds -/
def tVb : TS := fun D σ H => ∃ n z, σ = [some (.int n), some (.int z)] ∧ (0 ≤ n ∧ n < 2147483648) ∧ ∀ z' : Int, D.nx [some (.int n), some (.int z')] H
def spVal : Sp := fun vs H Q _ => ∃ n : Int, vs = [.int n] ∧ (0 ≤ n ∧ n < 2147483648) ∧ ∀ z : Int, Q (.int z) H
theorem scVb : FnScope ["_law_number", "_law_found"] ["_law_number"] (defScope s__law_value_by) := ⟨rfl, rfl, rfl, by decide +kernel, rfl, by decide +kernel, by decide +kernel⟩
theorem ok_val {f : Addr} {fd : FuncData} (F : Fun K "_law_value_by" "_law_value_by" s__law_value_by f fd) : FnOk P w K mg base CX0 1 f fd ["_law_number"] spVal := by
  refine F.ok scVb (fun vs H Q E ⟨_, e, _⟩ => by subst e; rfl) (fun cdv A outer s H vs Q E hr h => ?_)
  obtain ⟨n, rfl, hn, q⟩ := h
  refine ⟨_, @pss_p _ _ _ _ _ (ps_set (i := 1) scVb.nd (by rfl) (by exact Or.inl rfl) (pe_op op_mod (pe_op op_fdiv (pv 0) (pe_int)) (pe_int)))
    (@pss_p _ _ _ _ _ (PS.weakU (t' := tVb) (ps_if (pt_cmpR op_eq (pe_op op_mod (pv 0) (pe_int)) (pe_int) (nomark _)) (@pss_o _ _ _ (ps_set (i := 1) scVb.nd (by rfl) (by exact Or.inl rfl) (pe_op op_mod (pe_op op_pow (pv 0) pe_int) (pe_op op_pow pe_int pe_int)))) pss_nil) ?w1)
    (@pss_p _ _ _ _ _ (PS.weakU (t' := tVb) (ps_if (pt_cmpR op_eq (pe_op op_mod (pv 0) (pe_int)) (pe_int) (nomark _)) (@pss_o _ _ _ (ps_set (i := 1) scVb.nd (by rfl) (by exact Or.inl rfl) (pe_int))) pss_nil) ?w2)
    (@pss_p _ _ _ _ _ (ps_if (pt_cmpR op_eq (pe_op op_mod (pe_op op_fdiv (pv 0) (pe_int)) (pe_int)) (pe_int) (nomark _)) (@pss_o _ _ _ (ps_ret (pe_un un_neg (pv 1)))) pss_nil)
    (@pss_o _ _ _ (ps_ret (pv 1)))))), ?_⟩
  case w1 =>
    rintro D σ H ⟨n, z, rfl, hn, q⟩
    refine ⟨_, rfl, _, _, rfl, rfl, (by show (0 : Int) < 6; decide), rfl, _, rfl, ite2 (fun _ => ?_) (fun _ => q z)⟩
    exact ⟨_, rfl, _, _, rfl, rfl, ⟨by decide, by decide, by show n.natAbs < 2 ^ 64; omega⟩, _, _, rfl, rfl, ⟨by decide, by decide, by decide⟩, _, _, rfl, rfl, (by show (0 : Int) < 10 ^ (60 : Int).toNat; decide), q _⟩
  case w2 =>
    rintro D σ H ⟨n, z, rfl, hn, q⟩
    exact ⟨_, rfl, _, _, rfl, rfl, (by show (0 : Int) < 6; decide), rfl, _, rfl, ite2 (fun _ => q 0) (fun _ => q z)⟩
  refine ⟨_, rfl, _, _, rfl, rfl, ⟨by decide, by decide⟩, _, _, rfl, rfl, (by show (0 : Int) < 20; decide), n, _, rfl, hn, fun z1 => ⟨n, z1, rfl, hn, fun z2 => ?_⟩⟩
  exact ⟨_, rfl, _, _, rfl, rfl, ⟨by decide, by decide⟩, _, _, rfl, rfl, (by show (0 : Int) < 3; decide), rfl, _, rfl, ite2 (fun _ => ⟨_, rfl, _, rfl, q _⟩) (fun _ => ⟨_, rfl, q z2⟩)⟩
def spDeedF (K : PySem.W.Frag) : Sp := fun vs H Q _ => ∃ (a : Addr) (ns : List Int) (k : Int), vs = [.ref a, .int k] ∧ SqL K H a (ns.map V.int) ∧ 0 ≤ k ∧ ∀ (d : Deed) (v : V) (H' : Hp), DeedV H' v d → d.nm ∈ nmW ns → Same H H' → Q v H'
theorem scDb : FnScope ["_law_script", "_law_at", "_law_number", "_law_name"] ["_law_script", "_law_at"] (defScope s__law_deed_by) := ⟨rfl, rfl, rfl, by decide +kernel, rfl, by decide +kernel, by decide +kernel⟩
theorem ok_deedF {f : Addr} {fd : FuncData} (F : Fun K "_law_deed_by" "_law_deed_by" s__law_deed_by f fd) (CM : Cal P w K mg base "_law_mixed" 2 ["_law_script", "_law_k"] (spMixF K)) (CN : Cal P w K mg base "_law_name_by" 3 ["_law_script", "_law_number"] (spNmF K nmW)) (CV : Cal P w K mg base "_law_value_by" 1 ["_law_number"] spVal) : FnOk P w K mg base CX0 4 f fd ["_law_script", "_law_at"] (spDeedF K) := by
  refine F.ok scDb (fun vs H Q E ⟨_, _, _, e, _⟩ => by subst e; rfl) (fun cdv A outer s H vs Q E hr h => ?_)
  obtain ⟨a, ns, k, rfl, hS, h0, q⟩ := h
  obtain ⟨gM, dM, GM, mM, kM, bM⟩ := CM.ex
  obtain ⟨gN, dN, GN, mN, kN, bN⟩ := CN.ex
  obtain ⟨gV, dV, GV, mV, kV, bV⟩ := CV.ex
  have r1 := hr.mono (show 1 ≤ 3 by omega)
  have r2 := hr.mono (show 2 ≤ 3 by omega)
  refine ⟨_, @pss_p _ _ _ _ _ (ps_set (i := 2) scDb.nd (by rfl) (by exact Or.inl rfl) (pe_call GM r2 (by rfl) mM kM bM .nil pass0 (pa_n (pv 0) (pa_n (pv 1) pa_nil))))
    (@pss_p _ _ _ _ _ (ps_set (i := 3) scDb.nd (by rfl) (by exact Or.inl rfl) (pe_call GN hr (by rfl) mN kN bN .nil pass0 (pa_n (pv 0) (pa_k (pe_call GM r2 (by rfl) mM kM bM .nil pass0 (pa_n (pv 0) (pa_b (pe_op op_add (pv 1) (pe_int)) pa_nil))) pa_nil))))
    (@pss_p _ _ _ _ _ (ps_if (pt_cmpR op_eq (pe_op op_mod (pv 2) (pe_int)) (pe_int) (nomark _)) (@pss_o _ _ _ (ps_ret (QE.h (qx_tup (qa_str (qa_n (pv 3) qa_nil)))))) pss_nil)
    (@pss_o _ _ _ (ps_ret (QE.h (qx_tup (qa_s (QE.h (qx_ix ix_list (qx_lst (qa_str (qa_str (qa_str qa_nil)))) (pe_op op_sub (pe_op op_mod (pv 2) (pe_int)) (pe_int)) px_b)) (qa_n (pv 3) (qa_k (pe_call GV r1 (by rfl) mV kV bV .nil pass0 (pa_k (pe_call GM r2 (by rfl) mM kM bM .nil pass0 (pa_n (pv 0) (pa_b (pe_op op_add (pv 1) (pe_int)) pa_nil))) pa_nil)) qa_nil))))))))), ?_⟩
  refine ⟨_, rfl, _, rfl, a, ns, k, rfl, hS, h0, ?_⟩
  refine ⟨_, rfl, _, rfl, _, rfl, _, _, rfl, rfl, a, ns, k + 1, rfl, hS, by omega, a, ns, _, rfl, hS, fun x H1 hx s1 => ?_⟩
  have hS1 := SqL.same hS s1
  refine ⟨_, rfl, _, _, rfl, rfl, (by show (0 : Int) < 4; decide), rfl, _, rfl, ite2 (fun h => ?_) (fun h => ?_)⟩
  · refine ⟨_, rfl, tiny (by show 2 ≤ 1000; decide), fun p hp => ?_⟩
    exact q (.get x) (.ref p) _ ⟨p, rfl, upd_same⟩ hx (s1.trans (same_upd hp))
  · have hne : ¬ mixF ns k % 4 = 0 := fun e => h (decide_eq_true (congrArg V.int e))
    have hb := emod_in (mixF ns k) (m := 4) (by decide)
    obtain ⟨v, hv, hm⟩ := atI_mem (xs := [V.str "set", V.str "add", V.str "add"]) (i := mixF ns k % 4 - 1) (by omega) (by show mixF ns k % 4 - 1 < 3; omega)
    refine ⟨tiny (by show 3 ≤ 1000; decide), fun l hl => ?_⟩
    have s2 := same_upd (o := HO.lst [V.str "set", V.str "add", V.str "add"]) hl
    have hS2 := SqL.same hS1 s2
    have m2 := mixF_in ns (k + 2)
    refine ⟨_, rfl, _, _, rfl, rfl, (by show (0 : Int) < 4; decide), _, _, rfl, rfl, l, _, _, v, rfl, rfl, SqL.of upd_same, hv, _, rfl, _, rfl, _, rfl, _, _, rfl, rfl, a, ns, k + 2, rfl, hS2, by omega, mixF ns (k + 2), rfl, ⟨m2.1, by omega⟩, fun z => ⟨tiny (by show 3 ≤ 1000; decide), fun p hp => ?_⟩⟩
    have s3 := s1.trans (s2.trans (same_upd (o := HO.tup [v, V.str x, V.int z]) hp))
    simp only [List.mem_cons, List.not_mem_nil, or_false] at hm
    rcases hm with rfl | rfl | rfl
    · exact q (.set x z) (.ref p) _ ⟨p, rfl, upd_same⟩ hx s3
    · exact q (.add x z) (.ref p) _ ⟨p, rfl, upd_same⟩ hx s3
    · exact q (.add x z) (.ref p) _ ⟨p, rfl, upd_same⟩ hx s3
def spManyF : Sp := fun vs H Q _ => ∃ (c : Int) (l : Nat), vs = [.int c, .int l] ∧ 6 ≤ l ∧ ∀ k : Nat, k ≤ l → Q (.int k) H
theorem scMb : FnScope ["_law_cell", "_law_limit"] ["_law_cell", "_law_limit"] (defScope s__law_many_by) := ⟨rfl, rfl, rfl, by decide +kernel, rfl, by decide +kernel, by decide +kernel⟩
theorem ok_manyF {f : Addr} {fd : FuncData} (F : Fun K "_law_many_by" "_law_many_by" s__law_many_by f fd) : FnOk P w K mg base CX0 1 f fd ["_law_cell", "_law_limit"] spManyF := by
  refine F.ok scMb (fun vs H Q E ⟨_, _, e, _⟩ => by subst e; rfl) (fun cdv A outer s H vs Q E hr h => ?_)
  obtain ⟨c, l, rfl, hl, q⟩ := h
  refine ⟨_, @pss_p _ _ _ _ _ (ps_if (pt_cmpR op_eq (pe_op op_mod (pv 0) (pe_int)) (pe_int) (nomark _)) (@pss_o _ _ _ (ps_ret (pe_op op_mod (pe_op op_fdiv (pv 0) (pe_int)) (pe_op op_add (pv 1) (pe_int))))) pss_nil)
    (@pss_o _ _ _ (ps_ret (pe_op op_mod (pe_op op_fdiv (pv 0) (pe_int)) (pe_int)))), ?_⟩
  refine ⟨_, rfl, _, _, rfl, rfl, (by show (0 : Int) < 8; decide), rfl, _, rfl, ite2 (fun _ => ?_) (fun _ => ?_)⟩
  · have hp : (0 : Int) < (l : Int) + 1 := by omega
    refine ⟨_, rfl, _, _, rfl, rfl, ⟨by decide, by decide⟩, _, rfl, _, _, rfl, rfl, _, _, rfl, rfl, hp, ?_⟩
    have b := emod_in (c / 8) hp
    obtain ⟨t, et⟩ := Int.eq_ofNat_of_zero_le b.1
    show Q (.int (c / 8 % ((l : Int) + 1))) H
    rw [et]; exact q t (by omega)
  · refine ⟨_, rfl, _, _, rfl, rfl, ⟨by decide, by decide⟩, _, _, rfl, rfl, (by show (0 : Int) < 7; decide), ?_⟩
    have b := emod_in (c / 8) (m := 7) (by decide)
    obtain ⟨t, et⟩ := Int.eq_ofNat_of_zero_le b.1
    show Q (.int (c / 8 % 7)) H
    rw [et]; exact q t (by omega)
end
end K1
set_option Elab.async false
set_option linter.all false
set_option maxRecDepth 100000
set_option maxHeartbeats 4000000
namespace K1
open PySem L2 Kp
section
variable {P : Program} {w : World} {K : PySem.W.Frag} {mg : Str → Option Value} {base : Heap}
/-! ### dicts by texts -/
structure DOk (W : List Str) (R : V → Prop) (kvs : List (Key × V)) : Prop where
  ks : ∀ kv ∈ kvs, ∃ x, kv.1 = Sum.inr x ∧ x ∈ W
  vs : ∀ kv ∈ kvs, R kv.2
  nd : (kvs.map (·.1)).Nodup
theorem putK_old {kvs : List (Key × V)} {k : Key} (v : V) (hm : k ∈ kvs.map (·.1)) : (putK kvs k v).map (·.1) = kvs.map (·.1) := by
  have h : (kvs.any fun kv => decide (kv.1 = k)) = true := by
    obtain ⟨x, hx, e⟩ := List.mem_map.mp hm
    exact List.any_eq_true.mpr ⟨x, hx, decide_eq_true e⟩
  unfold putK
  rw [if_pos h, List.map_map]
  apply List.map_congr_left
  intro x hx
  by_cases e : x.1 = k
  · simp [e]
  · simp [e]
theorem putK_fresh {kvs : List (Key × V)} {k : Key} (v : V) (hm : ¬ k ∈ kvs.map (·.1)) : (putK kvs k v).map (·.1) = kvs.map (·.1) ++ [k] := by
  have h : ¬ (kvs.any fun kv => decide (kv.1 = k)) = true := fun h => hm (by
    obtain ⟨x, hx, e⟩ := List.any_eq_true.mp h
    exact List.mem_map.mpr ⟨x, hx, of_decide_eq_true e⟩)
  unfold putK
  rw [if_neg h, List.map_append]
  rfl
theorem putK_mem {kvs : List (Key × V)} {k : Key} {v : V} {kv : Key × V} (h : kv ∈ putK kvs k v) : kv ∈ kvs ∨ kv = (k, v) := by
  unfold putK at h
  split at h
  · obtain ⟨x, hx, e⟩ := List.mem_map.mp h
    split at e
    · rename_i e2
      exact .inr (by rw [← e, e2])
    · exact .inl (by rw [← e]; exact hx)
  · rcases List.mem_append.mp h with h | h
    · exact .inl h
    · exact .inr (List.mem_singleton.mp h)
theorem DOk.put {W : List Str} {R : V → Prop} {kvs : List (Key × V)} {x : Str} {v : V} (h : DOk W R kvs) (hx : x ∈ W) (hv : R v) : DOk W R (putK kvs (Sum.inr x) v) := by
  refine ⟨fun kv hk => ?_, fun kv hk => ?_, ?_⟩
  · rcases putK_mem hk with hk | rfl
    · exact h.ks kv hk
    · exact ⟨x, rfl, hx⟩
  · rcases putK_mem hk with hk | rfl
    · exact h.vs kv hk
    · exact hv
  · by_cases hn : (Sum.inr x : Key) ∈ kvs.map (·.1)
    · rw [putK_old v hn]
      exact h.nd
    · rw [putK_fresh v hn, List.nodup_append]
      refine ⟨h.nd, List.nodup_cons.mpr ⟨List.not_mem_nil, List.nodup_nil⟩, fun a ha b hb e => hn ?_⟩
      rw [← List.mem_singleton.mp hb, ← e]
      exact ha
theorem DOk.mono {W : List Str} {R R' : V → Prop} {kvs : List (Key × V)} (h : DOk W R kvs) (m : ∀ v, R v → R' v) : DOk W R' kvs := ⟨h.ks, fun kv hk => m _ (h.vs kv hk), h.nd⟩
theorem DOk.names {W : List Str} {R : V → Prop} : ∀ {kvs : List (Key × V)}, DOk W R kvs → ∃ ns : List Str, kvs.map (·.1) = ns.map Sum.inr ∧ ns.Nodup ∧ (∀ x ∈ ns, x ∈ W)
  | [], _ => ⟨[], rfl, List.nodup_nil, fun x hx => absurd hx List.not_mem_nil⟩
  | kv :: kvs, h => by
    obtain ⟨x, e, hx⟩ := h.ks kv List.mem_cons_self
    have hn := h.nd
    rw [List.map_cons, List.nodup_cons] at hn
    obtain ⟨ns, e2, n2, w2⟩ := DOk.names (kvs := kvs) ⟨fun k hk => h.ks k (List.mem_cons_of_mem _ hk), fun k hk => h.vs k (List.mem_cons_of_mem _ hk), hn.2⟩
    refine ⟨x :: ns, by rw [List.map_cons, List.map_cons, e, e2], List.nodup_cons.mpr ⟨fun hm => hn.1 ?_, n2⟩, fun y hy => ?_⟩
    · rw [e2, e]
      exact List.mem_map.mpr ⟨x, hm, rfl⟩
    · rcases List.mem_cons.mp hy with rfl | hy
      · exact hx
      · exact w2 y hy
theorem DOk.val {W : List Str} {R : V → Prop} {kvs : List (Key × V)} (h : DOk W R kvs) {k : Key} (hk : k ∈ kvs.map (·.1)) : ∃ v, valV kvs k = some v ∧ R v := by
  obtain ⟨kv, hkv, rfl⟩ := List.mem_map.mp hk
  unfold valV
  cases e : kvs.find? fun x => decide (x.1 = kv.1) with
  | none =>
    have := List.find?_eq_none.mp e kv hkv
    simp at this
  | some y => exact ⟨y.2, rfl, h.vs y (List.mem_of_find?_eq_some e)⟩
theorem rising_up : ∀ {l : List Str}, l.Pairwise (fun a b => ¬ before b a) → l.Nodup → l.Pairwise before
  | [], _, _ => .nil
  | x :: l, h, n => by
    rw [List.pairwise_cons] at h ⊢
    rw [List.nodup_cons] at n
    refine ⟨fun y hy => ?_, rising_up h.2 n.2⟩
    by_cases e : before x y
    · exact e
    · exact absurd (before_tri e (h.1 y hy)) (fun e => n.1 (by rw [e]; exact hy))
theorem rows_of {H : Hp} {B : List Int → Prop} : ∀ {ys : List V} {ms : List Str}, ys.length = ms.length → (∀ (i : Nat) (v : V), ys[i]? = some v → ∃ (p : Addr) (x : Str) (is : List Int), v = .ref p ∧ ms[i]? = some x ∧ B is ∧ H p = some (.tup (.str x :: is.map V.int))) → ∃ rs : List Rw, Rws H ys rs ∧ rs.map (·.1) = ms ∧ ∀ r ∈ rs, B r.2
  | [], [], _, _ => ⟨[], .nil, rfl, fun r hr => absurd hr List.not_mem_nil⟩
  | [], _ :: _, h, _ => by simp at h
  | _ :: _, [], h, _ => by simp at h
  | y :: ys, m :: ms, hl, h => by
    obtain ⟨p, x, is, rfl, e, hi, hp⟩ := h 0 y rfl
    cases e
    obtain ⟨rs, r1, r2, r3⟩ := rows_of (ys := ys) (ms := ms) (by simpa using hl) fun i v hv => h (i + 1) v hv
    refine ⟨(m, is) :: rs, .cons hp r1, by rw [List.map_cons, r2], fun r hr => ?_⟩
    rcases List.mem_cons.mp hr with rfl | hr
    · exact hi
    · exact r3 r hr
theorem rows_ok {W : List Str} {n : Nat} {rs : List Rw} {ms ns : List Str} (e : rs.map (·.1) = ms) (sz : ∀ r ∈ rs, r.2.length = n) (hp : ms.Perm ns) (hu : ms.Pairwise fun a b => ¬ before b a) (hn : ns.Nodup) (hw : ∀ x ∈ ns, x ∈ W) : RwOk W n rs := by
  have hm : ms.Nodup := hp.nodup_iff.mpr hn
  refine ⟨?_, fun r hr => ?_, sz⟩
  · have := rising_up hu hm
    rw [← e, List.pairwise_map] at this
    exact this
  · exact hw _ (hp.mem_iff.mp (by rw [← e]; exact List.mem_map.mpr ⟨r, hr, rfl⟩))
def isI (v : V) : Prop := ∃ z : Int, v = .int z
def isP (H : Hp) (v : V) : Prop := ∃ (p : Addr) (n z : Int), v = .ref p ∧ 1 ≤ n ∧ H p = some (.tup [.int n, .int z])
theorem isP.sameT {H H' : Hp} {v : V} (h : isP H v) (s : SameT H H') : isP H' v := let ⟨p, n, z, e, g, hp⟩ := h; ⟨p, n, z, e, g, s _ _ hp⟩
def tSb (K : PySem.W.Frag) : TS := fun D σ H => ∃ (a : Addr) (ns : List Int) (v1 v2 v3 v5 : Option V) (dc : Addr) (m : Int) (kvs : List (Key × V)), σ = [some (.ref a), v1, v2, v3, some (.ref dc), v5, some (.int m)] ∧ SqL K H a (ns.map V.int) ∧ (0 ≤ m ∧ m < 2147483648) ∧ H dc = some (.dK kvs) ∧ DOk (clW ns) (isP H) kvs ∧ kvs.length ≤ 1000 ∧
  ∀ (H' : Hp) (kvs' : List (Key × V)), H' dc = some (.dK kvs') → DOk (clW ns) (isP H') kvs' → (∀ b o, b ≠ dc → H b = some o → H' b = some o) → D.nx [some (.ref a), v1, v2, v3, some (.ref dc), v5, some (.int m)] H'
theorem dok_len {W : List Str} {R : V → Prop} {kvs : List (Key × V)} (h : DOk W R kvs) : kvs.length ≤ W.length := by
  obtain ⟨ns, e, n2, w2⟩ := h.names
  have := nodup_len ns W n2 w2
  have e2 := congrArg List.length e
  rw [List.length_map, List.length_map] at e2
  omega
def spSto (K : PySem.W.Frag) : Sp := fun vs H Q _ => ∃ (a : Addr) (ns : List Int) (k : Int), vs = [.ref a, .int k] ∧ SqL K H a (ns.map V.int) ∧ 0 ≤ k ∧ ∀ (v : V) (S : Sto) (H' : Hp), StV H' v S → StoOk (nmW ns) (clW ns) S → Same H H' → Q v H'
theorem scSb : FnScope ["_law_script", "_law_at", "_law_many", "_law_names", "_law_callers", "_law_k", "_law_number"] ["_law_script", "_law_at"] (defScope s__law_store_by) := ⟨rfl, rfl, rfl, by decide +kernel, rfl, by decide +kernel, by decide +kernel⟩
theorem ok_sto {f : Addr} {fd : FuncData} (F : Fun K "_law_store_by" "_law_store_by" s__law_store_by f fd) (T : Txt mg) (CC : Cal P w K mg base "_law_cell_at" 1 ["_law_script", "_law_k"] (spCellF K)) (CM : Cal P w K mg base "_law_mixed" 2 ["_law_script", "_law_k"] (spMixF K)) (CN : Cal P w K mg base "_law_name_by" 3 ["_law_script", "_law_number"] (spNmF K nmW)) (CL : Cal P w K mg base "_law_caller_by" 3 ["_law_script", "_law_number"] (spNmF K clW))
    (CV : Cal P w K mg base "_law_value_by" 1 ["_law_number"] spVal) (CY : Cal P w K mg base "_law_many_by" 1 ["_law_cell", "_law_limit"] spManyF) : FnOk P w K mg base CX0 4 f fd ["_law_script", "_law_at"] (spSto K) := by
  refine F.ok scSb (fun vs H Q E ⟨_, _, _, e, _⟩ => by subst e; rfl) (fun cdv A outer s H vs Q E hr h => ?_)
  obtain ⟨a, ns, k, rfl, hS, h0, q⟩ := h
  obtain ⟨gC, dC, GC, mC, kC, bC⟩ := CC.ex
  obtain ⟨gM, dM, GM, mM, kM, bM⟩ := CM.ex
  obtain ⟨gN, dN, GN, mN, kN, bN⟩ := CN.ex
  obtain ⟨gL, dL, GL, mL, kL, bL⟩ := CL.ex
  obtain ⟨gV, dV, GV, mV, kV, bV⟩ := CV.ex
  obtain ⟨gY, dY, GY, mY, kY, bY⟩ := CY.ex
  have r1 := hr.mono (show 1 ≤ 3 by omega)
  have r2 := hr.mono (show 2 ≤ 3 by omega)
  refine ⟨_, @pss_p _ _ _ _ _ (ps_set (i := 2) scSb.nd (by rfl) (by exact Or.inl rfl) (pe_call GY r1 (by rfl) mY kY bY .nil pass0 (pa_k (pe_call GC r1 (by rfl) mC kC bC .nil pass0 (pa_n (pv 0) (pa_n (pv 1) pa_nil))) (pa_i pe_int pa_nil))))
    (@pss_p _ _ _ _ _ (ps_set (i := 3) scSb.nd (by rfl) (by exact Or.inr rfl) (pe_dnewK))
    (@pss_p _ _ _ _ _ (ps_set (i := 4) scSb.nd (by rfl) (by exact Or.inr rfl) (pe_dnewK))
    (@pss_p _ _ _ _ _ (ps_for PassesOwn.never (by rfl) (pi_range1 (by rfl) T.range (pa_n (pv 2) pa_nil)) (pg_name (i := 5) scSb.nd (by rfl) (by exact Or.inl rfl)) (@pss_p _ _ _ _ _ (ps_set (i := 6) scSb.nd (by rfl) (by exact Or.inl rfl) (pe_call GM r2 (by rfl) mM kM bM .nil pass0 (pa_n (pv 0) (pa_b (pe_op op_add (pe_op op_add (pv 1) (pe_int)) (pv 5)) pa_nil))))
    (@pss_p _ _ _ _ _ (ps_dput (hu_of hr) (pv 3) (pe_call GN hr (by rfl) mN kN bN .nil pass0 (pa_n (pv 0) (pa_n (pv 6) pa_nil))) (pe_call GV r1 (by rfl) mV kV bV .nil pass0 (pa_b (pe_op op_fdiv (pv 6) (pe_int)) pa_nil)) (by rfl))
    (@pss_o _ _ _ (PS.weakU (t' := tSb K) (ps_if (pt_cmpR op_gt (pe_op op_mod (pv 6) (pe_int)) (pe_int) (nomark _)) (@pss_o _ _ _ (ps_dput (hu_of hr) (pv 4) (pe_call GL hr (by rfl) mL kL bL .nil pass0 (pa_n (pv 0) (pa_b (pe_op op_fdiv (pv 6) (pe_int)) pa_nil))) (QE.h (qx_tup (qa_b (pe_op op_add (pe_int) (pe_op op_mod (pe_op op_fdiv (pv 6) (pe_int)) (pe_int))) (qa_k (pe_call GV r1 (by rfl) mV kV bV .nil pass0 (pa_b (pe_op op_fdiv (pv 6) (pe_int)) pa_nil)) qa_nil)))) (by rfl))) pss_nil) ?w1)))))
    (@pss_o _ _ _ (ps_ret (QE.h (qx_tup (qa_k (pe_callTy call_tuple_of (by rfl) T.tuple boot_tuple (pa_cons (pe_comp (NB := ["_law_name", "_law_names"]) (n := 1) (fr := [3]) (compOk1 (outer := defScope s__law_store_by) (x := "_law_names") (by rfl) (by decide +kernel) (by rfl) (by rfl) (by rfl) (by rfl)) (by rfl) (pi_list (pe_callB (call_sortedD (by rfl)) (by rfl) T.sorted PyProof.Rows.boot_sorted (pa_n (pv 3) pa_nil)))
      (fun _ _ _ _ _ => pg_name (i := 0) (show (["_law_name", "_law_names"] : List Str).Nodup by decide +kernel) (by rfl) (by exact Or.inl rfl)) (fun _ _ _ _ _ => pifs_nil) (fun _ _ _ _ _ => QE.h (qx_tup (qa_n (pv 0) (qa_s (pe_dget (hu_of hr) (pv 1) (pv 0) (fun _ _ => rfl)) qa_nil))))) pa_nil)) (qa_k (pe_callTy call_tuple_of (by rfl) T.tuple boot_tuple (pa_cons (pe_comp (NB := ["_law_caller", "_law_callers"]) (n := 1) (fr := [4]) (compOk1 (outer := defScope s__law_store_by) (x := "_law_callers") (by rfl) (by decide +kernel) (by rfl) (by rfl) (by rfl) (by rfl)) (by rfl) (pi_list (pe_callB (call_sortedD (by rfl)) (by rfl) T.sorted PyProof.Rows.boot_sorted (pa_n (pv 4) pa_nil)))
      (fun _ _ _ _ _ => pg_name (i := 0) (show (["_law_caller", "_law_callers"] : List Str).Nodup by decide +kernel) (by rfl) (by exact Or.inl rfl)) (fun _ _ _ _ _ => pifs_nil) (fun _ _ _ _ _ => QE.h (qx_tup (qa_n (pv 0) (qa_s (pe_ix (ix_tupK (K := K) (by rfl)) (pe_dget (hu_of hr) (pv 1) (pv 0) (fun _ _ => rfl)) pe_int px_i) (qa_s (pe_ix (ix_tupK (K := K) (by rfl)) (pe_dget (hu_of hr) (pv 1) (pv 0) (fun _ _ => rfl)) pe_int px_i) qa_nil)))))) pa_nil)) qa_nil))))))))), ?_⟩
  case w1 =>
    rintro D σ H ⟨a, ns, v1, v2, v3, v5, dc, m, kvs, rfl, hS, hm, hd, dk, hl, q⟩
    refine ⟨_, rfl, _, _, rfl, rfl, (by show (0 : Int) < 3; decide), _, _, rfl, rfl, _, rfl, ite2 (fun _ => ?_) (fun _ => q H kvs hd dk fun b o _ e => e)⟩
    refine ⟨_, rfl, _, _, rfl, rfl, ⟨by decide, by decide⟩, _, _, rfl, rfl, (by show (0 : Int) < 5; decide), _, _, rfl, rfl, _, rfl, _, _, rfl, rfl, ⟨by decide, by decide⟩, m / 390, rfl, ⟨by omega, by omega⟩, fun z => ⟨tiny (by show 2 ≤ 1000; decide), fun p hp => ?_⟩⟩
    have s1 := same_upd (o := HO.tup [V.int (1 + m / 78 % 5), V.int z]) hp
    refine ⟨_, rfl, _, rfl, _, rfl, _, _, rfl, rfl, ⟨by decide, by decide⟩, a, ns, _, rfl, SqL.same hS s1, fun x H2 hx s2 => ?_⟩
    have sT := sameT_of (s1.trans s2)
    have hd2 := (s1.trans s2) _ _ hd
    refine ⟨dc, _, rfl, DPut.k (k := Sum.inr x) hd2 (by rw [sizeLine_eq]; omega), q _ _ upd_same ((dk.mono fun v hv => hv.sameT ?_).put hx ⟨p, 1 + m / 78 % 5, z, rfl, by have := (emod_in (m / 78) (m := 5) (by decide)).1; omega, ?_⟩) fun b o hb e => by rw [upd_ne hb]; exact s2 _ _ (s1 _ _ e)⟩
    · exact fun b xs e => by
        rw [upd_ne (ne_of (sT _ _ e) hd2 (by intro z; cases z))]; exact sT _ _ e
    · rw [upd_ne (ne_of (s2 _ _ upd_same) hd2 (by intro z; cases z))]
      exact s2 _ _ upd_same
  refine ⟨_, rfl, _, rfl, a, ns, k, rfl, hS, h0, _, 30, rfl, by decide, fun n hn => ?_⟩
  refine fun d1 hd1 => fun d2 hd2 => ?_
  have s1 := same_upd (o := HO.dK []) hd1
  have s2 := same_upd (o := HO.dK []) hd2
  have n1 := hd1
  have n2 : H d2 = none := by
    cases e : H d2 with
    | none => rfl
    | some o => rw [s1 _ _ e] at hd2; cases hd2
  have hne : d1 ≠ d2 := fun e => by rw [← e, upd_same] at hd2; cases hd2
  refine ⟨_, rfl, (n : Int), rfl, by omega, by omega, for_range (n := n) (fun i σ H' => ∃ (k1 k2 : List (Key × V)) (v5 v6 : Option V), σ = [some (.ref a), some (.int k), some (.int n), some (.ref d1), some (.ref d2), v5, v6] ∧ H' d1 = some (.dK k1) ∧ H' d2 = some (.dK k2) ∧ DOk (nmW ns) isI k1 ∧ DOk (clW ns) (isP H') k2 ∧ Same H H')
    ⟨[], [], none, none, rfl, s2 _ _ upd_same, upd_same, ⟨fun _ h => absurd h List.not_mem_nil, fun _ h => absurd h List.not_mem_nil, List.nodup_nil⟩, ⟨fun _ h => absurd h List.not_mem_nil, fun _ h => absurd h List.not_mem_nil, List.nodup_nil⟩, s1.trans s2⟩ ?_ ?_⟩
  · rintro i σ H' hi ⟨k1, k2, v5, v6, rfl, h1, h2, D1, D2, sH⟩
    have hS1 := SqL.same hS sH
    refine ⟨_, rfl, _, rfl, _, _, rfl, rfl, _, rfl, _, _, rfl, rfl, a, ns, _, rfl, hS1, by omega, ?_⟩
    have b := mixF_in ns (k + 1 + (0 + (i : Int)))
    generalize mixF ns (k + 1 + (0 + (i : Int))) = m at b
    refine ⟨_, rfl, _, _, rfl, rfl, ⟨by decide, by decide⟩, m / 26, rfl, ⟨by omega, by omega⟩, fun z => ?_⟩
    refine ⟨_, rfl, _, rfl, _, rfl, a, ns, m, rfl, hS1, fun x H2 hx s3 => ?_⟩
    have l1 := dok_len D1
    have l2 := dok_len D2
    have w1 := nmW_len ns
    have w2 := clW_len ns
    have e1 := s3 _ _ h1
    refine ⟨d1, _, rfl, DPut.k (k := Sum.inr x) e1 (by rw [sizeLine_eq]; omega), ?_⟩
    have keep : ∀ b o, b ≠ d1 → H' b = some o → upd H2 d1 (.dK (putK k1 (Sum.inr x) (.int z))) b = some o := fun b o hb e => by rw [upd_ne hb]; exact s3 _ _ e
    have sH2 : Same H (upd H2 d1 (.dK (putK k1 (Sum.inr x) (.int z)))) := fun b o e => keep b o (fun q => by rw [q, n1] at e; cases e) (sH _ _ e)
    have sT : SameT H' (upd H2 d1 (.dK (putK k1 (Sum.inr x) (.int z)))) := fun b xs e => keep b _ (ne_of e h1 (by intro z; cases z)) e
    refine ⟨a, ns, _, _, _, _, d2, m, k2, rfl, SqL.same hS sH2, ⟨b.1, by omega⟩, keep d2 _ (Ne.symm hne) h2, D2.mono fun v hv => hv.sameT sT, by omega, fun H4 k4 h4 D4 keep4 => ?_⟩
    refine ⟨_, k4, _, _, rfl, keep4 d1 _ hne upd_same, h4, D1.put hx ⟨z, rfl⟩, D4, fun b o e => keep4 b o (fun q => by rw [q, n2] at e; cases e) (sH2 _ _ e)⟩
  · rintro σ H' ⟨k1, k2, v5, v6, rfl, h1, h2, D1, D2, sH⟩
    obtain ⟨m1, e1, nd1, w1⟩ := D1.names
    obtain ⟨m2, e2, nd2, w2⟩ := D2.names
    have c1 := nodup_len m1 _ nd1 w1
    have c2 := nodup_len m2 _ nd2 w2
    have c3 := nmW_len ns
    have c4 := clW_len ns
    refine ⟨_, rfl, d1, k1, m1, rfl, h1, e1, by omega, fun l1 p1 hl1 hp1 hu1 => ?_⟩
    have sl := same_upd (o := HO.lst (p1.map V.str)) hl1
    have lp1 := hp1.length_eq
    refine ⟨l1, rfl, ⟨_, SqL.of upd_same⟩, comp_idx (J := Itl K l1) (k := 1) (n := p1.length) (fun i H v => ∃ (p : Addr) (x : Str) (is : List Int), v = .ref p ∧ p1[i]? = some x ∧ is.length = 1 ∧ H p = some (.tup (.str x :: is.map V.int))) (fun i H H' v s ⟨p, x, is, e, hx, hi, hp⟩ => ⟨p, x, is, e, hx, hi, s _ _ hp⟩) (by rw [sizeLine_eq]; omega) (fun i H3 hi s4 => ?_) (fun H3 s4 => ?_) ?_ ?_⟩
    · exact ⟨p1.map V.str, .str p1[i], SqL.of (s4 _ _ upd_same), by simp [hi]⟩
    · exact ⟨p1.map V.str, SqL.of (s4 _ _ upd_same), by simp⟩
    · intro i H3 t x H4 R hi s4 ht y hR
      obtain ⟨t0, rfl⟩ := one_slot ht
      obtain ⟨rfl, hy⟩ := y
      have hv := hy _ (SqL.of (s4 _ _ upd_same))
      rw [List.getElem?_map, List.getElem?_eq_getElem hi] at hv
      cases hv
      have hk : (Sum.inr p1[i] : Key) ∈ k1.map (·.1) := by rw [e1]; exact List.mem_map.mpr ⟨_, hp1.mem_iff.mp (List.getElem_mem hi), rfl⟩
      obtain ⟨v, hv, z, rfl⟩ := D1.val hk
      refine ⟨_, rfl, _, rfl, _, rfl, d1, .int z, rfl, ?_, tiny (by show 2 ≤ 1000; decide), fun p hp => hR [_] _ _ rfl (same_upd hp) ⟨p, p1[i], [z], rfl, by simp [hi], rfl, upd_same⟩⟩
      rw [← hv]
      exact DGet.k (k := Sum.inr p1[i]) (s4 _ _ (sl _ _ h1))
    · intro D3 H3 ys s3 hD3 hd3 hly hys
      refine ⟨D3, ys, rfl, .inl ⟨SqL.of hd3, fun t1 ht1 => ?_⟩⟩
      have st1 := same_upd (o := HO.tup ys) ht1
      obtain ⟨rs1, R1, f1, z1⟩ := rows_of (H := H3) (B := fun is => is.length = 1) (ys := ys) (ms := p1) hly hys
      have O1 := rows_ok f1 z1 hp1 hu1 nd1 w1
      have T1 : RwT (upd H3 t1 (.tup ys)) t1 rs1 := ⟨ys, upd_same, R1.same st1⟩
      have sA : Same H' (upd H3 t1 (.tup ys)) := sl.trans (s3.trans st1)
      generalize upd H3 t1 (.tup ys) = H5 at T1 sA
      refine ⟨_, rfl, d2, k2, m2, rfl, sA _ _ h2, e2, by omega, fun l2 p2 hl2 hp2 hu2 => ?_⟩
      have sl2 := same_upd (o := HO.lst (p2.map V.str)) hl2
      have lp2 := hp2.length_eq
      refine ⟨l2, rfl, ⟨_, SqL.of upd_same⟩, comp_idx (J := Itl K l2) (k := 1) (n := p2.length) (fun i H v => ∃ (p : Addr) (x : Str) (is : List Int), v = .ref p ∧ p2[i]? = some x ∧ (is.length = 2 ∧ 1 ≤ is.headD 0) ∧ H p = some (.tup (.str x :: is.map V.int))) (fun i H H' v s ⟨p, x, is, e, hx, hi, hp⟩ => ⟨p, x, is, e, hx, hi, s _ _ hp⟩) (by rw [sizeLine_eq]; omega) (fun i H3 hi s4 => ?_) (fun H3 s4 => ?_) ?_ ?_⟩
      · exact ⟨p2.map V.str, .str p2[i], SqL.of (s4 _ _ upd_same), by simp [hi]⟩
      · exact ⟨p2.map V.str, SqL.of (s4 _ _ upd_same), by simp⟩
      · intro i H6 t x H7 R hi s4 ht y hR
        obtain ⟨t0, rfl⟩ := one_slot ht
        obtain ⟨rfl, hy⟩ := y
        have hv := hy _ (SqL.of (s4 _ _ upd_same))
        rw [List.getElem?_map, List.getElem?_eq_getElem hi] at hv
        cases hv
        have hk : (Sum.inr p2[i] : Key) ∈ k2.map (·.1) := by rw [e2]; exact List.mem_map.mpr ⟨_, hp2.mem_iff.mp (List.getElem_mem hi), rfl⟩
        obtain ⟨v, hv, pp, u1, u2, rfl, hg1, hpp⟩ := D2.val hk
        have s7 := sA.trans (sl2.trans s4)
        have dg : DGet H7 d2 (.str p2[i]) (some (.ref pp)) := by
          rw [← hv]
          exact DGet.k (k := Sum.inr p2[i]) (s7 _ _ h2)
        refine ⟨_, rfl, _, rfl, _, rfl, d2, .ref pp, rfl, dg, pp, _, _, .int u1, rfl, rfl, SqT.of (s7 _ _ hpp), atI_nat (j := 0) rfl, _, rfl, _, rfl, d2, .ref pp, rfl, dg, pp, _, _, .int u2, rfl, rfl, SqT.of (s7 _ _ hpp), atI_nat (j := 1) rfl, tiny (by show 3 ≤ 1000; decide), fun p hp => hR [_] _ _ rfl (same_upd hp) ⟨p, p2[i], [u1, u2], rfl, by simp [hi], ⟨rfl, hg1⟩, upd_same⟩⟩
      · intro D6 H6 ys2 s6 hD6 hd6 hly2 hys2
        refine ⟨D6, ys2, rfl, .inl ⟨SqL.of hd6, fun t2 ht2 => ⟨tiny (by show 2 ≤ 1000; decide), fun st hst => ?_⟩⟩⟩
        have st2 := same_upd (o := HO.tup ys2) ht2
        have sst := same_upd (o := HO.tup [V.ref t1, V.ref t2]) hst
        obtain ⟨rs2, R2, f2, z2⟩ := rows_of (H := H6) (B := fun is => is.length = 2 ∧ 1 ≤ is.headD 0) (ys := ys2) (ms := p2) hly2 hys2
        have O2 := rows_ok f2 (fun r hr => (z2 r hr).1) hp2 hu2 nd2 w2
        have sB := sl2.trans (s6.trans (st2.trans sst))
        exact q (.ref st) (rs1, rs2) _ ⟨st, t1, t2, rfl, upd_same, T1.same sB, ⟨ys2, sst _ _ upd_same, R2.same (st2.trans sst)⟩⟩ ⟨O1, O2, fun r hr => (z2 r hr).2⟩ (sH.trans (sA.trans sB))
end
end K1
set_option Elab.async false
set_option linter.all false
set_option maxRecDepth 100000
set_option maxHeartbeats 4000000
namespace K1
open PySem L2 Kp
section
variable {P : Program} {w : World} {K : PySem.W.Frag} {mg : Str → Option Value} {base : Heap}
theorem map_atG {α β : Type} (rs : List α) (d : α) (p : α → Bool) (f : α → β) : (((List.range rs.length).filter fun i => p (rs.getD i d)).map fun i => f (rs.getD i d)) = (rs.filter p).map f := by
  have e0 : rs = (List.range rs.length).map fun i => rs.getD i d := by
    apply List.ext_getElem?
    intro i
    by_cases hi : i < rs.length
    · simp [hi]
    · rw [List.getElem?_eq_none (by omega), List.getElem?_eq_none (by simp; omega)]
  conv => rhs; rw [e0]
  rw [List.filter_map, List.map_map]
  rfl
def dRw : Rw := ("", [])
theorem getD_rw {rs : List Rw} {i : Nat} (h : i < rs.length) : rs.getD i dRw = rs[i] := by simp [h]
/-! ### the value that stands -/
def spValF (K : PySem.W.Frag) : Sp := fun vs H Q _ => ∃ (v : V) (S : Sto) (n : Str), vs = [v, .str n] ∧ StV H v S ∧ S.1.length ≤ 900 ∧ (∀ r ∈ S.1, r.2.length = 1) ∧ ∀ H', Same H H' → Q (.int (valF S.1 n)) H'
theorem scVl : FnScope ["_law_store", "_law_name", "_law_found"] ["_law_store", "_law_name"] (defScope s__law_value) := ⟨rfl, rfl, rfl, by decide +kernel, rfl, by decide +kernel, by decide +kernel⟩
theorem ok_valF {f : Addr} {fd : FuncData} (F : Fun K "_law_value" "_law_value" s__law_value f fd) (T : Txt mg) : FnOk P w K mg base CX0 1 f fd ["_law_store", "_law_name"] (spValF K) := by
  refine F.ok scVl (fun vs H Q E ⟨_, _, _, e, _⟩ => by subst e; rfl) (fun cdv A outer s H vs Q E hr h => ?_)
  obtain ⟨v, S, n, rfl, ⟨sa, a, c, rfl, hs, ⟨vs, ha, R⟩, _⟩, hlen, sz, q⟩ := h
  refine ⟨_, @pss_p _ _ _ _ _ (ps_comp (i := 2) scVl.nd (by rfl) (by exact Or.inl rfl) (NB := ["_law_one", "_law_value_here", "_law_name"]) (n := 2) (fr := [1]) (compOk1 (outer := defScope s__law_value) (x := "_law_name") (by rfl) (by decide +kernel) (by rfl) (by rfl) (by rfl) (by rfl)) (by rfl) (pi_tup (pe_ix ix_tup (pv 0) (pe_int) px_i))
      (fun _ _ _ _ _ => pg_tupK (K := K) (n := 2) (by rfl) (by rfl) (pgs_cons (pg_name (i := 0) (show (["_law_one", "_law_value_here", "_law_name"] : List Str).Nodup by decide +kernel) (by rfl) (by exact Or.inl rfl)) (pgs_cons (pg_name (i := 1) (show (["_law_one", "_law_value_here", "_law_name"] : List Str).Nodup by decide +kernel) (by rfl) (by exact Or.inl rfl)) pgs_nil))) (fun _ _ _ _ _ => pifs_one (pt_cmpR op_eq (pv 0) (pv 2) (nomark _))) (fun _ _ _ _ _ => pv 1))
    (@pss_p _ _ _ _ _ (ps_if (pt_not (pt_truth (pv 2) (fun _ => rfl))) (@pss_o _ _ _ (ps_ret pe_int)) pss_nil)
    (@pss_o _ _ _ (ps_ret (pe_ix ix_list (pv 2) (pe_int) px_i)))), ?_⟩
  have hl := R.length
  refine ⟨_, rfl, sa, _, _, .ref a, rfl, rfl, SqT.of hs, atI_nat (j := 0) rfl, a, rfl, ⟨_, SqT.of ha⟩, comp_pure (J := Itt K a) (k := 2) (n := S.1.length) (fun i => decide ((S.1.getD i dRw).1 = n)) (fun i => .int ((S.1.getD i dRw).2.headD 0)) (by rw [sizeLine_eq]; omega) (fun i H3 hi s4 => ?_) (fun H3 s4 => ⟨_, SqT.of (s4 _ _ ha), by omega⟩) ?_ ?_⟩
  · obtain ⟨p, g, _⟩ := R.get hi
    exact ⟨vs, _, SqT.of (s4 _ _ ha), g⟩
  · intro i H3 t x H4 U hi s4 ht y hU
    obtain ⟨t0, t1, rfl⟩ := two_slots ht
    obtain ⟨rfl, hy⟩ := y
    obtain ⟨p, g, hp⟩ := R.get hi
    have hv := hy _ (SqT.of (s4 _ _ ha))
    rw [g] at hv
    cases hv
    obtain ⟨z, ez⟩ : ∃ z, (S.1[i]).2 = [z] := by
      have := sz S.1[i] (List.getElem_mem hi)
      match h2 : (S.1[i]).2, this with
      | [z], _ => exact ⟨z, rfl⟩
    rw [getD_rw hi, ez] at hU
    rw [ez] at hp
    refine ⟨p, _, rfl, SqT.of (s4 _ _ hp), rfl, _, _, rfl, _, _, rfl, rfl, _, rfl, _, rfl, rfl, _, rfl, ?_⟩
    have fin := hU [some (.str (S.1[i]).1), some (.int z)] H4 rfl (Same.refl _)
    by_cases e : (S.1[i]).1 = n
    · rw [decide_eq_true e, if_pos rfl] at fin
      rw [e, decide_eq_true rfl]
      rw [e] at fin
      exact iteT ⟨_, rfl, fin⟩
    · rw [decide_eq_false e, if_neg Bool.false_ne_true] at fin
      rw [decide_eq_false (fun g : V.str (S.1[i]).1 = V.str n => e (by injection g))]
      exact iteF fin
  · intro D H1 s1 hD hd
    rw [map_atG S.1 dRw (fun r => decide (r.1 = n)) (fun r => V.int (r.2.headD 0))] at hd
    have fin := q H1 s1
    unfold valF at fin
    refine ⟨_, rfl, _, .inl ⟨_, SqL.of hd, rfl⟩, ?_⟩
    cases e : S.1.filter fun r => decide (r.1 = n) with
    | nil => rw [e] at fin; exact iteT fin
    | cons r rest =>
      rw [e] at fin hd
      refine iteF ⟨_, rfl, D, _, _, .int (r.2.headD 0), rfl, rfl, SqL.of hd, atI_nat (j := 0) rfl, fin⟩
/-! ### a row put at its place -/
theorem perm_map_inv {α β : Type} {f : α → β} {l k : List β} (h : l.Perm k) : ∀ m : List α, k = m.map f → ∃ m' : List α, m'.Perm m ∧ l = m'.map f := by
  induction h with
  | nil => intro m e; exact ⟨[], by rw [List.map_eq_nil_iff.mp e.symm], rfl⟩
  | cons x _ ih =>
    intro m e
    cases m with
    | nil => cases e
    | cons a m =>
      injection e with e1 e2
      obtain ⟨m', h1, h2⟩ := ih m e2
      exact ⟨a :: m', h1.cons a, by rw [List.map_cons, e1, h2]⟩
  | swap x y l =>
    intro m e
    match m, e with
    | a :: b :: m, e =>
      injection e with e1 e2
      injection e2 with e2 e3
      exact ⟨b :: a :: m, .swap _ _ _, by rw [List.map_cons, List.map_cons, e1, e2, e3]⟩
  | trans _ _ ih1 ih2 =>
    intro m e
    obtain ⟨m2, h1, h2⟩ := ih2 m e
    obtain ⟨m3, h3, h4⟩ := ih1 m2 h2
    exact ⟨m3, h3.trans h1, h4⟩
theorem rws_all {H : Hp} : ∀ (T : List (V × Rw)), (∀ t ∈ T, ∃ p, t.1 = .ref p ∧ H p = some (.tup (.str t.2.1 :: t.2.2.map V.int))) → Rws H (T.map (·.1)) (T.map (·.2))
  | [], _ => .nil
  | t :: T, h => by
    obtain ⟨p, e, hp⟩ := h t List.mem_cons_self
    obtain ⟨t1, n, is⟩ := t
    simp only at e hp
    subst e
    exact .cons hp (rws_all T fun x hx => h x (List.mem_cons_of_mem _ hx))
theorem Rws.zip {H : Hp} : ∀ {vs : List V} {rs : List Rw}, Rws H vs rs → ∀ t ∈ vs.zip rs, ∃ p, t.1 = .ref p ∧ H p = some (.tup (.str t.2.1 :: t.2.2.map V.int))
  | _, _, .nil, t, ht => absurd ht List.not_mem_nil
  | _, _, .cons e r, t, ht => by
    rcases List.mem_cons.mp ht with rfl | ht
    · exact ⟨_, rfl, e⟩
    · exact Rws.zip r t ht
theorem filter_zip (p : Rw → Bool) : ∀ {vs : List V} {rs : List Rw}, vs.length = rs.length → (((vs.zip rs).filter fun t => p t.2).map (·.2)) = rs.filter p
  | [], [], _ => rfl
  | [], _ :: _, h => by simp at h
  | _ :: _, [], h => by simp at h
  | v :: vs, r :: rs, h => by
    have ih := filter_zip p (vs := vs) (rs := rs) (by simpa using h)
    rw [List.zip_cons_cons, List.filter_cons, List.filter_cons]
    cases e : p r with
    | true => simp only [e, if_true]; rw [List.map_cons, ih]
    | false => simp only [e, Bool.false_eq_true, if_false]; exact ih
def spWith (K : PySem.W.Frag) : Sp := fun vs H Q _ => ∃ (a p : Addr) (rs : List Rw) (n : Str) (is : List Int) (W : List Str) (k : Nat), vs = [.ref a, .ref p] ∧ RwT H a rs ∧ H p = some (.tup (.str n :: is.map V.int)) ∧ RwOk W k rs ∧ W.length ≤ 60 ∧ n ∈ W ∧ is.length = k ∧ ∀ (b : Addr) (H' : Hp), RwT H' b (putF rs (n, is)) → Same H H' → Q (.ref b) H'
theorem scWi : FnScope ["_law_rows_here", "_law_row"] ["_law_rows_here", "_law_row"] (defScope s__law_with) := ⟨rfl, rfl, rfl, by decide +kernel, rfl, by decide +kernel, by decide +kernel⟩
theorem ok_with {f : Addr} {fd : FuncData} (F : Fun K "_law_with" "_law_with" s__law_with f fd) (T : Txt mg) : FnOk P w K mg base CX0 1 f fd ["_law_rows_here", "_law_row"] (spWith K) := by
  refine F.ok scWi (fun vs H Q E ⟨_, _, _, _, _, _, _, e, _⟩ => by subst e; rfl) (fun cdv A outer s H vs Q E hr h => ?_)
  obtain ⟨a, p, rs, n, is, W, k, rfl, ⟨vs, ha, R⟩, hp, ok, hW, hn, hk, q⟩ := h
  refine ⟨_, @pss_o _ _ _ (ps_ret (pe_callTy call_tuple_of (by rfl) T.tuple boot_tuple (pa_k (pe_callB call_sortedT (by rfl) T.sorted PyProof.Rows.boot_sorted (pa_b (pe_op op_cat (pe_comp (NB := ["_law_one", "_law_row"]) (n := 1) (fr := [1]) (compOk1 (outer := defScope s__law_with) (x := "_law_row") (by rfl) (by decide +kernel) (by rfl) (by rfl) (by rfl) (by rfl)) (by rfl) (pi_tup (pv 0))
      (fun _ _ _ _ _ => pg_name (i := 0) (show (["_law_one", "_law_row"] : List Str).Nodup by decide +kernel) (by rfl) (by exact Or.inl rfl)) (fun _ _ _ _ _ => pifs_one (pt_cmpR op_ne (pe_ix (ix_tupK (K := K) (by rfl)) (pv 0) (pe_int) px_i) (pe_ix (ix_tupK (K := K) (by rfl)) (pv 1) (pe_int) px_i) (nomark _))) (fun _ _ _ _ _ => pv 0)) (pe_lst (pa_n (pv 1) pa_nil))) pa_nil)) pa_nil))), ?_⟩
  have hl := R.length
  have hlen := ok.len
  refine ⟨_, rfl, a, rfl, ⟨_, SqT.of ha⟩, comp_pure (J := Itt K a) (k := 1) (n := rs.length) (fun i => decide (((vs.zip rs).getD i (.non, dRw)).2.1 ≠ n)) (fun i => ((vs.zip rs).getD i (.non, dRw)).1) (by rw [sizeLine_eq]; omega) (fun i H3 hi s4 => ?_) (fun H3 s4 => ⟨_, SqT.of (s4 _ _ ha), by omega⟩) ?_ ?_⟩
  · obtain ⟨p, g, _⟩ := R.get hi
    exact ⟨vs, _, SqT.of (s4 _ _ ha), g⟩
  · intro i H3 t x H4 U hi s4 ht y hU
    obtain ⟨t0, rfl⟩ := one_slot ht
    obtain ⟨rfl, hy⟩ := y
    obtain ⟨po, g, hpo⟩ := R.get hi
    have hv := hy _ (SqT.of (s4 _ _ ha))
    rw [g] at hv
    cases hv
    have ez : (vs.zip rs).getD i (.non, dRw) = (.ref po, rs[i]) := by
      have : (vs.zip rs)[i]? = some (.ref po, rs[i]) := by rw [List.getElem?_zip_eq_some]; exact ⟨g, by simp [hi]⟩
      rw [List.getD_eq_getElem?_getD, this]; rfl
    rw [ez] at hU
    have fin := hU [some (.ref po)] H4 rfl (Same.refl _)
    refine ⟨_, rfl, po, _, _, .str (rs[i]).1, rfl, rfl, SqT.of (s4 _ _ hpo), atI_nat (j := 0) rfl, _, rfl, p, _, _, .str n, rfl, rfl, SqT.of (s4 _ _ hp), atI_nat (j := 0) rfl, rfl, _, rfl, ?_⟩
    by_cases e : (rs[i]).1 = n
    · rw [decide_eq_false (fun g : (rs[i]).1 ≠ n => g e), if_neg Bool.false_ne_true] at fin
      rw [e, decide_eq_true rfl]
      exact iteF fin
    · rw [decide_eq_true e, if_pos rfl] at fin
      rw [decide_eq_false (fun g : V.str (rs[i]).1 = V.str n => e (by injection g))]
      exact iteT ⟨_, rfl, fin⟩
  · intro D H1 s1 hD hd
    have hz : rs.length = (vs.zip rs).length := by rw [List.length_zip, hl, Nat.min_self]
    rw [hz, map_atG (vs.zip rs) (.non, dRw) (fun t => decide (t.2.1 ≠ n)) (fun t => t.1)] at hd
    refine ⟨_, rfl, tiny (by show 1 ≤ 1000; decide), fun l1 hl1 => ?_⟩
    have s2 := same_upd (o := HO.lst [V.ref p]) hl1
    have hfl : (((vs.zip rs).filter fun t => decide (t.2.1 ≠ n)).map (·.1)).length ≤ rs.length := by
      rw [List.length_map, hz]; exact List.length_filter_le _ _
    refine ⟨D, l1, _, _, rfl, rfl, s2 _ _ hd, upd_same, by rw [sizeLine_eq]; show _ + 1 ≤ _; omega, fun l2 hl2 => ?_⟩
    have s3 := same_upd (o := HO.lst ((((vs.zip rs).filter fun t => decide (t.2.1 ≠ n)).map (·.1)) ++ [V.ref p])) hl2
    obtain ⟨T, eT⟩ : ∃ T : List (V × Rw), T = ((vs.zip rs).filter fun t => decide (t.2.1 ≠ n)) ++ [(.ref p, (n, is))] := ⟨_, rfl⟩
    have e1 : ((vs.zip rs).filter fun t => decide (t.2.1 ≠ n)).map (·.1) ++ [V.ref p] = (T.map fun t => (t.1, t.2.1)).map (·.1) := by rw [eT, List.map_map, List.map_append]; rfl
    have e2 : T.map (·.2) = rs.filter (fun r => decide (r.1 ≠ n)) ++ [(n, is)] := by rw [eT, List.map_append, filter_zip (fun r => decide (r.1 ≠ n)) hl]; rfl
    have hT : ∀ t ∈ T, ∃ p, t.1 = .ref p ∧ H p = some (.tup (.str t.2.1 :: t.2.2.map V.int)) := fun t ht => by
      rw [eT] at ht
      rcases List.mem_append.mp ht with ht | ht
      · exact R.zip t (List.mem_filter.mp ht).1
      · rw [List.mem_singleton.mp ht]; exact ⟨p, rfl, hp⟩
    have e3 : (T.map fun t => (t.1, t.2.1)).map (·.2) = (T.map (·.2)).map (·.1) := by rw [List.map_map, List.map_map]; rfl
    have pm : (T.map (·.2)).Perm (putF rs (n, is)) := by rw [e2]; exact put_perm (rs := rs) (r := (n, is))
    have pok := putF_ok (r := (n, is)) ok hn hk
    have sA := s1.trans (s2.trans s3)
    refine ⟨l2, T.map fun t => (t.1, t.2.1), rfl, SqL.of (by rw [← e1]; exact upd_same), fun d hd2 => ?_, ?_, ?_, fun l3 D' hl3 hpD hpw => ?_⟩
    · obtain ⟨t, ht, rfl⟩ := List.mem_map.mp hd2
      obtain ⟨pt, e, hpt⟩ := hT t ht
      exact ⟨pt, _, e, sA _ _ hpt⟩
    · rw [e3, (pm.map (·.1)).nodup_iff]
      exact pok.nodup
    · rw [List.length_map, ← List.length_map (f := (·.2)), e2, List.length_append]
      have := List.length_filter_le (fun r : Rw => decide (r.1 ≠ n)) rs
      show _ + 1 < 64
      omega
    · obtain ⟨T', hT', rfl⟩ := perm_map_inv hpD T rfl
      have s4 := same_upd (o := HO.lst ((T'.map fun t => (t.1, t.2.1)).map (·.1))) hl3
      refine ⟨l3, _, rfl, .inl ⟨SqL.of upd_same, fun b hb => ?_⟩⟩
      have s5 := same_upd (o := HO.tup ((T'.map fun t => (t.1, t.2.1)).map (·.1))) hb
      have sB := sA.trans (s4.trans s5)
      have e5 : T'.map (·.2) = putF rs (n, is) := up_unique _ _ ((hT'.map (·.2)).trans pm) (by rw [List.pairwise_map] at hpw ⊢; exact hpw) pok.up
      have e6 : (T'.map fun t => (t.1, t.2.1)).map (·.1) = T'.map (·.1) := by rw [List.map_map]; rfl
      have hR := rws_all T' fun t ht => by
        obtain ⟨pt, e, hpt⟩ := hT t (hT'.mem_iff.mp ht)
        exact ⟨pt, e, sB _ _ hpt⟩
      rw [← e6, e5] at hR
      exact q b _ ⟨_, upd_same, hR⟩ sB
/-! ### a deed done -/
def spDoneF (K : PySem.W.Frag) : Sp := fun vs H Q _ => ∃ (v u : V) (S : Sto) (d : Deed) (W C : List Str), vs = [v, u] ∧ StV H v S ∧ StoOk W C S ∧ DeedV H u d ∧ d.nm ∈ W ∧ W.length ≤ 60 ∧ ∀ (r : V) (p : Addr) (H' : Hp), H' p = some (.tup [r, .int (doneF S d).2]) → StV H' r (doneF S d).1 → Same H H' → Q (.ref p) H'
theorem str_get_set : ("set" : Str) ≠ "get" := by decide +kernel
theorem str_get_add : ("add" : Str) ≠ "get" := by decide +kernel
theorem str_add_set : ("set" : Str) ≠ "add" := by decide +kernel
theorem vstr_ne {a b : Str} (h : a ≠ b) : ¬ V.str a = V.str b := fun e => h (by injection e)
theorem scDn : FnScope ["_law_store", "_law_deed", "_law_value_here"] ["_law_store", "_law_deed"] (defScope s__law_done) := ⟨rfl, rfl, rfl, by decide +kernel, rfl, by decide +kernel, by decide +kernel⟩
theorem ok_doneF {f : Addr} {fd : FuncData} (F : Fun K "_law_done" "_law_done" s__law_done f fd) (CV : Cal P w K mg base "_law_value" 1 ["_law_store", "_law_name"] (spValF K)) (CW : Cal P w K mg base "_law_with" 1 ["_law_rows_here", "_law_row"] (spWith K)) : FnOk P w K mg base CX0 2 f fd ["_law_store", "_law_deed"] (spDoneF K) := by
  refine F.ok scDn (fun vs H Q E ⟨_, _, _, _, _, _, e, _⟩ => by subst e; rfl) (fun cdv A outer s H vs Q E hr h => ?_)
  obtain ⟨v, u, S, d, W, C, rfl, hv, ok, hd, hn, hW, q⟩ := h
  obtain ⟨gV, dV, GV, mV, kV, bV⟩ := CV.ex
  obtain ⟨gW, dW, GW, mW, kW, bW⟩ := CW.ex
  have r1 := hr
  refine ⟨_, @pss_p _ _ _ _ _ (ps_set (i := 2) scDn.nd (by rfl) (by exact Or.inl rfl) (pe_call GV r1 (by rfl) mV kV bV .nil pass0 (pa_n (pv 0) (pa_s (pe_ix ix_tup (pv 1) (pe_int) px_i) pa_nil))))
    (@pss_p _ _ _ _ _ (ps_if (pt_cmpR op_eq (pe_ix ix_tup (pv 1) (pe_int) px_i) (pe_str) (nomark _)) (@pss_o _ _ _ (ps_ret (QE.h (qx_tup (qa_n (pv 0) (qa_n (pv 2) qa_nil)))))) pss_nil)
    (@pss_p _ _ _ _ _ (ps_if (pt_cmpR op_eq (pe_ix ix_tup (pv 1) (pe_int) px_i) (pe_str) (nomark _)) (@pss_o _ _ _ (ps_ret (QE.h (qx_tup (qa_tup (qa_k (pe_call GW r1 (by rfl) mW kW bW .nil pass0 (pa_s (pe_ix ix_tup (pv 0) (pe_int) px_i) (pa_t (QE.h (qx_tup (qa_s (pe_ix ix_tup (pv 1) (pe_int) px_i) (qa_b (pe_op op_add (pv 2) (pe_ix ix_tup (pv 1) (pe_int) px_i)) qa_nil)))) pa_nil))) (qa_s (pe_ix ix_tup (pv 0) (pe_int) px_i) qa_nil)) (qa_b (pe_op op_add (pv 2) (pe_ix ix_tup (pv 1) (pe_int) px_i)) qa_nil)))))) pss_nil)
    (@pss_o _ _ _ (ps_ret (QE.h (qx_tup (qa_tup (qa_k (pe_call GW r1 (by rfl) mW kW bW .nil pass0 (pa_s (pe_ix ix_tup (pv 0) (pe_int) px_i) (pa_t (QE.h (qx_tup (qa_s (pe_ix ix_tup (pv 1) (pe_int) px_i) (qa_s (pe_ix ix_tup (pv 1) (pe_int) px_i) qa_nil)))) pa_nil))) (qa_s (pe_ix ix_tup (pv 0) (pe_int) px_i) qa_nil)) (qa_n (pv 2) qa_nil)))))))), ?_⟩
  have hlen := ok.ns.len
  have hv' := hv
  obtain ⟨sa, a, c, rfl, hs, ha, hc⟩ := hv'
  have at0 : atI [V.ref a, V.ref c] 0 = some (.ref a) := atI_nat (j := 0) rfl
  have at1 : atI [V.ref a, V.ref c] 1 = some (.ref c) := atI_nat (j := 1) rfl
  have put2 : ∀ (z y : Int) (nm : Str) (H1 : Hp), nm ∈ W → Same H H1 → H1 sa = some (.tup [.ref a, .ref c]) → (∀ (r : V) (p : Addr) (H' : Hp), H' p = some (.tup [r, .int y]) → StV H' r (putF S.1 (nm, [z]), S.2) → Same H H' → Q (.ref p) H') →
      ∀ (b : Addr) (H2 : Hp), RwT H2 b (putF S.1 (nm, [z])) → Same H1 H2 → ∀ p2, H2 p2 = none → ∀ p3, upd H2 p2 (.tup [.ref b, .ref c]) p3 = none → Q (.ref p3) (upd (upd H2 p2 (.tup [.ref b, .ref c])) p3 (.tup [.ref p2, .int y])) := fun z y nm H1 _ s1 _ qq b H2 hb s2 p2 hp2 p3 hp3 => by
    have s3 := same_upd (o := HO.tup [V.ref b, V.ref c]) hp2
    have s4 := same_upd (o := HO.tup [V.ref p2, V.int y]) hp3
    exact qq (.ref p2) p3 _ upd_same ⟨p2, b, c, rfl, s4 _ _ upd_same, hb.same (s3.trans s4), hc.same (s1.trans (s2.trans (s3.trans s4)))⟩ (s1.trans (s2.trans (s3.trans s4)))
  cases d with
  | get n =>
    obtain ⟨p, rfl, hp⟩ := hd
    refine ⟨_, rfl, _, rfl, p, _, _, .str n, rfl, rfl, SqT.of hp, atI_nat (j := 1) rfl, _, S, n, rfl, hv, by omega, ok.ns.sz, fun H1 s1 => ?_⟩
    refine ⟨_, rfl, p, _, _, .str "get", rfl, rfl, SqT.of (s1 _ _ hp), atI_nat (j := 0) rfl, rfl, _, rfl, ?_⟩
    rw [decide_eq_true rfl]
    refine iteT ⟨_, rfl, _, rfl, tiny (by show 2 ≤ 1000; decide), fun p2 hp2 => ?_⟩
    have s2 := same_upd (o := HO.tup [V.ref sa, V.int (valF S.1 n)]) hp2
    exact q (.ref sa) p2 _ upd_same (hv.same (s1.trans s2)) (s1.trans s2)
  | set n x =>
    obtain ⟨p, rfl, hp⟩ := hd
    refine ⟨_, rfl, _, rfl, p, _, _, .str n, rfl, rfl, SqT.of hp, atI_nat (j := 1) rfl, _, S, n, rfl, hv, by omega, ok.ns.sz, fun H1 s1 => ?_⟩
    refine ⟨_, rfl, p, _, _, .str "set", rfl, rfl, SqT.of (s1 _ _ hp), atI_nat (j := 0) rfl, rfl, _, rfl, ?_⟩
    rw [decide_eq_false (vstr_ne str_get_set)]
    refine iteF ⟨_, rfl, p, _, _, .str "set", rfl, rfl, SqT.of (s1 _ _ hp), atI_nat (j := 0) rfl, rfl, _, rfl, ?_⟩
    rw [decide_eq_false (vstr_ne str_add_set)]
    refine iteF ⟨_, rfl, sa, _, _, .ref a, rfl, rfl, SqT.of (s1 _ _ hs), at0, _, rfl, p, _, _, .str n, rfl, rfl, SqT.of (s1 _ _ hp), atI_nat (j := 1) rfl, _, rfl, p, _, _, .int x, rfl, rfl, SqT.of (s1 _ _ hp), atI_nat (j := 2) rfl, tiny (by show 2 ≤ 1000; decide), fun p1 hp1 => ?_⟩
    have s2 := same_upd (o := HO.tup [V.str n, V.int x]) hp1
    refine ⟨a, p1, S.1, n, [x], W, 1, rfl, ha.same (s1.trans s2), upd_same, ok.ns, hW, hn, rfl, fun b H2 hb s3 => ?_⟩
    refine ⟨_, rfl, sa, _, _, .ref c, rfl, rfl, SqT.of (s3 _ _ (s2 _ _ (s1 _ _ hs))), at1, tiny (by show 2 ≤ 1000; decide), fun p2 hp2 => ⟨_, rfl, tiny (by show 2 ≤ 1000; decide), fun p3 hp3 => put2 x _ n _ hn (s1.trans s2) (s2 _ _ (s1 _ _ hs)) q b H2 hb s3 p2 hp2 p3 hp3⟩⟩
  | add n x =>
    obtain ⟨p, rfl, hp⟩ := hd
    refine ⟨_, rfl, _, rfl, p, _, _, .str n, rfl, rfl, SqT.of hp, atI_nat (j := 1) rfl, _, S, n, rfl, hv, by omega, ok.ns.sz, fun H1 s1 => ?_⟩
    refine ⟨_, rfl, p, _, _, .str "add", rfl, rfl, SqT.of (s1 _ _ hp), atI_nat (j := 0) rfl, rfl, _, rfl, ?_⟩
    rw [decide_eq_false (vstr_ne str_get_add)]
    refine iteF ⟨_, rfl, p, _, _, .str "add", rfl, rfl, SqT.of (s1 _ _ hp), atI_nat (j := 0) rfl, rfl, _, rfl, ?_⟩
    rw [decide_eq_true rfl]
    refine iteT ⟨_, rfl, sa, _, _, .ref a, rfl, rfl, SqT.of (s1 _ _ hs), at0, _, rfl, p, _, _, .str n, rfl, rfl, SqT.of (s1 _ _ hp), atI_nat (j := 1) rfl, _, rfl, _, rfl, p, _, _, .int x, rfl, rfl, SqT.of (s1 _ _ hp), atI_nat (j := 2) rfl, _, _, rfl, rfl, tiny (by show 2 ≤ 1000; decide), fun p1 hp1 => ?_⟩
    have s2 := same_upd (o := HO.tup [V.str n, V.int (valF S.1 n + x)]) hp1
    refine ⟨a, p1, S.1, n, [valF S.1 n + x], W, 1, rfl, ha.same (s1.trans s2), upd_same, ok.ns, hW, hn, rfl, fun b H2 hb s3 => ?_⟩
    have hp9 : ∀ p2, H2 p2 = none → upd H2 p2 (.tup [V.ref b, V.ref c]) p = some (.tup [V.str "add", V.str n, V.int x]) := fun p2 hp2 => (same_upd hp2) _ _ (s3 _ _ (s2 _ _ (s1 _ _ hp)))
    refine ⟨_, rfl, sa, _, _, .ref c, rfl, rfl, SqT.of (s3 _ _ (s2 _ _ (s1 _ _ hs))), at1, tiny (by show 2 ≤ 1000; decide), fun p2 hp2 => ⟨_, rfl, _, rfl, p, _, _, .int x, rfl, rfl, SqT.of (hp9 p2 hp2), atI_nat (j := 2) rfl, _, _, rfl, rfl, tiny (by show 2 ≤ 1000; decide), fun p3 hp3 => put2 (valF S.1 n + x) _ n _ hn (s1.trans s2) (s2 _ _ (s1 _ _ hs)) q b H2 hb s3 p2 hp2 p3 hp3⟩⟩
end
end K1
set_option Elab.async false
set_option linter.all false
set_option maxRecDepth 100000
set_option maxHeartbeats 4000000
namespace K1
open PySem L2 Kp
/-! ### what an entry holds, and what it does to a store -/
inductive What | opn | seats (ms : List Int) | wish (c : Str) (n : Int) (d : Deed)
def WhatV (H : Hp) (v : V) : What → Prop
  | .opn => ∃ p, v = .ref p ∧ H p = some (.tup [.str "open"])
  | .seats ms => ∃ p q, v = .ref p ∧ H p = some (.tup [.str "seats", .ref q]) ∧ H q = some (.tup (ms.map V.int))
  | .wish c n d => ∃ p u, v = .ref p ∧ H p = some (.tup [.str "wish", .str c, .int n, u]) ∧ DeedV H u d
theorem WhatV.same {H H' : Hp} {v : V} {x : What} (h : WhatV H v x) (s : Same H H') : WhatV H' v x := by
  cases x with
  | opn => obtain ⟨p, e, hp⟩ := h; exact ⟨p, e, s _ _ hp⟩
  | seats ms => obtain ⟨p, q, e, hp, hq⟩ := h; exact ⟨p, q, e, s _ _ hp, s _ _ hq⟩
  | wish c n d => obtain ⟨p, u, e, hp, hd⟩ := h; exact ⟨p, u, e, s _ _ hp, hd.same s⟩
def WhOk (W C : List Str) : What → Prop
  | .wish c n d => c ∈ C ∧ 1 ≤ n ∧ d.nm ∈ W
  | .seats ms => ms.length ≤ 9
  | .opn => True
/-- the number and the answer that stand with a caller -/
def standF (rs : List Rw) (c : Str) : Int × Int := match rs.find? fun r => decide (r.1 = c) with
  | some r => (r.2.headD 0, r.2.getD 1 0)
  | none => (0, 0)
def applyF (S : Sto) : What → Sto
  | .wish c n d => if n ≤ (standF S.2 c).1 then S else ((doneF S d).1.1, putF S.2 (c, [n, (doneF S d).2]))
  | _ => S
theorem doneF_cs (S : Sto) (d : Deed) : (doneF S d).1.2 = S.2 := by cases d <;> rfl
theorem putF_mem {rs : List Rw} {r x : Rw} (h : x ∈ putF rs r) : x ∈ rs ∨ x = r := by
  unfold putF at h
  rcases List.mem_append.mp h with h | h
  · exact .inl (List.mem_filter.mp h).1
  · rcases List.mem_cons.mp h with h | h
    · exact .inr h
    · exact .inl (List.mem_filter.mp h).1
theorem applyF_ok {W C : List Str} {S : Sto} {x : What} (h : StoOk W C S) (hx : WhOk W C x) : StoOk W C (applyF S x) := by
  cases x with
  | opn => exact h
  | seats ms => exact h
  | wish c n d =>
    obtain ⟨hc, hn, hd⟩ := hx
    unfold applyF
    by_cases e : n ≤ (standF S.2 c).1
    · simp only [e, if_true]; exact h
    · simp only [e, if_false]
      refine ⟨(doneF_ok h hd).ns, putF_ok h.cs hc rfl, fun r hr => ?_⟩
      rcases putF_mem hr with hr | rfl
      · exact h.ge r hr
      · exact hn
theorem stand_some {rs : List Rw} {c : Str} {i : Nat} (hi : i < rs.length) (e : (rs[i]).1 = c) (hno : ∀ j (hj : j < rs.length), j < i → (rs[j]).1 ≠ c) : rs.find? (fun r => decide (r.1 = c)) = some rs[i] := by
  rw [List.find?_eq_some_iff_getElem]
  exact ⟨decide_eq_true e, i, hi, rfl, fun j hj => by simpa using hno j (by omega) hj⟩
theorem stand_none {rs : List Rw} {c : Str} (hno : ∀ j (hj : j < rs.length), (rs[j]).1 ≠ c) : rs.find? (fun r => decide (r.1 = c)) = none := by
  rw [List.find?_eq_none]
  intro r hr
  obtain ⟨j, hj, rfl⟩ := List.getElem_of_mem hr
  simpa using hno j hj
def replayF (S : Sto) (xs : List What) : Sto := xs.foldl applyF S
theorem replayF_ok {W C : List Str} : ∀ {xs : List What} {S : Sto}, StoOk W C S → (∀ x ∈ xs, WhOk W C x) → StoOk W C (replayF S xs)
  | [], _, h, _ => h
  | x :: xs, S, h, hx => replayF_ok (xs := xs) (applyF_ok h (hx x List.mem_cons_self)) fun y hy => hx y (List.mem_cons_of_mem _ hy)
/-- a wish that was applied stands: applied once more it does nothing -/
def Knows (S : Sto) : What → Prop
  | .wish c n _ => n ≤ (standF S.2 c).1
  | _ => True
theorem Knows.id {S : Sto} {x : What} (h : Knows S x) : applyF S x = S := by
  cases x with
  | wish c n d => unfold applyF; exact if_pos h
  | opn => rfl
  | seats ms => rfl
end K1
set_option Elab.async false
set_option linter.all false
set_option maxRecDepth 100000
set_option maxHeartbeats 4000000
namespace K1
open PySem L2 Kp
section
variable {P : Program} {w : World} {K : PySem.W.Frag} {mg : Str → Option Value} {base : Heap}
def isIv (_ : Hp) (v : V) : Prop := ∃ z : Int, v = .int z
theorem ints_of {H : Hp} : ∀ {ys : List V}, (∀ v ∈ ys, isIv H v) → ∃ ms : List Int, ys = ms.map V.int
  | [], _ => ⟨[], rfl⟩
  | y :: ys, h => by
    obtain ⟨z, rfl⟩ := h y List.mem_cons_self
    obtain ⟨ms, rfl⟩ := ints_of (ys := ys) fun v hv => h v (List.mem_cons_of_mem _ hv)
    exact ⟨z :: ms, rfl⟩
def spSeatsF : Sp := fun vs H Q _ => ∃ n : Int, vs = [.int n] ∧ ∀ (ms : List Int) (q : Addr) (H' : Hp), H' q = some (.tup (ms.map V.int)) → ms.length ≤ 9 → Same H H' → Q (.ref q) H'
def pw9 : List Int := [1, 2, 4, 8, 16, 32, 64, 128, 256]
theorem scSf : FnScope ["_law_number", "_law_powers"] ["_law_number"] (defScope sSeatsBy) := ⟨rfl, rfl, rfl, by decide +kernel, rfl, by decide +kernel, by decide +kernel⟩
theorem ok_seatsF {f : Addr} {fd : FuncData} (F : Fun K "_law_seats_by" "_law_seats_by" sSeatsBy f fd) (T : Txt mg) : FnOk P w K mg base CX0 1 f fd ["_law_number"] spSeatsF := by
  refine F.ok scSf (fun vs H Q E ⟨_, e, _⟩ => by subst e; rfl) (fun cdv A outer s H vs Q E hr h => ?_)
  obtain ⟨n, rfl, q⟩ := h
  refine ⟨_, @pss_p _ _ _ _ _ (ps_set (i := 0) scSf.nd (by rfl) (by exact Or.inr rfl) (pe_op op_add (pe_int) (pe_op op_mod (pv 0) (pe_int))))
    (@pss_q _ _ _ _ _ (qs_set (i := 1) scSf.nd (by rfl) (by exact Or.inr rfl) (fx_lst (fa_int (fa_int (fa_int (fa_int (fa_int (fa_int (fa_int (fa_int (fa_int (fa_nil)))))))))) (by decide)) sw_l)
    (@pss_o _ _ _ (ps_ret (pe_callTy call_tuple_of (by rfl) T.tuple boot_tuple (pa_cons (pe_comp (NB := ["_law_k", "_law_number", "_law_powers"]) (n := 1) (fr := [0, 1]) (compOk2 (outer := defScope sSeatsBy) (x := "_law_number") (y := "_law_powers") (by rfl) (by decide +kernel) (by rfl) (by rfl) (by rfl) (by rfl) (by rfl) (by rfl) (by rfl)) (by rfl) (pi_range1 (by rfl) T.range (pa_i pe_int pa_nil))
      (fun _ _ _ _ _ => pg_name (i := 0) (show (["_law_k", "_law_number", "_law_powers"] : List Str).Nodup by decide +kernel) (by rfl) (by exact Or.inl rfl)) (fun _ _ _ _ _ => pifs_one (pt_cmpR op_eq (pe_op op_mod (pe_op op_fdiv (pv 1) (pe_ix (ix_listK (K := K) (by rfl)) (pv 2) (pv 0) px_n)) (pe_int)) pe_int (nomark _))) (fun _ _ _ _ _ => pv 0)) pa_nil))))), ?_⟩
  refine ⟨_, rfl, _, _, rfl, rfl, (by show (0 : Int) < 511; decide), _, _, rfl, rfl, ?_⟩
  refine fun l hl => ?_
  have s1 := same_upd (o := HO.lst (pw9.map V.int)) hl
  refine ⟨9, rfl, by decide, by decide, comp_ex (J := Itr 0 9) (k := 1) (n := 9) isIv (fun _ _ _ _ h => h) (by rw [sizeLine_eq]; decide) (fun i H3 hi s4 => hi) (fun H3 s4 => Nat.le_refl _) ?_ ?_⟩
  · intro i H3 t x H4 R hi s4 ht y h1 h2
    obtain ⟨t0, rfl⟩ := one_slot ht
    obtain ⟨rfl, rfl⟩ := y
    have hz : i < pw9.length := hi
    have hat : atI (pw9.map V.int) (0 + (i : Int)) = some (.int pw9[i]) := by
      rw [Int.zero_add]; exact atI_nat (by rw [List.getElem?_map, List.getElem?_eq_getElem hz]; rfl)
    have hpos : (0 : Int) < pw9[i] ∧ pw9[i] < 1073741824 := (show ∀ x ∈ pw9, (0 : Int) < x ∧ x < 1073741824 by decide) _ (List.getElem_mem hz)
    refine ⟨_, rfl, _, rfl, _, rfl, l, _, _, .int pw9[i], rfl, rfl, SqL.of (s4 _ _ upd_same), hat, _, _, rfl, rfl, hpos, _, _, rfl, rfl, (by show (0 : Int) < 2; decide), rfl, _, rfl, ite2 (fun _ => ⟨_, rfl, h1 [_] _ _ rfl (Same.refl _) ⟨_, rfl⟩⟩) (fun _ => h2 [_] _ rfl (Same.refl _))⟩
  · intro D H3 ys s3 hD hd hly hys
    obtain ⟨ms, rfl⟩ := ints_of hys
    refine ⟨D, _, rfl, .inl ⟨SqL.of hd, fun t ht => q ms t _ upd_same (by simpa using hly) (s1.trans (s3.trans (same_upd ht)))⟩⟩
def tCt : TS := fun D σ H => ∃ v0 v1 m v3 c, σ = [v0, v1, some (.int m), v3, some (.int c)] ∧ (0 ≤ m ∧ m < 2147483648) ∧ 1 ≤ c ∧ ∀ c' : Int, 1 ≤ c' → D.nx [v0, v1, some (.int m), v3, some (.int c')] H
def spWhatF (K : PySem.W.Frag) : Sp := fun vs H Q _ => ∃ (a : Addr) (ns : List Int) (k : Int), vs = [.ref a, .int k] ∧ SqL K H a (ns.map V.int) ∧ 0 ≤ k ∧ ∀ (x : What) (v : V) (H' : Hp), WhatV H' v x → WhOk (nmW ns) (clW ns) x → Same H H' → Q v H'
theorem scWb : FnScope ["_law_script", "_law_at", "_law_number", "_law_caller", "_law_count"] ["_law_script", "_law_at"] (defScope s__law_what_by) := ⟨rfl, rfl, rfl, by decide +kernel, rfl, by decide +kernel, by decide +kernel⟩
theorem ok_whatF {f : Addr} {fd : FuncData} (F : Fun K "_law_what_by" "_law_what_by" s__law_what_by f fd) (CM : Cal P w K mg base "_law_mixed" 2 ["_law_script", "_law_k"] (spMixF K)) (CS : Cal P w K mg base "_law_seats_by" 1 ["_law_number"] spSeatsF) (CL : Cal P w K mg base "_law_caller_by" 3 ["_law_script", "_law_number"] (spNmF K clW)) (CD : Cal P w K mg base "_law_deed_by" 4 ["_law_script", "_law_at"] (spDeedF K)) : FnOk P w K mg base CX0 5 f fd ["_law_script", "_law_at"] (spWhatF K) := by
  refine F.ok scWb (fun vs H Q E ⟨_, _, _, e, _⟩ => by subst e; rfl) (fun cdv A outer s H vs Q E hr h => ?_)
  obtain ⟨a, ns, k, rfl, hS, h0, q⟩ := h
  obtain ⟨gM, dM, GM, mM, kM, bM⟩ := CM.ex
  obtain ⟨gS, dS, GS, mS, kS, bS⟩ := CS.ex
  obtain ⟨gL, dL, GL, mL, kL, bL⟩ := CL.ex
  obtain ⟨gD, dD, GD, mD, kD, bD⟩ := CD.ex
  have r1 := hr.mono (show 1 ≤ 4 by omega)
  have r2 := hr.mono (show 2 ≤ 4 by omega)
  have r3 := hr.mono (show 3 ≤ 4 by omega)
  refine ⟨_, @pss_p _ _ _ _ _ (ps_set (i := 2) scWb.nd (by rfl) (by exact Or.inl rfl) (pe_call GM r2 (by rfl) mM kM bM .nil pass0 (pa_n (pv 0) (pa_n (pv 1) pa_nil))))
    (@pss_p _ _ _ _ _ (ps_if (pt_cmpR op_eq (pe_op op_mod (pv 2) (pe_int)) (pe_int) (nomark _)) (@pss_o _ _ _ (ps_ret (QE.h (qx_tup (qa_str qa_nil))))) pss_nil)
    (@pss_p _ _ _ _ _ (ps_if (pt_cmpR op_eq (pe_op op_mod (pv 2) (pe_int)) (pe_int) (nomark _)) (@pss_o _ _ _ (ps_ret (QE.h (qx_tup (qa_str (qa_k (pe_call GS r1 (by rfl) mS kS bS .nil pass0 (pa_b (pe_op op_fdiv (pv 2) (pe_int)) pa_nil)) qa_nil)))))) pss_nil)
    (@pss_p _ _ _ _ _ (ps_set (i := 3) scWb.nd (by rfl) (by exact Or.inl rfl) (pe_call GL r3 (by rfl) mL kL bL .nil pass0 (pa_n (pv 0) (pa_b (pe_op op_fdiv (pv 2) (pe_int)) pa_nil))))
    (@pss_p _ _ _ _ _ (ps_set (i := 4) scWb.nd (by rfl) (by exact Or.inl rfl) (pe_op op_add (pe_int) (pe_op op_mod (pe_op op_fdiv (pv 2) (pe_int)) (pe_int))))
    (@pss_p _ _ _ _ _ (PS.weakU (t' := tCt) (ps_if (pt_cmpR op_eq (pe_op op_mod (pe_op op_fdiv (pv 2) (pe_int)) (pe_int)) (pe_int) (nomark _)) (@pss_o _ _ _ (ps_set (i := 4) scWb.nd (by rfl) (by exact Or.inl rfl) (pe_op op_add (pe_int) (pe_op op_mod (pe_op op_pow (pv 2) pe_int) (pe_op op_pow pe_int pe_int))))) pss_nil) ?w1)
    (@pss_o _ _ _ (ps_ret (QE.h (qx_tup (qa_str (qa_n (pv 3) (qa_n (pv 4) (qa_k (pe_call GD hr (by rfl) mD kD bD .nil pass0 (pa_n (pv 0) (pa_b (pe_op op_add (pv 1) (pe_int)) pa_nil))) qa_nil))))))))))))), ?_⟩
  case w1 =>
    rintro D σ H ⟨v0, v1, m, v3, c, rfl, hm, hc, q⟩
    refine ⟨_, rfl, _, _, rfl, rfl, ⟨by decide, by decide⟩, _, _, rfl, rfl, (by show (0 : Int) < 7; decide), rfl, _, rfl, ite2 (fun _ => ?_) (fun _ => q c hc)⟩
    refine ⟨_, rfl, _, _, rfl, rfl, ⟨by decide, by decide, by show m.natAbs < 2 ^ 64; omega⟩, _, _, rfl, rfl, ⟨by decide, by decide, by decide⟩, _, _, rfl, rfl, (by show (0 : Int) < 10 ^ (30 : Int).toNat; decide), _, _, rfl, rfl, q _ ?_⟩
    have := (emod_in (m ^ (5 : Int).toNat) (m := 10 ^ (30 : Int).toNat) (by decide)).1
    omega
  refine ⟨_, rfl, _, rfl, a, ns, k, rfl, hS, h0, ?_⟩
  have b := mixF_in ns k
  generalize mixF ns k = m at b
  refine ⟨_, rfl, _, _, rfl, rfl, (by show (0 : Int) < 8; decide), rfl, _, rfl, ite2 (fun _ => ?_) (fun _ => ?_)⟩
  · exact ⟨tiny (by show 1 ≤ 1000; decide), fun p hp => q .opn (.ref p) _ ⟨p, rfl, upd_same⟩ trivial (same_upd hp)⟩
  refine ⟨_, rfl, _, _, rfl, rfl, (by show (0 : Int) < 8; decide), rfl, _, rfl, ite2 (fun _ => ?_) (fun _ => ?_)⟩
  · refine ⟨_, rfl, _, _, rfl, rfl, ⟨by decide, by decide⟩, _, rfl, fun ms q1 H1 hq1 hm9 s1 => ⟨tiny (by show 2 ≤ 1000; decide), fun p hp => ?_⟩⟩
    have s2 := same_upd (o := HO.tup [V.str "seats", V.ref q1]) hp
    exact q (.seats ms) (.ref p) _ ⟨p, q1, rfl, upd_same, s2 _ _ hq1⟩ hm9 (s1.trans s2)
  refine ⟨_, rfl, _, rfl, _, _, rfl, rfl, ⟨by decide, by decide⟩, a, ns, _, rfl, hS, fun x H1 hx s1 => ?_⟩
  refine ⟨_, rfl, _, _, rfl, rfl, ⟨by decide, by decide⟩, _, _, rfl, rfl, (by show (0 : Int) < 6; decide), _, _, rfl, rfl, ?_⟩
  have b6 := (emod_in (m / 208) (m := 6) (by decide)).1
  refine ⟨_, _, m, _, _, rfl, ⟨b.1, by omega⟩, by omega, fun c hc => ?_⟩
  refine ⟨_, rfl, _, rfl, _, rfl, _, rfl, _, _, rfl, rfl, a, ns, k + 1, rfl, SqL.same hS s1, by omega, fun d u H2 hd hn s2 => ⟨tiny (by show 4 ≤ 1000; decide), fun p hp => ?_⟩⟩
  have s3 := same_upd (o := HO.tup [V.str "wish", V.str x, V.int c, u]) hp
  exact q (.wish x c d) (.ref p) _ ⟨p, u, rfl, upd_same, hd.same s3⟩ ⟨hx, hc, hn⟩ (s1.trans (s2.trans s3))
end
end K1
set_option Elab.async false
set_option linter.all false
set_option maxRecDepth 100000
set_option maxHeartbeats 4000000
namespace K1
open PySem L2 Kp
section
variable {P : Program} {w : World} {K : PySem.W.Frag} {mg : Str → Option Value} {base : Heap}
def spStandF : Sp := fun vs H Q _ => ∃ (v : V) (S : Sto) (c : Str), vs = [v, .str c] ∧ StV H v S ∧ (∀ r ∈ S.2, r.2.length = 2) ∧ ∀ (p : Addr) (H' : Hp), H' p = some (.tup [.int (standF S.2 c).1, .int (standF S.2 c).2]) → Same H H' → Q (.ref p) H'
theorem scSd : FnScope ["_law_store", "_law_caller", "_law_one", "_law_number", "_law_answer"] ["_law_store", "_law_caller"] (defScope s__law_stand) := ⟨rfl, rfl, rfl, by decide +kernel, rfl, by decide +kernel, by decide +kernel⟩
theorem ok_standF {f : Addr} {fd : FuncData} (F : Fun K "_law_stand" "_law_stand" s__law_stand f fd) : FnOk P w K mg base CX0 1 f fd ["_law_store", "_law_caller"] spStandF := by
  refine F.ok scSd (fun vs H Q E ⟨_, _, _, e, _⟩ => by subst e; rfl) (fun cdv A outer s H vs Q E hr h => ?_)
  obtain ⟨v, S, c, rfl, ⟨sa, a, ca, rfl, hs, _, ⟨vs, hc, R⟩⟩, sz, q⟩ := h
  refine ⟨_, @pss_p _ _ _ _ _ (ps_for PassesOwn.never (by rfl) (pi_tup (pe_ix ix_tup (pv 0) (pe_int) px_i)) (pg_tup (n := 3) (by rfl) (pgs_cons (pg_name (i := 2) scSd.nd (by rfl) (by exact Or.inl rfl)) (pgs_cons (pg_name (i := 3) scSd.nd (by rfl) (by exact Or.inl rfl)) (pgs_cons (pg_name (i := 4) scSd.nd (by rfl) (by exact Or.inl rfl)) pgs_nil)))) (@pss_o _ _ _ (ps_if (pt_cmpR op_eq (pv 2) (pv 1) (nomark _)) (@pss_o _ _ _ (ps_ret (QE.h (qx_tup (qa_n (pv 3) (qa_n (pv 4) qa_nil)))))) pss_nil)))
    (@pss_o _ _ _ (ps_ret (QE.h (qx_tup (qa_int (qa_int qa_nil)))))), ?_⟩
  refine ⟨_, rfl, sa, _, _, .ref ca, rfl, rfl, SqT.of hs, atI_nat (j := 1) rfl, ca, rfl, ⟨_, SqT.of hc⟩, for_tup (K := K) (a := ca) (xs := vs) (fun i σ H' => ∃ t2 t3 t4 : Option V, σ = [some (.ref sa), some (.str c), t2, t3, t4] ∧ H' = H ∧ ∀ j (hj : j < S.2.length), j < i → (S.2[j]).1 ≠ c)
    ⟨none, none, none, rfl, rfl, fun j _ h => absurd h (Nat.not_lt_zero _)⟩ (fun i σ H' _ ⟨_, _, _, _, e, _⟩ => by rw [e]; exact SqT.of hc) ?_ ?_⟩
  · rintro i x σ H' hx ⟨t2, t3, t4, rfl, rfl, hno⟩
    have hi : i < S.2.length := by rw [← R.length]; exact (List.getElem?_eq_some_iff.mp hx).1
    obtain ⟨p, g, hp⟩ := R.get hi
    rw [g] at hx
    cases hx
    obtain ⟨z, y, ez⟩ : ∃ z y, (S.2[i]).2 = [z, y] := by
      have := sz S.2[i] (List.getElem_mem hi)
      match h2 : (S.2[i]).2, this with
      | [z, y], _ => exact ⟨z, y, rfl⟩
    rw [ez] at hp
    refine ⟨p, _, rfl, SqT.of hp, rfl, _, _, rfl, _, _, rfl, _, _, rfl, rfl, _, rfl, _, rfl, rfl, _, rfl, ite2 (fun h => ?_) (fun h => ?_)⟩
    · have e : (S.2[i]).1 = c := by have := of_decide_eq_true h; injection this
      have hf := stand_some hi e hno
      have es : standF S.2 c = (z, y) := by unfold standF; rw [hf]; simp only [ez]; rfl
      refine ⟨_, rfl, _, rfl, tiny (by show 2 ≤ 1000; decide), fun p2 hp2 => q p2 _ ?_ (same_upd hp2)⟩
      rw [es]
      exact upd_same
    · have e : (S.2[i]).1 ≠ c := fun e => h (decide_eq_true (by rw [e]))
      exact ⟨_, _, _, rfl, rfl, fun j hj hji => by
        by_cases hje : j = i
        · subst hje; exact e
        · exact hno j hj (by omega)⟩
  · rintro σ H' ⟨t2, t3, t4, rfl, rfl, hno⟩
    have hf := stand_none (rs := S.2) (c := c) fun j hj => hno j hj (by rw [R.length]; exact hj)
    have es : standF S.2 c = (0, 0) := by unfold standF; rw [hf]
    refine ⟨tiny (by show 2 ≤ 1000; decide), fun p2 hp2 => q p2 _ ?_ (same_upd hp2)⟩
    rw [es]
    exact upd_same
def spApF (K : PySem.W.Frag) : Sp := fun vs H Q _ => ∃ (v u : V) (S : Sto) (x : What) (W C : List Str), vs = [v, u] ∧ StV H v S ∧ StoOk W C S ∧ WhatV H u x ∧ WhOk W C x ∧ W.length ≤ 60 ∧ C.length ≤ 60 ∧ ∀ (r : V) (H' : Hp), StV H' r (applyF S x) → Same H H' → Q r H'
theorem str_open_wish : ("open" : Str) ≠ "wish" := by decide +kernel
theorem str_seats_wish : ("seats" : Str) ≠ "wish" := by decide +kernel
theorem scAp : FnScope ["_law_store", "_law_what", "_law_after"] ["_law_store", "_law_what"] (defScope s__law_applied) := ⟨rfl, rfl, rfl, by decide +kernel, rfl, by decide +kernel, by decide +kernel⟩
theorem ok_apF {f : Addr} {fd : FuncData} (F : Fun K "_law_applied" "_law_applied" s__law_applied f fd) (CT : Cal P w K mg base "_law_stand" 1 ["_law_store", "_law_caller"] spStandF) (CD : Cal P w K mg base "_law_done" 2 ["_law_store", "_law_deed"] (spDoneF K)) (CW : Cal P w K mg base "_law_with" 1 ["_law_rows_here", "_law_row"] (spWith K)) : FnOk P w K mg base CX0 3 f fd ["_law_store", "_law_what"] (spApF K) := by
  refine F.ok scAp (fun vs H Q E ⟨_, _, _, _, _, _, e, _⟩ => by subst e; rfl) (fun cdv A outer s H vs Q E hr h => ?_)
  obtain ⟨v, u, S, x, W, C, rfl, hv, ok, hx, hok, hW, hC, q⟩ := h
  obtain ⟨gT, dT, GT, mT, kT, bT⟩ := CT.ex
  obtain ⟨gD, dD, GD, mD, kD, bD⟩ := CD.ex
  obtain ⟨gW, dW, GW, mW, kW, bW⟩ := CW.ex
  have r1 := hr.mono (show 1 ≤ 2 by omega)
  refine ⟨_, @pss_p _ _ _ _ _ (ps_if (PW.pt (pw_or (pt_cmpR op_ne (pe_ix ix_tup (pv 1) (pe_int) px_i) pe_str (nomark _)) (pw_or1 (pt_cmpR op_ge (pe_ix ix_tup (pe_call GT r1 (by rfl) mT kT bT .nil pass0 (pa_n (pv 0) (pa_s (pe_ix ix_tup (pv 1) (pe_int) px_i) pa_nil))) (pe_int) px_i) (pe_ix ix_tup (pv 1) (pe_int) px_i) (nomark _))))) (@pss_o _ _ _ (ps_ret (pv 0))) pss_nil)
    (@pss_p _ _ _ _ _ (ps_set (i := 2) scAp.nd (by rfl) (by exact Or.inl rfl) (pe_call GD hr (by rfl) mD kD bD .nil pass0 (pa_n (pv 0) (pa_s (pe_ix ix_tup (pv 1) (pe_int) px_i) pa_nil))))
    (@pss_o _ _ _ (ps_ret (QE.h (qx_tup (qa_s (pe_ix ix_tup (pe_ix ix_tup (pv 2) (pe_int) px_i) (pe_int) px_i) (qa_k (pe_call GW r1 (by rfl) mW kW bW .nil pass0 (pa_s (pe_ix ix_tup (pv 0) (pe_int) px_i) (pa_t (QE.h (qx_tup (qa_s (pe_ix ix_tup (pv 1) (pe_int) px_i) (qa_s (pe_ix ix_tup (pv 1) (pe_int) px_i) (qa_s (pe_ix ix_tup (pv 2) (pe_int) px_i) qa_nil))))) pa_nil))) qa_nil))))))), ?_⟩
  have hv' := hv
  obtain ⟨sa, a, ca, rfl, hs, ha, hca⟩ := hv'
  cases x with
  | opn =>
    obtain ⟨p, rfl, hp⟩ := hx
    refine ⟨_, rfl, p, _, _, .str "open", rfl, rfl, SqT.of hp, atI_nat (j := 0) rfl, rfl, _, rfl, ?_⟩
    rw [decide_eq_false (vstr_ne str_open_wish)]
    exact iteT (iteT ⟨_, rfl, q _ H hv (Same.refl _)⟩)
  | seats ms =>
    obtain ⟨p, p2, rfl, hp, _⟩ := hx
    refine ⟨_, rfl, p, _, _, .str "seats", rfl, rfl, SqT.of hp, atI_nat (j := 0) rfl, rfl, _, rfl, ?_⟩
    rw [decide_eq_false (vstr_ne str_seats_wish)]
    exact iteT (iteT ⟨_, rfl, q _ H hv (Same.refl _)⟩)
  | wish c n d =>
    obtain ⟨p, du, rfl, hp, hd⟩ := hx
    obtain ⟨hcC, hn, hnW⟩ := hok
    unfold applyF at q
    refine ⟨_, rfl, p, _, _, .str "wish", rfl, rfl, SqT.of hp, atI_nat (j := 0) rfl, rfl, _, rfl, ?_⟩
    rw [decide_eq_true rfl]
    refine iteF ⟨_, rfl, _, rfl, p, _, _, .str c, rfl, rfl, SqT.of hp, atI_nat (j := 1) rfl, _, S, c, rfl, hv, ok.cs.sz, fun pt H1 hpt s1 => ?_⟩
    refine ⟨pt, _, _, .int (standF S.2 c).1, rfl, rfl, SqT.of hpt, atI_nat (j := 0) rfl, _, rfl, p, _, _, .int n, rfl, rfl, SqT.of (s1 _ _ hp), atI_nat (j := 2) rfl, _, _, rfl, rfl, _, rfl, ite2 (fun h => ?_) (fun h => ?_)⟩
    · have e : n ≤ (standF S.2 c).1 := of_decide_eq_true h
      simp only [e, if_true] at q
      exact ⟨_, rfl, q _ H1 (hv.same s1) s1⟩
    · have e : ¬ n ≤ (standF S.2 c).1 := ndec h
      simp only [e, if_false] at q
      refine ⟨_, rfl, _, rfl, p, _, _, du, rfl, rfl, SqT.of (s1 _ _ hp), atI_nat (j := 3) rfl, _, _, S, d, W, C, rfl, hv.same s1, ok, hd.same s1, hnW, hW, fun r pr H2 hpr hr2 s2 => ?_⟩
      obtain ⟨sb, a2, c2, rfl, hs2, ha2, hc2⟩ := hr2
      have s12 := s1.trans s2
      refine ⟨_, rfl, pr, _, _, .ref sb, rfl, rfl, SqT.of hpr, atI_nat (j := 0) rfl, sb, _, _, .ref a2, rfl, rfl, SqT.of hs2, atI_nat (j := 0) rfl, ?_⟩
      refine ⟨_, rfl, sa, _, _, .ref ca, rfl, rfl, SqT.of (s12 _ _ hs), atI_nat (j := 1) rfl, _, rfl, p, _, _, .str c, rfl, rfl, SqT.of (s12 _ _ hp), atI_nat (j := 1) rfl, _, rfl, p, _, _, .int n, rfl, rfl, SqT.of (s12 _ _ hp), atI_nat (j := 2) rfl, _, rfl, pr, _, _, .int (doneF S d).2, rfl, rfl, SqT.of hpr, atI_nat (j := 1) rfl, tiny (by show 3 ≤ 1000; decide), fun p3 hp3 => ?_⟩
      have s3 := same_upd (o := HO.tup [V.str c, V.int n, V.int (doneF S d).2]) hp3
      refine ⟨ca, p3, S.2, c, [n, (doneF S d).2], C, 2, rfl, hca.same (s12.trans s3), upd_same, ok.cs, hC, hcC, rfl, fun b H4 hb s4 => ⟨tiny (by show 2 ≤ 1000; decide), fun p5 hp5 => ?_⟩⟩
      have s5 := same_upd (o := HO.tup [V.ref a2, V.ref b]) hp5
      exact q (.ref p5) _ ⟨p5, a2, b, rfl, upd_same, ha2.same (s3.trans (s4.trans s5)), hb.same s5⟩ (s12.trans (s3.trans (s4.trans s5)))
def spNumP : Sp := fun vs H Q _ => ∃ (v : V) (S : Sto) (c : Str) (W C : List Str), vs = [v, .str c] ∧ StV H v S ∧ StoOk W C S ∧ C.length ≤ 60 ∧ ∀ H', Same H H' → Q (.int (standF S.2 c).1) H'
end
end K1
set_option Elab.async false
set_option linter.all false
set_option maxRecDepth 100000
set_option maxHeartbeats 4000000
namespace K1
open PySem L2 Kp
/-! ### wishes done twice over change nothing more -/
/-! ### entries with what they hold -/
inductive EW (H : Hp) : List V → List What → Prop
  | nil : EW H [] []
  | cons {p : Addr} {t : Int} {u : V} {x : What} {vs : List V} {xs : List What} : H p = some (.tup [.int t, u]) → WhatV H u x → EW H vs xs → EW H (.ref p :: vs) (x :: xs)
theorem EW.same {H H' : Hp} (s : Same H H') : ∀ {vs xs}, EW H vs xs → EW H' vs xs
  | _, _, .nil => .nil
  | _, _, .cons e w r => .cons (s _ _ e) (w.same s) (EW.same s r)
theorem EW.length {H : Hp} : ∀ {vs xs}, EW H vs xs → vs.length = xs.length
  | _, _, .nil => rfl
  | _, _, .cons _ _ r => by rw [List.length_cons, List.length_cons, EW.length r]
theorem EW.get {H : Hp} : ∀ {vs : List V} {xs : List What} {i : Nat} (h : i < xs.length), EW H vs xs → ∃ p t u, vs[i]? = some (.ref p) ∧ H p = some (.tup [.int t, u]) ∧ WhatV H u xs[i]
  | _, _, _, h, .nil => absurd h (Nat.not_lt_zero _)
  | _, _, 0, _, .cons e w _ => ⟨_, _, _, rfl, e, w⟩
  | _, _, i + 1, h, .cons _ _ r => EW.get (i := i) (by simpa using h) r
theorem EW.append {H : Hp} : ∀ {vs xs us ys}, EW H vs xs → EW H us ys → EW H (vs ++ us) (xs ++ ys)
  | _, _, _, _, .nil, r => r
  | _, _, _, _, .cons e w r, q => .cons e w (EW.append r q)
theorem EW.take {H : Hp} : ∀ {vs : List V} {xs : List What} (n : Nat), EW H vs xs → EW H (vs.take n) (xs.take n)
  | _, _, 0, _ => by rw [List.take_zero, List.take_zero]; exact .nil
  | _, _, _ + 1, .nil => .nil
  | _, _, n + 1, .cons e w r => .cons e w (EW.take n r)
theorem EW.drop {H : Hp} : ∀ {vs : List V} {xs : List What} (n : Nat), EW H vs xs → EW H (vs.drop n) (xs.drop n)
  | _, _, 0, r => r
  | _, _, _ + 1, .nil => .nil
  | _, _, n + 1, .cons _ _ r => EW.drop n r
theorem replayF_snoc (S : Sto) (xs : List What) {i : Nat} (hi : i < xs.length) : replayF S (xs.take (i + 1)) = applyF (replayF S (xs.take i)) xs[i] := by
  unfold replayF
  rw [List.take_succ_eq_append_getElem hi, List.foldl_append]
  rfl
end K1
set_option Elab.async false
set_option linter.all false
set_option maxRecDepth 100000
set_option maxHeartbeats 4000000
namespace K1
open PySem L2 Kp
section
variable {P : Program} {w : World} {K : PySem.W.Frag} {mg : Str → Option Value} {base : Heap}
def spRepF (K : PySem.W.Frag) : Sp := fun vs H Q _ => ∃ (v : V) (p : Addr) (S : Sto) (us : List V) (xs : List What) (W C : List Str), vs = [v, .ref p] ∧ StV H v S ∧ StoOk W C S ∧ H p = some (.tup us) ∧ EW H us xs ∧ (∀ x ∈ xs, WhOk W C x) ∧ W.length ≤ 60 ∧ C.length ≤ 60 ∧ ∀ (r : V) (H' : Hp), StV H' r (replayF S xs) → Same H H' → Q r H'
theorem scRp : FnScope ["_law_store", "_law_entries", "_law_entry"] ["_law_store", "_law_entries"] (defScope s__law_replayed) := ⟨rfl, rfl, rfl, by decide +kernel, rfl, by decide +kernel, by decide +kernel⟩
theorem ok_repL {f : Addr} {fd : FuncData} (F : Fun K "_law_replayed" "_law_replayed" s__law_replayed f fd) (CP : Cal P w K mg base "_law_applied" 3 ["_law_store", "_law_what"] (spApF K)) : FnOk P w K mg base CX0 4 f fd ["_law_store", "_law_entries"] (spRepF K) := by
  refine F.ok scRp (fun vs H Q E ⟨_, _, _, _, _, _, _, e, _⟩ => by subst e; rfl) (fun cdv A outer s H vs Q E hr h => ?_)
  obtain ⟨v, p, S, us, xs, W, C, rfl, hv, ok, hp, he, hw, hW, hC, q⟩ := h
  obtain ⟨gP, dP, GP, mP, kP, bP⟩ := CP.ex
  refine ⟨_, @pss_p _ _ _ _ _ (ps_for PassesOwn.never (by rfl) (pi_tup (pv 1)) (pg_name (i := 2) scRp.nd (by rfl) (by exact Or.inl rfl)) (@pss_o _ _ _ (ps_set (i := 0) scRp.nd (by rfl) (by exact Or.inl rfl) (pe_call GP hr (by rfl) mP kP bP .nil pass0 (pa_n (pv 0) (pa_s (pe_ix ix_tup (pv 2) (pe_int) px_i) pa_nil))))))
    (@pss_o _ _ _ (ps_ret (pv 0))), ?_⟩
  have hl := he.length
  refine ⟨_, rfl, p, rfl, ⟨_, SqT.of hp⟩, for_tup (K := K) (a := p) (xs := us) (fun i σ H' => ∃ (v' : V) (t2 : Option V), σ = [some v', some (.ref p), t2] ∧ StV H' v' (replayF S (xs.take i)) ∧ Same H H')
    ⟨v, none, rfl, by rw [List.take_zero]; exact hv, Same.refl _⟩ (fun i σ H' _ ⟨_, _, _, _, s1⟩ => SqT.of (s1 _ _ hp)) ?_ ?_⟩
  · rintro i x σ H' hx ⟨v', t2, rfl, hv', s1⟩
    have hi : i < xs.length := by rw [← hl]; exact (List.getElem?_eq_some_iff.mp hx).1
    obtain ⟨p1, t1, u1, g1, hp1, hu1⟩ := (he.same s1).get hi
    rw [g1] at hx
    cases hx
    refine ⟨_, rfl, _, rfl, p1, _, _, u1, rfl, rfl, SqT.of hp1, atI_nat (j := 1) rfl, v', u1, _, xs[i], W, C, rfl, hv', replayF_ok ok fun y hy => hw y (List.mem_of_mem_take hy), hu1, hw _ (List.getElem_mem hi), hW, hC, fun r H2 hr2 s2 => ?_⟩
    rw [← replayF_snoc S xs hi] at hr2
    exact ⟨r, _, rfl, hr2, s1.trans s2⟩
  · rintro σ H' ⟨v', t2, rfl, hv', s1⟩
    rw [List.take_of_length_le (by omega)] at hv'
    exact ⟨_, rfl, q v' H' hv' s1⟩
end
end K1
set_option Elab.async false
set_option linter.all false
set_option maxRecDepth 100000
set_option maxHeartbeats 4000000
namespace K1
open PySem L2 Kp
/-! ### packs, and the entries that come behind them -/
abbrev En := Int × What
inductive ET (H : Hp) : List V → List En → Prop
  | nil : ET H [] []
  | cons {p : Addr} {t : Int} {u : V} {x : What} {vs : List V} {es : List En} : H p = some (.tup [.int t, u]) → WhatV H u x → ET H vs es → ET H (.ref p :: vs) ((t, x) :: es)
theorem ET.same {H H' : Hp} (s : Same H H') : ∀ {vs es}, ET H vs es → ET H' vs es
  | _, _, .nil => .nil
  | _, _, .cons e w r => .cons (s _ _ e) (w.same s) (ET.same s r)
theorem ET.length {H : Hp} : ∀ {vs es}, ET H vs es → vs.length = es.length
  | _, _, .nil => rfl
  | _, _, .cons _ _ r => by rw [List.length_cons, List.length_cons, ET.length r]
theorem ET.get {H : Hp} : ∀ {vs : List V} {es : List En} {i : Nat} (h : i < es.length), ET H vs es → ∃ p u, vs[i]? = some (.ref p) ∧ H p = some (.tup [.int (es[i]).1, u]) ∧ WhatV H u (es[i]).2
  | _, _, _, h, .nil => absurd h (Nat.not_lt_zero _)
  | _, _, 0, _, .cons e w _ => ⟨_, _, rfl, e, w⟩
  | _, _, i + 1, h, .cons _ _ r => ET.get (i := i) (by simpa using h) r
theorem ET.append {H : Hp} : ∀ {vs es us fs}, ET H vs es → ET H us fs → ET H (vs ++ us) (es ++ fs)
  | _, _, _, _, .nil, r => r
  | _, _, _, _, .cons e w r, q => .cons e w (ET.append r q)
theorem ET.take {H : Hp} : ∀ {vs : List V} {es : List En} (n : Nat), ET H vs es → ET H (vs.take n) (es.take n)
  | _, _, 0, _ => by rw [List.take_zero, List.take_zero]; exact .nil
  | _, _, _ + 1, .nil => .nil
  | _, _, n + 1, .cons e w r => .cons e w (ET.take n r)
theorem ET.drop {H : Hp} : ∀ {vs : List V} {es : List En} (n : Nat), ET H vs es → ET H (vs.drop n) (es.drop n)
  | _, _, 0, r => r
  | _, _, _ + 1, .nil => .nil
  | _, _, n + 1, .cons _ _ r => ET.drop n r
theorem ET.ew {H : Hp} : ∀ {vs es}, ET H vs es → EW H vs (es.map (·.2))
  | _, _, .nil => .nil
  | _, _, .cons e w r => .cons e w (ET.ew r)
structure Pk where
  pl : Int
  tm : Int
  st : List Int
  so : Sto
def PkV (H : Hp) (v : V) (P : Pk) : Prop := ∃ p q u, v = .ref p ∧ H p = some (.tup [.int P.pl, .int P.tm, .ref q, u]) ∧ H q = some (.tup (P.st.map V.int)) ∧ StV H u P.so
theorem PkV.same {H H' : Hp} {v : V} {P : Pk} (h : PkV H v P) (s : Same H H') : PkV H' v P := let ⟨p, q, u, e, h1, h2, h3⟩ := h; ⟨p, q, u, e, s _ _ h1, s _ _ h2, h3.same s⟩
def RwP (H : Hp) (v : V) (b l : Int) (es : List En) : Prop := ∃ r c us, v = .ref r ∧ H r = some (.tup [.int b, .int l, .ref c]) ∧ H c = some (.tup us) ∧ ET H us es
theorem RwP.same {H H' : Hp} {v : V} {b l : Int} {es : List En} (h : RwP H v b l es) (s : Same H H') : RwP H' v b l es := let ⟨p, q, u, e, h1, h2, h3⟩ := h; ⟨p, q, u, e, s _ _ h1, s _ _ h2, h3.same s⟩
def lastT (t0 : Int) (es : List En) : Int := es.foldl (fun _ e => e.1) t0
def seat1 (s : List Int) : What → List Int
  | .seats ms => ms
  | _ => s
def seatsF (s0 : List Int) (es : List En) : List Int := es.foldl (fun s e => seat1 s e.2) s0
def packF (P : Pk) (t0 : Int) (es : List En) (pl : Int) : Pk := ⟨pl, lastT t0 es, seatsF P.st es, replayF P.so (es.map (·.2))⟩
theorem lastT_snoc (t0 : Int) (es : List En) {i : Nat} (hi : i < es.length) : lastT t0 (es.take (i + 1)) = (es[i]).1 := by
  unfold lastT
  rw [List.take_succ_eq_append_getElem hi, List.foldl_append]
  rfl
theorem seatsF_snoc (s0 : List Int) (es : List En) {i : Nat} (hi : i < es.length) : seatsF s0 (es.take (i + 1)) = seat1 (seatsF s0 (es.take i)) (es[i]).2 := by
  unfold seatsF
  rw [List.take_succ_eq_append_getElem hi, List.foldl_append]
  rfl
theorem seat1_len {W C : List Str} {s : List Int} {x : What} (h : s.length ≤ 9) (hx : WhOk W C x) : (seat1 s x).length ≤ 9 := by
  cases x with
  | seats ms => exact hx
  | _ => exact h
theorem seatsF_len {W C : List Str} : ∀ {es : List En} {s : List Int}, s.length ≤ 9 → (∀ e ∈ es, WhOk W C e.2) → (seatsF s es).length ≤ 9
  | [], _, h, _ => h
  | e :: es, s, h, hw => seatsF_len (es := es) (seat1_len h (hw e List.mem_cons_self)) fun y hy => hw y (List.mem_cons_of_mem _ hy)
theorem StV.alike {K : PySem.W.Frag} {H : Hp} {v u : V} {S : Sto} (h : StV H v S) (h' : StV H u S) : Alike K H 3 v u := by
  obtain ⟨sa, a, c, rfl, hs, ha, hc⟩ := h
  obtain ⟨sb, a2, c2, rfl, hs2, ha2, hc2⟩ := h'
  refine .tup (SqT.of hs) (SqT.of hs2) rfl fun i x y e1 e2 => ?_
  match i, e1, e2 with
  | 0, e1, e2 => cases e1; cases e2; exact ha.alike ha2
  | 1, e1, e2 => cases e1; cases e2; exact hc.alike hc2
theorem ints_alike {K : PySem.W.Frag} {H : Hp} {p q : Addr} {ms : List Int} {n : Nat} (h : H p = some (.tup (ms.map V.int))) (h' : H q = some (.tup (ms.map V.int))) : Alike K H (n + 1) (.ref p) (.ref q) := by
  refine .tup (SqT.of h) (SqT.of h') rfl fun i x y e1 e2 => ?_
  rw [e1] at e2
  cases e2
  obtain ⟨z, _, rfl⟩ := List.mem_map.mp (List.mem_of_getElem? e1)
  exact .flat rfl
theorem PkV.eqs {K : PySem.W.Frag} {H : Hp} {v u : V} {P : Pk} (h : PkV H v P) (h' : PkV H u P) : ∃ p q xs ys, v = .ref p ∧ u = .ref q ∧ SqT K H p xs ∧ SqT K H q ys ∧ xs.length = ys.length ∧ ∀ (i : Nat) (x y : V), xs[i]? = some x → ys[i]? = some y → Alike K H 3 x y := by
  obtain ⟨p, q, a, rfl, h1, h2, h3⟩ := h
  obtain ⟨p', q', a', rfl, h1', h2', h3'⟩ := h'
  refine ⟨p, p', _, _, rfl, rfl, SqT.of h1, SqT.of h1', rfl, fun i x y e1 e2 => ?_⟩
  match i, e1, e2 with
  | 0, e1, e2 => cases e1; cases e2; exact .flat rfl
  | 1, e1, e2 => cases e1; cases e2; exact .flat rfl
  | 2, e1, e2 => cases e1; cases e2; exact ints_alike h2 h2'
  | 3, e1, e2 => cases e1; cases e2; exact h3.alike h3'
end K1
set_option Elab.async false
set_option linter.all false
set_option maxRecDepth 100000
set_option maxHeartbeats 4000000
namespace K1
open PySem L2 Kp
/-! ### what stores and packs promise, whatever law asks -/
def spFreshP (K : PySem.W.Frag) : Sp := fun vs H Q _ => vs = [] ∧ ∀ (v : V) (H' : Hp), StV H' v ([], []) → Same H H' → Q v H'
def spFp : Sp := fun vs H Q _ => ∃ (q : Addr) (ms : List Int), vs = [.ref q] ∧ H q = some (.tup (ms.map V.int)) ∧ ∀ (r : V) (H' : Hp), PkV H' r ⟨0, 0, ms, ([], [])⟩ → Same H H' → Q r H'
def spEndP : Sp := fun vs H Q _ => ∃ (v : V) (b l : Int) (es : List En), vs = [v] ∧ RwP H v b l es ∧ Q (.int (b + (es.length : Int))) H
def seatB : What → Bool
  | .seats _ => true
  | _ => false
def spHoldP : Sp := fun vs H Q _ => ∃ (p : Addr) (t : Int) (u : V) (x : What), vs = [.ref p] ∧ H p = some (.tup [.int t, u]) ∧ WhatV H u x ∧ Q (.bl (seatB x)) H
def spSeatsP : Sp := fun vs H Q _ => ∃ (v : V) (q : Addr) (b l : Int) (es : List En) (ms : List Int), vs = [v, .ref q] ∧ RwP H v b l es ∧ H q = some (.tup (ms.map V.int)) ∧ ∀ q' : Addr, H q' = some (.tup ((seatsF ms es).map V.int)) → Q (.ref q') H
theorem so_ne : ("open" : Str) ≠ "seats" := by decide +kernel
theorem sw_ne : ("wish" : Str) ≠ "seats" := by decide +kernel
theorem vs_ne {a b : Str} (h : a ≠ b) : ¬ V.str a = V.str b := fun e => h (by injection e)
end K1
set_option Elab.async false
set_option linter.all false
set_option maxRecDepth 100000
set_option maxHeartbeats 4000000
namespace K1
open PySem L2 Kp
section
variable {P : Program} {w : World} {K : PySem.W.Frag} {mg : Str → Option Value} {base : Heap}
def PkRw (K : PySem.W.Frag) (H : Hp) (vp vr : V) (P : Pk) (es : List En) (W C : List Str) : Prop := PkV H vp P ∧ StoOk W C P.so ∧ RwP H vr P.pl P.tm es ∧ (∀ e ∈ es, WhOk W C e.2) ∧ es.length ≤ 40 ∧ W.length ≤ 60 ∧ C.length ≤ 60 ∧ 0 ≤ P.pl
theorem PkRw.same {H H' : Hp} {vp vr : V} {P : Pk} {es : List En} {W C : List Str} (h : PkRw K H vp vr P es W C) (s : Same H H') : PkRw K H' vp vr P es W C := let ⟨a, b, c, d⟩ := h; ⟨a.same s, b, c.same s, d⟩
theorem sto_nil {W C : List Str} : StoOk W C ([], []) := ⟨⟨.nil, fun r h => absurd h List.not_mem_nil, fun r h => absurd h List.not_mem_nil⟩, ⟨.nil, fun r h => absurd h List.not_mem_nil, fun r h => absurd h List.not_mem_nil⟩, fun r h => absurd h List.not_mem_nil⟩
/-- pack_at at a place that the row has -/
def spPk (K : PySem.W.Frag) : Sp := fun vs H Q _ => ∃ (vp vr : V) (P : Pk) (es : List En) (W C : List Str) (n : Nat), vs = [vp, vr, .int (P.pl + n)] ∧ PkRw K H vp vr P es W C ∧ n ≤ es.length ∧ ∀ (r : V) (H' : Hp), PkV H' r (packF P P.tm (es.take n) (P.pl + n)) → Same H H' → Q r H'
theorem packF_ok {W C : List Str} {P : Pk} {es : List En} (h : StoOk W C P.so) (hw : ∀ e ∈ es, WhOk W C e.2) (t pl : Int) : StoOk W C (packF P t es pl).so := replayF_ok h fun x hx => by
  obtain ⟨e, he, rfl⟩ := List.mem_map.mp hx
  exact hw e he
end
end K1
set_option Elab.async false
set_option linter.all false
set_option maxRecDepth 100000
set_option maxHeartbeats 4000000
namespace K1
open PySem L2 Kp
section
variable {P : Program} {w : World} {K : PySem.W.Frag} {mg : Str → Option Value} {base : Heap}
def spRowsL (K : PySem.W.Frag) : Sp := fun vs H Q _ => ∃ (a : Addr) (rs : List Rw) (n : Nat), vs = [.ref a, .int (n + 2 : Nat)] ∧ RwT H a rs ∧ (∀ r ∈ rs, r.2.length = n + 1) ∧ Q (.bl true) H
theorem scRo : FnScope ["_law_found", "_law_size", "_law_part"] ["_law_found", "_law_size"] (defScope s__law_rows) := ⟨rfl, rfl, rfl, by decide +kernel, rfl, by decide +kernel, by decide +kernel⟩
theorem ok_rowsL {f : Addr} {fd : FuncData} (F : Fun K "_law_rows" "_law_rows" s__law_rows f fd) (T : Txt mg) (CW : Cal P w K mg base "_law_whole" 1 ["_law_found"] spWholeI) : FnOk P w K mg base CX0 2 f fd ["_law_found", "_law_size"] (spRowsL K) := by
  refine F.ok scRo (fun vs H Q E ⟨_, _, _, e, _⟩ => by subst e; rfl) (fun cdv A outer s H vs Q E hr h => ?_)
  obtain ⟨a, rs, n, rfl, ⟨vs, ha, R⟩, sz, q⟩ := h
  obtain ⟨gW, dW, GW, mW, kW, bW⟩ := CW.ex
  refine ⟨_, @pss_p _ _ _ _ _ (ps_if (pt_not (pt_val (pe_callB call_isi (by rfl) T.isi boot_isi (pa_n (pv 0) (pa_n (pe_ty (by rfl) T.tuple boot_tuple) pa_nil))))) (@pss_o _ _ _ (ps_ret pe_bl)) pss_nil)
    (@pss_p _ _ _ _ _ (ps_for PassesOwn.never (by rfl) (pi_tup (pv 0)) (pg_name (i := 2) scRo.nd (by rfl) (by exact Or.inl rfl)) (@pss_p _ _ _ _ _ (ps_if (PW.pt (pw_or (pt_not (pt_val (pe_callB call_isi (by rfl) T.isi boot_isi (pa_n (pv 2) (pa_n (pe_ty (by rfl) T.tuple boot_tuple) pa_nil))))) (pw_or (pt_cmpR op_ne (pe_callB call_len_seq (by rfl) T.len PySem.boot_len (pa_n (pv 2) pa_nil)) (pv 1) (nomark _)) (pw_or1 (pt_not (pt_val (pe_callB call_isi (by rfl) T.isi boot_isi (pa_s (pe_ix ix_tup (pv 2) (pe_int) px_i) (pa_n (pe_ty (by rfl) T.str boot_str) pa_nil))))))))) (@pss_o _ _ _ (ps_ret pe_bl)) pss_nil)
    (@pss_o _ _ _ (ps_if (PW.pt (pw_or (pt_not (pt_val (pe_call GW hr (by rfl) mW kW bW .nil pass0 (pa_s (pe_ix ix_tup (pv 2) (pe_int) px_i) pa_nil)))) (pw_or1 (pt_not (pt_val (pe_call GW hr (by rfl) mW kW bW .nil pass0 (pa_s (pe_ix ix_tup (pv 2) (pe_op op_sub (pv 1) (pe_int)) px_b) pa_nil))))))) (@pss_o _ _ _ (ps_ret pe_bl)) pss_nil))))
    (@pss_o _ _ _ (ps_ret (pe_bl)))), ?_⟩
  refine ⟨_, rfl, _, _, _, _, rfl, .tup ha, kit_tup K (.tup []), _, rfl, iteF ?_⟩
  refine ⟨_, rfl, a, rfl, ⟨_, SqT.of ha⟩, for_tup (K := K) (a := a) (xs := vs) (fun i σ H' => ∃ t : Option V, σ = [some (.ref a), some (.int (n + 2 : Nat)), t] ∧ H' = H)
    ⟨none, rfl, rfl⟩ (fun i σ H' _ ⟨_, _, e⟩ => by rw [e]; exact SqT.of ha) ?_ ?_⟩
  · rintro i x σ H' hx ⟨t, rfl, rfl⟩
    have hi : i < rs.length := by rw [← R.length]; exact (List.getElem?_eq_some_iff.mp hx).1
    obtain ⟨p, g, hp⟩ := R.get hi
    rw [g] at hx
    cases hx
    have hl := sz rs[i] (List.getElem_mem hi)
    generalize (rs[i]).2 = is at hp hl
    obtain ⟨z, zs, rfl⟩ : ∃ z zs, is = z :: zs := by
      cases is with
      | nil => simp at hl
      | cons z zs => exact ⟨z, zs, rfl⟩
    have hz : zs.length = n := by simpa using hl
    have w0 := SqT.of (K := K) hp
    have hlen : (V.str (rs[i]).1 :: (z :: zs).map V.int).length = n + 2 := by simp [hz]
    have elast : ((n + 2 : Nat) : Int) - 1 = ((n + 1 : Nat) : Int) := by omega
    have alast : ∃ y : Int, atI (V.str (rs[i]).1 :: (z :: zs).map V.int) (((n + 2 : Nat) : Int) - 1) = some (.int y) := by
      rw [elast]
      have hj : n < (z :: zs).length := by simp; omega
      exact ⟨(z :: zs)[n], atI_nat (by rw [List.getElem?_cons_succ, List.getElem?_map, List.getElem?_eq_getElem hj]; rfl)⟩
    obtain ⟨y, hy⟩ := alast
    refine ⟨_, rfl, _, _, _, _, rfl, .tup hp, kit_tup K (.tup []), _, rfl, iteF ⟨_, rfl, p, _, rfl, .inr w0, _, rfl, rfl, _, rfl, ?_⟩⟩
    rw [hlen, decide_eq_true rfl]
    refine iteF ⟨_, rfl, p, _, _, .str (rs[i]).1, rfl, rfl, w0, atI_nat (j := 0) rfl, _, _, _, _, rfl, .str _, kit_str K (.str ""), _, rfl, iteF ?_⟩
    exact ⟨_, rfl, p, _, _, .int z, rfl, rfl, w0, atI_nat (j := 1) rfl, z, rfl, _, rfl, iteF ⟨_, rfl, _, rfl, _, _, rfl, rfl, p, _, _, .int y, rfl, rfl, w0, hy, y, rfl, _, rfl, iteF ⟨_, rfl, rfl⟩⟩⟩
  · rintro σ H' ⟨t, rfl, rfl⟩
    exact q
def spSameL : Sp := fun vs H Q _ => ∃ (v u : V) (S : Sto) (W C : List Str), vs = [v, u] ∧ StV H v S ∧ StV H u S ∧ StoOk W C S ∧ Q (.bl true) H
theorem scSm : FnScope ["_law_found", "_law_due_here"] ["_law_found", "_law_due_here"] (defScope s__law_same) := ⟨rfl, rfl, rfl, by decide +kernel, rfl, by decide +kernel, by decide +kernel⟩
theorem ok_sameL {f : Addr} {fd : FuncData} (F : Fun K "_law_same" "_law_same" s__law_same f fd) (T : Txt mg) (CR : Cal P w K mg base "_law_rows" 2 ["_law_found", "_law_size"] (spRowsL K)) : FnOk P w K mg base CX0 3 f fd ["_law_found", "_law_due_here"] spSameL := by
  refine F.ok scSm (fun vs H Q E ⟨_, _, _, _, _, e, _⟩ => by subst e; rfl) (fun cdv A outer s H vs Q E hr h => ?_)
  obtain ⟨v, u, S, W, C, rfl, ⟨sa, a, c, rfl, hs, ha, hc⟩, ⟨sb, a2, c2, rfl, hs2, ha2, hc2⟩, ok, q⟩ := h
  obtain ⟨gR, dR, GR, mR, kR, bR⟩ := CR.ex
  refine ⟨_, @pss_p _ _ _ _ _ (ps_if (PW.pt (pw_or (pt_not (pt_val (pe_callB call_isi (by rfl) T.isi boot_isi (pa_n (pv 0) (pa_n (pe_ty (by rfl) T.tuple boot_tuple) pa_nil))))) (pw_or1 (pt_cmpR op_ne (pe_callB call_len_seq (by rfl) T.len PySem.boot_len (pa_n (pv 0) pa_nil)) pe_int (nomark _))))) (@pss_o _ _ _ (ps_ret pe_bl)) pss_nil)
    (@pss_o _ _ _ (ps_ret (pe_and (pe_call GR hr (by rfl) mR kR bR .nil pass0 (pa_s (pe_ix ix_tup (pv 0) (pe_int) px_i) (pa_i pe_int pa_nil))) (pe_and (pe_call GR hr (by rfl) mR kR bR .nil pass0 (pa_s (pe_ix ix_tup (pv 0) (pe_int) px_i) (pa_i pe_int pa_nil))) (pe_one (pe_cmpR (op_eqA hr.units100) (pv 0) (pv 1) (nomark _))))))), ?_⟩
  refine ⟨_, rfl, _, _, _, _, rfl, .tup hs, kit_tup K (.tup []), _, rfl, iteF ⟨_, rfl, sa, _, rfl, .inr (SqT.of hs), rfl, _, rfl, iteF ?_⟩⟩
  refine ⟨_, rfl, sa, _, _, .ref a, rfl, rfl, SqT.of hs, atI_nat (j := 0) rfl, a, S.1, 0, rfl, ha, ok.ns.sz, _, rfl, iteT ?_⟩
  refine ⟨_, rfl, sa, _, _, .ref c, rfl, rfl, SqT.of hs, atI_nat (j := 1) rfl, c, S.2, 1, rfl, hc, ok.cs.sz, _, rfl, iteT ?_⟩
  refine ⟨_, rfl, _, rfl, sa, sb, _, _, 2, rfl, rfl, SqT.of hs, SqT.of hs2, rfl, fun i x y e1 e2 => ?_, by decide, q⟩
  match i, e1, e2 with
  | 0, e1, e2 => cases e1; cases e2; exact ha.alike ha2
  | 1, e1, e2 => cases e1; cases e2; exact hc.alike hc2
  | i + 2, e1, e2 => simp at e1
end
end K1
set_option Elab.async false
set_option linter.all false
set_option maxRecDepth 100000
set_option maxHeartbeats 4000000
namespace K1
open PySem L2 Kp
section
variable {P : Program} {w : World} {K : PySem.W.Frag} {mg : Str → Option Value} {base : Heap}
def spRowB (K : PySem.W.Frag) : Sp := fun vs H Q _ => ∃ (a : Addr) (ns : List Int) (k b l : Int), vs = [.ref a, .int k, .int b, .int l] ∧ SqL K H a (ns.map V.int) ∧ 0 ≤ k ∧ ∀ (r p : Addr) (us : List V) (xs : List En) (H' : Hp), H' r = some (.tup [.int b, .int l, .ref p]) → H' p = some (.tup us) → ET H' us xs → (∀ x ∈ xs, WhOk (nmW ns) (clW ns) x.2) → us.length ≤ 40 → Same H H' → Q (.ref r) H'
theorem scR3 : FnScope ["_law_script", "_law_at", "_law_base", "_law_last", "_law_many", "_law_entries", "_law_k", "_law_number", "_law_term"] ["_law_script", "_law_at", "_law_base", "_law_last"] (defScope s__law_row_by) := ⟨rfl, rfl, rfl, by decide +kernel, rfl, by decide +kernel, by decide +kernel⟩
theorem ok_rowB {f : Addr} {fd : FuncData} (F : Fun K "_law_row_by" "_law_row_by" s__law_row_by f fd) (T : Txt mg) (CC : Cal P w K mg base "_law_cell_at" 1 ["_law_script", "_law_k"] (spCellF K)) (CM : Cal P w K mg base "_law_mixed" 2 ["_law_script", "_law_k"] (spMixF K)) (CY : Cal P w K mg base "_law_many_by" 1 ["_law_cell", "_law_limit"] spManyF) (CH : Cal P w K mg base "_law_what_by" 5 ["_law_script", "_law_at"] (spWhatF K)) : FnOk P w K mg base CX0 6 f fd ["_law_script", "_law_at", "_law_base", "_law_last"] (spRowB K) := by
  refine F.ok scR3 (fun vs H Q E ⟨_, _, _, _, _, e, _⟩ => by subst e; rfl) (fun cdv A outer s H vs Q E hr h => ?_)
  obtain ⟨a, ns, k, bb, ll, rfl, hS, h0, q⟩ := h
  obtain ⟨gC, dC, GC, mC, kC, bC⟩ := CC.ex
  obtain ⟨gM, dM, GM, mM, kM, bM⟩ := CM.ex
  obtain ⟨gY, dY, GY, mY, kY, bY⟩ := CY.ex
  obtain ⟨gH, dH, GH, mH, kH, bH⟩ := CH.ex
  have r1 := hr.mono (show 1 ≤ 5 by omega)
  have r2 := hr.mono (show 2 ≤ 5 by omega)
  refine ⟨_, @pss_p _ _ _ _ _ (ps_set (i := 4) scR3.nd (by rfl) (by exact Or.inl rfl) (pe_call GY r1 (by rfl) mY kY bY .nil pass0 (pa_k (pe_call GC r1 (by rfl) mC kC bC .nil pass0 (pa_n (pv 0) (pa_n (pv 1) pa_nil))) (pa_i pe_int pa_nil))))
    (@pss_p _ _ _ _ _ (ps_set (i := 5) scR3.nd (by rfl) (by exact Or.inl rfl) (QE.h (qx_tup qa_nil)))
    (@pss_p _ _ _ _ _ (ps_for PassesOwn.never (by rfl) (pi_range1 (by rfl) T.range (pa_n (pv 4) pa_nil)) (pg_name (i := 6) scR3.nd (by rfl) (by exact Or.inl rfl)) (@pss_p _ _ _ _ _ (ps_set (i := 7) scR3.nd (by rfl) (by exact Or.inl rfl) (pe_call GM r2 (by rfl) mM kM bM .nil pass0 (pa_n (pv 0) (pa_b (pe_op op_add (pe_op op_add (pv 1) (pe_int)) (pe_op op_mul (pe_int) (pv 6))) pa_nil))))
    (@pss_p _ _ _ _ _ (ps_set (i := 8) scR3.nd (by rfl) (by exact Or.inl rfl) (pe_op op_add (pe_int) (pe_op op_mod (pe_op op_pow (pv 7) pe_int) (QE.h (qx_ix ix_list (qx_lst (qa_int (qa_b (pe_op op_pow pe_int pe_int) (qa_b (pe_op op_pow pe_int pe_int) qa_nil)))) (pe_op op_mod (pv 7) (pe_int)) px_b)))))
    (@pss_o _ _ _ (ps_set (i := 5) scR3.nd (by rfl) (by exact Or.inl rfl) (pe_op op_catU (pv 5) (QE.h (qx_tup (qa_tup (qa_n (pv 8) (qa_k (pe_call GH hr (by rfl) mH kH bH .nil pass0 (pa_n (pv 0) (pa_b (pe_op op_add (pe_op op_add (pv 1) (pe_int)) (pe_op op_mul (pe_int) (pv 6))) pa_nil))) qa_nil)) qa_nil)))))))))
    (@pss_o _ _ _ (ps_ret (QE.h (qx_tup (qa_n (pv 2) (qa_n (pv 3) (qa_n (pv 5) qa_nil))))))))), ?_⟩
  refine ⟨_, rfl, _, rfl, a, ns, k, rfl, hS, h0, _, 40, rfl, by decide, fun n hn => ?_⟩
  refine ⟨tiny (by show 0 ≤ 1000; decide), fun p0 hp0 => ?_⟩
  have s0 := same_upd (o := HO.tup []) hp0
  refine ⟨_, rfl, (n : Int), rfl, by omega, by omega, for_range (n := n) (fun i σ H' => ∃ (p : Addr) (us : List V) (xs : List En) (t4 t5 t6 : Option V), σ = [some (.ref a), some (.int k), some (.int bb), some (.int ll),  some (.int n), some (.ref p), t4, t5, t6] ∧ H' p = some (.tup us) ∧ ET H' us xs ∧ us.length = i ∧ (∀ y ∈ xs, WhOk (nmW ns) (clW ns) y.2) ∧ Same H H')
    ⟨p0, [], [], none, none, none, rfl, upd_same, .nil, rfl, fun y hy => absurd hy List.not_mem_nil, s0⟩ ?_ ?_⟩
  · rintro i σ H' hi ⟨p, us, xs, t4, t5, t6, rfl, hp, he, hui, hw, s1⟩
    have hS1 := SqL.same hS s1
    refine ⟨_, rfl, _, rfl, _, _, rfl, rfl, _, rfl, _, _, rfl, rfl, .inl ⟨by decide, by decide⟩, _, _, rfl, rfl, a, ns, _, rfl, hS1, by omega, ?_⟩
    have b := mixF_in ns (k + 1 + 17 * (0 + (i : Int)))
    generalize mixF ns (k + 1 + 17 * (0 + (i : Int))) = m at b
    refine ⟨_, rfl, _, _, rfl, rfl, ⟨by decide, by decide, by show m.natAbs < 2 ^ 64; omega⟩, _, _, rfl, rfl, ⟨by decide, by decide, by decide⟩, _, _, rfl, rfl, ⟨by decide, by decide, by decide⟩, tiny (by show 3 ≤ 1000; decide), fun l hl => ?_⟩
    obtain ⟨e0, e1⟩ := emod_in m (m := 3) (by decide)
    obtain ⟨v9, hv9, hm9⟩ := atI_mem (xs := [V.int 10, V.int (10 ^ (9 : Int).toNat), V.int (10 ^ (30 : Int).toNat)]) e0 (by simpa using e1)
    obtain ⟨z, rfl, hz⟩ : ∃ z : Int, v9 = .int z ∧ 0 < z := by
      simp only [List.mem_cons, List.not_mem_nil, or_false] at hm9
      rcases hm9 with rfl | rfl | rfl
      · exact ⟨_, rfl, by decide⟩
      · exact ⟨_, rfl, by decide⟩
      · exact ⟨_, rfl, by decide⟩
    have s3 := same_upd (o := HO.lst [V.int 10, V.int (10 ^ (9 : Int).toNat), V.int (10 ^ (30 : Int).toNat)]) hl
    refine ⟨_, rfl, _, _, rfl, rfl, (by show (0 : Int) < 3; decide), l, _, _, .int z, rfl, rfl, SqL.of upd_same, hv9, _, _, rfl, rfl, hz, _, _, rfl, rfl, ?_⟩
    refine ⟨_, rfl, _, rfl, _, rfl, _, rfl, _, _, rfl, rfl, _, rfl, _, _, rfl, rfl, .inl ⟨by decide, by decide⟩, _, _, rfl, rfl, a, ns, _, rfl, SqL.same hS1 s3, by omega, fun x v H1 hx hxo s2 => ⟨tiny (by show 2 ≤ 1000; decide), fun p4 hp4 => ⟨tiny (by show 1 ≤ 1000; decide), fun p5 hp5 => ?_⟩⟩⟩
    have s4 := same_upd (o := HO.tup [V.int (1 + m ^ (4 : Int).toNat % z), v]) hp4
    have s5 := same_upd (o := HO.tup [V.ref p4]) hp5
    have s25 := s3.trans (s2.trans (s4.trans s5))
    refine ⟨p, p5, _, [.ref p4], rfl, rfl, s25 _ _ hp, upd_same, tiny (by show us.length + 1 ≤ 1000; omega), fun p6 H6 h6 s6 => ?_⟩
    have sA := s25.trans s6
    refine ⟨p6, us ++ [.ref p4], xs ++ [(1 + m ^ (4 : Int).toNat % z, x)], _, _, _, rfl, h6, (he.same sA).append (.cons ((s5.trans s6) _ _ upd_same) (hx.same (s4.trans (s5.trans s6))) .nil), by rw [List.length_append, hui]; rfl, fun z9 hz9 => ?_, s1.trans sA⟩
    rcases List.mem_append.mp hz9 with h9 | h9
    · exact hw z9 h9
    · obtain rfl := List.mem_singleton.mp h9; exact hxo
  · rintro σ H' ⟨p, us, xs, t4, t5, t6, rfl, hp, he, hui, hw, s1⟩
    refine ⟨_, rfl, _, rfl, _, rfl, tiny (by show 3 ≤ 1000; decide), fun r hr9 => ?_⟩
    have s9 := same_upd (o := HO.tup [V.int bb, V.int ll, V.ref p]) hr9
    exact q r p us xs _ upd_same (s9 _ _ hp) (he.same s9) hw (by omega) (s1.trans s9)
def spIsPk : Sp := fun vs H Q _ => ∃ (v u : V) (P : Pk) (W C : List Str), vs = [v, u] ∧ PkV H v P ∧ PkV H u P ∧ StoOk W C P.so ∧ P.st.length ≤ 9 ∧ ∀ H', Same H H' → Q (.bl true) H'
theorem scIp : FnScope ["_law_found", "_law_due_here"] ["_law_found", "_law_due_here"] (defScope s__law_is_pack) := ⟨rfl, rfl, rfl, by decide +kernel, rfl, by decide +kernel, by decide +kernel⟩
theorem ok_isPk {f : Addr} {fd : FuncData} (F : Fun K "_law_is_pack" "_law_is_pack" s__law_is_pack f fd) (T : Txt mg) (CW : Cal P w K mg base "_law_whole" 1 ["_law_found"] spWholeI) (CS : Cal P w K mg base "_law_same" 3 ["_law_found", "_law_due_here"] spSameL) : FnOk P w K mg base CX0 4 f fd ["_law_found", "_law_due_here"] spIsPk := by
  refine F.ok scIp (fun vs H Q E ⟨_, _, _, _, _, e, _⟩ => by subst e; rfl) (fun cdv A outer s H vs Q E hr h => ?_)
  obtain ⟨v, u, G, W, C, rfl, hv, hu, ok, h9, q⟩ := h
  obtain ⟨gW, dW, GW, mW, kW, bW⟩ := CW.ex
  obtain ⟨gS, dS, GS, mS, kS, bS⟩ := CS.ex
  have r1 := hr.mono (show 1 ≤ 3 by omega)
  refine ⟨_, @pss_p _ _ _ _ _ (ps_if (PW.pt (pw_or (pt_not (pt_val (pe_callB call_isi (by rfl) T.isi boot_isi (pa_n (pv 0) (pa_n (pe_ty (by rfl) T.tuple boot_tuple) pa_nil))))) (pw_or (pt_cmpR op_ne (pe_callB call_len_seq (by rfl) T.len PySem.boot_len (pa_n (pv 0) pa_nil)) pe_int (nomark _)) (pw_or (pt_not (pt_val (pe_call GW r1 (by rfl) mW kW bW .nil pass0 (pa_s (pe_ix ix_tup (pv 0) (pe_int) px_i) pa_nil)))) (pw_or1 (pt_not (pt_val (pe_call GW r1 (by rfl) mW kW bW .nil pass0 (pa_s (pe_ix ix_tup (pv 0) (pe_int) px_i) pa_nil))))))))) (@pss_o _ _ _ (ps_ret pe_bl)) pss_nil)
    (@pss_p _ _ _ _ _ (ps_if (PW.pt (pw_or (pt_not (pt_val (pe_callB call_isi (by rfl) T.isi boot_isi (pa_s (pe_ix ix_tup (pv 0) (pe_int) px_i) (pa_n (pe_ty (by rfl) T.tuple boot_tuple) pa_nil))))) (pw_or1 (pt_cmpR (op_neAL hr.units100) (pe_comp (NB := ["_law_one"]) (n := 1) (fr := []) (compOk0 (outer := defScope s__law_is_pack)  (by rfl) (by decide +kernel) (by rfl)) (by rfl) (pi_tup (pe_ix ix_tup (pv 0) (pe_int) px_i))
      (fun _ _ _ _ _ => pg_name (i := 0) (show (["_law_one"] : List Str).Nodup by decide +kernel) (by rfl) (by exact Or.inl rfl)) (fun _ _ _ _ _ => pifs_one (pt_not (pt_val (pe_call GW r1 (by rfl) mW kW bW .nil pass0 (pa_n (pv 0) pa_nil))))) (fun _ _ _ _ _ => pv 0)) (pe_lst pa_nil) (nomark _))))) (@pss_o _ _ _ (ps_ret pe_bl)) pss_nil)
    (@pss_o _ _ _ (ps_ret (pe_and (pe_call GS hr (by rfl) mS kS bS .nil pass0 (pa_s (pe_ix ix_tup (pv 0) (pe_int) px_i) (pa_s (pe_ix ix_tup (pv 1) (pe_int) px_i) pa_nil))) (pe_one (pe_cmpR (op_eqA hr.units100) (pv 0) (pv 1) (nomark _))))))), ?_⟩
  have hv' := hv
  have hu' := hu
  obtain ⟨p, sa, st, rfl, hp, hs, hst⟩ := hv'
  obtain ⟨p2, sa2, st2, rfl, hp2, hs2, hst2⟩ := hu'
  refine ⟨_, rfl, _, _, _, _, rfl, .tup hp, kit_tup K (.tup []), _, rfl, iteF ⟨_, rfl, p, _, rfl, .inr (SqT.of hp), rfl, _, rfl, iteF ?_⟩⟩
  refine ⟨_, rfl, p, _, _, .int G.pl, rfl, rfl, SqT.of hp, atI_nat (j := 0) rfl, G.pl, rfl, _, rfl, iteF ⟨_, rfl, p, _, _, .int G.tm, rfl, rfl, SqT.of hp, atI_nat (j := 1) rfl, G.tm, rfl, _, rfl, iteF ?_⟩⟩
  refine ⟨_, rfl, p, _, _, .ref sa, rfl, rfl, SqT.of hp, atI_nat (j := 2) rfl, _, _, _, _, rfl, .tup hs, kit_tup K (.tup []), _, rfl, iteF ?_⟩
  refine ⟨_, rfl, p, _, _, .ref sa, rfl, rfl, SqT.of hp, atI_nat (j := 2) rfl, sa, rfl, ⟨_, SqT.of hs⟩, comp_pure (J := Itt K sa) (k := 1) (n := (G.st.map V.int).length) (fun _ => false) (fun _ => .non) (by rw [List.length_map, sizeLine_eq]; omega) (fun i H4 hi s4 => ?_) (fun H4 s4 => ⟨_, SqT.of (s4 _ _ hs), Nat.le_refl _⟩) ?_ ?_⟩
  · exact ⟨_, (G.st.map V.int)[i], SqT.of (s4 _ _ hs), by simp⟩
  · intro i H4 t x H5 U hi s4 ht y hU
    obtain ⟨t0, rfl⟩ := one_slot ht
    obtain ⟨rfl, hy⟩ := y
    have hx := hy _ (SqT.of (s4 _ _ hs))
    rw [List.getElem?_map] at hx
    cases ec : G.st[i]? with
    | none => rw [ec] at hx; cases hx
    | some z =>
      rw [ec] at hx
      cases hx
      exact ⟨_, rfl, z, rfl, _, rfl, iteF (hU [_] _ rfl (Same.refl _))⟩
  · intro D1 H4 s4 hD1 hd1
    refine ⟨tiny (by show 0 ≤ 1000; decide), fun l9 hl9 => ?_⟩
    have e0 : ((List.range (G.st.map V.int).length).filter fun _ => false).map (fun _ => V.non) = [] := by simp
    rw [e0] at hd1
    have s5 := same_upd (o := HO.lst []) hl9
    have s45 := s4.trans s5
    refine ⟨D1, l9, [], [], 0, rfl, rfl, SqL.of (s5 _ _ hd1), SqL.of upd_same, rfl, fun i x y e => by simp at e, by decide, _, rfl, iteF ?_⟩
    refine ⟨_, rfl, p, _, _, st, rfl, rfl, SqT.of (s45 _ _ hp), atI_nat (j := 3) rfl, _, rfl, p2, _, _, st2, rfl, rfl, SqT.of (s45 _ _ hp2), atI_nat (j := 3) rfl, st, st2, G.so, W, C, rfl, hst.same s45, hst2.same s45, ok, _, rfl, iteT ?_⟩
    obtain ⟨pa, pb, xa, xb, ea, eb, v1, v2, v3, v4⟩ := (hv.same s45).eqs (K := K) (hu.same s45)
    cases ea
    cases eb
    exact ⟨_, rfl, _, rfl, p, p2, xa, xb, 3, rfl, rfl, v1, v2, v3, v4, by decide, q _ s45⟩
theorem str_open_seats : ("open" : Str) ≠ "seats" := by decide +kernel
theorem str_wish_seats : ("wish" : Str) ≠ "seats" := by decide +kernel
theorem scDu : FnScope ["_law_pack", "_law_row", "_law_place", "_law_entries", "_law_seats", "_law_last", "_law_entry"] ["_law_pack", "_law_row", "_law_place"] (defScope s__law_due) := ⟨rfl, rfl, rfl, by decide +kernel, rfl, by decide +kernel, by decide +kernel⟩
theorem ok_dueP {f : Addr} {fd : FuncData} (F : Fun K "_law_due" "_law_due" s__law_due f fd) (CQ : Cal P w K mg base "_law_replayed" 4 ["_law_store", "_law_entries"] (spRepF K)) : FnOk P w K mg base CX0 5 f fd ["_law_pack", "_law_row", "_law_place"] (spPk K) := by
  refine F.ok scDu (fun vs H Q E ⟨_, _, _, _, _, _, _, e, _⟩ => by subst e; rfl) (fun cdv A outer s H vs Q E hr h => ?_)
  obtain ⟨vp, vr, G, es, W, C, n, rfl, ⟨hP, ok, hR, hw, hle, hW, hC, h0⟩, hn, q⟩ := h
  obtain ⟨gQ, dQ, GQ, mQ, kQ, bQ⟩ := CQ.ex
  refine ⟨_, @pss_p _ _ _ _ _ (ps_set (i := 3) scDu.nd (by rfl) (by exact Or.inl rfl) (pe_slice sl_tupV (pe_ix ix_tup (pv 1) (pe_int) px_i) po_none (po_some (pe_op op_sub (pv 2) (pe_ix ix_tup (pv 1) (pe_int) px_i)))))
    (@pss_p _ _ _ _ _ (ps_set (i := 4) scDu.nd (by rfl) (by exact Or.inl rfl) (pe_ix ix_tup (pv 0) (pe_int) px_i))
    (@pss_p _ _ _ _ _ (ps_set (i := 5) scDu.nd (by rfl) (by exact Or.inl rfl) (pe_ix ix_tup (pv 1) (pe_int) px_i))
    (@pss_p _ _ _ _ _ (ps_for PassesOwn.never (by rfl) (pi_tup (pv 3)) (pg_name (i := 6) scDu.nd (by rfl) (by exact Or.inl rfl)) (@pss_p _ _ _ _ _ (ps_set (i := 5) scDu.nd (by rfl) (by exact Or.inl rfl) (pe_ix ix_tup (pv 6) (pe_int) px_i))
    (@pss_o _ _ _ (ps_if (pt_cmpR op_eq (pe_ix ix_tup (pe_ix ix_tup (pv 6) (pe_int) px_i) (pe_int) px_i) pe_str (nomark _)) (@pss_o _ _ _ (ps_set (i := 4) scDu.nd (by rfl) (by exact Or.inl rfl) (pe_ix ix_tup (pe_ix ix_tup (pv 6) (pe_int) px_i) (pe_int) px_i))) pss_nil))))
    (@pss_o _ _ _ (ps_ret (QE.h (qx_tup (qa_n (pv 2) (qa_n (pv 5) (qa_n (pv 4) (qa_k (pe_call GQ hr (by rfl) mQ kQ bQ .nil pass0 (pa_s (pe_ix ix_tup (pv 0) (pe_int) px_i) (pa_n (pv 3) pa_nil))) qa_nil))))))))))), ?_⟩
  obtain ⟨p, sa, st, rfl, hp, hs, hst⟩ := hP
  obtain ⟨r, c, us, rfl, hrr, hc, he⟩ := hR
  refine ⟨_, rfl, r, _, _, .ref c, rfl, rfl, SqT.of hrr, atI_nat (j := 2) rfl, _, rfl, _, rfl, r, _, _, .int G.pl, rfl, rfl, SqT.of hrr, atI_nat (j := 0) rfl, _, _, rfl, rfl, _, rfl, c, _, rfl, hc, fun pe H1 hpe s1 => ?_⟩
  rw [show G.pl + (n : Int) - G.pl = (n : Int) by omega, cut_toN] at hpe
  have hp1 := s1 _ _ hp
  refine ⟨_, rfl, p, _, _, .ref sa, rfl, rfl, SqT.of hp1, atI_nat (j := 2) rfl, ?_⟩
  refine ⟨_, rfl, r, _, _, .int G.tm, rfl, rfl, SqT.of (s1 _ _ hrr), atI_nat (j := 1) rfl, ?_⟩
  have he1 := (he.same s1).take n
  have hwT : ∀ e ∈ es.take n, WhOk W C e.2 := fun e h => hw e (List.mem_of_mem_take h)
  have hl1 := he1.length
  unfold packF at q
  generalize es.take n = fs at he1 hwT hl1 q
  generalize us.take n = us' at he1 hl1 hpe
  refine ⟨_, rfl, pe, rfl, ⟨_, SqT.of hpe⟩, for_tup (K := K) (a := pe) (xs := us') (fun i σ H' => ∃ (sb : Addr) (t6 : Option V), σ = [some (.ref p), some (.ref r), some (.int (G.pl + (n : Int))), some (.ref pe), some (.ref sb), some (.int (lastT G.tm (fs.take i))), t6] ∧ H' sb = some (.tup ((seatsF G.st (fs.take i)).map V.int)) ∧ H' = H1)
    ⟨sa, none, rfl, s1 _ _ hs, rfl⟩ (fun i σ H' _ ⟨_, _, _, _, e⟩ => by rw [e]; exact SqT.of hpe) ?_ ?_⟩
  · rintro i x σ H' hx ⟨sb, t6, rfl, hsb, rfl⟩
    have hi : i < fs.length := by rw [← hl1]; exact (List.getElem?_eq_some_iff.mp hx).1
    obtain ⟨p1, u1, g1, hq1, hu1⟩ := he1.get hi
    rw [g1] at hx
    cases hx
    have el := lastT_snoc G.tm fs hi
    have es1 := seatsF_snoc G.st fs hi
    refine ⟨_, rfl, p1, _, _, .int (fs[i]).1, rfl, rfl, SqT.of hq1, atI_nat (j := 0) rfl, ?_⟩
    generalize (fs[i]).2 = x9 at hu1 es1
    cases x9 with
    | opn =>
      obtain ⟨pu, rfl, hpu⟩ := hu1
      refine ⟨_, rfl, p1, _, _, .ref pu, rfl, rfl, SqT.of hq1, atI_nat (j := 1) rfl, pu, _, _, .str "open", rfl, rfl, SqT.of hpu, atI_nat (j := 0) rfl, rfl, _, rfl, ?_⟩
      rw [decide_eq_false (vstr_ne str_open_seats)]
      refine iteF ⟨sb, some (.ref p1), ?_, ?_, rfl⟩
      · rw [el]; rfl
      · rw [es1]; exact hsb
    | seats ms =>
      obtain ⟨pu, q9, rfl, hpu, hq9⟩ := hu1
      refine ⟨_, rfl, p1, _, _, .ref pu, rfl, rfl, SqT.of hq1, atI_nat (j := 1) rfl, pu, _, _, .str "seats", rfl, rfl, SqT.of hpu, atI_nat (j := 0) rfl, rfl, _, rfl, ?_⟩
      rw [decide_eq_true rfl]
      refine iteT ⟨_, rfl, p1, _, _, .ref pu, rfl, rfl, SqT.of hq1, atI_nat (j := 1) rfl, pu, _, _, .ref q9, rfl, rfl, SqT.of hpu, atI_nat (j := 1) rfl, q9, some (.ref p1), ?_, ?_, rfl⟩
      · rw [el]; rfl
      · rw [es1]; exact hq9
    | wish c9 n9 d9 =>
      obtain ⟨pu, u9, rfl, hpu, _⟩ := hu1
      refine ⟨_, rfl, p1, _, _, .ref pu, rfl, rfl, SqT.of hq1, atI_nat (j := 1) rfl, pu, _, _, .str "wish", rfl, rfl, SqT.of hpu, atI_nat (j := 0) rfl, rfl, _, rfl, ?_⟩
      rw [decide_eq_false (vstr_ne str_wish_seats)]
      refine iteF ⟨sb, some (.ref p1), ?_, ?_, rfl⟩
      · rw [el]; rfl
      · rw [es1]; exact hsb
  · rintro σ H' ⟨sb, t6, rfl, hsb, rfl⟩
    have et : fs.take us'.length = fs := List.take_of_length_le (by omega)
    rw [et] at hsb ⊢
    refine ⟨_, rfl, _, rfl, _, rfl, _, rfl, p, _, _, st, rfl, rfl, SqT.of hp1, atI_nat (j := 3) rfl, _, rfl, st, pe, G.so, us', fs.map (·.2), W, C, rfl, hst.same s1, ok, hpe, he1.ew, fun y hy => ?_, hW, hC, fun g H2 hg s2 => ⟨tiny (by show 4 ≤ 1000; decide), fun pr hpr => ?_⟩⟩
    · obtain ⟨e, hee, rfl⟩ := List.mem_map.mp hy
      exact hwT e hee
    have s3 := same_upd (o := HO.tup [V.int (G.pl + (n : Int)), V.int (lastT G.tm fs), V.ref sb, g]) hpr
    exact q (.ref pr) _ ⟨pr, sb, g, rfl, upd_same, (s2.trans s3) _ _ hsb, hg.same s3⟩ (s1.trans (s2.trans s3))
end
end K1
set_option Elab.async false
set_option linter.all false
set_option maxRecDepth 100000
set_option maxHeartbeats 4000000
namespace L2
open PySem PySem.Spec PyProof.Rows

/-! ### an exception that leaves a def: it lies in the heap, all untracked things but frames stand in B -/
def CXe (P : Program) (w : World) : CXT := fun outer H s E e s' => ∃ (a : Addr) (cls a0 : Value) (B : Heap) (H1 : Hp), e = .ref a ∧ s'.os = s.os ∧ AllBare s'.gens ∧ Heap.FlyingW B outer a cls a0 s'.heap ∧
  Un (frs outer) [] H H1 s.heap s'.heap ∧ (∀ b o, s.heap.get? b = some o → H b = none → b ∉ frs outer → B.get? b = some o) ∧ (∀ b o, s.heap.get? b = some o → b ∉ frs outer → ∃ o', B.get? b = some o') ∧ HOk P w H1 B ∧ H1 a = none ∧ E cls none H1
theorem ObjOk.there {P : Program} {w : World} {H : Hp} {h : Heap} {a : Addr} {o : HO} (x : ObjOk P w H h a o) : ∃ u, h.get? a = some u := by
  cases o with
  | lst xs => obtain ⟨_, _, _, _, e⟩ := x; exact ⟨_, e⟩
  | tup xs => obtain ⟨_, _, _, o, e, _⟩ := x; exact ⟨_, e⟩
  | dK kvs => obtain ⟨_, _, _, _, o, _, _, e, _⟩ := x; exact ⟨_, e⟩
  | dT kvs => obtain ⟨_, _, _, _, o, _, _, e, _⟩ := x; exact ⟨_, e⟩
  | set S n => obtain ⟨o, _, _, _, e, _⟩ := x; exact ⟨_, e⟩
  | ins C dx fs => obtain ⟨_, _, _, e, _⟩ := x; exact ⟨_, e⟩
  | own y => exact x
  | xd fs => obtain ⟨_, ⟨_, _, _, e, _⟩, _⟩ := x; exact ⟨_, e⟩
  | rng lo hi => obtain ⟨_, _, _, e⟩ := x; exact ⟨_, e⟩
  | frz ob u => obtain ⟨e, _⟩ := x; exact ⟨_, e⟩
  | tbl ps => exact ⟨_, x⟩
  | met f y => exact ⟨_, x⟩
  | ext φ => obtain ⟨_, e, _⟩ := x; exact e
theorem frs_cons {env : Env} {outer : List Env} {L : Addr} (hf : env.frame = some L) : frs (env :: outer) = L :: frs outer := by
  unfold frs; rw [List.filterMap_cons, hf]
section
variable {P : Program} {w : World} {K : PySem.W.Frag} {mg : Str → Option Value} {base : Heap} {N : List Str} {qual : Str} {scope : Scope} {f : Addr} {cd : Value} {A : Around} {outer : List Env} {s : Shared} {H : Hp} {E : XK}
/-- an exception of a callee goes on to the caller -/
theorem passE : Passes (CXe P w) (cxOf (CXe P w) P w K mg base N qual scope f cd A outer s H E) E := by
  intro pins σ H2 s2 e s' I h
  obtain ⟨a, cls, a0, B, H1, rfl, os, bare, fl, un, cov, cov2, hok, ha, q⟩ := h
  have hf : (envOfC qual scope s.heap.objs.size f cd).frame = some s.heap.objs.size := rfl
  have hfr : frs ((envOfC qual scope s.heap.objs.size f cd) :: outer) = s.heap.objs.size :: frs outer := frs_cons hf
  have un' : Un (frs ((envOfC qual scope s.heap.objs.size f cd) :: outer)) [] H2 H1 s2.heap s'.heap := un
  have cov' : ∀ b o, s2.heap.get? b = some o → H2 b = none → b ∉ frs ((envOfC qual scope s.heap.objs.size f cd) :: outer) → B.get? b = some o := cov
  have cov2' : ∀ b o, s2.heap.get? b = some o → b ∉ frs ((envOfC qual scope s.heap.objs.size f cd) :: outer) → ∃ o', B.get? b = some o' := cov2
  have fl' : Heap.FlyingW B ((envOfC qual scope s.heap.objs.size f cd) :: outer) a cls a0 s'.heap := fl
  have bs : Un (frs outer) [] H H2 s.heap s2.heap := I.base
  have ne : ∀ {b : Addr} {o : Obj}, s.heap.get? b = some o → b ∉ frs outer → b ∉ frs ((envOfC qual scope s.heap.objs.size f cd) :: outer) := fun {b o} e hb z => by
    rw [hfr] at z
    rcases List.mem_cons.mp z with z | z
    · exact absurd (Heap.lt_size e) (by rw [z]; exact Nat.lt_irrefl _)
    · exact hb z
  have inn : ∀ {b : Addr}, b ∈ frs outer → b ∈ frs ((envOfC qual scope s.heap.objs.size f cd) :: outer) := fun {b} hb => by rw [hfr]; exact List.mem_cons_of_mem _ hb
  have nx : ∀ b : Addr, b ∉ ([] : List Addr) := fun b z => absurd z (by simp)
  show wpAny (model P w) (A.deeper (envOfC qual scope s.heap.objs.size f cd)) (leaving (envOfC qual scope s.heap.objs.size f cd) (.ref a)) _ _ s'
  refine wpAny_leaves_onW (I.ok.frames) hf fl' fun h' fl2 ups => ?_
  have fmem := fl'.2.2.1
  have covS : ∀ b o, s.heap.get? b = some o → H b = none → b ∉ frs outer → B.get? b = some o := fun b o e n hb => cov' b o (bs.keep b o e n hb (nx b)) (bs.free b o e n (nx b)) (ne e hb)
  have cov2S : ∀ b o, s.heap.get? b = some o → b ∉ frs outer → ∃ o', B.get? b = some o' := fun b o e hb => by
    obtain ⟨o1, e1⟩ := bs.there b o e (nx b)
    exact cov2' b o1 e1 (ne e hb)
  refine ⟨a, cls, a0, B, H1, rfl, os.trans I.os, bare, fl2, ⟨fun b o e n hb _ => fl2.1 _ _ (covS b o e n hb), fun b o e n hb _ => ?_, fun b o e n _ => ?_, fun b o e _ => ?_, fun b xs q => un'.tups b xs (bs.tups b xs q), fun b o u q => un'.frzs b o u (bs.frzs b o u q), fun b ps q => ?_⟩, covS, cov2S, hok, ha, q⟩
  · obtain ⟨sl1, e1⟩ := bs.slot b o e n hb (nx b)
    obtain ⟨sl2, e2⟩ := un'.slot b _ e1 (bs.free b o e n (nx b)) (inn hb) (nx b)
    obtain ⟨_, o3, e3, nf⟩ := fmem.mem (inn hb)
    rw [e2] at e3
    cases e3
    obtain ⟨sl4, e4⟩ := ups b _ e2 nf
    exact ⟨sl4, e4⟩
  · obtain ⟨o1, e1⟩ := bs.there b o e (nx b)
    exact un'.free b o1 e1 (bs.free b o e n (nx b)) (nx b)
  · by_cases hb : b ∈ frs outer
    · obtain ⟨_, o3, e3, nf⟩ := fmem.mem (inn hb)
      obtain ⟨sl4, e4⟩ := ups b _ e3 nf
      exact ⟨_, e4⟩
    · obtain ⟨o', e'⟩ := cov2S b o e hb
      exact ⟨o', fl2.1 _ _ e'⟩
  · obtain ⟨m1, q1⟩ := bs.tbls b ps q
    obtain ⟨m2, q2⟩ := un'.tbls b _ q1
    exact ⟨m1 ++ m2, by rw [q2, Array.append_assoc]⟩

/-- a new exception leaves the def that raises it -/
theorem raiseE {pins : List (Addr × Obj)} {σ : St} {H1 : Hp} {s1 : Shared} {h2 : Heap} {a : Addr} {cls : Value} {args : List Value}
    (I : Inv (cxOf (CXe P w) P w K mg base N qual scope f cd A outer s H E) pins σ H1 s1) (hx : Heap.MadeExcOf s1.heap h2 a cls args) (q : E cls none H1) :
    (cxOf (CXe P w) P w K mg base N qual scope f cd A outer s H E).xe (.ref a) { s1 with heap := h2 } := by
  have hf : (envOfC qual scope s.heap.objs.size f cd).frame = some s.heap.objs.size := rfl
  have hfr : frs ((envOfC qual scope s.heap.objs.size f cd) :: outer) = s.heap.objs.size :: frs outer := frs_cons hf
  have bs : Un (frs outer) [] H H1 s.heap s1.heap := I.base
  have stk : s1.heap.FunFrames base ((envOfC qual scope s.heap.objs.size f cd) :: outer) := I.stack
  have fre : ∀ b ∈ frs ((envOfC qual scope s.heap.objs.size f cd) :: outer), H1 b = none := I.stkFree
  have ne : ∀ {b : Addr} {o : Obj}, s.heap.get? b = some o → b ∉ frs outer → b ∉ frs ((envOfC qual scope s.heap.objs.size f cd) :: outer) := fun {b o} e hb z => by
    rw [hfr] at z
    rcases List.mem_cons.mp z with z | z
    · exact absurd (Heap.lt_size e) (by rw [z]; exact Nat.lt_irrefl _)
    · exact hb z
  have inn : ∀ {b : Addr}, b ∈ frs outer → b ∈ frs ((envOfC qual scope s.heap.objs.size f cd) :: outer) := fun {b} hb => by rw [hfr]; exact List.mem_cons_of_mem _ hb
  have nx : ∀ b : Addr, b ∉ ([] : List Addr) := fun b z => absurd z (by simp)
  have hin : ∀ env ∈ ((envOfC qual scope s.heap.objs.size f cd) :: outer), ∀ b, env.frame = some b → b ∈ frs ((envOfC qual scope s.heap.objs.size f cd) :: outer) := fun env he b hb => List.mem_filterMap.mpr ⟨env, he, hb⟩
  show wpAny (model P w) (A.deeper (envOfC qual scope s.heap.objs.size f cd)) (leaving (envOfC qual scope s.heap.objs.size f cd) (.ref a)) _ _ { s1 with heap := h2 }
  refine wpAny_leaves_madeW (base := PySem.W.hideAll s1.heap (frs ((envOfC qual scope s.heap.objs.size f cd) :: outer))) (h := s1.heap) I.ok.frames hf (fun b o e => PySem.W.of_hideAll _ e) (PySem.W.funFrames_hide stk hin) hx fun h' t fl _ _ ups => ?_
  have ups1 : s1.heap.UpToSlots h' := (Heap.UpToSlots.of_keeps hx.keeps).trans ups
  have covS : ∀ b o, s.heap.get? b = some o → H b = none → b ∉ frs outer → (PySem.W.hideAll s1.heap (frs ((envOfC qual scope s.heap.objs.size f cd) :: outer))).get? b = some o := fun b o e n hb => PySem.W.hideAll_get _ (bs.keep b o e n hb (nx b)) (ne e hb)
  have cov2S : ∀ b o, s.heap.get? b = some o → b ∉ frs outer → ∃ o', (PySem.W.hideAll s1.heap (frs ((envOfC qual scope s.heap.objs.size f cd) :: outer))).get? b = some o' := fun b o e hb => by
    obtain ⟨o1, e1⟩ := bs.there b o e (nx b)
    exact ⟨o1, PySem.W.hideAll_get _ e1 (ne e hb)⟩
  have tr : ∀ b o, H1 b = some o → b ∉ frs ((envOfC qual scope s.heap.objs.size f cd) :: outer) := fun b o e z => by rw [fre b z] at e; cases e
  have hok : HOk P w H1 (PySem.W.hideAll s1.heap (frs ((envOfC qual scope s.heap.objs.size f cd) :: outer))) := fun b o e => by
    refine (I.hok b o e).stay (fun c u hc g => PySem.W.hideAll_get _ g ?_) (fun _ q => q) fun _ _ q => q
    rcases hc with rfl | hc
    · exact tr _ _ e
    · exact tr _ _ hc
  have ha : H1 a = none := by
    cases e : H1 a with
    | none => rfl
    | some o =>
      obtain ⟨u, hu⟩ := (I.hok a o e).there
      rw [hx.new] at hu
      cases hu
  refine ⟨a, cls, .ref t, _, H1, rfl, I.os, I.bare, fl, ⟨fun b o e n hb _ => fl.1 _ _ (covS b o e n hb), fun b o e n hb _ => ?_, bs.free, fun b o e _ => ?_, bs.tups, bs.frzs, bs.tbls⟩, covS, cov2S, hok, ha, q⟩
  · obtain ⟨sl1, e1⟩ := bs.slot b o e n hb (nx b)
    obtain ⟨_, o3, e3, nf⟩ := stk.mem (inn hb)
    rw [e1] at e3
    cases e3
    obtain ⟨sl4, e4⟩ := ups1 b _ e1 nf
    exact ⟨sl4, e4⟩
  · by_cases hb : b ∈ frs outer
    · obtain ⟨_, o3, e3, nf⟩ := stk.mem (inn hb)
      obtain ⟨sl4, e4⟩ := ups1 b _ e3 nf
      exact ⟨_, e4⟩
    · obtain ⟨o', e'⟩ := cov2S b o e hb
      exact ⟨o', fl.1 _ _ e'⟩
end

/-! ### the module's own classes of exceptions -/
theorem own_in {K : PySem.W.Frag} {h₀ : Heap} {mg : Str → Option Value} {x : Str} {C : Addr} {bmB : List Value} {newId : String} (X : K.In h₀) (hm : mg x = some (.ref C)) (q : PySem.W.excIn K C bmB newId = true) : OwnCls x C bmB newId mg h₀ := by
  refine ⟨hm, ?_⟩
  unfold PySem.W.excIn at q
  split at q
  · rename_i dd cd sl ho
    split at q
    · rename_i C' bm k0 k1 k2 k3 n k5 hm hs
      simp only [Bool.and_eq_true, beq_iff_eq, Bool.not_eq_true'] at q
      obtain ⟨⟨⟨⟨⟨rfl, rfl⟩, hdel⟩, ht⟩, hok⟩, hni⟩ := q
      obtain ⟨nm, bs, mro, ns, qn, hd, sn, sub, ab, col, del⟩ := cd
      dsimp only at hm hdel hok hni
      subst hm hdel
      have hsl : sl = #[k0, k1, k2, k3, some (.builtin n), k5] := by
        obtain ⟨l⟩ := sl
        simp only at hs
        rw [hs]
      subst hsl
      exact ⟨bm, ns, nm, qn, bs, hd, sn, sub, ab, col, dd, k0, k1, k2, k3, k5, _, X _ _ ho, .of_isNs (PySem.W.isNs_of_in X hok), PySem.W.nsMap_none_of_in X hok hni, PySem.W.tail_of_in X ht⟩
    · cases q
  · cases q
abbrev mroV : List Value := [.type "ValueError", .type "Exception", .type "BaseException", .type "object"]
/-- a context whose exceptions, once made, are wanted as E says -/
def Raises (X : Cx) (E : XK) : Prop := ∀ (pins : List (Addr × Obj)) (σ : St) (H : Hp) (s : Shared) (h' : Heap) (a : Addr) (cls : Value) (args : List Value), Inv X pins σ H s → Heap.MadeExcOf s.heap h' a cls args → E cls none H → X.xe (.ref a) { s with heap := h' }
theorem raises_of {P : Program} {w : World} {K : PySem.W.Frag} {mg : Str → Option Value} {base : Heap} {N : List Str} {qual : Str} {scope : Scope} {f : Addr} {cd : Value} {A : Around} {outer : List Env} {s : Shared} {H : Hp} {E : XK} :
    Raises (cxOf (CXe P w) P w K mg base N qual scope f cd A outer s H E) E := fun _ _ _ _ _ _ _ _ I hx q => raiseE I hx q
def tRaise (C : Addr) (E : XK) (ta : TA) : TS := fun _ σ H => ta σ H fun vs H1 => vs.length ≤ 1000 ∧ E (.ref C) none H1
/-- raise C(..), C a class of the module below ValueError -/
theorem ps_raise {X : Cx} {E : XK} {x : Str} {C : Addr} {np cpos pos : Pos} {e₀ : Expr} {rest : List Expr} {ta : TA} (R : Raises X E) (hc : X.calm = true) (hg : Gl X x) (hm : X.mg x = some (.ref C)) (q : PySem.W.excIn X.K C mroV "ValueError.__new__" = true) (ha : PA X (e₀ :: rest) ta)
    (he : starEach (e₀ :: rest) X.env = (false, eval e₀ X.env) :: starEach rest X.env := by rfl) (hplain : (backTo cpos (starEach rest X.env)).any (·.1) = false := by rfl) (hd : (x == ("__debug__" : Str)) = false := by decide) :
    PS X (.Raise (some (.Call (.Name x np) (e₀ :: rest) [] cpos)) none pos) (tRaise C E ta) := by
  intro pins s σ H D I h
  obtain ⟨tl, N, nm, qn, bs, hdct, sn, sub, ab, col, dd, k0, k1, k2, k3, k5, mN, hC, hN, hni, T⟩ := (own_in (x := x) I.ok.mod.kin hm q).obj
  refine wpAny_Raise_call_subT (C := C) (nm := nm) (q := qn) (N := N) (bs := bs) (bm := tl) (hdct := hdct) (sn := sn) (sub := sub) (ab := ab) (col := col) (dd := dd) (k0 := k0) (k1 := k1) (k2 := k2) (k3 := k3) (k5 := k5)
    PySem.F.excBase_ValueError (mN := mN) (T.hasType PySem.F.excBase_ValueError.hasBase) (I.ok.hd hc) (by rw [he]; show (false || (backTo cpos (starEach rest X.env)).any (·.1)) = false; rw [hplain]; rfl) hni (ld_glob I hg hm ⟨rfl, ?_⟩ hd)
  have h' := ha cpos pins s σ H _ I h
  rw [he] at h' ⊢
  refine Calls.evalArgs_plain (wpAny_mono h' (fun us s₂ ⟨vs, H1, I1, r, hl, qe⟩ => ?_) fun _ _ y => y)
  refine ⟨rfl, ?_, I1.bk _ _ hC, hN.keeps I1.bk, T.keeps I1.bk, fun h2 a hx => R pins σ H1 s₂ h2 a (.ref C) us I1 hx qe⟩
  rw [← r.length]
  have : (1000 : Nat) ≤ sizeLine := by rw [sizeLine_eq]; decide
  exact Nat.le_trans hl this
/-- a def that may raise: the rule for its body -/
theorem _root_.L2.Fun.okE {P : Program} {w : World} {K : PySem.W.Frag} {mg : Str → Option Value} {base : Heap} {x qual : Str} {st : Stmt} {f : Addr} {fd : FuncData} {N ps : List Str} {k : Nat} {sp : Sp} (F : Fun K x qual st f fd) (S : FnScope N ps (defScope st)) (len : ∀ vs H Q E, sp vs H Q E → vs.length = ps.length)
    (hbody : ∀ (cdv : Value) (A : Around) (outer : List Env) (s : Shared) (H : Hp) (vs : List V) (Q : VK) (E : XK), Room k (A.deeper (envOfC qual (defScope st) s.heap.objs.size f cdv)) → sp vs H Q E →
      ∃ t, PSs (cxOf (CXe P w) P w K mg base N qual (defScope st) f cdv A outer s H E) (defBody st) t ∧ t { nx := fun _ H' => Q .non H', rt := Q } (start N vs) H) : FnOk P w K mg base (CXe P w) (k + 1) f fd ps sp := by
  obtain ⟨oc, od, kV, doc, pm, an, cdv, ct, osl, rfl, lk, hcd⟩ := F.ex
  exact fn_of lk hcd S len fun A outer s H vs Q E hr hsp => hbody cdv A outer s H vs Q E hr hsp
end L2
set_option Elab.async false
set_option linter.all false
set_option maxRecDepth 100000
set_option maxHeartbeats 4000000
namespace L2
open PySem PySem.Spec PyProof.Rows

/-- the object at a is an exception of the class cls -/
def clsIs (a : Addr) (cls : Value) : HO := .ext fun h => ∃ o, h.get? a = some o ∧ o.cls = cls
section
variable {X : Cx} {pins : List (Addr × Obj)} {σ : St} {H : Hp} {s : Shared}
theorem land {E : XK} {e : Value} {s' : Shared} (I : Inv X pins σ H s) (h : CXe X.prog X.w X.stack H s E e s') :
    ∃ a cls a0 B H1, e = .ref a ∧ Heap.FlyingW B X.stack a cls a0 s'.heap ∧ H1 a = none ∧ E cls none H1 ∧
      ∀ h', Heap.FlyingW B X.stack a cls a0 h' → s'.heap.UpToSlots h' → Inv X pins σ (upd H1 a (clsIs a cls)) { s' with heap := h' } := by
  obtain ⟨a, cls, a0, B, H1, rfl, os, bare, fl, un, cov, cov2, hok, ha, q⟩ := h
  refine ⟨a, cls, a0, B, H1, rfl, fl, ha, q, fun h' fl2 ups => ?_⟩
  have nx : ∀ b : Addr, b ∉ ([] : List Addr) := fun b z => absurd z (by simp)
  have fmem := fl.2.2.1
  have ne : ∀ {b : Addr} {o : HO}, H1 b = some o → b ≠ a := fun {b o} e z => by rw [z, ha] at e; cases e
  obtain ⟨oe, vs, hoe, hoec, hoed, _⟩ := fl2.first
  have notF : a ∉ frs X.stack := fun z => by
    obtain ⟨_, o3, e3, nf⟩ := fl2.2.2.1.mem z
    rw [hoe] at e3
    cases e3
    exact nf vs hoed
  have hok1 : HOk X.prog X.w H1 h' := fun b o e => (hok b o e).stay (fun c u _ g => fl2.1 _ _ g) (fun _ q => q) fun _ _ q => q
  refine I.call' (s' := { s' with heap := h' }) (ch := []) os ⟨fun b o e n hb _ => fl2.1 _ _ (cov b o e n hb), fun b o e n hb _ => ?_, fun b o e n _ => ?_, fun b o e _ => ?_, fun b xs q => ?_, fun b o u q => ?_, fun b ps q => ?_⟩ (fun b o e => ?_) bare fun b z => absurd z (nx b)
  · obtain ⟨sl2, e2⟩ := un.slot b o e n hb (nx b)
    obtain ⟨_, o3, e3, nf⟩ := fmem.mem hb
    rw [e2] at e3
    cases e3
    obtain ⟨sl4, e4⟩ := ups b _ e2 nf
    exact ⟨sl4, e4⟩
  · by_cases z : b = a
    · subst z
      have := cov b o e n notF
      rw [fl2.2.1] at this
      cases this
    · rw [upd_ne z]
      exact un.free b o e n (nx b)
  · by_cases hb : b ∈ frs X.stack
    · obtain ⟨_, o3, e3, nf⟩ := fmem.mem hb
      obtain ⟨sl4, e4⟩ := ups b _ e3 nf
      exact ⟨_, e4⟩
    · obtain ⟨o', e'⟩ := cov2 b o e hb
      exact ⟨o', fl2.1 _ _ e'⟩
  · have := un.tups b xs q
    rw [upd_ne (ne this)]; exact this
  · have := un.frzs b o u q
    rw [upd_ne (ne this)]; exact this
  · obtain ⟨m, h2⟩ := un.tbls b ps q
    exact ⟨m, by rw [upd_ne (ne h2)]; exact h2⟩
  · by_cases z : b = a
    · subst z
      rw [upd_same] at e
      cases e
      refine ⟨⟨oe, hoe, hoec⟩, ⟨oe, hoe⟩, fun h1 h2 ⟨o, e1, e2⟩ k => ⟨o, k o e1, e2⟩⟩
    · rw [upd_ne z] at e
      exact (hok1 b o e).stay (fun c u _ g => g) (fun c q => by rw [upd_ne (ne q)]; exact q) fun c xs q => by rw [upd_ne (ne q)]; exact q

/-- an except suite -/
abbrev Cx.suite (X : Cx) (a : Addr) : Cx := { X with A := X.A.mark (some (.ref a)), calm := false, xe := fun _ _ => False }
theorem Cx.Ok.suite {X : Cx} (ok : X.Ok) (a : Addr) : (X.suite a).Ok :=
  ⟨ok.mod, ok.kind, ok.glob, ok.blt, ok.above, ok.inj, ok.has, ok.cab, (fun z => by cases z), ok.frames, ok.stk, ok.exf, ok.bs, ok.bsz, ok.noex, ok.exfs, ok.funs, ok.frf⟩
theorem Inv.suite (I : Inv X pins σ H s) (a : Addr) : Inv (X.suite a) pins σ H s := ⟨I.ok.suite a, I.os, I.bare, I.base, I.loc, I.cell, I.free, I.freeC, I.pin, I.hok, I.len⟩
theorem Inv.unsuite {a : Addr} (ok : X.Ok) (I : Inv (X.suite a) pins σ H s) : Inv X pins σ H s := ⟨ok, I.os, I.bare, I.base, I.loc, I.cell, I.free, I.freeC, I.pin, I.hok, I.len⟩
theorem SP.unsuite {a : Addr} (ok : X.Ok) {D : Ends} {f : Flow} {s' : Shared} (h : SP (X.suite a) pins D f s') : SP X pins D f s' := by
  cases f with
  | next => obtain ⟨σ', H', I, q⟩ := h; exact ⟨σ', H', I.unsuite ok, q⟩
  | brk => obtain ⟨σ', H', I, q⟩ := h; exact ⟨σ', H', I.unsuite ok, q⟩
  | cont => obtain ⟨σ', H', I, q⟩ := h; exact ⟨σ', H', I.unsuite ok, q⟩
  | ret u => obtain ⟨v, σ', H', I, r, q⟩ := h; exact ⟨v, σ', H', I.unsuite ok, r, q⟩
/-- what is wanted of an exception that a clause «except C» takes -/
def EHnd (K : PySem.W.Frag) (C : Addr) (R : Addr → Hp → Prop) : XK := fun cls _ H => PySem.W.exmOne K cls (.ref C) = some true ∧ ∀ a, H a = none → R a (upd H a (clsIs a cls))
/-- the locals are forgotten (a name of theirs went) -/
theorem Inv.lost {h' : Heap} {m' : Str → Option Value} {tk : Nat} (I : Inv X pins σ H s) (hn : h'.Ns X.env.locals m') (sb : Heap.SameBut X.env.locals s.heap h') : Inv X pins (List.replicate X.N.length none) H { s with heap := h', toks := tk } := by
  have low : ∀ {b : Addr} {o : Obj}, X.s₀.heap.get? b = some o → b ≠ X.env.locals := fun {b o} e => Nat.ne_of_lt (Nat.lt_of_lt_of_le (Heap.lt_size e) I.ok.above)
  refine ⟨I.ok, I.os, I.bare, ⟨fun b o e n hb hx => sb.extBut b o (low e) (I.base.keep b o e n hb hx), fun b o e n hb hx => ?_, I.base.free, fun b o e hx => ?_, I.base.tups, I.base.frzs, I.base.tbls⟩, ⟨m', hn, fun i x v _ e2 _ => ?_⟩, fun x c e => ?_, I.free, I.freeC, fun p hp => ?_, ?_, by simp⟩
  · obtain ⟨sl, e1⟩ := I.base.slot b o e n hb hx
    exact ⟨sl, sb.extBut b _ (low e) e1⟩
  · obtain ⟨o', e1⟩ := I.base.there b o e hx
    exact ⟨o', sb.extBut b _ (low e) e1⟩
  · rw [List.getElem?_replicate] at e2
    split at e2 <;> cases e2
  · obtain ⟨v, z⟩ := I.cell x c e
    exact ⟨v, z.sameBut sb (I.cne x c e)⟩
  · obtain ⟨e, n, ne, nf, d⟩ := I.pin p hp
    exact ⟨sb.extBut _ _ ne e, n, ne, nf, d⟩
  · exact HOk.but I.hok I.free fun b o hb e => sb.extBut b o hb e
/-- behind a suite whose name went -/
def Ends.lost (D : Ends) (n : Nat) : Ends := { D with nx := fun _ H => D.nx (List.replicate n none) H, bk := fun _ H => D.bk (List.replicate n none) H, ct := fun _ H => D.ct (List.replicate n none) H }
/-- the clause takes it, with a name -/
theorem caughtAs {x n : Str} {i : Nat} {C : Addr} {np hp : Pos} {b₀ : Stmt} {suite : List Stmt} {rest : List ExceptHandler} {ts : TS} {D : Ends} {e : Value} {s' : Shared} (hst : X.stack = X.env :: X.outer) (hf : X.env.frame = some X.env.locals) (hg : Gl X x) (hm : X.mg x = some (.ref C)) (hN : X.N.Nodup) (hi : X.N[i]? = some n) (hl : X.env.scope.names.lookup n = some .local)
    (hs : ∀ a, PSs (X.suite a) (b₀ :: suite) ts)
    (I : Inv X pins σ H s) (h : CXe X.prog X.w X.stack H s (EHnd X.K C fun a H2 => ts (D.lost X.N.length) (σ.set i (some (.ref a))) H2) e s') (hd : (x == ("__debug__" : Str)) = false := by decide) :
    wpAny (model X.prog X.w) X.A (noteFrame e X.env) (fun _ s₂ => wpAny (model X.prog X.w) X.A (setFlight e none) (fun _ s₃ =>
      wpAny (model X.prog X.w) X.A (handleBy e X.env (.ExceptHandler (some (.Name x np)) (some n) (b₀ :: suite) hp :: rest)) (SP X pins D) X.xe s₃) X.xe s₂) X.xe s' := by
  obtain ⟨a, cls, a0, B, H1, rfl, fl, ha, ⟨hx, q⟩, inv⟩ := land I h
  rw [hst] at fl inv
  have hfr : X.A.frames = some (X.env :: X.outer) := by rw [← hst]; exact I.ok.frames
  refine wpAny_looks_onW hfr hf fl fun h₄ held u4 => ?_
  refine wpAny_landsW held fun h₅ fl5 u5 => ?_
  have J := (inv h₅ fl5 (u4.trans u5)).suite a
  refine wpAny_handleBy_cons (codeAny_handlers_test (ld_glob (X := X.suite a) J hg hm ?_ hd)) (by intro q; cases q)
  obtain ⟨ob, hob, hobc⟩ := fl5.there
  refine PySem.W.exm_one (M := model X.prog X.w) J.kIn (hobc ▸ (PySem.W.Looks.ld hob).andThen .now) hx _ _ _ _ (fun _ _ e => e) (codeAny_handlers_suite_as ?_)
  refine lands_againW fl5 fun h₆ fl6 u6 => ?_
  have J6 := (inv h₆ fl6 ((u4.trans u5).trans u6)).suite a
  refine store_ok (X := X.suite a) (v := .ref a) J6 hN hi (.inl hl) rfl (fun s2 J7 => ?_) (.inr hl)
  refine wpAny_mono (hs a pins _ _ _ (D.lost X.N.length) J7 (q a ha)) (fun f s3 h3 => ?_) fun _ _ z => False.elim z
  have h3' := h3.unsuite I.ok
  have hp' : (X.env.scope.kind == .class || (X.env.scope.kind == .module && X.env.locals != X.env.globals)) = false := by rw [I.ok.kind]; rfl
  have go : ∀ {σ' : St} {H' : Hp}, Inv X pins σ' H' s3 → (∀ h' m' tk, h'.Ns X.env.locals m' → Heap.SameBut X.env.locals s3.heap h' → Inv X pins (List.replicate X.N.length none) H' { s3 with heap := h', toks := tk } → SP X pins D f { s3 with heap := h', toks := tk }) →
      wpAny (model X.prog X.w) X.A (do bindName X.env n .none; unbindBehindTheSuite X.env n hp) (fun _ s₅ => SP X pins D f s₅) X.xe s3 := fun {σ' H'} I3 k => by
    obtain ⟨m, hn, _⟩ := I3.loc
    exact wpAny_nameGoes hl hn hp' fun h' m' hn' sb => k h' m' _ hn' sb (I3.lost hn' sb)
  cases f with
  | next => obtain ⟨σ', H', I3, q3⟩ := h3'; exact go I3 fun h' m' tk _ _ I4 => ⟨_, H', I4, q3⟩
  | brk => obtain ⟨σ', H', I3, q3⟩ := h3'; exact go I3 fun h' m' tk _ _ I4 => ⟨_, H', I4, q3⟩
  | cont => obtain ⟨σ', H', I3, q3⟩ := h3'; exact go I3 fun h' m' tk _ _ I4 => ⟨_, H', I4, q3⟩
  | ret u => obtain ⟨v, σ', H', I3, r3, q3⟩ := h3'; exact go I3 fun h' m' tk _ _ I4 => ⟨v, _, H', I4, r3, q3⟩

/-- f(..), whose exceptions are taken here -/
theorem call_exc {k : Nat} {f : Addr} {fd : FuncData} {ps : List Str} {sp : Sp} {E : XK} {W : Value → Shared → Prop} {x : Str} {p pos : Pos} {e : Expr} {es : List Expr} {t : TA} {Q : VK} (F : FnOk X.prog X.w X.K X.mg X.base (CXe X.prog X.w) k f fd ps sp) (hr : Room k X.A) (hg : Gl X x) (hm : X.mg x = some (.ref f)) (hk : PySem.W.keepIn X.K (.ref f) = true) (hb : Binds X.K fd ps [])
    (ha : PA (X.wish W) (e :: es) t) (he : starEach (e :: es) X.env = (false, eval e X.env) :: starEach es X.env) (hpl : (backTo pos (starEach es X.env)).any (·.1) = false) (hdb : (x == ("__debug__" : Str)) = false)
    (I : Inv X pins σ H s) (h : t σ H fun vs H1 => sp (vs ++ []) H1 Q E) (hW : ∀ H1 s1 e s', Inv X pins σ H1 s1 → CXe X.prog X.w X.stack H1 s1 E e s' → W e s') :
    wpAny (model X.prog X.w) X.A (eval (.Call (.Name x p) (e :: es) [] pos) X.env) (EP X pins σ Q) W s := by
  refine wpAny_Call_Name_kw (ld_glob I hg hm ?_ hdb)
  refine PySem.W.callWith_K (h₀ := X.base) I.ok.mod.kin hk (thn (ha pos pins s σ H _ (I.wish W) h) fun us s1 ⟨vs, H1, I1, r, q⟩ => ⟨I1.kIn, ?_⟩) he hpl
  have I1' : Inv X pins σ H1 s1 := I1.unwish
  have r2 : Vals (vs ++ []) (us ++ []) := r.append .nil
  have hl : (us ++ []).length = ps.length := by rw [← r2.length]; exact F.len _ _ _ _ q
  refine wpAny_call (codeAny_mono (F.run X.A X.stack s1 H1 ⟨us, []⟩ (us ++ []) (vs ++ []) Q E hr I1'.env0 (hb s1 us I1'.kIn hl) r2 q) fun r s' hq => ?_)
  cases r with
  | error e => exact hW H1 s1 e s' I1' hq
  | ok fl =>
    cases fl with
    | ret u => exact I1'.after hq
    | next => exact False.elim hq
    | brk => exact False.elim hq
    | cont => exact False.elim hq
end

/-! ### try: return f(..) / x = f(..), with one clause -/
section
variable {X : Cx} {k : Nat} {f C : Addr} {fd : FuncData} {ps : List Str} {sp : Sp} {x y n : Str} {i j : Nat} {p pos rp tp np hp py : Pos} {e : Expr} {es : List Expr} {t : TA} {b₀ : Stmt} {suite : List Stmt} {ts : TS}
def tTrySetAs (K : PySem.W.Frag) (C : Addr) (N : Nat) (i j : Nat) (sp : Sp) (t : TA) (ts : TS) : TS := fun D σ H => t σ H fun vs H1 => sp (vs ++ []) H1 (fun v H2 => D.nx (σ.set i (some v)) H2) (EHnd K C fun a H2 => ts (D.lost N) (σ.set j (some (.ref a))) H2)
theorem ps_trySetAs {m : Str} (hst : X.stack = X.env :: X.outer) (hf : X.env.frame = some X.env.locals) (F : FnOk X.prog X.w X.K X.mg X.base (CXe X.prog X.w) k f fd ps sp) (hr : Room k X.A) (hg : Gl X x) (hm : X.mg x = some (.ref f)) (hk : PySem.W.keepIn X.K (.ref f) = true) (hb : Binds X.K fd ps []) (ha : ∀ W, PA (X.wish W) (e :: es) t)
    (hN : X.N.Nodup) (hi : X.N[i]? = some n) (hx : Loc X.env.scope n) (hgC : Gl X y) (hmC : X.mg y = some (.ref C)) (hj : X.N[j]? = some m) (hl : X.env.scope.names.lookup m = some .local) (hs : ∀ a, PSs (X.suite a) (b₀ :: suite) ts) (hfn : X.fn n = true ∨ X.env.scope.names.lookup n = some .local := by first | exact .inl rfl | exact .inr rfl | assumption)
    (he : starEach (e :: es) X.env = (false, eval e X.env) :: starEach es X.env := by rfl) (hpl : (backTo pos (starEach es X.env)).any (·.1) = false := by rfl) (hdb : (x == ("__debug__" : Str)) = false := by decide) (hdc : (y == ("__debug__" : Str)) = false := by decide) :
    PS X (.Try [.Assign [.Name n py] (.Call (.Name x p) (e :: es) [] pos) rp] [.ExceptHandler (some (.Name y np)) (some m) (b₀ :: suite) hp] [] [] tp) (tTrySetAs X.K C X.N.length i j sp t ts) := by
  intro pins s σ H D I h
  refine wpAny_Try_except (wpAny_execs_cons (wpAny_Assign_Name (thn (call_exc (Q := fun v H2 => D.nx (σ.set i (some v)) H2) F hr hg hm hk hb (ha _) he hpl hdb I h fun H1 s1 e1 s' I1 h1 => caughtAs hst hf hgC hmC hN hj hl hs I1 h1 hdc) fun v s1 ⟨z, H1, I1, r1, q1⟩ => ?_)))
  refine store_ok I1 hN hi hx r1 (fun s2 I2 => ?_) hfn
  exact wpAny_execs_nil (wpAny_execs_nil ⟨_, H1, I2, q1⟩)
end
end L2
set_option Elab.async false
set_option linter.all false
set_option maxRecDepth 100000
set_option maxHeartbeats 4000000
namespace L2
open PySem PySem.Spec PyProof.Rows PySem.W PySem.Builtin PySem.Builtin.ObjectAttr PySem.Builtin.Getset_descriptor
section
variable {prog : Program} {w : World} {A : Around} {E : Value → Shared → Prop} {s : Shared} {K : Frag} {x C : Addr} {R : Result → Shared → Prop} {h : Heap} {g : Array GenState} {d : Drawn} {t : Nat} {os : OsState} {o : Obj} {name : Str}
theorem looks_find_data {M : Model} {a gg : Value} (X : K.In h) (ha : findIn K (.ref C) name = some (some a)) (hg : specialIn K a "__get__" = some (some gg)) (ht : takesIn K a = some true) : Looks M h (find (.ref x) (.ref C) name) (.bind gg a) :=
  (looks_findIn X ha).andThen ((looks_specialIn X hg).andThen ((show Looks M h (dataDescriptor? (some a) (some gg)) (some (gg, a)) from (looks_takesIn X ht).andThen .now).andThen (Looks.tag .now)))
theorem class_getX {tp : Value} (X : K.In s.heap) (L0 : Looks (model prog w) s.heap (typeOf (.ref x)) (.ref C)) (hm : mroIn K C (.type "object") = some true)
    (h : R (.ok (.ret (.ref C))) s) : codeAny (model prog w) A (.call (.builtin "getset_descriptor.__get__") ⟨[.builtin "object.__class__", .ref x, tp], []⟩) R s := by
  obtain ⟨hh, g, dr, t, os⟩ := s
  have L1 := looks_mroIn (M := model prog w) X hm
  refine codeAny_call_builtin KF.slot_gs.plain KF.entry_gs (KF.slot_gs.check _ _ _ _ _ _ _ _ KF.type_class (KF.args_gs _ _ _) ?_)
  unfold Builtin.«getset_descriptor.__get__» descrGet
  rw [dga_obj]
  refine wpAny_bind (wpAny_pure ?_)
  unfold descrGetter descrCheckInstance descrNameAndClass isInstance
  simp only [KF.owner_class]
  repeat lk
  refine ⟨Code.quiet_builtin _ (by decide +kernel), codeAny_builtin KF.entry_class ?_⟩
  unfold Builtin.«object.__class__» shownTypeOf
  repeat lk
  exact h
structure ExcK (K : Frag) (C : Addr) : Prop where
  ga : findIn K (.ref C) "__getattribute__" = some (some (.builtin "BaseException.__getattribute__"))
  gn : findIn K (.ref C) "__getattr__" = some none
  cl : findIn K (.ref C) "__class__" = some (some (.builtin "object.__class__"))
  gt : specialIn K (.builtin "object.__class__") "__get__" = some (some (.builtin "getset_descriptor.__get__"))
  tk : takesIn K (.builtin "object.__class__") = some true
  mo : mroIn K C (.type "object") = some true
  mb : mroIn K C (.type "BaseException") = some true
theorem check_gaX {M : Model} {nameV : Value} {Q : Unit → Shared → Prop} (X : K.In h) (FX : ExcK K C) (L0 : Looks M h (typeOf (.ref x)) (.ref C)) (hq : Q () ⟨h, g, d, t, os⟩) : wpAny M A (checkBuiltinCall "BaseException.__getattribute__" ⟨[.ref x, nameV], []⟩) Q E ⟨h, g, d, t, os⟩ := by
  have hk : builtinKind "BaseException.__getattribute__" = some .slot := by decide +kernel
  have hsplit : splitId "BaseException.__getattribute__" = some ("BaseException", "__getattribute__") := by decide +kernel
  have ha := PySem.F.args_bexc_ga (.ref x) nameV
  have L1 := looks_mroIn (M := M) X FX.mb
  simp only [checkBuiltinCall, hk, hsplit]
  refine wpAny_bind ?_
  unfold isInstance
  repeat (first | lk | wp_step)
  exact hq
theorem class_entryX {tk : Tok} {Q : Fin → Shared → Prop} (X : K.In h) (FX : ExcK K C) (L0 : Looks (model prog w) h (typeOf (.ref x)) (.ref C)) (hq : Q (.done (.ret (.ref C))) ⟨h, g, d, t, os⟩) :
    wpAny (model prog w) A (Builtin.«object.__getattribute__» ⟨[.ref x, .str "__class__" tk], []⟩) Q E ⟨h, g, d, t, os⟩ := by
  have L1 := looks_find_data (M := model prog w) (x := x) X FX.cl FX.gt FX.tk
  unfold Builtin.«object.__getattribute__»
  refine wpAny_bind (wpAny_pure ?_)
  dsimp only
  refine wpAny_bind (wpAny_pure (wpAny_bind (L0.at (wpAny_bind (L1.at ?_)))))
  dsimp only
  unfold bindTo
  refine wpAny_bind ?_
  try refine wpAny_holding ?_
  refine wpAny_call (class_getX (s := ⟨h, g, d, t, os⟩) X L0 FX.mo ?_)
  exact wpAny_pure hq
theorem class_callX {tk : Tok} {R : Result → Shared → Prop} (X : K.In h) (FX : ExcK K C) (L0 : Looks (model prog w) h (typeOf (.ref x)) (.ref C)) (hq : R (.ok (.ret (.ref C))) ⟨h, g, d, t, os⟩) :
    codeAny (model prog w) A (.call (.builtin "BaseException.__getattribute__") ⟨[.ref x, .str "__class__" tk], []⟩) R ⟨h, g, d, t, os⟩ :=
  codeAny_call_builtin PySem.F.excAttr_ValueError.ga.plain PySem.F.entry_bexc_ga (check_gaX X FX L0 (class_entryX X FX L0 hq))
theorem class_byX {tk : Tok} {Q : Value → Shared → Prop} (X : K.In h) (FX : ExcK K C) (hx : h.get? x = some o) (hc : o.cls = .ref C) (hq : Q (.ref C) ⟨h, g, d, t, os⟩) :
    wpAny (model prog w) A (getAttrBy (.ref x) (.str "__class__" tk) false) Q E ⟨h, g, d, t, os⟩ := by
  have L0 : Looks (model prog w) h (typeOf (.ref x)) (.ref C) := hc ▸ (Looks.ld hx).andThen .now
  have L1 := looks_findIn (M := model prog w) X FX.ga
  have L2 := looks_findIn (M := model prog w) X FX.gn
  have f3 := PySem.F.excAttr_ValueError.ga.bind (.ref x)
  have hx2 : (Value.builtin "BaseException.__getattribute__" == Value.builtin "object.__getattribute__") = false := by decide +kernel
  have hx1 : (onTheHeap (Value.ref C) && Value.builtin "BaseException.__getattribute__" == Value.builtin "object.__getattribute__") = false := by rw [hx2]; rfl
  repeat (any_goals (first | assumption | (with_reducible refine Looks.at L0 ?_) | (with_reducible refine Looks.at L1 ?_) | (with_reducible refine Looks.at L2 ?_) | (with_reducible refine wpAny_loadPart_at hx ?_; rw [hc]) | wp_step))
  refine class_callX X FX L0 ?_
  repeat (any_goals (first | assumption | wp_step))
theorem class_attrX {Q : Option Value → Shared → Prop} (X : K.In h) (FX : ExcK K C) (hx : h.get? x = some o) (hc : o.cls = .ref C) (hq : Q (some (.ref C)) ⟨h, g, d, t + 1, os⟩) : wpAny (model prog w) A (getAttr? (.ref x) "__class__") Q E ⟨h, g, d, t, os⟩ := by
  unfold getAttr? getAttrBy?
  repeat (any_goals (first | assumption | with_reducible apply class_byX X FX hx hc | wp_step))
end
theorem kitx_exc {K : Frag} {a C : Addr} (FX : ExcK K C) (hk : (clsIn K C).isSome = true) : KitX K (.ref a) (.ref C) (fun h => ∃ o, h.get? a = some o ∧ o.cls = .ref C) where
  ty := fun M h X ⟨o, hx, hc⟩ => hc ▸ (Looks.ld hx).andThen .now
  it := fun _ _ X _ => by
    obtain ⟨cdD, hcD⟩ := Option.isSome_iff_exists.mp hk
    unfold clsIn at hcD
    split at hcD
    · rename_i c' d' cd' sl' ho
      intro A' Q' E' s' k q
      unfold isType loadHead
      exact wpAny_bind (wpAny_loadPart (k _ _ (X _ _ ho)) (wpAny_pure q))
    · cases hcD
  ne := fun h tp dd its n sl X htp => by
    obtain ⟨cdD, hcD⟩ := Option.isSome_iff_exists.mp hk
    refine Bool.eq_false_iff.mpr fun q => ?_
    have e : C = tp := Value.ref.inj (beq_iff_eq.mp q)
    subst e
    unfold clsIn at hcD
    split at hcD
    · rename_i c' d' cd' sl' ho
      have z := (X _ _ ho).symm.trans htp
      cases z
    · cases hcD
  ca := fun {_ _ _ _ _ s} X ⟨o, hx, hc⟩ k => by
    obtain ⟨h, g, d, t, os⟩ := s
    exact class_attrX X FX hx hc k
theorem vals_refs {X : List Addr} : ∀ {us : List Value}, Vals (X.map V.ref) us → us = X.map Value.ref := by
  induction X with
  | nil => intro us r; cases r; rfl
  | cons a r ih =>
    intro us z
    cases z with
    | cons h t =>
      have e : _ = Value.ref a := h
      rw [e, ih t]; rfl
/-- isinstance(e, C), isinstance(e, T), isinstance(e, (C1, .., Cn)) of an exception e -/
def rIsiX (K : Frag) : List V → Hp → VK → Prop := fun xs H Q => ∃ a C b, H a = some (clsIs a (.ref C)) ∧ ExcK K C ∧ (clsIn K C).isSome = true ∧
  ((∃ c, xs = [.ref a, .ref c] ∧ kitOne K (.ref C) (.ref c) = some b) ∨ (∃ T, xs = [.ref a, .ty T] ∧ kitOne K (.ref C) (.type T) = some b) ∨ ∃ (tp : Addr) (cs : List Addr), xs = [.ref a, .ref tp] ∧ H tp = some (.tup (cs.map V.ref)) ∧ kitAny K (.ref C) (cs.map Value.ref) = some b) ∧ Q (.bl b) H
theorem call_isiX {X : Cx} : CallR X (.builtin "isinstance") (rIsiX X.K) := by
  intro pins s σ H xs us Q I r h
  obtain ⟨a, C, b, ha, FX, hk, hc, q⟩ := h
  obtain ⟨hφ, _, _⟩ := (show ObjOk X.prog X.w H s.heap a (clsIs a (.ref C)) from I.hok a _ ha)
  rcases hc with ⟨c, rfl, e⟩ | ⟨T, rfl, e⟩ | ⟨tp, cs, rfl, htp, e⟩
  · obtain ⟨u, u', rfl, rx, rc⟩ := vals2 r
    cases rx
    cases rc
    exact kia_one (kitx_exc FX hk) I.kIn hφ e (fun z => nomatch z) fun tk => ⟨.bl b, H, I.tok tk, rfl, q⟩
  · obtain ⟨u, u', rfl, rx, rc⟩ := vals2 r
    cases rx
    cases rc
    exact kia_one (kitx_exc FX hk) I.kIn hφ e (fun z => nomatch z) fun tk => ⟨.bl b, H, I.tok tk, rfl, q⟩
  · obtain ⟨u, u', rfl, rx, rc⟩ := vals2 r
    cases rx
    cases rc
    obtain ⟨_, its, rv, p⟩ := (show ObjOk X.prog X.w H s.heap tp (.tup (cs.map V.ref)) from I.hok tp _ htp)
    have e2 := vals_refs rv
    subst e2
    obtain ⟨o, h1, h2, n, h3⟩ := p
    obtain ⟨oc, od, odt, osl⟩ := o
    cases h2
    cases h3
    exact kia_tup (kitx_exc FX hk) I.kIn hφ h1 e (fun z => nomatch z) fun tk => ⟨.bl b, H, I.tok tk, rfl, q⟩
end L2
set_option Elab.async false
set_option linter.all false
set_option maxRecDepth 100000
set_option maxHeartbeats 4000000
namespace L2
open PySem PySem.Spec PyProof.Rows
/-! ### defs that are called within an except suite -/
structure RoomH (k : Nat) (A : Around) : Prop where
  dp : A.depth + 3 * k + 5 < recursionLimit
  un : A.units + 16 * k + 200 < cLine
theorem Room.h {k : Nat} {A : Around} (r : Room k A) : RoomH k A := ⟨r.dp, r.un⟩
theorem RoomH.mono {j k : Nat} {A : Around} (r : RoomH k A) (h : j ≤ k) : RoomH j A := ⟨by have := r.dp; omega, by have := r.un; omega⟩
theorem RoomH.deeper {k : Nat} {A : Around} (r : RoomH (k + 1) A) (env : Env) : RoomH k (A.deeper env) :=
  ⟨by have := r.dp; show A.depth + 1 + 3 * k + 5 < _; omega, by have := r.un; show A.units + 3 + 16 * k + 200 < _; omega⟩
theorem RoomH.depth {k : Nat} {A : Around} (r : RoomH k A) : A.depth < recursionLimit := by have := r.dp; omega
theorem RoomH.units0 {k : Nat} {A : Around} (r : RoomH k A) : A.units < cLine := by have := r.un; omega
theorem RoomH.suite {k : Nat} {X : Cx} {a : Addr} (r : RoomH k X.A) : RoomH k (X.suite a).A := ⟨r.dp, r.un⟩
structure FnH (P : Program) (w : World) (K : PySem.W.Frag) (mg : Str → Option Value) (base : Heap) (k : Nat) (f : Addr) (fd : FuncData) (ps : List Str) (sp : Sp) : Prop where
  len : ∀ vs H Q, sp vs H Q E0 → vs.length = ps.length
  run : ∀ (A : Around) (outer : List Env) (s : Shared) (H : Hp) (args : Args) (us : List Value) (vs : List V) (Q : VK), RoomH k A → Env0 P w K mg base A outer s H → BindsTo s fd args (ps.zip us) → Vals vs us → sp vs H Q E0 →
    codeAny (model P w) A (.call (.ref f) args) (CR CX0 outer P w H s Q E0) s
section
variable {P : Program} {w : World} {K : PySem.W.Frag} {mg : Str → Option Value} {base : Heap}
end
section
variable {X : Cx} {k : Nat} {f : Addr} {fd : FuncData} {ps : List Str} {sp : Sp} {x : Str} {p pos : Pos} {e : Expr} {es : List Expr} {t : TA}
end
end L2
set_option Elab.async false
set_option linter.all false
set_option maxRecDepth 100000
set_option maxHeartbeats 4000000
namespace Kp
open PySem L2
/-- a def that may raise -/
structure CalE (P : Program) (w : World) (K : PySem.W.Frag) (mg : Str → Option Value) (base : Heap) (name : Str) (k : Nat) (ps : List Str) (sp : Sp) : Prop where
  ex : ∃ f fd, FnOk P w K mg base (CXe P w) k f fd ps sp ∧ mg name = some (.ref f) ∧ PySem.W.keepIn K (.ref f) = true ∧ Binds K fd ps []
/-- a def that an except suite calls -/
structure CalH (P : Program) (w : World) (K : PySem.W.Frag) (mg : Str → Option Value) (base : Heap) (name : Str) (k : Nat) (ps : List Str) (sp : Sp) : Prop where
  ex : ∃ f fd, FnH P w K mg base k f fd ps sp ∧ mg name = some (.ref f) ∧ PySem.W.keepIn K (.ref f) = true ∧ Binds K fd ps []
theorem CalE.mono {P : Program} {w : World} {K : PySem.W.Frag} {mg : Str → Option Value} {base : Heap} {x : Str} {k k' : Nat} {ps : List Str} {sp : Sp} (C : CalE P w K mg base x k ps sp) (h : k ≤ k') : CalE P w K mg base x k' ps sp :=
  let ⟨f, fd, F, a, b, c⟩ := C.ex
  ⟨⟨f, fd, F.mono h, a, b, c⟩⟩
/-- the classes of refusals, as the module has them -/
structure ExcF (K : PySem.W.Frag) (mg : Str → Option Value) (cP cL c1 c2 c3 c4 : Addr) : Prop where
  mP : mg "NoPlace" = some (.ref cP)
  mL : mg "LogError" = some (.ref cL)
  m1 : mg "NoLetter" = some (.ref c1)
  m2 : mg "NoKeeper" = some (.ref c2)
  m3 : mg "NoRoom" = some (.ref c3)
  m4 : mg "NoSchedule" = some (.ref c4)
  mV : mg "ValueError" = none
  xP : PySem.W.excIn K cP mroV "ValueError.__new__" = true
  ex : PySem.W.exmOne K (.ref cP) (.ref cL) = some true
  ek : ExcK K cP
  ci : (PySem.W.clsIn K cP).isSome = true
  k1 : PySem.W.kitOne K (.ref cP) (.ref cP) = some true
  k2 : PySem.W.kitOne K (.ref cP) (.type "ValueError") = some true
  k3 : PySem.W.kitAny K (.ref cP) ([c1, c2, c3, c4].map Value.ref) = some false
theorem boot_VE : bootBuiltins "ValueError" = some (.type "ValueError") := by decide +kernel
end Kp
namespace K1
open PySem L2 Kp
end K1
set_option Elab.async false
set_option linter.all false
set_option maxRecDepth 100000
set_option maxHeartbeats 4000000
namespace K1
open PySem L2 Kp
section
variable {P : Program} {w : World} {K : PySem.W.Frag} {mg : Str → Option Value} {base : Heap}
/-- what is asked of the classes of refusals besides ExcF -/
structure ExcG (K : PySem.W.Frag) (cP cL c1 c2 c3 c4 : Addr) : Prop where
  eP : PySem.W.exmOne K (.ref cP) (.ref cP) = some true
  kL : PySem.W.kitOne K (.ref cP) (.ref cL) = some true
  k4 : PySem.W.kitAny K (.ref cP) ([c2, c1, c3, c4].map Value.ref) = some false
theorem call_isiXK {X : Cx} {K' : PySem.W.Frag} (h : X.K = K') : CallR X (.builtin "isinstance") (rIsiX K') := h ▸ call_isiX
def spPkE (K : PySem.W.Frag) (cP : Addr) : Sp := fun vs H Q E => ∃ (vp vr : V) (G : Pk) (es : List En) (W C : List Str) (pl : Int), vs = [vp, vr, .int pl] ∧ PkRw K H vp vr G es W C ∧ G.st.length ≤ 9 ∧ 0 ≤ pl ∧ (∀ n : Nat, pl = G.pl + (n : Int) → n ≤ es.length → ∀ (r : V) (H' : Hp), PkV H' r (packF G G.tm (es.take n) (G.pl + (n : Int))) → Same H H' → Q r H') ∧ ((pl < G.pl ∨ G.pl + (es.length : Int) < pl) → ∀ H', Same H H' → E (.ref cP) none H')
def spToldP (K : PySem.W.Frag) : Sp := fun vs H Q _ => ∃ (vp vr : V) (G : Pk) (es : List En) (W C : List Str) (pl : Int), vs = [vp, vr, .int pl] ∧ PkRw K H vp vr G es W C ∧ G.st.length ≤ 9 ∧ 0 ≤ pl ∧ ∀ H', Same H H' → Q (.bl true) H'
theorem scT33 : FnScope ["_law_pack", "_law_row", "_law_place", "_law_good", "_law_found", "e"] ["_law_pack", "_law_row", "_law_place"] (defScope s__law_told) := ⟨rfl, rfl, rfl, by decide +kernel, rfl, by decide +kernel, by decide +kernel⟩
theorem ok_told33 {f : Addr} {fd : FuncData} {kP LT : Nat} (hL : 5 ≤ LT ∧ kP ≤ LT) {cP cL c1 c2 c3 c4 : Addr} (Z : ExcF K mg cP cL c1 c2 c3 c4) (Y : ExcG K cP cL c1 c2 c3 c4) (F : Fun K "_law_told" "_law_told" s__law_told f fd) (T : Txt mg) (CP : CalE P w K mg base "pack_at" kP ["pack", "row", "place"] (spPkE K cP)) (CI : Cal P w K mg base "_law_is_pack" 4 ["_law_found", "_law_due_here"] spIsPk) (CD : Cal P w K mg base "_law_due" 5 ["_law_pack", "_law_row", "_law_place"] (spPk K)) : FnOk P w K mg base CX0 (LT + 1) f fd ["_law_pack", "_law_row", "_law_place"] (spToldP K) := by
  refine F.ok scT33 (fun vs H Q E ⟨_, _, _, _, _, _, _, e, _⟩ => by subst e; rfl) (fun cdv A outer s H vs Q E hr h => ?_)
  obtain ⟨vp, vr, G, es, W, C, pl, rfl, B, h9, hpl, q⟩ := h
  obtain ⟨gP, dP, GP, mP, kP, bP⟩ := CP.ex
  obtain ⟨gI, dI, GI, mI, kI, bI⟩ := CI.ex
  obtain ⟨gD, dD, GD, mD, kD, bD⟩ := CD.ex
  have r4 := hr.mono (show 4 ≤ LT by omega)
  have r5 := hr.mono hL.1
  have rP := hr.mono hL.2
  refine ⟨_, @pss_p _ _ _ _ _ (ps_set (i := 3) scT33.nd (by rfl) (by exact Or.inl rfl) (pe_chain op_le op_le (pe_ix ix_tup (pv 1) (pe_int) px_i) (pv 2) (pe_op op_add (pe_ix ix_tup (pv 1) (pe_int) px_i) (pe_callB call_len_seq (by rfl) T.len PySem.boot_len (pa_s (pe_ix ix_tup (pv 1) (pe_int) px_i) pa_nil)))))
    (@pss_p _ _ _ _ _ (ps_trySetAs (i := 4) (j := 5) (by rfl) (by rfl) GP rP (by rfl) mP kP bP (fun _ => pa_n (pv 0) (pa_n (pv 1) (pa_n (pv 2) pa_nil))) scT33.nd (by rfl) (by exact Or.inl rfl) (by rfl) Z.mP (by rfl) (by rfl) (fun _ => @pss_p _ _ _ _ _ (ps_if (PW.pt (pw_or (pt_val (pv 3)) (pw_or (pt_not (pt_val (pe_callB (call_isiXK (K' := K) (by rfl)) (by rfl) T.isi boot_isi (pa_n (pv 5) (pa_n (pe_fn (by rfl) Z.mL) pa_nil))))) (pw_or1 (pt_not (pt_val (pe_callB (call_isiXK (K' := K) (by rfl)) (by rfl) T.isi boot_isi (pa_n (pv 5) (pa_n (pe_ty (by rfl) Z.mV boot_VE) pa_nil))))))))) (@pss_o _ _ _ (ps_ret pe_bl)) pss_nil)
    (@pss_o _ _ _ (ps_ret (pe_not (pe_callB (call_isiXK (K' := K) (by rfl)) (by rfl) T.isi boot_isi (pa_n (pv 5) (pa_cons (QE.h (qx_tup (qa_n (pe_fn (by rfl) Z.m2) (qa_n (pe_fn (by rfl) Z.m1) (qa_n (pe_fn (by rfl) Z.m3) (qa_n (pe_fn (by rfl) Z.m4) qa_nil)))))) pa_nil))))))))
    (@pss_o _ _ _ (ps_ret (pe_and (pv 3) (pe_one (pe_call GI r4 (by rfl) mI kI bI .nil pass0 (pa_n (pv 4) (pa_k (pe_call GD r5 (by rfl) mD kD bD .nil pass0 (pa_n (pv 0) (pa_n (pv 1) (pa_n (pv 2) pa_nil)))) pa_nil)))))))), ?_⟩
  have B' := B
  obtain ⟨hP, ok, ⟨r, c, us, rfl, hrr, hc, he⟩, hw, hle, hW, hC, h0⟩ := B'
  have hl := he.length
  refine ⟨_, rfl, r, _, _, .int G.pl, rfl, rfl, SqT.of hrr, atI_nat (j := 0) rfl, _, rfl, _, _, rfl, rfl, _, rfl, ite2 (fun h1 => ?_) (fun h1 => ?_)⟩
  · have g1 : G.pl ≤ pl := of_decide_eq_true h1
    refine ⟨_, rfl, r, _, _, .int G.pl, rfl, rfl, SqT.of hrr, atI_nat (j := 0) rfl, _, rfl, r, _, _, .ref c, rfl, rfl, SqT.of hrr, atI_nat (j := 2) rfl, c, us, rfl, .inr (SqT.of hc), _, _, rfl, rfl, _, _, rfl, rfl, ?_⟩
    refine ⟨_, rfl, _, rfl, _, rfl, vp, .ref r, G, es, W, C, pl, rfl, B, h9, hpl, fun n en hn v H1 hv s1 => ?_, fun g H1 s1 => ⟨Y.eP, fun a ha => ?_⟩⟩
    · refine ⟨_, rfl, _, rfl, ?_⟩
      rw [decide_eq_true (show pl ≤ G.pl + (us.length : Int) by omega)]
      refine iteT ⟨_, rfl, _, rfl, _, rfl, _, rfl, vp, .ref r, G, es, W, C, n, by rw [en]; rfl, B.same s1, hn, fun u H2 hu s2 => ?_⟩
      exact ⟨v, u, _, W, C, rfl, hv.same s2, hu, packF_ok ok (fun e h => hw e (List.mem_of_mem_take h)) _ _, seatsF_len (W := W) (C := C) h9 (fun e h => hw e (List.mem_of_mem_take h)), fun H' s' => q H' (s1.trans (s2.trans s'))⟩
    · refine ⟨_, rfl, _, rfl, ?_⟩
      rw [decide_eq_false (show ¬ pl ≤ G.pl + (us.length : Int) by omega)]
      have ha1 : (upd H1 a (clsIs a (.ref cP))) a = some (clsIs a (.ref cP)) := upd_same
      refine iteF ⟨_, rfl, a, cP, true, ha1, Z.ek, Z.ci, .inl ⟨cL, rfl, Y.kL⟩, _, rfl, iteF ⟨_, rfl, a, cP, true, ha1, Z.ek, Z.ci, .inr (.inl ⟨_, rfl, Z.k2⟩), _, rfl, iteF ?_⟩⟩
      refine ⟨_, rfl, tiny (by show 4 ≤ 1000; decide), fun tp htp => ?_⟩
      have s3 := same_upd (o := HO.tup [V.ref c2, V.ref c1, V.ref c3, V.ref c4]) htp
      exact ⟨a, cP, false, s3 _ _ ha1, Z.ek, Z.ci, .inr (.inr ⟨tp, [c2, c1, c3, c4], rfl, upd_same, Y.k4⟩), _, rfl, q _ (s1.trans ((same_upd ha).trans s3))⟩
  · have g1 : ¬ G.pl ≤ pl := fun g => h1 (decide_eq_true g)
    refine ⟨_, rfl, _, rfl, _, rfl, vp, .ref r, G, es, W, C, pl, rfl, B, h9, hpl, fun n en hn v H1 hv s1 => absurd (show G.pl ≤ pl by omega) g1, fun g H1 s1 => ⟨Y.eP, fun a ha => ?_⟩⟩
    have ha1 : (upd H1 a (clsIs a (.ref cP))) a = some (clsIs a (.ref cP)) := upd_same
    refine ⟨_, rfl, _, rfl, iteF ⟨_, rfl, a, cP, true, ha1, Z.ek, Z.ci, .inl ⟨cL, rfl, Y.kL⟩, _, rfl, iteF ⟨_, rfl, a, cP, true, ha1, Z.ek, Z.ci, .inr (.inl ⟨_, rfl, Z.k2⟩), _, rfl, iteF ?_⟩⟩⟩
    refine ⟨_, rfl, tiny (by show 4 ≤ 1000; decide), fun tp htp => ?_⟩
    have s3 := same_upd (o := HO.tup [V.ref c2, V.ref c1, V.ref c3, V.ref c4]) htp
    exact ⟨a, cP, false, s3 _ _ ha1, Z.ek, Z.ci, .inr (.inr ⟨tp, [c2, c1, c3, c4], rfl, upd_same, Y.k4⟩), _, rfl, q _ (s1.trans ((same_upd ha).trans s3))⟩
def tB33 : TS := fun D σ H => ∃ (v0 : Option V) (m : Int), σ = [v0, some (.int m), some (.int 0), some (.int 0), none, none, none, none, none, none] ∧ (0 ≤ m ∧ m < 2147483648) ∧ ∀ (b l : Int) (H' : Hp), 0 ≤ b → 0 ≤ l → Same H H' → D.nx [v0, some (.int m), some (.int b), some (.int l), none, none, none, none, none, none] H'
def tP33 : TS := fun D σ H => ∃ (v0 v3 v4 v5 v7 : Option V) (m b l p : Int) (r c : Addr) (us : List V), σ = [v0, some (.int m), some (.int b), v3, v4, v5, some (.ref r), v7, some (.int p), none] ∧ 0 ≤ m ∧ 0 ≤ b ∧ 0 ≤ p ∧ H r = some (.tup [.int b, .int l, .ref c]) ∧ H c = some (.tup us) ∧ ∀ (p' : Int) (H' : Hp), 0 ≤ p' → Same H H' → D.nx [v0, some (.int m), some (.int b), v3, v4, v5, some (.ref r), v7, some (.int p'), none] H'
def spLaw (K : PySem.W.Frag) : Sp := fun vs H Q _ => ∃ (a : Addr) (ns : List Int), vs = [.ref a] ∧ SqL K H a (ns.map V.int) ∧ ns.length ≤ 63 ∧ ∀ H', Q (.bl true) H'
theorem scL33 : FnScope ["_law_script", "_law_number", "_law_base", "_law_last", "_law_seats", "_law_pack", "_law_row", "_law_kept", "_law_place", "_law_at"] ["_law_script"] (defScope sLaw) := ⟨rfl, rfl, rfl, by decide +kernel, rfl, by decide +kernel, by decide +kernel⟩
theorem ok_law {f : Addr} {fd : FuncData} {kF kO LV : Nat} (hL : 6 ≤ LV ∧ kF ≤ LV ∧ kO ≤ LV) (F : Fun K "law" "law" sLaw f fd) (T : Txt mg) (CM : Cal P w K mg base "_law_mixed" 2 ["_law_script", "_law_k"] (spMixF K)) (CT : Cal P w K mg base "_law_seats_by" 1 ["_law_number"] spSeatsF) (CB : Cal P w K mg base "_law_store_by" 4 ["_law_script", "_law_at"] (spSto K)) (CR : Cal P w K mg base "_law_row_by" 6 ["_law_script", "_law_at", "_law_base", "_law_last"] (spRowB K)) (CC : Cal P w K mg base "_law_cell_at" 1 ["_law_script", "_law_k"] (spCellF K)) (CF : Cal P w K mg base "first_pack" kF ["seats"] spFp) (CI : Cal P w K mg base "_law_is_pack" 4 ["_law_found", "_law_due_here"] spIsPk) (CO : Cal P w K mg base "_law_told" kO ["_law_pack", "_law_row", "_law_place"] (spToldP K)) : FnOk P w K mg base CX0 (LV + 1) f fd ["_law_script"] (spLaw K) := by
  refine F.ok scL33 (fun vs H Q E ⟨_, _, e, _⟩ => by subst e; rfl) (fun cdv A outer s H vs Q E hr h => ?_)
  obtain ⟨a, ns, rfl, hS, hlen, k⟩ := h
  obtain ⟨gM, dM, GM, mM, kM, bM⟩ := CM.ex
  obtain ⟨gT, dT, GT, mT, kT, bT⟩ := CT.ex
  obtain ⟨gB, dB, GB, mB, kB, bB⟩ := CB.ex
  obtain ⟨gR, dR, GR, mR, kR, bR⟩ := CR.ex
  obtain ⟨gC, dC, GC, mC, kC, bC⟩ := CC.ex
  obtain ⟨gF, dF, GF, mF, kF, bF⟩ := CF.ex
  obtain ⟨gI, dI, GI, mI, kI, bI⟩ := CI.ex
  obtain ⟨gO, dO, GO, mO, kO, bO⟩ := CO.ex
  have r1 := hr.mono (show 1 ≤ LV by omega)
  have r2 := hr.mono (show 2 ≤ LV by omega)
  have r4 := hr.mono (show 4 ≤ LV by omega)
  have r6 := hr.mono hL.1
  have rF := hr.mono hL.2.1
  have rO := hr.mono hL.2.2
  refine ⟨_, @pss_p _ _ _ _ _ (ps_set (i := 1) scL33.nd (by rfl) (by exact Or.inl rfl) (pe_call GM r2 (by rfl) mM kM bM .nil pass0 (pa_n (pv 0) (pa_i pe_int pa_nil))))
    (@pss_p _ _ _ _ _ (ps_set (i := 2) scL33.nd (by rfl) (by exact Or.inl rfl) (pe_int))
    (@pss_p _ _ _ _ _ (ps_set (i := 3) scL33.nd (by rfl) (by exact Or.inl rfl) (pe_int))
    (@pss_p _ _ _ _ _ (PS.weakU (t' := tB33) (ps_if (pt_cmpR op_gt (pe_op op_mod (pv 1) (pe_int)) (pe_int) (nomark _)) (@pss_p _ _ _ _ _ (ps_set (i := 2) scL33.nd (by rfl) (by exact Or.inl rfl) (QE.h (qx_ix ix_list (qx_lst (qa_b (pe_op op_add (pe_int) (pe_op op_mod (pe_op op_fdiv (pv 1) (pe_int)) (pe_int))) (qa_b (pe_op op_add (pe_int) (pe_op op_mod (pe_op op_pow (pv 1) pe_int) (pe_op op_pow pe_int pe_int))) qa_nil))) (pe_op op_sub (pe_op op_mod (pv 1) (pe_int)) (pe_int)) px_b)))
    (@pss_o _ _ _ (ps_set (i := 3) scL33.nd (by rfl) (by exact Or.inl rfl) (pe_op op_add (pe_int) (pe_op op_mod (pe_op op_pow (pv 1) pe_int) (QE.h (qx_ix ix_list (qx_lst (qa_int (qa_b (pe_op op_pow pe_int pe_int) qa_nil))) (pe_op op_mod (pe_op op_fdiv (pv 1) (pe_int)) (pe_int)) px_b))))))) pss_nil) ?w1)
    (@pss_p _ _ _ _ _ (ps_set (i := 4) scL33.nd (by rfl) (by exact Or.inl rfl) (pe_call GT r1 (by rfl) mT kT bT .nil pass0 (pa_b (pe_op op_fdiv (pv 1) (pe_int)) pa_nil)))
    (@pss_p _ _ _ _ _ (ps_set (i := 5) scL33.nd (by rfl) (by exact Or.inl rfl) (QE.h (qx_tup (qa_n (pv 2) (qa_n (pv 3) (qa_n (pv 4) (qa_k (pe_call GB r4 (by rfl) mB kB bB .nil pass0 (pa_n (pv 0) (pa_i pe_int pa_nil))) qa_nil)))))))
    (@pss_p _ _ _ _ _ (ps_set (i := 6) scL33.nd (by rfl) (by exact Or.inl rfl) (pe_call GR r6 (by rfl) mR kR bR .nil pass0 (pa_n (pv 0) (pa_i pe_int (pa_n (pv 2) (pa_n (pv 3) pa_nil))))))
    (@pss_p _ _ _ _ _ (ps_set (i := 7) scL33.nd (by rfl) (by exact Or.inl rfl) (QE.h (qx_tup (qa_s (pe_ix ix_tup (pv 6) (pe_int) px_i) (qa_s (pe_ix ix_tup (pv 6) (pe_int) px_i) (qa_s (pe_ix ix_tup (pv 6) (pe_int) px_i) qa_nil))))))
    (@pss_p _ _ _ _ _ (ps_set (i := 8) scL33.nd (by rfl) (by exact Or.inl rfl) (pe_callB (call_max2 (by rfl)) (by rfl) T.max boot_max (pa_i pe_int (pa_b (pe_op op_add (pe_op op_sub (pv 2) (pe_int)) (pe_op op_mod (pe_call GC r1 (by rfl) mC kC bC .nil pass0 (pa_n (pv 0) (pa_i pe_int pa_nil))) (pe_op op_add (pe_callB call_len_seq (by rfl) T.len PySem.boot_len (pa_s (pe_ix ix_tup (pv 6) (pe_int) px_i) pa_nil)) (pe_int)))) pa_nil))))
    (@pss_p _ _ _ _ _ (PS.weakU (t' := tP33) (ps_if (pt_cmpR op_eq (pe_op op_mod (pe_op op_fdiv (pv 1) (pe_int)) (pe_int)) (pe_int) (nomark _)) (@pss_o _ _ _ (ps_set (i := 8) scL33.nd (by rfl) (by exact Or.inl rfl) (QE.h (qx_ix ix_list (qx_lst (qa_b (pe_op op_add (pe_op op_add (pe_op op_add (pv 2) (pe_callB call_len_seq (by rfl) T.len PySem.boot_len (pa_s (pe_ix ix_tup (pv 6) (pe_int) px_i) pa_nil))) (pe_int)) (pe_op op_mod (pe_op op_fdiv (pv 1) (pe_int)) (pe_op op_pow pe_int pe_int))) (qa_b (pe_op op_mod (pe_op op_fdiv (pv 1) (pe_int)) (pe_op op_add (pv 2) (pe_int))) qa_nil))) (pe_op op_mod (pe_op op_fdiv (pv 1) (pe_int)) (pe_int)) px_b)))) pss_nil) ?w2)
    (@pss_p _ _ _ _ _ (ps_if (pt_not (pt_val (pe_call GI r4 (by rfl) mI kI bI .nil pass0 (pa_k (pe_call GF rF (by rfl) mF kF bF .nil pass0 (pa_n (pv 4) pa_nil)) (pa_t (QE.h (qx_tup (qa_int (qa_int (qa_n (pv 4) (qa_tup (qa_tup qa_nil (qa_tup qa_nil qa_nil)) qa_nil)))))) pa_nil))))) (@pss_o _ _ _ (ps_ret pe_bl)) pss_nil)
    (@pss_p _ _ _ _ _ (ps_for PassesOwn.never (by rfl) (pi_tup (QE.h (qx_tup (qa_n (pv 8) (qa_n (pv 2) (qa_n (pv 8) qa_nil)))))) (pg_name (i := 9) scL33.nd (by rfl) (by exact Or.inl rfl)) (@pss_o _ _ _ (ps_if (PW.pt (pw_or (pt_not (pt_val (pe_call GO rO (by rfl) mO kO bO .nil pass0 (pa_n (pv 5) (pa_n (pv 6) (pa_n (pv 9) pa_nil)))))) (pw_or1 (pt_cmpR (op_neA hr.units100) (pv 6) (pv 7) (nomark _))))) (@pss_o _ _ _ (ps_ret pe_bl)) pss_nil)))
    (@pss_o _ _ _ (ps_ret (pe_bl)))))))))))))), ?_⟩
  case w1 =>
    rintro D σ H ⟨v0, m, rfl, hm, q⟩
    refine ⟨_, rfl, _, _, rfl, rfl, (by show (0 : Int) < 3; decide), _, _, rfl, rfl, _, rfl, ite2 (fun h => ?_) (fun _ => q 0 0 H (Int.le_refl _) (Int.le_refl _) (Same.refl _))⟩
    have h3 : m % 3 > 0 := of_decide_eq_true h
    obtain ⟨e0, e1⟩ := emod_in m (m := 3) (by decide)
    refine ⟨_, rfl, _, _, rfl, rfl, ⟨by decide, by decide⟩, _, _, rfl, rfl, (by show (0 : Int) < 9; decide), _, _, rfl, rfl, _, rfl, _, _, rfl, rfl, ⟨by decide, by decide, by show m.natAbs < 2 ^ 64; omega⟩, _, _, rfl, rfl, ⟨by decide, by decide, by decide⟩, _, _, rfl, rfl, (by show (0 : Int) < 10 ^ (30 : Int).toNat; decide), _, _, rfl, rfl, tiny (by show 2 ≤ 1000; decide), fun l1 hl1 => ?_⟩
    obtain ⟨v9, hv9, hm9⟩ := atI_mem (xs := [V.int (1 + m / 3 % 9), V.int (1 + m ^ (5 : Int).toNat % 10 ^ (30 : Int).toNat)]) (i := m % 3 - 1) (by omega) (by show m % 3 - 1 < 2; omega)
    obtain ⟨b, rfl, hb⟩ : ∃ b : Int, v9 = .int b ∧ 0 ≤ b := by
      simp only [List.mem_cons, List.not_mem_nil, or_false] at hm9
      rcases hm9 with rfl | rfl
      · exact ⟨_, rfl, by have := (emod_in (m / 3) (m := 9) (by decide)).1; omega⟩
      · exact ⟨_, rfl, by have := (emod_in (m ^ (5 : Int).toNat) (m := 10 ^ (30 : Int).toNat) (by decide)).1; omega⟩
    have s1 := same_upd (o := HO.lst [V.int (1 + m / 3 % 9), V.int (1 + m ^ (5 : Int).toNat % 10 ^ (30 : Int).toNat)]) hl1
    refine ⟨_, rfl, _, _, rfl, rfl, (by show (0 : Int) < 3; decide), _, _, rfl, rfl, l1, _, _, .int b, rfl, rfl, SqL.of upd_same, hv9, ?_⟩
    refine ⟨_, rfl, _, _, rfl, rfl, ⟨by decide, by decide, by show m.natAbs < 2 ^ 64; omega⟩, _, _, rfl, rfl, ⟨by decide, by decide, by decide⟩, tiny (by show 2 ≤ 1000; decide), fun l2 hl2 => ?_⟩
    obtain ⟨f0, f1⟩ := emod_in (m / 27) (m := 2) (by decide)
    obtain ⟨v8, hv8, hm8⟩ := atI_mem (xs := [V.int 10, V.int (10 ^ (30 : Int).toNat)]) f0 (by simpa using f1)
    obtain ⟨z, rfl, hz⟩ : ∃ z : Int, v8 = .int z ∧ 0 < z := by
      simp only [List.mem_cons, List.not_mem_nil, or_false] at hm8
      rcases hm8 with rfl | rfl
      · exact ⟨_, rfl, by decide⟩
      · exact ⟨_, rfl, by decide⟩
    have s2 := same_upd (o := HO.lst [V.int 10, V.int (10 ^ (30 : Int).toNat)]) hl2
    refine ⟨_, rfl, _, _, rfl, rfl, ⟨by decide, by decide⟩, _, _, rfl, rfl, (by show (0 : Int) < 2; decide), l2, _, _, .int z, rfl, rfl, SqL.of upd_same, hv8, _, _, rfl, rfl, hz, _, _, rfl, rfl, q b _ _ hb ?_ (s1.trans s2)⟩
    have := (emod_in (m ^ (4 : Int).toNat) hz).1
    omega
  case w2 =>
    rintro D σ H ⟨v0, v3, v4, v5, v7, m, b, l, p, r, c, us, rfl, hm, hb, hp, hr9, hc, q⟩
    refine ⟨_, rfl, _, _, rfl, rfl, ⟨by decide, by decide⟩, _, _, rfl, rfl, (by show (0 : Int) < 8; decide), rfl, _, rfl, ite2 (fun _ => ?_) (fun _ => q p H hp (Same.refl _))⟩
    have hb1 : (0 : Int) < b + 1 := by omega
    refine ⟨_, rfl, _, rfl, r, _, _, .ref c, rfl, rfl, SqT.of hr9, atI_nat (j := 2) rfl, c, us, rfl, .inr (SqT.of hc), _, _, rfl, rfl, _, _, rfl, rfl, _, rfl, _, _, rfl, rfl, ⟨by decide, by decide⟩, _, _, rfl, rfl, ⟨by decide, by decide, by decide⟩, _, _, rfl, rfl, (by show (0 : Int) < 10 ^ (6 : Int).toNat; decide), _, _, rfl, rfl, _, rfl, _, _, rfl, rfl, ⟨by decide, by decide⟩, _, rfl, _, _, rfl, rfl, _, _, rfl, rfl, hb1, tiny (by show 2 ≤ 1000; decide), fun l1 hl1 => ?_⟩
    obtain ⟨f0, f1⟩ := emod_in (m / 8) (m := 2) (by decide)
    obtain ⟨v9, hv9, hm9⟩ := atI_mem (xs := [V.int (b + (us.length : Int) + 3 + m / 56 % 10 ^ (6 : Int).toNat), V.int (m / 56 % (b + 1))]) f0 (by simpa using f1)
    obtain ⟨z, rfl, hz⟩ : ∃ z : Int, v9 = .int z ∧ 0 ≤ z := by
      simp only [List.mem_cons, List.not_mem_nil, or_false] at hm9
      rcases hm9 with rfl | rfl
      · exact ⟨_, rfl, by have := (emod_in (m / 56) (m := 10 ^ (6 : Int).toNat) (by decide)).1; omega⟩
      · exact ⟨_, rfl, (emod_in (m / 56) hb1).1⟩
    have s1 := same_upd (o := HO.lst [V.int (b + (us.length : Int) + 3 + m / 56 % 10 ^ (6 : Int).toNat), V.int (m / 56 % (b + 1))]) hl1
    exact ⟨_, rfl, _, _, rfl, rfl, ⟨by decide, by decide⟩, _, _, rfl, rfl, (by show (0 : Int) < 2; decide), l1, _, _, .int z, rfl, rfl, SqL.of upd_same, hv9, q z _ hz s1⟩
  have lw := nmW_len ns
  have lc := clW_len ns
  have lw6 : (nmW ns).length ≤ 60 := by omega
  have lc6 : (clW ns).length ≤ 60 := by omega
  refine ⟨_, rfl, a, ns, 60, rfl, hS, by decide, ?_⟩
  have bm := mixF_in ns 60
  generalize mixF ns 60 = m at bm
  refine ⟨_, m, rfl, ⟨bm.1, by omega⟩, fun b l H1 hb hl0 s1 => ?_⟩
  refine ⟨_, rfl, _, _, rfl, rfl, ⟨by decide, by decide⟩, _, rfl, fun ms q1 H2 hq1 hm9 s2 => ?_⟩
  refine ⟨_, rfl, _, rfl, _, rfl, _, rfl, a, ns, 0, rfl, SqL.same hS (s1.trans s2), by decide, fun sv S H3 hsv ok s3 => ⟨tiny (by show 4 ≤ 1000; decide), fun pk hpk => ?_⟩⟩
  have s4 := same_upd (o := HO.tup [V.int b, V.int l, V.ref q1, sv]) hpk
  have hPk : PkV (upd H3 pk (HO.tup [V.int b, V.int l, V.ref q1, sv])) (.ref pk) ⟨b, l, ms, S⟩ := ⟨pk, q1, sv, rfl, upd_same, (s3.trans s4) _ _ hq1, hsv.same s4⟩
  have s14 := s1.trans (s2.trans (s3.trans s4))
  refine ⟨_, rfl, _, rfl, _, rfl, a, ns, 8, b, l, rfl, SqL.same hS s14, by decide, fun r c us xs H5 hr9 hc he hw hle s5 => ?_⟩
  have hl := he.length
  have B5 : PkRw K H5 (.ref pk) (.ref r) ⟨b, l, ms, S⟩ xs (nmW ns) (clW ns) := ⟨hPk.same s5, ok, ⟨r, c, us, rfl, hr9, hc, he⟩, hw, by omega, lw6, lc6, hb⟩
  refine ⟨_, rfl, r, _, _, .int b, rfl, rfl, SqT.of hr9, atI_nat (j := 0) rfl, _, rfl, r, _, _, .int l, rfl, rfl, SqT.of hr9, atI_nat (j := 1) rfl, _, rfl, r, _, _, .ref c, rfl, rfl, SqT.of hr9, atI_nat (j := 2) rfl, tiny (by show 3 ≤ 1000; decide), fun kp hkp => ?_⟩
  have s6 := same_upd (o := HO.tup [V.int b, V.int l, V.ref c]) hkp
  have hk5 : (0 : Int) < (us.length : Int) + 5 := by omega
  refine ⟨_, rfl, _, _, rfl, rfl, _, rfl, a, ns, 7, rfl, SqL.same hS (s14.trans (s5.trans s6)), by decide, _, rfl, r, _, _, .ref c, rfl, rfl, SqT.of (s6 _ _ hr9), atI_nat (j := 2) rfl, c, us, rfl, .inr (SqT.of (s6 _ _ hc)), _, _, rfl, rfl, _, _, rfl, rfl, hk5, _, _, rfl, rfl, _, _, rfl, ?_⟩
  obtain ⟨z, ez⟩ := max0 (b - 2 + cellF ns 7 % ((us.length : Int) + 5))
  show gName 8 (V.int (if b - 2 + cellF ns 7 % ((us.length : Int) + 5) > 0 then b - 2 + cellF ns 7 % ((us.length : Int) + 5) else 0)) _ _ _
  rw [ez]
  refine ⟨_, _, _, _, _, m, b, l, (z : Int), r, c, us, rfl, bm.1, hb, by omega, s6 _ _ hr9, s6 _ _ hc, fun p H7 hp s7 => ?_⟩
  have s57 := s6.trans s7
  have B7 := B5.same s57
  have hr7 := s57 _ _ hr9
  have hk7 := s7 _ _ upd_same
  have hq7 := ((s3.trans s4).trans (s5.trans s57)) _ _ hq1
  refine ⟨_, rfl, q1, ms, rfl, hq7, fun fp H8 hfp s8 => ?_⟩
  refine ⟨_, rfl, tiny (by show 0 ≤ 1000; decide), fun ta hta => ⟨tiny (by show 0 ≤ 1000; decide), fun tb htb => ⟨tiny (by show 2 ≤ 1000; decide), fun tc htc => ⟨tiny (by show 4 ≤ 1000; decide), fun td htd => ?_⟩⟩⟩⟩
  have sa := same_upd (o := HO.tup []) hta
  have sb := same_upd (o := HO.tup []) htb
  have sc := same_upd (o := HO.tup [V.ref ta, V.ref tb]) htc
  have sd := same_upd (o := HO.tup [V.int 0, V.int 0, V.ref q1, V.ref tc]) htd
  have sT := sa.trans (sb.trans (sc.trans sd))
  refine ⟨fp, .ref td, ⟨0, 0, ms, ([], [])⟩, nmW ns, clW ns, rfl, hfp.same sT, ⟨td, q1, .ref tc, rfl, upd_same, (s8.trans sT) _ _ hq7, ⟨tc, ta, tb, rfl, sd _ _ upd_same, ⟨[], (sb.trans (sc.trans sd)) _ _ upd_same, .nil⟩, ⟨[], (sc.trans sd) _ _ upd_same, .nil⟩⟩⟩, sto_nil, hm9, fun H9 s9 => ⟨_, rfl, iteF ?_⟩⟩
  have s79 := s8.trans (sT.trans s9)
  refine ⟨_, rfl, _, rfl, _, rfl, tiny (by show 3 ≤ 1000; decide), fun tp htp => ?_⟩
  have sp := same_upd (o := HO.tup [V.int p, V.int b, V.int p]) htp
  have s7p := s79.trans sp
  obtain ⟨HB, eB, htB, BB, hrB, hkB⟩ : ∃ HB : Hp, HB = _ ∧ HB tp = some (.tup [V.int p, V.int b, V.int p]) ∧ PkRw K HB (.ref pk) (.ref r) ⟨b, l, ms, S⟩ xs (nmW ns) (clW ns) ∧ HB r = some (.tup [V.int b, V.int l, V.ref c]) ∧ HB kp = some (.tup [V.int b, V.int l, V.ref c]) := ⟨_, rfl, upd_same, B7.same s7p, s7p _ _ hr7, s7p _ _ hk7⟩
  rw [← eB]
  refine ⟨tp, rfl, ⟨_, SqT.of htB⟩, for_tup (K := K) (a := tp) (xs := [V.int p, V.int b, V.int p]) (fun i σ H' => ∃ t9 : Option V, σ = [some (.ref a), some (.int m), some (.int b), some (.int l), some (.ref q1), some (.ref pk), some (.ref r), some (.ref kp), some (.int p), t9] ∧ Same HB H')
    ⟨none, rfl, Same.refl _⟩ (fun i σ H' _ ⟨_, _, s'⟩ => SqT.of (s' _ _ htB)) ?_ ?_⟩
  · rintro i x σ H' hx ⟨t9, rfl, s'⟩
    obtain ⟨z9, rfl, hz9⟩ : ∃ z9 : Int, x = .int z9 ∧ 0 ≤ z9 := by
      match i, hx with
      | 0, hx => cases hx; exact ⟨_, rfl, hp⟩
      | 1, hx => cases hx; exact ⟨_, rfl, hb⟩
      | 2, hx => cases hx; exact ⟨_, rfl, hp⟩
      | i + 3, hx => simp at hx
    refine ⟨_, rfl, _, rfl, _, rfl, .ref pk, .ref r, _, xs, _, _, z9, rfl, BB.same s', hm9, hz9, fun HC sC => ⟨_, rfl, iteF ?_⟩⟩
    have sX := s'.trans sC
    refine ⟨_, rfl, _, rfl, r, kp, _, _, 1, rfl, rfl, SqT.of (sX _ _ hrB), SqT.of (sX _ _ hkB), rfl, fun j x y e1 e2 => ?_, by decide, _, rfl, iteF ⟨_, rfl, sX⟩⟩
    rw [e1] at e2
    cases e2
    match j, e1 with
    | 0, e1 => cases e1; exact .flat rfl
    | 1, e1 => cases e1; exact .flat rfl
    | 2, e1 => cases e1; exact .ref _
  · rintro σ H' ⟨t9, rfl, s'⟩
    exact k H'
end
end K1
set_option Elab.async false
set_option linter.all false
set_option maxRecDepth 100000
set_option maxHeartbeats 4000000
namespace L2
open PySem PySem.Spec PyProof.Rows
/-- x > y of texts -/
theorem op_gt_str {X : Cx} : OpR X (compareOp .Gt) (fun x y H Q => ∃ i j, x = .str i ∧ y = .str j ∧ Q (.bl (decide (j.cps.toList < i.cps.toList))) H) := by
  intro pins s σ H x y v u Q I rx ry h
  obtain ⟨i, j, rfl, rfl, q⟩ := h
  obtain ⟨t, rfl⟩ := rx
  obtain ⟨t', rfl⟩ := ry
  exact PySem.P.gt_str ⟨.bl _, H, I, rfl, q⟩
end L2
set_option Elab.async false
set_option linter.all false
set_option maxRecDepth 100000
set_option maxHeartbeats 4000000
namespace K1
open PySem L2 Kp
section
variable {P : Program} {w : World} {K : PySem.W.Frag} {mg : Str → Option Value} {base : Heap}
def spPartOf : Sp := fun vs H Q _ => ∃ (a : Addr) (rs : List Rw) (n : Str), vs = [.ref a, .str n] ∧ RwT H a rs ∧ (∀ (p : Addr) (r : Rw), rs.find? (fun r => decide (r.1 = n)) = some r → H p = some (.tup (.str r.1 :: r.2.map V.int)) → Q (.ref p) H) ∧ (rs.find? (fun r => decide (r.1 = n)) = none → Q .non H)
theorem find_at {rs : List Rw} {c : Str} {i : Nat} (hi : i < rs.length) (e : (rs[i]).1 = c) (hno : ∀ j (hj : j < rs.length), j < i → (rs[j]).1 ≠ c) : rs.find? (fun r => decide (r.1 = c)) = some rs[i] := by
  rw [List.find?_eq_some_iff_getElem]
  exact ⟨decide_eq_true e, i, hi, rfl, fun j hj => by simpa using hno j (by omega) hj⟩
theorem find_no {rs : List Rw} {c : Str} (hno : ∀ j (hj : j < rs.length), (rs[j]).1 ≠ c) : rs.find? (fun r => decide (r.1 = c)) = none := by
  rw [List.find?_eq_none]
  intro r hr
  obtain ⟨j, hj, rfl⟩ := List.getElem_of_mem hr
  simpa using hno j hj
theorem scPo : FnScope ["parts", "name", "part"] ["parts", "name"] (defScope s_part_of) := ⟨rfl, rfl, rfl, by decide +kernel, rfl, by decide +kernel, by decide +kernel⟩
theorem ok_part_of {f : Addr} {fd : FuncData} (F : Fun K "part_of" "part_of" s_part_of f fd) : FnOk P w K mg base CX0 1 f fd ["parts", "name"] spPartOf := by
  refine F.ok scPo (fun vs H Q E ⟨_, _, _, e, _⟩ => by subst e; rfl) (fun cdv A outer s H vs Q E hr h => ?_)
  obtain ⟨a, rs, n, rfl, ⟨vs, ha, R⟩, q1, q2⟩ := h
  refine ⟨_, @pss_p _ _ _ _ _ (ps_for PassesOwn.never (by rfl) (pi_tup (pv 0)) (pg_name (i := 2) scPo.nd (by rfl) (by exact Or.inl rfl)) (@pss_o _ _ _ (ps_if (pt_cmpR op_eq (pe_ix ix_tup (pv 2) (pe_int) px_i) (pv 1) (nomark _)) (@pss_o _ _ _ (ps_ret (pv 2))) pss_nil)))
    (@pss_o _ _ _ (ps_ret (pe_non))), ?_⟩
  refine ⟨_, rfl, a, rfl, ⟨_, SqT.of ha⟩, for_tup (K := K) (a := a) (xs := vs) (fun i σ H' => ∃ t : Option V, σ = [some (.ref a), some (.str n), t] ∧ H' = H ∧ ∀ j (hj : j < rs.length), j < i → (rs[j]).1 ≠ n)
    ⟨none, rfl, rfl, fun j _ h => absurd h (Nat.not_lt_zero _)⟩ (fun i σ H' _ ⟨_, _, e, _⟩ => by rw [e]; exact SqT.of ha) ?_ ?_⟩
  · rintro i x σ H' hx ⟨t, rfl, rfl, hno⟩
    have hi : i < rs.length := by rw [← R.length]; exact (List.getElem?_eq_some_iff.mp hx).1
    obtain ⟨p, g, hp⟩ := R.get hi
    rw [g] at hx
    cases hx
    refine ⟨_, rfl, p, _, _, .str (rs[i]).1, rfl, rfl, SqT.of hp, atI_nat (j := 0) rfl, _, rfl, rfl, _, rfl, ite2 (fun h => ?_) (fun h => ?_)⟩
    · have e : (rs[i]).1 = n := by have := of_decide_eq_true h; injection this
      exact ⟨_, rfl, q1 p rs[i] (find_at hi e hno) hp⟩
    · have e : (rs[i]).1 ≠ n := fun e => h (decide_eq_true (by rw [e]))
      exact ⟨_, rfl, rfl, fun j hj hji => by
        by_cases hje : j = i
        · subst hje; exact e
        · exact hno j hj (by omega)⟩
  · rintro σ H' ⟨t, rfl, rfl, hno⟩
    exact q2 (find_no fun j hj => hno j hj (by rw [R.length]; exact hj))
theorem zip_at {vs : List V} {rs : List Rw} {i : Nat} {v : V} (g : vs[i]? = some v) (hi : i < rs.length) : (vs.zip rs).getD i (.non, dRw) = (v, rs[i]) := by
  have : (vs.zip rs)[i]? = some (v, rs[i]) := by rw [List.getElem?_zip_eq_some]; exact ⟨g, by simp [hi]⟩
  rw [List.getD_eq_getElem?_getD, this]; rfl
theorem scWp : FnScope ["parts", "part", "name", "ahead", "later"] ["parts", "part"] (defScope s_with_part) := ⟨rfl, rfl, rfl, by decide +kernel, rfl, by decide +kernel, by decide +kernel⟩
theorem ok_with_part {f : Addr} {fd : FuncData} (F : Fun K "with_part" "with_part" s_with_part f fd) (T : Txt mg) : FnOk P w K mg base CX0 1 f fd ["parts", "part"] (spWith K) := by
  refine F.ok scWp (fun vs H Q E ⟨_, _, _, _, _, _, _, e, _⟩ => by subst e; rfl) (fun cdv A outer s H vs Q E hr h => ?_)
  obtain ⟨a, p, rs, n, is, W, k, rfl, ⟨vs, ha, R⟩, hp, ok, hW, hn, hk, q⟩ := h
  refine ⟨_, @pss_p _ _ _ _ _ (ps_set (i := 2) scWp.nd (by rfl) (by exact Or.inr rfl) (pe_ix ix_tup (pv 1) (pe_int) px_i))
    (@pss_p _ _ _ _ _ (ps_comp (i := 3) scWp.nd (by rfl) (by exact Or.inl rfl) (NB := ["own", "name"]) (n := 1) (fr := [2]) (compOk1 (outer := defScope s_with_part) (x := "name") (by rfl) (by decide +kernel) (by rfl) (by rfl) (by rfl) (by rfl)) (by rfl) (pi_tup (pv 0))
      (fun _ _ _ _ _ => pg_name (i := 0) (show (["own", "name"] : List Str).Nodup by decide +kernel) (by rfl) (by exact Or.inl rfl)) (fun _ _ _ _ _ => pifs_one (pt_cmpR op_lt_str (pe_ix (ix_tupK (K := K) (by rfl)) (pv 0) (pe_int) px_i) (pv 1) (nomark _))) (fun _ _ _ _ _ => pv 0))
    (@pss_p _ _ _ _ _ (ps_comp (i := 4) scWp.nd (by rfl) (by exact Or.inl rfl) (NB := ["own", "name"]) (n := 1) (fr := [2]) (compOk1 (outer := defScope s_with_part) (x := "name") (by rfl) (by decide +kernel) (by rfl) (by rfl) (by rfl) (by rfl)) (by rfl) (pi_tup (pv 0))
      (fun _ _ _ _ _ => pg_name (i := 0) (show (["own", "name"] : List Str).Nodup by decide +kernel) (by rfl) (by exact Or.inl rfl)) (fun _ _ _ _ _ => pifs_one (pt_cmpR op_gt_str (pe_ix (ix_tupK (K := K) (by rfl)) (pv 0) (pe_int) px_i) (pv 1) (nomark _))) (fun _ _ _ _ _ => pv 0))
    (@pss_o _ _ _ (ps_ret (pe_callTy call_tuple_of (by rfl) T.tuple boot_tuple (pa_b (pe_op op_cat (pe_op op_cat (pv 3) (pe_lst (pa_n (pv 1) pa_nil))) (pv 4)) pa_nil)))))), ?_⟩
  have hl := R.length
  have hlen := ok.len
  have hz : rs.length = (vs.zip rs).length := by rw [List.length_zip, hl, Nat.min_self]
  refine ⟨_, rfl, p, _, _, .str n, rfl, rfl, SqT.of hp, atI_nat (j := 0) rfl, ?_⟩
  refine ⟨_, rfl, a, rfl, ⟨_, SqT.of ha⟩, comp_pure (J := Itt K a) (k := 1) (n := rs.length) (fun i => decide (before ((vs.zip rs).getD i (.non, dRw)).2.1 n)) (fun i => ((vs.zip rs).getD i (.non, dRw)).1) (by rw [sizeLine_eq]; omega) (fun i H3 hi s4 => ?_) (fun H3 s4 => ⟨_, SqT.of (s4 _ _ ha), by omega⟩) ?_ ?_⟩
  · obtain ⟨po, g, _⟩ := R.get hi
    exact ⟨vs, _, SqT.of (s4 _ _ ha), g⟩
  · intro i H3 t x H4 U hi s4 ht y hU
    obtain ⟨t0, rfl⟩ := one_slot ht
    obtain ⟨rfl, hy⟩ := y
    obtain ⟨po, g, hpo⟩ := R.get hi
    have hv := hy _ (SqT.of (s4 _ _ ha))
    rw [g] at hv
    cases hv
    rw [zip_at g hi] at hU
    have fin := hU [some (.ref po)] H4 rfl (Same.refl _)
    refine ⟨_, rfl, po, _, _, .str (rs[i]).1, rfl, rfl, SqT.of (s4 _ _ hpo), atI_nat (j := 0) rfl, _, rfl, _, _, rfl, rfl, _, rfl, ite2 (fun h => ?_) (fun h => ?_)⟩
    · rw [decide_eq_true (show before (rs[i]).1 n from of_decide_eq_true h), if_pos rfl] at fin
      exact ⟨_, rfl, fin⟩
    · rw [decide_eq_false (fun e : before (rs[i]).1 n => h (decide_eq_true (show (rs[i]).1.cps.toList < n.cps.toList from e))), if_neg Bool.false_ne_true] at fin
      exact fin
  · intro D1 H1 s1 hD1 hd1
    rw [hz, map_atG (vs.zip rs) (.non, dRw) (fun t => decide (before t.2.1 n)) (fun t => t.1)] at hd1
    refine ⟨_, rfl, a, rfl, ⟨_, SqT.of (s1 _ _ ha)⟩, comp_pure (J := Itt K a) (k := 1) (n := rs.length) (fun i => decide (before n ((vs.zip rs).getD i (.non, dRw)).2.1)) (fun i => ((vs.zip rs).getD i (.non, dRw)).1) (by rw [sizeLine_eq]; omega) (fun i H3 hi s4 => ?_) (fun H3 s4 => ⟨_, SqT.of (s4 _ _ (s1 _ _ ha)), by omega⟩) ?_ ?_⟩
    · obtain ⟨po, g, _⟩ := R.get hi
      exact ⟨vs, _, SqT.of (s4 _ _ (s1 _ _ ha)), g⟩
    · intro i H3 t x H4 U hi s4 ht y hU
      obtain ⟨t0, rfl⟩ := one_slot ht
      obtain ⟨rfl, hy⟩ := y
      obtain ⟨po, g, hpo⟩ := R.get hi
      have hv := hy _ (SqT.of (s4 _ _ (s1 _ _ ha)))
      rw [g] at hv
      cases hv
      rw [zip_at g hi] at hU
      have fin := hU [some (.ref po)] H4 rfl (Same.refl _)
      refine ⟨_, rfl, po, _, _, .str (rs[i]).1, rfl, rfl, SqT.of (s4 _ _ (s1 _ _ hpo)), atI_nat (j := 0) rfl, _, rfl, _, _, rfl, rfl, _, rfl, ite2 (fun h => ?_) (fun h => ?_)⟩
      · rw [decide_eq_true (show before n (rs[i]).1 from of_decide_eq_true h), if_pos rfl] at fin
        exact ⟨_, rfl, fin⟩
      · rw [decide_eq_false (fun e : before n (rs[i]).1 => h (decide_eq_true (show n.cps.toList < (rs[i]).1.cps.toList from e))), if_neg Bool.false_ne_true] at fin
        exact fin
    · intro D2 H2 s2 hD2 hd2
      rw [hz, map_atG (vs.zip rs) (.non, dRw) (fun t => decide (before n t.2.1)) (fun t => t.1)] at hd2
      obtain ⟨X1, e1⟩ : ∃ X1, X1 = (vs.zip rs).filter fun t => decide (before t.2.1 n) := ⟨_, rfl⟩
      obtain ⟨X2, e2⟩ : ∃ X2, X2 = (vs.zip rs).filter fun t => decide (before n t.2.1) := ⟨_, rfl⟩
      have l1 : X1.length ≤ rs.length := by rw [e1, hz]; exact List.length_filter_le _ _
      have l2 : X2.length ≤ rs.length := by rw [e2, hz]; exact List.length_filter_le _ _
      rw [← e1] at hd1
      rw [← e2] at hd2
      refine ⟨_, rfl, _, rfl, tiny (by show 1 ≤ 1000; decide), fun b1 hb1 => ?_⟩
      have s3 := same_upd (o := HO.lst [V.ref p]) hb1
      refine ⟨D1, b1, _, _, rfl, rfl, s3 _ _ (s2 _ _ hd1), upd_same, by rw [sizeLine_eq, List.length_map]; show _ + 1 ≤ _; omega, fun b2 hb2 => ?_⟩
      have s4 := same_upd (o := HO.lst (X1.map (fun t => t.1) ++ [V.ref p])) hb2
      refine ⟨_, rfl, b2, D2, _, _, rfl, rfl, upd_same, s4 _ _ (s3 _ _ hd2), by rw [sizeLine_eq, List.length_append, List.length_map, List.length_map]; show _ + 1 + _ ≤ _; omega, fun b3 hb3 => ?_⟩
      have s5 := same_upd (o := HO.lst (X1.map (fun t => t.1) ++ [V.ref p] ++ X2.map (fun t => t.1))) hb3
      refine ⟨b3, _, rfl, .inl ⟨SqL.of upd_same, fun b hb => ?_⟩⟩
      have s6 := same_upd (o := HO.tup (X1.map (fun t => t.1) ++ [V.ref p] ++ X2.map (fun t => t.1))) hb
      have sA := s1.trans (s2.trans (s3.trans (s4.trans (s5.trans s6))))
      have hR := rws_all (X1 ++ [(.ref p, (n, is))] ++ X2) fun t ht => by
        have hm : (∃ p, t.1 = .ref p ∧ H p = some (.tup (.str t.2.1 :: t.2.2.map V.int))) := by
          rcases List.mem_append.mp ht with ht | ht
          · rcases List.mem_append.mp ht with ht | ht
            · rw [e1] at ht; exact R.zip t (List.mem_filter.mp ht).1
            · rw [List.mem_singleton.mp ht]; exact ⟨p, rfl, hp⟩
          · rw [e2] at ht; exact R.zip t (List.mem_filter.mp ht).1
        obtain ⟨pt, e, hpt⟩ := hm
        exact ⟨pt, e, sA _ _ hpt⟩
      have f1 : X1.map (fun t => t.2) = rs.filter (fun r => decide (before r.1 n)) := by rw [e1]; exact filter_zip (fun r => decide (before r.1 n)) hl
      have f2 : X2.map (fun t => t.2) = rs.filter (fun r => decide (before n r.1)) := by rw [e2]; exact filter_zip (fun r => decide (before n r.1)) hl
      have f3 : (X1 ++ [(V.ref p, (n, is))] ++ X2).map (fun t => t.2) = putF rs (n, is) := by
        rw [List.map_append, List.map_append, f1, f2, List.append_assoc]; rfl
      have f4 : (X1 ++ [(V.ref p, (n, is))] ++ X2).map (fun t => t.1) = X1.map (fun t => t.1) ++ [V.ref p] ++ X2.map (fun t => t.1) := by
        rw [List.map_append, List.map_append]; rfl
      rw [f3, f4] at hR
      exact q b _ ⟨_, upd_same, hR⟩ sA
def numF (rs : List Rw) (n : Str) : Int := match rs.find? fun r => decide (r.1 = n) with
  | some r => r.2.headD 0
  | none => 0
theorem valF_num (rs : List Rw) (n : Str) : valF rs n = numF rs n := by
  unfold valF numF
  rw [← List.head?_filter]
  cases rs.filter fun r => decide (r.1 = n) with
  | nil => rfl
  | cons r l => rfl
def spNumAt : Sp := fun vs H Q _ => ∃ (a : Addr) (rs : List Rw) (n : Str), vs = [.ref a, .str n] ∧ RwT H a rs ∧ (∀ r ∈ rs, 1 ≤ r.2.length) ∧ Q (.int (numF rs n)) H
theorem scNa : FnScope ["parts", "name", "part"] ["parts", "name"] (defScope s_number_at) := ⟨rfl, rfl, rfl, by decide +kernel, rfl, by decide +kernel, by decide +kernel⟩
theorem ok_number_at {f : Addr} {fd : FuncData} (F : Fun K "number_at" "number_at" s_number_at f fd) (CP : Cal P w K mg base "part_of" 1 ["parts", "name"] spPartOf) : FnOk P w K mg base CX0 2 f fd ["parts", "name"] spNumAt := by
  refine F.ok scNa (fun vs H Q E ⟨_, _, _, e, _⟩ => by subst e; rfl) (fun cdv A outer s H vs Q E hr h => ?_)
  obtain ⟨a, rs, n, rfl, hT, sz, q⟩ := h
  obtain ⟨gP, dP, GP, mP, kP, bP⟩ := CP.ex
  refine ⟨_, @pss_p _ _ _ _ _ (ps_set (i := 2) scNa.nd (by rfl) (by exact Or.inl rfl) (pe_call GP hr (by rfl) mP kP bP .nil pass0 (pa_n (pv 0) (pa_n (pv 1) pa_nil))))
    (@pss_p _ _ _ _ _ (ps_if (pt_cmpR op_isN (pv 2) pe_non (nomark _)) (@pss_o _ _ _ (ps_ret pe_int)) pss_nil)
    (@pss_o _ _ _ (ps_ret (pe_ix ix_tup (pv 2) (pe_int) px_i)))), ?_⟩
  unfold numF at q
  refine ⟨_, rfl, _, rfl, a, rs, n, rfl, hT, fun p r hf hp => ?_, fun hf => ?_⟩
  · rw [hf] at q
    have hz := sz r (List.mem_of_find?_eq_some hf)
    obtain ⟨z, zs, ez⟩ : ∃ z zs, r.2 = z :: zs := by
      cases e : r.2 with
      | nil => rw [e] at hz; exact absurd hz (by decide)
      | cons z zs => exact ⟨z, zs, rfl⟩
    simp only [ez] at q hp
    refine ⟨_, rfl, rfl, _, rfl, ?_⟩
    rw [decide_eq_false (fun e : V.ref p = V.non => by cases e)]
    exact iteF ⟨_, rfl, p, _, _, .int z, rfl, rfl, SqT.of hp, atI_nat (j := 1) rfl, q⟩
  · rw [hf] at q
    refine ⟨_, rfl, rfl, _, rfl, ?_⟩
    rw [decide_eq_true rfl]
    exact iteT q
theorem scVo : FnScope ["store", "name"] ["store", "name"] (defScope s_value_of) := ⟨rfl, rfl, rfl, by decide +kernel, rfl, by decide +kernel, by decide +kernel⟩
theorem ok_value_of {f : Addr} {fd : FuncData} (F : Fun K "value_of" "value_of" s_value_of f fd) (CN : Cal P w K mg base "number_at" 2 ["parts", "name"] spNumAt) : FnOk P w K mg base CX0 3 f fd ["store", "name"] (spValF K) := by
  refine F.ok scVo (fun vs H Q E ⟨_, _, _, e, _⟩ => by subst e; rfl) (fun cdv A outer s H vs Q E hr h => ?_)
  obtain ⟨v, S, n, rfl, ⟨sa, a, c, rfl, hs, hT, _⟩, hlen, sz, q⟩ := h
  obtain ⟨gN, dN, GN, mN, kN, bN⟩ := CN.ex
  refine ⟨_, @pss_o _ _ _ (ps_ret (pe_call GN hr (by rfl) mN kN bN .nil pass0 (pa_s (pe_ix ix_tup (pv 0) (pe_int) px_i) (pa_n (pv 1) pa_nil)))), ?_⟩
  have fin := q H (Same.refl _)
  rw [valF_num] at fin
  exact ⟨_, rfl, sa, _, _, .ref a, rfl, rfl, SqT.of hs, atI_nat (j := 0) rfl, _, rfl, a, S.1, n, rfl, hT, fun r hr => by rw [sz r hr]; exact Nat.le_refl 1, fin⟩
def spWithV (K : PySem.W.Frag) : Sp := fun vs H Q _ => ∃ (v : V) (S : Sto) (n : Str) (x : Int) (W : List Str), vs = [v, .str n, .int x] ∧ StV H v S ∧ RwOk W 1 S.1 ∧ n ∈ W ∧ W.length ≤ 60 ∧ ∀ (r : V) (H' : Hp), StV H' r (putF S.1 (n, [x]), S.2) → Same H H' → Q r H'
theorem scWv : FnScope ["store", "name", "value"] ["store", "name", "value"] (defScope s_with_value) := ⟨rfl, rfl, rfl, by decide +kernel, rfl, by decide +kernel, by decide +kernel⟩
theorem ok_with_value {f : Addr} {fd : FuncData} (F : Fun K "with_value" "with_value" s_with_value f fd) (CW : Cal P w K mg base "with_part" 1 ["parts", "part"] (spWith K)) : FnOk P w K mg base CX0 2 f fd ["store", "name", "value"] (spWithV K) := by
  refine F.ok scWv (fun vs H Q E ⟨_, _, _, _, _, e, _⟩ => by subst e; rfl) (fun cdv A outer s H vs Q E hr h => ?_)
  obtain ⟨v, S, n, x, W, rfl, ⟨sa, a, c, rfl, hs, hT, hC⟩, ok, hn, hW, q⟩ := h
  obtain ⟨gW, dW, GW, mW, kW, bW⟩ := CW.ex
  refine ⟨_, @pss_o _ _ _ (ps_ret (QE.h (qx_tup (qa_k (pe_call GW hr (by rfl) mW kW bW .nil pass0 (pa_s (pe_ix ix_tup (pv 0) (pe_int) px_i) (pa_t (QE.h (qx_tup (qa_n (pv 1) (qa_n (pv 2) qa_nil)))) pa_nil))) (qa_s (pe_ix ix_tup (pv 0) (pe_int) px_i) qa_nil))))), ?_⟩
  refine ⟨_, rfl, sa, _, _, .ref a, rfl, rfl, SqT.of hs, atI_nat (j := 0) rfl, _, rfl, _, rfl, tiny (by show 2 ≤ 1000; decide), fun p1 hp1 => ?_⟩
  have s1 := same_upd (o := HO.tup [V.str n, V.int x]) hp1
  refine ⟨a, p1, S.1, n, [x], W, 1, rfl, hT.same s1, upd_same, ok, hW, hn, rfl, fun b H2 hb s2 => ?_⟩
  have s12 := s1.trans s2
  refine ⟨_, rfl, sa, _, _, .ref c, rfl, rfl, SqT.of (s12 _ _ hs), atI_nat (j := 1) rfl, tiny (by show 2 ≤ 1000; decide), fun p2 hp2 => ?_⟩
  have s3 := same_upd (o := HO.tup [V.ref b, V.ref c]) hp2
  exact q (.ref p2) _ ⟨p2, b, c, rfl, upd_same, hb.same s3, hC.same (s12.trans s3)⟩ (s12.trans s3)
theorem scDo : FnScope ["store", "deed", "name", "ahead", "together"] ["store", "deed"] (defScope s_done) := ⟨rfl, rfl, rfl, by decide +kernel, rfl, by decide +kernel, by decide +kernel⟩
theorem ok_done {f : Addr} {fd : FuncData} (F : Fun K "done" "done" s_done f fd) (CV : Cal P w K mg base "value_of" 3 ["store", "name"] (spValF K)) (CU : Cal P w K mg base "with_value" 2 ["store", "name", "value"] (spWithV K)) : FnOk P w K mg base CX0 4 f fd ["store", "deed"] (spDoneF K) := by
  refine F.ok scDo (fun vs H Q E ⟨_, _, _, _, _, _, e, _⟩ => by subst e; rfl) (fun cdv A outer s H vs Q E hr h => ?_)
  obtain ⟨v, u, S, d, W, C, rfl, hv, ok, hd, hn, hW, q⟩ := h
  obtain ⟨gV, dV, GV, mV, kV, bV⟩ := CV.ex
  obtain ⟨gU, dU, GU, mU, kU, bU⟩ := CU.ex
  have r2 := hr.mono (show 2 ≤ 3 by omega)
  refine ⟨_, @pss_p _ _ _ _ _ (ps_set (i := 2) scDo.nd (by rfl) (by exact Or.inl rfl) (pe_ix ix_tup (pv 1) (pe_int) px_i))
    (@pss_p _ _ _ _ _ (ps_set (i := 3) scDo.nd (by rfl) (by exact Or.inl rfl) (pe_call GV hr (by rfl) mV kV bV .nil pass0 (pa_n (pv 0) (pa_n (pv 2) pa_nil))))
    (@pss_p _ _ _ _ _ (ps_if (pt_cmpR op_eq (pe_ix ix_tup (pv 1) (pe_int) px_i) (pe_str) (nomark _)) (@pss_o _ _ _ (ps_ret (QE.h (qx_tup (qa_n (pv 0) (qa_n (pv 3) qa_nil)))))) pss_nil)
    (@pss_p _ _ _ _ _ (ps_if (pt_cmpR op_eq (pe_ix ix_tup (pv 1) (pe_int) px_i) (pe_str) (nomark _)) (@pss_o _ _ _ (ps_ret (QE.h (qx_tup (qa_k (pe_call GU r2 (by rfl) mU kU bU .nil pass0 (pa_n (pv 0) (pa_n (pv 2) (pa_s (pe_ix ix_tup (pv 1) (pe_int) px_i) pa_nil)))) (qa_n (pv 3) qa_nil)))))) pss_nil)
    (@pss_p _ _ _ _ _ (ps_set (i := 4) scDo.nd (by rfl) (by exact Or.inl rfl) (pe_op op_add (pv 3) (pe_ix ix_tup (pv 1) (pe_int) px_i)))
    (@pss_o _ _ _ (ps_ret (QE.h (qx_tup (qa_k (pe_call GU r2 (by rfl) mU kU bU .nil pass0 (pa_n (pv 0) (pa_n (pv 2) (pa_n (pv 4) pa_nil)))) (qa_n (pv 4) qa_nil)))))))))), ?_⟩
  have hlen := ok.ns.len
  cases d with
  | get n =>
    obtain ⟨p, rfl, hp⟩ := hd
    refine ⟨_, rfl, p, _, _, .str n, rfl, rfl, SqT.of hp, atI_nat (j := 1) rfl, ?_⟩
    refine ⟨_, rfl, _, rfl, _, S, n, rfl, hv, by omega, ok.ns.sz, fun H1 s1 => ?_⟩
    refine ⟨_, rfl, p, _, _, .str "get", rfl, rfl, SqT.of (s1 _ _ hp), atI_nat (j := 0) rfl, rfl, _, rfl, ?_⟩
    rw [decide_eq_true rfl]
    refine iteT ⟨_, rfl, _, rfl, tiny (by show 2 ≤ 1000; decide), fun p2 hp2 => ?_⟩
    have s2 := same_upd (o := HO.tup [v, V.int (valF S.1 n)]) hp2
    exact q v p2 _ upd_same (hv.same (s1.trans s2)) (s1.trans s2)
  | set n x =>
    obtain ⟨p, rfl, hp⟩ := hd
    refine ⟨_, rfl, p, _, _, .str n, rfl, rfl, SqT.of hp, atI_nat (j := 1) rfl, ?_⟩
    refine ⟨_, rfl, _, rfl, _, S, n, rfl, hv, by omega, ok.ns.sz, fun H1 s1 => ?_⟩
    refine ⟨_, rfl, p, _, _, .str "set", rfl, rfl, SqT.of (s1 _ _ hp), atI_nat (j := 0) rfl, rfl, _, rfl, ?_⟩
    rw [decide_eq_false (vstr_ne str_get_set)]
    refine iteF ⟨_, rfl, p, _, _, .str "set", rfl, rfl, SqT.of (s1 _ _ hp), atI_nat (j := 0) rfl, rfl, _, rfl, ?_⟩
    rw [decide_eq_true rfl]
    refine iteT ⟨_, rfl, _, rfl, _, rfl, p, _, _, .int x, rfl, rfl, SqT.of (s1 _ _ hp), atI_nat (j := 2) rfl, v, S, n, x, W, rfl, hv.same s1, ok.ns, hn, hW, fun r H2 hr2 s2 => ⟨_, rfl, tiny (by show 2 ≤ 1000; decide), fun p2 hp2 => ?_⟩⟩
    have s3 := same_upd (o := HO.tup [r, V.int (valF S.1 n)]) hp2
    exact q r p2 _ upd_same (hr2.same s3) (s1.trans (s2.trans s3))
  | add n x =>
    obtain ⟨p, rfl, hp⟩ := hd
    refine ⟨_, rfl, p, _, _, .str n, rfl, rfl, SqT.of hp, atI_nat (j := 1) rfl, ?_⟩
    refine ⟨_, rfl, _, rfl, _, S, n, rfl, hv, by omega, ok.ns.sz, fun H1 s1 => ?_⟩
    refine ⟨_, rfl, p, _, _, .str "add", rfl, rfl, SqT.of (s1 _ _ hp), atI_nat (j := 0) rfl, rfl, _, rfl, ?_⟩
    rw [decide_eq_false (vstr_ne str_get_add)]
    refine iteF ⟨_, rfl, p, _, _, .str "add", rfl, rfl, SqT.of (s1 _ _ hp), atI_nat (j := 0) rfl, rfl, _, rfl, ?_⟩
    rw [decide_eq_false (vstr_ne str_add_set.symm)]
    refine iteF ⟨_, rfl, _, rfl, p, _, _, .int x, rfl, rfl, SqT.of (s1 _ _ hp), atI_nat (j := 2) rfl, _, _, rfl, rfl, ?_⟩
    refine ⟨_, rfl, _, rfl, _, rfl, v, S, n, _, W, rfl, hv.same s1, ok.ns, hn, hW, fun r H2 hr2 s2 => ⟨_, rfl, tiny (by show 2 ≤ 1000; decide), fun p2 hp2 => ?_⟩⟩
    have s3 := same_upd (o := HO.tup [r, V.int (valF S.1 n + x)]) hp2
    exact q r p2 _ upd_same (hr2.same s3) (s1.trans (s2.trans s3))
end
end K1
set_option Elab.async false
set_option linter.all false
set_option maxRecDepth 100000
set_option maxHeartbeats 4000000
namespace K1
open PySem L2 Kp
section
variable {P : Program} {w : World} {K : PySem.W.Frag} {mg : Str → Option Value} {base : Heap}
theorem scNo : FnScope ["store", "caller"] ["store", "caller"] (defScope s_number_of) := ⟨rfl, rfl, rfl, by decide +kernel, rfl, by decide +kernel, by decide +kernel⟩
theorem ok_number_of {f : Addr} {fd : FuncData} (F : Fun K "number_of" "number_of" s_number_of f fd) (CN : Cal P w K mg base "number_at" 2 ["parts", "name"] spNumAt) : FnOk P w K mg base CX0 3 f fd ["store", "caller"] spNumP := by
  refine F.ok scNo (fun vs H Q E ⟨_, _, _, _, _, e, _⟩ => by subst e; rfl) (fun cdv A outer s H vs Q E hr h => ?_)
  obtain ⟨v, S, c, W, C, rfl, ⟨sa, a, ca, rfl, hs, hT, hC⟩, ok, hlen, q⟩ := h
  obtain ⟨gN, dN, GN, mN, kN, bN⟩ := CN.ex
  refine ⟨_, @pss_o _ _ _ (ps_ret (pe_call GN hr (by rfl) mN kN bN .nil pass0 (pa_s (pe_ix ix_tup (pv 0) (pe_int) px_i) (pa_n (pv 1) pa_nil)))), ?_⟩
  have fin := q H (Same.refl _)
  have e : (standF S.2 c).1 = numF S.2 c := by
    unfold standF numF
    cases S.2.find? fun r => decide (r.1 = c) with
    | none => rfl
    | some r => rfl
  rw [e] at fin
  exact ⟨_, rfl, sa, _, _, .ref ca, rfl, rfl, SqT.of hs, atI_nat (j := 1) rfl, _, rfl, ca, S.2, c, rfl, hC, fun r hr => by rw [ok.cs.sz r hr]; decide, fin⟩
theorem scAd : FnScope ["store", "what", "pair"] ["store", "what"] (defScope s_applied) := ⟨rfl, rfl, rfl, by decide +kernel, rfl, by decide +kernel, by decide +kernel⟩
theorem ok_applied {f : Addr} {fd : FuncData} (F : Fun K "applied" "applied" s_applied f fd) (CN : Cal P w K mg base "number_of" 3 ["store", "caller"] spNumP) (CD : Cal P w K mg base "done" 4 ["store", "deed"] (spDoneF K)) (CW : Cal P w K mg base "with_part" 1 ["parts", "part"] (spWith K)) : FnOk P w K mg base CX0 5 f fd ["store", "what"] (spApF K) := by
  refine F.ok scAd (fun vs H Q E ⟨_, _, _, _, _, _, e, _⟩ => by subst e; rfl) (fun cdv A outer s H vs Q E hr h => ?_)
  obtain ⟨v, u, S, x, W, C, rfl, hv, ok, hx, hok, hW, hC, q⟩ := h
  obtain ⟨gN, dN, GN, mN, kN, bN⟩ := CN.ex
  obtain ⟨gD, dD, GD, mD, kD, bD⟩ := CD.ex
  obtain ⟨gW, dW, GW, mW, kW, bW⟩ := CW.ex
  have r1 := hr.mono (show 1 ≤ 4 by omega)
  have r3 := hr.mono (show 3 ≤ 4 by omega)
  refine ⟨_, @pss_p _ _ _ _ _ (ps_if (PW.pt (pw_or (pt_cmpR op_ne (pe_ix ix_tup (pv 1) (pe_int) px_i) pe_str (nomark _)) (pw_or1 (pt_cmpR op_le (pe_ix ix_tup (pv 1) (pe_int) px_i) (pe_call GN r3 (by rfl) mN kN bN .nil pass0 (pa_n (pv 0) (pa_s (pe_ix ix_tup (pv 1) (pe_int) px_i) pa_nil))) (nomark _))))) (@pss_o _ _ _ (ps_ret (pv 0))) pss_nil)
    (@pss_p _ _ _ _ _ (ps_set (i := 2) scAd.nd (by rfl) (by exact Or.inl rfl) (pe_call GD hr (by rfl) mD kD bD .nil pass0 (pa_n (pv 0) (pa_s (pe_ix ix_tup (pv 1) (pe_int) px_i) pa_nil))))
    (@pss_o _ _ _ (ps_ret (QE.h (qx_tup (qa_s (pe_ix ix_tup (pe_ix ix_tup (pv 2) (pe_int) px_i) (pe_int) px_i) (qa_k (pe_call GW r1 (by rfl) mW kW bW .nil pass0 (pa_s (pe_ix ix_tup (pe_ix ix_tup (pv 2) (pe_int) px_i) (pe_int) px_i) (pa_t (QE.h (qx_tup (qa_s (pe_ix ix_tup (pv 1) (pe_int) px_i) (qa_s (pe_ix ix_tup (pv 1) (pe_int) px_i) (qa_s (pe_ix ix_tup (pv 2) (pe_int) px_i) qa_nil))))) pa_nil))) qa_nil))))))), ?_⟩
  cases x with
  | opn =>
    obtain ⟨p, rfl, hp⟩ := hx
    refine ⟨_, rfl, p, _, _, .str "open", rfl, rfl, SqT.of hp, atI_nat (j := 0) rfl, rfl, _, rfl, ?_⟩
    rw [decide_eq_false (vstr_ne str_open_wish)]
    exact iteT (iteT ⟨_, rfl, q _ H hv (Same.refl _)⟩)
  | seats ms =>
    obtain ⟨p, p2, rfl, hp, _⟩ := hx
    refine ⟨_, rfl, p, _, _, .str "seats", rfl, rfl, SqT.of hp, atI_nat (j := 0) rfl, rfl, _, rfl, ?_⟩
    rw [decide_eq_false (vstr_ne str_seats_wish)]
    exact iteT (iteT ⟨_, rfl, q _ H hv (Same.refl _)⟩)
  | wish c n d =>
    obtain ⟨p, du, rfl, hp, hd⟩ := hx
    obtain ⟨hcC, hn, hnW⟩ := hok
    unfold applyF at q
    refine ⟨_, rfl, p, _, _, .str "wish", rfl, rfl, SqT.of hp, atI_nat (j := 0) rfl, rfl, _, rfl, ?_⟩
    rw [decide_eq_true rfl]
    refine iteF ⟨_, rfl, p, _, _, .int n, rfl, rfl, SqT.of hp, atI_nat (j := 2) rfl, _, rfl, _, rfl, p, _, _, .str c, rfl, rfl, SqT.of hp, atI_nat (j := 1) rfl, v, S, c, W, C, rfl, hv, ok, hC, fun H1 s1 => ?_⟩
    refine ⟨_, _, rfl, rfl, _, rfl, ite2 (fun h => ?_) (fun h => ?_)⟩
    · have e : n ≤ (standF S.2 c).1 := of_decide_eq_true h
      simp only [e, if_true] at q
      exact ⟨_, rfl, q _ H1 (hv.same s1) s1⟩
    · have e : ¬ n ≤ (standF S.2 c).1 := ndec h
      simp only [e, if_false] at q
      refine ⟨_, rfl, _, rfl, p, _, _, du, rfl, rfl, SqT.of (s1 _ _ hp), atI_nat (j := 3) rfl, _, _, S, d, W, C, rfl, hv.same s1, ok, hd.same s1, hnW, hW, fun r pr H2 hpr hr2 s2 => ?_⟩
      obtain ⟨sb, a2, c2, rfl, hs2, ha2, hc2⟩ := hr2
      rw [doneF_cs] at hc2
      have s12 := s1.trans s2
      refine ⟨_, rfl, pr, _, _, .ref sb, rfl, rfl, SqT.of hpr, atI_nat (j := 0) rfl, sb, _, _, .ref a2, rfl, rfl, SqT.of hs2, atI_nat (j := 0) rfl, ?_⟩
      refine ⟨_, rfl, pr, _, _, .ref sb, rfl, rfl, SqT.of hpr, atI_nat (j := 0) rfl, sb, _, _, .ref c2, rfl, rfl, SqT.of hs2, atI_nat (j := 1) rfl, _, rfl, p, _, _, .str c, rfl, rfl, SqT.of (s12 _ _ hp), atI_nat (j := 1) rfl, _, rfl, p, _, _, .int n, rfl, rfl, SqT.of (s12 _ _ hp), atI_nat (j := 2) rfl, _, rfl, pr, _, _, .int (doneF S d).2, rfl, rfl, SqT.of hpr, atI_nat (j := 1) rfl, tiny (by show 3 ≤ 1000; decide), fun p3 hp3 => ?_⟩
      have s3 := same_upd (o := HO.tup [V.str c, V.int n, V.int (doneF S d).2]) hp3
      refine ⟨c2, p3, S.2, c, [n, (doneF S d).2], C, 2, rfl, hc2.same s3, upd_same, ok.cs, hC, hcC, rfl, fun b H4 hb s4 => ⟨tiny (by show 2 ≤ 1000; decide), fun p5 hp5 => ?_⟩⟩
      have s5 := same_upd (o := HO.tup [V.ref a2, V.ref b]) hp5
      exact q (.ref p5) _ ⟨p5, a2, b, rfl, upd_same, ha2.same (s3.trans (s4.trans s5)), hb.same s5⟩ (s12.trans (s3.trans (s4.trans s5)))
end
end K1
set_option Elab.async false
set_option linter.all false
set_option maxRecDepth 100000
set_option maxHeartbeats 4000000
namespace K1
open PySem L2 Kp
section
variable {P : Program} {w : World} {K : PySem.W.Frag} {mg : Str → Option Value} {base : Heap}
theorem scRd : FnScope ["store", "entries", "entry"] ["store", "entries"] (defScope s_replayed) := ⟨rfl, rfl, rfl, by decide +kernel, rfl, by decide +kernel, by decide +kernel⟩
theorem ok_replayed {f : Addr} {fd : FuncData} (F : Fun K "replayed" "replayed" s_replayed f fd) (CP : Cal P w K mg base "applied" 5 ["store", "what"] (spApF K)) : FnOk P w K mg base CX0 6 f fd ["store", "entries"] (spRepF K) := by
  refine F.ok scRd (fun vs H Q E ⟨_, _, _, _, _, _, _, e, _⟩ => by subst e; rfl) (fun cdv A outer s H vs Q E hr h => ?_)
  obtain ⟨v, p, S, us, xs, W, C, rfl, hv, ok, hp, he, hw, hW, hC, q⟩ := h
  obtain ⟨gP, dP, GP, mP, kP, bP⟩ := CP.ex
  refine ⟨_, @pss_p _ _ _ _ _ (ps_for PassesOwn.never (by rfl) (pi_tup (pv 1)) (pg_name (i := 2) scRd.nd (by rfl) (by exact Or.inl rfl)) (@pss_o _ _ _ (ps_set (i := 0) scRd.nd (by rfl) (by exact Or.inl rfl) (pe_call GP hr (by rfl) mP kP bP .nil pass0 (pa_n (pv 0) (pa_s (pe_ix ix_tup (pv 2) (pe_int) px_i) pa_nil))))))
    (@pss_o _ _ _ (ps_ret (pv 0))), ?_⟩
  have hl := he.length
  refine ⟨_, rfl, p, rfl, ⟨_, SqT.of hp⟩, for_tup (K := K) (a := p) (xs := us) (fun i σ H' => ∃ (v' : V) (t2 : Option V), σ = [some v', some (.ref p), t2] ∧ StV H' v' (replayF S (xs.take i)) ∧ Same H H')
    ⟨v, none, rfl, by rw [List.take_zero]; exact hv, Same.refl _⟩ (fun i σ H' _ ⟨_, _, _, _, s1⟩ => SqT.of (s1 _ _ hp)) ?_ ?_⟩
  · rintro i x σ H' hx ⟨v', t2, rfl, hv', s1⟩
    have hi : i < xs.length := by rw [← hl]; exact (List.getElem?_eq_some_iff.mp hx).1
    obtain ⟨p1, t1, u1, g1, hp1, hu1⟩ := (he.same s1).get hi
    rw [g1] at hx
    cases hx
    refine ⟨_, rfl, _, rfl, p1, _, _, u1, rfl, rfl, SqT.of hp1, atI_nat (j := 1) rfl, v', u1, _, xs[i], W, C, rfl, hv', replayF_ok ok fun y hy => hw y (List.mem_of_mem_take hy), hu1, hw _ (List.getElem_mem hi), hW, hC, fun r H2 hr2 s2 => ?_⟩
    rw [← replayF_snoc S xs hi] at hr2
    exact ⟨r, _, rfl, hr2, s1.trans s2⟩
  · rintro σ H' ⟨v', t2, rfl, hv', s1⟩
    rw [List.take_of_length_le (by omega)] at hv'
    exact ⟨_, rfl, q v' H' hv' s1⟩
end
end K1
set_option Elab.async false
set_option linter.all false
set_option maxRecDepth 100000
set_option maxHeartbeats 4000000
namespace K1
open PySem L2 Kp
section
variable {P : Program} {w : World} {K : PySem.W.Frag} {mg : Str → Option Value} {base : Heap}
theorem scFr : FnScope [] [] (defScope s_fresh) := ⟨rfl, rfl, rfl, by decide +kernel, rfl, by decide +kernel, by decide +kernel⟩
theorem ok_fresh {f : Addr} {fd : FuncData} (F : Fun K "fresh" "fresh" s_fresh f fd) : FnOk P w K mg base CX0 1 f fd [] (spFreshP K) := by
  refine F.ok scFr (fun vs H Q E ⟨e, _⟩ => by subst e; rfl) (fun cdv A outer s H vs Q E hr h => ?_)
  obtain ⟨rfl, q⟩ := h
  refine ⟨_, @pss_o _ _ _ (ps_ret (QE.h (qx_tup (qa_tup qa_nil (qa_tup qa_nil qa_nil))))), ?_⟩
  refine ⟨tiny (by show 0 ≤ 1000; decide), fun e1 he1 => ⟨tiny (by show 0 ≤ 1000; decide), fun e2 he2 => ⟨tiny (by show 2 ≤ 1000; decide), fun e3 he3 => ?_⟩⟩⟩
  have t1 := same_upd (o := HO.tup []) he1
  have t2 := same_upd (o := HO.tup []) he2
  have t3 := same_upd (o := HO.tup [V.ref e1, V.ref e2]) he3
  exact q (.ref e3) _ ⟨e3, e1, e2, rfl, upd_same, ⟨[], t3 _ _ (t2 _ _ upd_same), .nil⟩, ⟨[], t3 _ _ upd_same, .nil⟩⟩ (t1.trans (t2.trans t3))
end
end K1
set_option Elab.async false
set_option linter.all false
set_option maxRecDepth 100000
set_option maxHeartbeats 4000000
namespace K1
open PySem L2 Kp
section
variable {P : Program} {w : World} {K : PySem.W.Frag} {mg : Str → Option Value} {base : Heap}
theorem scFp : FnScope ["seats"] ["seats"] (defScope s_first_pack) := ⟨rfl, rfl, rfl, by decide +kernel, rfl, by decide +kernel, by decide +kernel⟩
theorem ok_first_pack {f : Addr} {fd : FuncData} (F : Fun K "first_pack" "first_pack" s_first_pack f fd) (CH : Cal P w K mg base "fresh" 1 [] (spFreshP K)) : FnOk P w K mg base CX0 2 f fd ["seats"] spFp := by
  refine F.ok scFp (fun vs H Q E ⟨_, _, e, _⟩ => by subst e; rfl) (fun cdv A outer s H vs Q E hr h => ?_)
  obtain ⟨q0, ms, rfl, hq, k⟩ := h
  obtain ⟨gH, dH, GH, mH, kH, bH⟩ := CH.ex
  refine ⟨_, @pss_o _ _ _ (ps_ret (QE.h (qx_tup (qa_int (qa_int (qa_n (pv 0) (qa_k (pe_call0 GH hr (by rfl) mH kH bH .nil pass0) qa_nil))))))), ?_⟩
  refine ⟨_, rfl, rfl, fun vf H1 hf s1 => ⟨tiny (by show 4 ≤ 1000; decide), fun p hp => ?_⟩⟩
  have s2 := same_upd (o := HO.tup [V.int 0, V.int 0, V.ref q0, vf]) hp
  exact k (.ref p) _ ⟨p, q0, vf, rfl, upd_same, s2 _ _ (s1 _ _ hq), hf.same s2⟩ (s1.trans s2)
end
end K1
set_option Elab.async false
set_option linter.all false
set_option maxRecDepth 100000
set_option maxHeartbeats 4000000
namespace K1
open PySem L2 Kp
section
variable {P : Program} {w : World} {K : PySem.W.Frag} {mg : Str → Option Value} {base : Heap}
theorem scEo : FnScope ["row"] ["row"] (defScope s_end_of) := ⟨rfl, rfl, rfl, by decide +kernel, rfl, by decide +kernel, by decide +kernel⟩
theorem ok_end_of {f : Addr} {fd : FuncData} (F : Fun K "end_of" "end_of" s_end_of f fd) (T : Txt mg) : FnOk P w K mg base CX0 1 f fd ["row"] spEndP := by
  refine F.ok scEo (fun vs H Q E ⟨_, _, _, _, e, _⟩ => by subst e; rfl) (fun cdv A outer s H vs Q E hr h => ?_)
  obtain ⟨v, b, l, es, rfl, ⟨rb, c, us, rfl, hb, hc, he⟩, q⟩ := h
  refine ⟨_, @pss_o _ _ _ (ps_ret (pe_op op_add (pe_ix ix_tup (pv 0) (pe_int) px_i) (pe_callB call_len_seq (by rfl) T.len PySem.boot_len (pa_s (pe_ix ix_tup (pv 0) (pe_int) px_i) pa_nil)))), ?_⟩
  refine ⟨_, rfl, rb, _, _, .int b, rfl, rfl, SqT.of hb, atI_nat (j := 0) rfl, _, rfl, rb, _, _, .ref c, rfl, rfl, SqT.of hb, atI_nat (j := 2) rfl, c, us, rfl, .inr (SqT.of hc), _, _, rfl, rfl, ?_⟩
  show Q (.int (b + (us.length : Int))) H
  rw [he.length]; exact q
theorem scHs : FnScope ["entry"] ["entry"] (defScope s_holds_seats) := ⟨rfl, rfl, rfl, by decide +kernel, rfl, by decide +kernel, by decide +kernel⟩
theorem ok_holds {f : Addr} {fd : FuncData} (F : Fun K "holds_seats" "holds_seats" s_holds_seats f fd) : FnOk P w K mg base CX0 1 f fd ["entry"] spHoldP := by
  refine F.ok scHs (fun vs H Q E ⟨_, _, _, _, e, _⟩ => by subst e; rfl) (fun cdv A outer s H vs Q E hr h => ?_)
  obtain ⟨p, t, u, x, rfl, hp, hx, k⟩ := h
  refine ⟨_, @pss_o _ _ _ (ps_ret (pe_cmpR op_eq (pe_ix ix_tup (pe_ix ix_tup (pv 0) (pe_int) px_i) (pe_int) px_i) pe_str (nomark _))), ?_⟩
  have a1 : atI [V.int t, u] 1 = some u := atI_nat (j := 1) rfl
  cases x with
  | opn =>
    obtain ⟨p2, rfl, h2⟩ := hx
    refine ⟨_, rfl, p, _, _, _, rfl, rfl, SqT.of hp, a1, p2, _, _, .str "open", rfl, rfl, SqT.of h2, atI_nat (j := 0) rfl, rfl, ?_⟩
    show Q (.bl (decide (V.str "open" = V.str "seats"))) H
    rw [decide_eq_false (vs_ne so_ne)]; exact k
  | seats ms =>
    obtain ⟨p2, q2, rfl, h2, _⟩ := hx
    refine ⟨_, rfl, p, _, _, _, rfl, rfl, SqT.of hp, a1, p2, _, _, .str "seats", rfl, rfl, SqT.of h2, atI_nat (j := 0) rfl, rfl, ?_⟩
    show Q (.bl (decide (V.str "seats" = V.str "seats"))) H
    rw [decide_eq_true rfl]; exact k
  | wish c n d =>
    obtain ⟨p2, u2, rfl, h2, _⟩ := hx
    refine ⟨_, rfl, p, _, _, _, rfl, rfl, SqT.of hp, a1, p2, _, _, .str "wish", rfl, rfl, SqT.of h2, atI_nat (j := 0) rfl, rfl, ?_⟩
    show Q (.bl (decide (V.str "wish" = V.str "seats"))) H
    rw [decide_eq_false (vs_ne sw_ne)]; exact k
theorem scSeO : FnScope ["row", "first", "seats", "entry"] ["row", "first"] (defScope s_seats_of) := ⟨rfl, rfl, rfl, by decide +kernel, rfl, by decide +kernel, by decide +kernel⟩
theorem ok_seats_of {f : Addr} {fd : FuncData} (F : Fun K "seats_of" "seats_of" s_seats_of f fd) (CH : Cal P w K mg base "holds_seats" 1 ["entry"] spHoldP) : FnOk P w K mg base CX0 2 f fd ["row", "first"] spSeatsP := by
  refine F.ok scSeO (fun vs H Q E ⟨_, _, _, _, _, _, e, _⟩ => by subst e; rfl) (fun cdv A outer s H vs Q E hr h => ?_)
  obtain ⟨v, q0, b, l, es, ms, rfl, ⟨rb, c, us, rfl, hb, hc, he⟩, hq0, k⟩ := h
  obtain ⟨gH, dH, GH, mH, kH, bH⟩ := CH.ex
  refine ⟨_, @pss_p _ _ _ _ _ (ps_set (i := 2) scSeO.nd (by rfl) (by exact Or.inl rfl) (pv 1))
    (@pss_p _ _ _ _ _ (ps_for PassesOwn.never (by rfl) (pi_tup (pe_ix ix_tup (pv 0) (pe_int) px_i)) (pg_name (i := 3) scSeO.nd (by rfl) (by exact Or.inl rfl)) (@pss_o _ _ _ (ps_if (pt_val (pe_call GH hr (by rfl) mH kH bH .nil pass0 (pa_n (pv 3) pa_nil))) (@pss_o _ _ _ (ps_set (i := 2) scSeO.nd (by rfl) (by exact Or.inl rfl) (pe_ix ix_tup (pe_ix ix_tup (pv 3) (pe_int) px_i) (pe_int) px_i))) pss_nil)))
    (@pss_o _ _ _ (ps_ret (pv 2)))), ?_⟩
  have hlen := he.length
  refine ⟨_, rfl, ?_⟩
  refine ⟨_, rfl, rb, _, _, .ref c, rfl, rfl, SqT.of hb, atI_nat (j := 2) rfl, c, rfl, ⟨_, SqT.of hc⟩, for_tup (K := K) (a := c) (xs := us) (fun i σ H' => ∃ (qi : Addr) (t : Option V), σ = [some (.ref rb), some (.ref q0), some (.ref qi), t] ∧ H' = H ∧ H qi = some (.tup ((seatsF ms (es.take i)).map V.int)))
    ⟨q0, none, rfl, rfl, by rw [List.take_zero]; exact hq0⟩ (fun i σ H' _ ⟨_, _, _, e, _⟩ => by rw [e]; exact SqT.of hc) ?_ ?_⟩
  · rintro i x σ H' hx ⟨qi, t, rfl, rfl, hqi⟩
    have hi : i < es.length := by rw [← hlen]; exact (List.getElem?_eq_some_iff.mp hx).1
    obtain ⟨p, u, gv, hp, hu⟩ := he.get hi
    rw [gv] at hx
    cases hx
    have e0 := seatsF_snoc ms es hi
    refine ⟨_, rfl, p, _, u, (es[i]).2, rfl, hp, hu, _, rfl, ?_⟩
    cases ho : (es[i]).2 with
    | opn =>
      rw [ho] at e0
      refine iteF ⟨qi, some (.ref p), rfl, rfl, ?_⟩
      rw [e0]; exact hqi
    | wish c n d =>
      rw [ho] at e0
      refine iteF ⟨qi, some (.ref p), rfl, rfl, ?_⟩
      rw [e0]; exact hqi
    | seats ns =>
      rw [ho] at e0 hu
      obtain ⟨p2, q2, rfl, h2, hq2⟩ := hu
      refine iteT ⟨_, rfl, p, _, _, .ref p2, rfl, rfl, SqT.of hp, atI_nat (j := 1) rfl, p2, _, _, .ref q2, rfl, rfl, SqT.of h2, atI_nat (j := 1) rfl, q2, some (.ref p), rfl, rfl, ?_⟩
      rw [e0]; exact hq2
  · rintro σ H' ⟨qi, t, rfl, rfl, hqi⟩
    rw [List.take_of_length_le (by omega)] at hqi
    exact ⟨_, rfl, k qi hqi⟩
end
end K1
set_option Elab.async false
set_option linter.all false
set_option maxRecDepth 100000
set_option maxHeartbeats 4000000
namespace K1
open PySem L2 Kp
section
variable {P : Program} {w : World} {K : PySem.W.Frag} {mg : Str → Option Value} {base : Heap}
def spBehP : Sp := fun vs H Q _ => ∃ (v : V) (b l : Int) (es : List En) (n : Nat), vs = [v, .int b, .int n] ∧ RwP H v b l es ∧ n ≤ es.length ∧ ∀ (r : Addr) (us : List V) (H' : Hp), H' r = some (.tup us) → ET H' us (es.take n) → Same H H' → Q (.ref r) H'
theorem scBh : FnScope ["row", "place", "many", "base", "start"] ["row", "place", "many"] (defScope s_behind) := ⟨rfl, rfl, rfl, by decide +kernel, rfl, by decide +kernel, by decide +kernel⟩
theorem ok_behindP {f : Addr} {fd : FuncData} (F : Fun K "behind" "behind" s_behind f fd) (T : Txt mg) (CE : Cal P w K mg base "end_of" 1 ["row"] spEndP) : FnOk P w K mg base CX0 2 f fd ["row", "place", "many"] spBehP := by
  refine F.ok scBh (fun vs H Q E ⟨_, _, _, _, _, e, _⟩ => by subst e; rfl) (fun cdv A outer s H vs Q E hr h => ?_)
  obtain ⟨v, b, l, es, n, rfl, hX, hn, q⟩ := h
  have hX' := hX
  obtain ⟨rb, c, us, rfl, hb0, hc0, he⟩ := hX'
  have hb := SqT.of (K := K) hb0
  obtain ⟨gE, dE, GE, mE, kE, bE⟩ := CE.ex
  refine ⟨_, @pss_p _ _ _ _ _ (ps_set (i := 3) scBh.nd (by rfl) (by exact Or.inl rfl) (pe_ix ix_tup (pv 0) (pe_int) px_i))
    (@pss_p _ _ _ _ _ (ps_if (PW.pt (pw_or (pt_cmpR op_lt (pv 1) (pv 3) (nomark _)) (pw_or1 (pt_cmpR op_gt (pv 1) (pe_call GE hr (by rfl) mE kE bE .nil pass0 (pa_n (pv 0) pa_nil)) (nomark _))))) (@pss_o _ _ _ ps_never) pss_nil)
    (@pss_p _ _ _ _ _ (ps_set (i := 4) scBh.nd (by rfl) (by exact Or.inl rfl) (pe_op op_sub (pv 1) (pv 3)))
    (@pss_o _ _ _ (ps_ret (pe_slice sl_tupV (pe_ix ix_tup (pv 0) (pe_int) px_i) (po_some (pv 4)) (po_some (pe_callB (call_max2 (by rfl)) (by rfl) T.max boot_max (pa_n (pv 4) (pa_b (pe_op op_add (pv 4) (pv 2)) pa_nil))))))))), ?_⟩
  refine ⟨_, rfl, rb, _, _, .int b, rfl, rfl, hb, atI_nat (j := 0) rfl, ?_⟩
  refine ⟨_, rfl, _, rfl, _, _, rfl, rfl, _, rfl, ite2 (fun h => absurd (of_decide_eq_true h) (by omega)) (fun _ => ?_)⟩
  refine ⟨_, rfl, _, rfl, _, b, l, es, rfl, hX, _, _, rfl, rfl, _, rfl, ite2 (fun h => absurd (of_decide_eq_true h) (by omega)) (fun _ => ?_)⟩
  refine ⟨_, rfl, _, rfl, _, _, rfl, rfl, ?_⟩
  refine ⟨_, rfl, rb, _, _, .ref c, rfl, rfl, hb, atI_nat (j := 2) rfl, _, rfl, _, rfl, _, rfl, _, rfl, _, rfl, _, _, rfl, rfl, _, _, rfl, _, rfl, c, us, rfl, hc0, fun r H1 hr1 s1 => q r (us.take n) H1 ?_ ((he.take n).same s1) s1⟩
  rw [hr1]
  have e1 : b - b = ((0 : Nat) : Int) := by omega
  have e2 : (if b - b + (n : Int) > b - b then b - b + (n : Int) else b - b) = ((n : Nat) : Int) := by split <;> omega
  show some (HO.tup (cutV us (some (b - b)) (some (if b - b + (n : Int) > b - b then b - b + (n : Int) else b - b)))) = _
  rw [e2, e1, cut_bothN]
  rfl
end
end K1
set_option Elab.async false
set_option linter.all false
set_option maxRecDepth 100000
set_option maxHeartbeats 4000000
namespace K1
open PySem L2 Kp
section
variable {P : Program} {w : World} {K : PySem.W.Frag} {mg : Str → Option Value} {base : Heap}
def spEntPE (cP : Addr) : Sp := fun vs H Q E => ∃ (v : V) (b l : Int) (es : List En) (p : Int), vs = [v, .int p] ∧ RwP H v b l es ∧ (∀ (m : Nat) (hm : m < es.length), p = b + 1 + (m : Int) → ∀ (p0 : Addr) (u : V), H p0 = some (.tup [.int (es[m]).1, u]) → Q (.ref p0) H) ∧ ((p ≤ b ∨ b + (es.length : Int) < p) → E (.ref cP) none H)
def spTermPE (cP : Addr) : Sp := fun vs H Q E => ∃ (v : V) (b l : Int) (es : List En) (p : Int), vs = [v, .int p] ∧ RwP H v b l es ∧ (∀ n : Nat, p = b + (n : Int) → n ≤ es.length → Q (.int (lastT l (es.take n))) H) ∧ ((p < b ∨ b + (es.length : Int) < p) → E (.ref cP) none H)
theorem scEa : FnScope ["row", "place", "base"] ["row", "place"] (defScope s_entry_at) := ⟨rfl, rfl, rfl, by decide +kernel, rfl, by decide +kernel, by decide +kernel⟩
theorem ok_entry_atPE {f : Addr} {fd : FuncData} {cP cL c1 c2 c3 c4 : Addr} (Z : ExcF K mg cP cL c1 c2 c3 c4) (F : Fun K "entry_at" "entry_at" s_entry_at f fd) (CE : Cal P w K mg base "end_of" 1 ["row"] spEndP) : FnOk P w K mg base (CXe P w) 2 f fd ["row", "place"] (spEntPE cP) := by
  refine F.okE scEa (fun vs H Q E ⟨_, _, _, _, _, e, _⟩ => by subst e; rfl) (fun cdv A outer s H vs Q E hr h => ?_)
  obtain ⟨v, b, l, es, p, rfl, hX, q, qe⟩ := h
  have hX' := hX
  obtain ⟨rb, c, us, rfl, hb, hc, he⟩ := hX'
  obtain ⟨gE, dE, GE, mE, kE, bE⟩ := CE.ex
  refine ⟨_, @pss_p _ _ _ _ _ (ps_set (i := 2) scEa.nd (by rfl) (by exact Or.inl rfl) (pe_ix ix_tup (pv 0) (pe_int) px_i))
    (@pss_p _ _ _ _ _ (ps_if (PW.pt (pw_or (pt_cmpR op_le (pv 1) (pv 2) (nomark _)) (pw_or1 (pt_cmpR op_gt (pv 1) (pe_call GE hr (by rfl) mE kE bE .nil pass0 (pa_n (pv 0) pa_nil)) (nomark _))))) (@pss_o _ _ _ (ps_raise raises_of (by rfl) (by rfl) Z.mP Z.xP (pa_i pe_str pa_nil))) pss_nil)
    (@pss_o _ _ _ (ps_ret (pe_ix ix_tup (pe_ix ix_tup (pv 0) (pe_int) px_i) (pe_op op_sub (pe_op op_sub (pv 1) (pv 2)) (pe_int)) px_b)))), ?_⟩
  have hlen := he.length
  refine ⟨_, rfl, rb, _, _, .int b, rfl, rfl, SqT.of hb, atI_nat (j := 0) rfl, ?_⟩
  refine ⟨_, rfl, _, rfl, _, _, rfl, rfl, _, rfl, ite2 (fun h => iteT ⟨by decide, qe (.inl (of_decide_eq_true h))⟩) (fun h => ?_)⟩
  have g1 : b < p := by have := ndec h; omega
  refine ⟨_, rfl, _, rfl, _, b, l, es, rfl, hX, _, _, rfl, rfl, _, rfl, ite2 (fun h2 => ⟨by decide, qe (.inr (of_decide_eq_true h2))⟩) (fun h2 => ?_)⟩
  have g2 : p ≤ b + (es.length : Int) := by have := ndec h2; omega
  obtain ⟨m, em⟩ := Int.eq_ofNat_of_zero_le (show 0 ≤ p - b - 1 by omega)
  have hm : m < es.length := by omega
  obtain ⟨p0, u, g, hp0, _⟩ := he.get hm
  refine ⟨_, rfl, rb, _, _, .ref c, rfl, rfl, SqT.of hb, atI_nat (j := 2) rfl, _, rfl, _, rfl, _, _, rfl, rfl, _, _, rfl, rfl, c, us, _, .ref p0, rfl, rfl, SqT.of hc, ?_, q m hm (by omega) p0 u hp0⟩
  show atI us (p - b - 1) = _
  rw [em]; exact atI_nat g
theorem scTa : FnScope ["row", "place", "base"] ["row", "place"] (defScope s_term_at) := ⟨rfl, rfl, rfl, by decide +kernel, rfl, by decide +kernel, by decide +kernel⟩
theorem ok_term_atPE {f : Addr} {fd : FuncData} {cP : Addr} (F : Fun K "term_at" "term_at" s_term_at f fd) (CA : CalE P w K mg base "entry_at" 2 ["row", "place"] (spEntPE cP)) : FnOk P w K mg base (CXe P w) 3 f fd ["row", "place"] (spTermPE cP) := by
  refine F.okE scTa (fun vs H Q E ⟨_, _, _, _, _, e, _⟩ => by subst e; rfl) (fun cdv A outer s H vs Q E hr h => ?_)
  obtain ⟨v, b, l, es, p, rfl, hX, q, qe⟩ := h
  have hX' := hX
  obtain ⟨rb, c, us, rfl, hb, hc, he⟩ := hX'
  obtain ⟨gA, dA, GA, mA, kA, bA⟩ := CA.ex
  refine ⟨_, @pss_p _ _ _ _ _ (ps_set (i := 2) scTa.nd (by rfl) (by exact Or.inl rfl) (pe_ix ix_tup (pv 0) (pe_int) px_i))
    (@pss_p _ _ _ _ _ (ps_if (pt_cmpR op_eq (pv 1) (pv 2) (nomark _)) (@pss_o _ _ _ (ps_ret (pe_ix ix_tup (pv 0) (pe_int) px_i))) pss_nil)
    (@pss_o _ _ _ (ps_ret (pe_ix ix_tup (pe_call GA hr (by rfl) mA kA bA .nil passE (pa_n (pv 0) (pa_n (pv 1) pa_nil))) (pe_int) px_i)))), ?_⟩
  refine ⟨_, rfl, rb, _, _, .int b, rfl, rfl, SqT.of hb, atI_nat (j := 0) rfl, ?_⟩
  refine ⟨_, rfl, _, rfl, rfl, _, rfl, ite2 (fun h => ?_) (fun h => ?_)⟩
  · have e : p = b := by have := of_decide_eq_true h; simpa using this
    have q0 := q 0 (by omega) (Nat.zero_le _)
    rw [List.take_zero] at q0
    exact ⟨_, rfl, rb, _, _, .int l, rfl, rfl, SqT.of hb, atI_nat (j := 1) rfl, q0⟩
  · have e : ¬ p = b := fun e => h (by rw [e]; exact decide_eq_true rfl)
    refine ⟨_, rfl, _, rfl, .ref rb, b, l, es, p, rfl, hX, fun m hm ep p0 u hp0 => ?_, fun h2 => qe (by omega)⟩
    have q0 := q (m + 1) (by omega) (by omega)
    rw [lastT_snoc l es hm] at q0
    exact ⟨p0, _, _, .int (es[m]).1, rfl, rfl, SqT.of hp0, atI_nat (j := 0) rfl, q0⟩
theorem scPk : FnScope ["pack", "row", "place", "last", "base", "entries", "seats"] ["pack", "row", "place"] (defScope s_pack_at) := ⟨rfl, rfl, rfl, by decide +kernel, rfl, by decide +kernel, by decide +kernel⟩
theorem ok_pack_atPE {f : Addr} {fd : FuncData} {cP : Addr} (F : Fun K "pack_at" "pack_at" s_pack_at f fd) (CT : CalE P w K mg base "term_at" 3 ["row", "place"] (spTermPE cP)) (CB : Cal P w K mg base "behind" 2 ["row", "place", "many"] spBehP) (CS : Cal P w K mg base "seats_of" 2 ["row", "first"] spSeatsP) (CR : Cal P w K mg base "replayed" 6 ["store", "entries"] (spRepF K)) : FnOk P w K mg base (CXe P w) 7 f fd ["pack", "row", "place"] (spPkE K cP) := by
  refine F.okE scPk (fun vs H Q E ⟨_, _, _, _, _, _, _, e, _⟩ => by subst e; rfl) (fun cdv A outer s H vs Q E hr h => ?_)
  obtain ⟨vp, vr, G, es, W, C, pl, rfl, hPR, hst, hpl, q0, qe⟩ := h
  obtain ⟨hpk, hso, hrw, hwh, hle, hW, hC, hpl0⟩ := hPR
  obtain ⟨p, qa, u, rfl, hp, hq, hu⟩ := hpk
  have hrw' := hrw
  obtain ⟨r, c, us, rfl, hr0, hc0, he⟩ := hrw'
  obtain ⟨gT, dT, GT, mT, kT, bT⟩ := CT.ex
  obtain ⟨gB, dB, GB, mB, kB, bB⟩ := CB.ex
  obtain ⟨gS, dS, GS, mS, kS, bS⟩ := CS.ex
  obtain ⟨gR, dR, GR, mR, kR, bR⟩ := CR.ex
  have rT := hr.mono (show 3 ≤ 6 by omega)
  have rB := hr.mono (show 2 ≤ 6 by omega)
  refine ⟨_, @pss_p _ _ _ _ _ (ps_set (i := 3) scPk.nd (by rfl) (by exact Or.inl rfl) (pe_call GT rT (by rfl) mT kT bT .nil passE (pa_n (pv 1) (pa_n (pv 2) pa_nil))))
    (@pss_p _ _ _ _ _ (ps_set (i := 4) scPk.nd (by rfl) (by exact Or.inl rfl) (pe_ix ix_tup (pv 1) (pe_int) px_i))
    (@pss_p _ _ _ _ _ (ps_set (i := 5) scPk.nd (by rfl) (by exact Or.inl rfl) (pe_call GB rB (by rfl) mB kB bB .nil pass0 (pa_n (pv 1) (pa_n (pv 4) (pa_b (pe_op op_sub (pv 2) (pv 4)) pa_nil)))))
    (@pss_p _ _ _ _ _ (ps_set (i := 6) scPk.nd (by rfl) (by exact Or.inl rfl) (pe_call GS rB (by rfl) mS kS bS .nil pass0 (pa_t (QE.h (qx_tup (qa_n (pv 4) (qa_s (pe_ix ix_tup (pv 1) (pe_int) px_i) (qa_n (pv 5) qa_nil))))) (pa_s (pe_ix ix_tup (pv 0) (pe_int) px_i) pa_nil))))
    (@pss_o _ _ _ (ps_ret (QE.h (qx_tup (qa_n (pv 2) (qa_n (pv 3) (qa_n (pv 6) (qa_k (pe_call GR hr (by rfl) mR kR bR .nil pass0 (pa_s (pe_ix ix_tup (pv 0) (pe_int) px_i) (pa_n (pv 5) pa_nil))) qa_nil))))))))))), ?_⟩
  refine ⟨_, rfl, _, rfl, .ref r, G.pl, G.tm, es, pl, rfl, hrw, fun n en hn => ?_, fun hb => qe hb H (Same.refl _)⟩
  have q := q0 n en hn
  subst en
  refine ⟨_, rfl, r, _, _, .int G.pl, rfl, rfl, SqT.of hr0, atI_nat (j := 0) rfl, ?_⟩
  have e1 : G.pl + (n : Int) - G.pl = (n : Int) := by omega
  refine ⟨_, rfl, _, rfl, _, rfl, _, rfl, _, _, rfl, rfl, .ref r, G.pl, G.tm, es, n, ?_, hrw, hn, fun r2 us2 H1 hr2 he2 s1 => ?_⟩
  · show [V.ref r, V.int G.pl, V.int (G.pl + (n : Int) - G.pl)] = _
    rw [e1]
  refine ⟨_, rfl, _, rfl, r, _, _, .int G.tm, rfl, rfl, SqT.of (s1 _ _ hr0), atI_nat (j := 1) rfl, _, rfl, tiny (by show 3 ≤ 1000; decide), fun t3 ht3 => ?_⟩
  have s2 := same_upd (o := HO.tup [V.int G.pl, V.int G.tm, V.ref r2]) ht3
  have s12 := s1.trans s2
  refine ⟨_, rfl, p, _, _, .ref qa, rfl, rfl, SqT.of (s12 _ _ hp), atI_nat (j := 2) rfl, .ref t3, qa, G.pl, G.tm, es.take n, G.st, rfl, ⟨t3, r2, us2, rfl, upd_same, s2 _ _ hr2, he2.same s2⟩, s12 _ _ hq, fun q' hq' => ?_⟩
  refine ⟨_, rfl, _, rfl, _, rfl, _, rfl, p, _, _, u, rfl, rfl, SqT.of (s12 _ _ hp), atI_nat (j := 3) rfl, _, rfl, u, r2, G.so, us2, (es.take n).map (·.2), W, C, rfl, hu.same s12, hso, s2 _ _ hr2, (he2.same s2).ew, fun x hx => ?_, hW, hC, fun r5 H5 hr5 s5 => ⟨tiny (by show 4 ≤ 1000; decide), fun p5 hp5 => ?_⟩⟩
  · obtain ⟨e, hm, rfl⟩ := List.mem_map.mp hx
    exact hwh e (List.mem_of_mem_take hm)
  have s6 := same_upd (o := HO.tup [V.int (G.pl + (n : Int)), V.int (lastT G.tm (es.take n)), V.ref q', r5]) hp5
  exact q (.ref p5) _ ⟨p5, q', r5, rfl, upd_same, s6 _ _ (s5 _ _ hq'), hr5.same s6⟩ (s12.trans (s5.trans s6))
end
end K1
set_option Elab.async false
set_option linter.all false
set_option maxRecDepth 100000
set_option maxHeartbeats 4000000
namespace K1
open PySem L2 Kp
theorem cal {P : Program} {w : World} {K : PySem.W.Frag} {mg : Str → Option Value} {base : Heap} {x : Str} {st : Stmt} {f : Addr} {fd : FuncData} {ps : List Str} {k : Nat} {sp : Sp} (F : Fun K x x st f fd) (hm : mg x = some (.ref f)) (b : Binds K fd ps []) (ok : FnOk P w K mg base CX0 k f fd ps sp) : Cal P w K mg base x k ps sp := ⟨f, fd, ok, hm, F.kp, b⟩
theorem all_mk {l : PySem.W.OpenLaw} {w : World} {K : PySem.W.Frag} {h : Heap} {mg : Str → Option Value} {fa f0 f1 f2 f3 f4 f5 f6 f7 f8 f9 f10 f11 f12 f13 f14 f15 f16 f17 f18 f19 f20 f21 f22 f23 f24 f25 f26 f27 f28 f29 f30 f31 f32 f33 f34 f35 f36 f37 f38 f39 f40 f41 f42 : Addr} (X : K.In h) (G : h.Ns mainGlobals mg) (hfa : mg "law" = some (.ref fa))
    {od0 an0 od1 an1 od2 an2 od3 an3 od4 an4 od5 an5 od6 an6 od7 an7 od8 an8 od9 an9 od10 an10 od11 an11 od12 an12 od13 an13 od14 an14 od15 an15 od16 an16 od17 an17 od18 an18 od19 an19 od20 an20 od21 an21 od22 an22 od23 an23 od24 an24 od25 an25 od26 an26 od27 an27 od28 an28 od29 an29 od30 an30 od31 an31 od32 an32 od33 an33 od34 an34 od35 an35 od36 an36 od37 an37 od38 an38 od39 an39 od40 an40 od41 an41 od42 an42 : Option Addr} {sl0 sl1 sl2 sl3 sl4 sl5 sl6 sl7 sl8 sl9 sl10 sl11 sl12 sl13 sl14 sl15 sl16 sl17 sl18 sl19 sl20 sl21 sl22 sl23 sl24 sl25 sl26 sl27 sl28 sl29 sl30 sl31 sl32 sl33 sl34 sl35 sl36 sl37 sl38 sl39 sl40 sl41 sl42 : Array (Option Value)} {oc0 kV0 dc0 pm0 cd0 ct0 oc1 kV1 dc1 pm1 cd1 ct1 oc2 kV2 dc2 pm2 cd2 ct2 oc3 kV3 dc3 pm3 cd3 ct3 oc4 kV4 dc4 pm4 cd4 ct4 oc5 kV5 dc5 pm5 cd5 ct5 oc6 kV6 dc6 pm6 cd6 ct6 oc7 kV7 dc7 pm7 cd7 ct7 oc8 kV8 dc8 pm8 cd8 ct8 oc9 kV9 dc9 pm9 cd9 ct9 oc10 kV10 dc10 pm10 cd10 ct10 oc11 kV11 dc11 pm11 cd11 ct11 oc12 kV12 dc12 pm12 cd12 ct12 oc13 kV13 dc13 pm13 cd13 ct13 oc14 kV14 dc14 pm14 cd14 ct14 oc15 kV15 dc15 pm15 cd15 ct15 oc16 kV16 dc16 pm16 cd16 ct16 oc17 kV17 dc17 pm17 cd17 ct17 oc18 kV18 dc18 pm18 cd18 ct18 oc19 kV19 dc19 pm19 cd19 ct19 oc20 kV20 dc20 pm20 cd20 ct20 oc21 kV21 dc21 pm21 cd21 ct21 oc22 kV22 dc22 pm22 cd22 ct22 oc23 kV23 dc23 pm23 cd23 ct23 oc24 kV24 dc24 pm24 cd24 ct24 oc25 kV25 dc25 pm25 cd25 ct25 oc26 kV26 dc26 pm26 cd26 ct26 oc27 kV27 dc27 pm27 cd27 ct27 oc28 kV28 dc28 pm28 cd28 ct28 oc29 kV29 dc29 pm29 cd29 ct29 oc30 kV30 dc30 pm30 cd30 ct30 oc31 kV31 dc31 pm31 cd31 ct31 oc32 kV32 dc32 pm32 cd32 ct32 oc33 kV33 dc33 pm33 cd33 ct33 oc34 kV34 dc34 pm34 cd34 ct34 oc35 kV35 dc35 pm35 cd35 ct35 oc36 kV36 dc36 pm36 cd36 ct36 oc37 kV37 dc37 pm37 cd37 ct37 oc38 kV38 dc38 pm38 cd38 ct38 oc39 kV39 dc39 pm39 cd39 ct39 oc40 kV40 dc40 pm40 cd40 ct40 oc41 kV41 dc41 pm41 cd41 ct41 oc42 kV42 dc42 pm42 cd42 ct42 : Value}
    (a0 : PySem.W.nsIn K mainGlobals "end_of" = some (some (.ref f0))) (l0 : K.lookup f0 = some ⟨oc0, od0, .func (PySem.W.fnOf "end_of" "end_of" (defArgs s_end_of) (defBody s_end_of) (defScope s_end_of) .none kV0 dc0 pm0 an0 cd0 ct0), sl0⟩) (c0 : PySem.W.codeIn K cd0 "end_of" = true) (k0 : PySem.W.keepIn K (.ref f0) = true)
    (a1 : PySem.W.nsIn K mainGlobals "entry_at" = some (some (.ref f1))) (l1 : K.lookup f1 = some ⟨oc1, od1, .func (PySem.W.fnOf "entry_at" "entry_at" (defArgs s_entry_at) (defBody s_entry_at) (defScope s_entry_at) .none kV1 dc1 pm1 an1 cd1 ct1), sl1⟩) (c1 : PySem.W.codeIn K cd1 "entry_at" = true) (k1 : PySem.W.keepIn K (.ref f1) = true)
    (a2 : PySem.W.nsIn K mainGlobals "term_at" = some (some (.ref f2))) (l2 : K.lookup f2 = some ⟨oc2, od2, .func (PySem.W.fnOf "term_at" "term_at" (defArgs s_term_at) (defBody s_term_at) (defScope s_term_at) .none kV2 dc2 pm2 an2 cd2 ct2), sl2⟩) (c2 : PySem.W.codeIn K cd2 "term_at" = true) (k2 : PySem.W.keepIn K (.ref f2) = true)
    (a3 : PySem.W.nsIn K mainGlobals "behind" = some (some (.ref f3))) (l3 : K.lookup f3 = some ⟨oc3, od3, .func (PySem.W.fnOf "behind" "behind" (defArgs s_behind) (defBody s_behind) (defScope s_behind) .none kV3 dc3 pm3 an3 cd3 ct3), sl3⟩) (c3 : PySem.W.codeIn K cd3 "behind" = true) (k3 : PySem.W.keepIn K (.ref f3) = true)
    (a4 : PySem.W.nsIn K mainGlobals "holds_seats" = some (some (.ref f4))) (l4 : K.lookup f4 = some ⟨oc4, od4, .func (PySem.W.fnOf "holds_seats" "holds_seats" (defArgs s_holds_seats) (defBody s_holds_seats) (defScope s_holds_seats) .none kV4 dc4 pm4 an4 cd4 ct4), sl4⟩) (c4 : PySem.W.codeIn K cd4 "holds_seats" = true) (k4 : PySem.W.keepIn K (.ref f4) = true)
    (a5 : PySem.W.nsIn K mainGlobals "seats_of" = some (some (.ref f5))) (l5 : K.lookup f5 = some ⟨oc5, od5, .func (PySem.W.fnOf "seats_of" "seats_of" (defArgs s_seats_of) (defBody s_seats_of) (defScope s_seats_of) .none kV5 dc5 pm5 an5 cd5 ct5), sl5⟩) (c5 : PySem.W.codeIn K cd5 "seats_of" = true) (k5 : PySem.W.keepIn K (.ref f5) = true)
    (a6 : PySem.W.nsIn K mainGlobals "fresh" = some (some (.ref f6))) (l6 : K.lookup f6 = some ⟨oc6, od6, .func (PySem.W.fnOf "fresh" "fresh" (defArgs s_fresh) (defBody s_fresh) (defScope s_fresh) .none kV6 dc6 pm6 an6 cd6 ct6), sl6⟩) (c6 : PySem.W.codeIn K cd6 "fresh" = true) (k6 : PySem.W.keepIn K (.ref f6) = true)
    (a7 : PySem.W.nsIn K mainGlobals "part_of" = some (some (.ref f7))) (l7 : K.lookup f7 = some ⟨oc7, od7, .func (PySem.W.fnOf "part_of" "part_of" (defArgs s_part_of) (defBody s_part_of) (defScope s_part_of) .none kV7 dc7 pm7 an7 cd7 ct7), sl7⟩) (c7 : PySem.W.codeIn K cd7 "part_of" = true) (k7 : PySem.W.keepIn K (.ref f7) = true)
    (a8 : PySem.W.nsIn K mainGlobals "with_part" = some (some (.ref f8))) (l8 : K.lookup f8 = some ⟨oc8, od8, .func (PySem.W.fnOf "with_part" "with_part" (defArgs s_with_part) (defBody s_with_part) (defScope s_with_part) .none kV8 dc8 pm8 an8 cd8 ct8), sl8⟩) (c8 : PySem.W.codeIn K cd8 "with_part" = true) (k8 : PySem.W.keepIn K (.ref f8) = true)
    (a9 : PySem.W.nsIn K mainGlobals "number_at" = some (some (.ref f9))) (l9 : K.lookup f9 = some ⟨oc9, od9, .func (PySem.W.fnOf "number_at" "number_at" (defArgs s_number_at) (defBody s_number_at) (defScope s_number_at) .none kV9 dc9 pm9 an9 cd9 ct9), sl9⟩) (c9 : PySem.W.codeIn K cd9 "number_at" = true) (k9 : PySem.W.keepIn K (.ref f9) = true)
    (a10 : PySem.W.nsIn K mainGlobals "value_of" = some (some (.ref f10))) (l10 : K.lookup f10 = some ⟨oc10, od10, .func (PySem.W.fnOf "value_of" "value_of" (defArgs s_value_of) (defBody s_value_of) (defScope s_value_of) .none kV10 dc10 pm10 an10 cd10 ct10), sl10⟩) (c10 : PySem.W.codeIn K cd10 "value_of" = true) (k10 : PySem.W.keepIn K (.ref f10) = true)
    (a11 : PySem.W.nsIn K mainGlobals "with_value" = some (some (.ref f11))) (l11 : K.lookup f11 = some ⟨oc11, od11, .func (PySem.W.fnOf "with_value" "with_value" (defArgs s_with_value) (defBody s_with_value) (defScope s_with_value) .none kV11 dc11 pm11 an11 cd11 ct11), sl11⟩) (c11 : PySem.W.codeIn K cd11 "with_value" = true) (k11 : PySem.W.keepIn K (.ref f11) = true)
    (a12 : PySem.W.nsIn K mainGlobals "done" = some (some (.ref f12))) (l12 : K.lookup f12 = some ⟨oc12, od12, .func (PySem.W.fnOf "done" "done" (defArgs s_done) (defBody s_done) (defScope s_done) .none kV12 dc12 pm12 an12 cd12 ct12), sl12⟩) (c12 : PySem.W.codeIn K cd12 "done" = true) (k12 : PySem.W.keepIn K (.ref f12) = true)
    (a13 : PySem.W.nsIn K mainGlobals "number_of" = some (some (.ref f13))) (l13 : K.lookup f13 = some ⟨oc13, od13, .func (PySem.W.fnOf "number_of" "number_of" (defArgs s_number_of) (defBody s_number_of) (defScope s_number_of) .none kV13 dc13 pm13 an13 cd13 ct13), sl13⟩) (c13 : PySem.W.codeIn K cd13 "number_of" = true) (k13 : PySem.W.keepIn K (.ref f13) = true)
    (a14 : PySem.W.nsIn K mainGlobals "applied" = some (some (.ref f14))) (l14 : K.lookup f14 = some ⟨oc14, od14, .func (PySem.W.fnOf "applied" "applied" (defArgs s_applied) (defBody s_applied) (defScope s_applied) .none kV14 dc14 pm14 an14 cd14 ct14), sl14⟩) (c14 : PySem.W.codeIn K cd14 "applied" = true) (k14 : PySem.W.keepIn K (.ref f14) = true)
    (a15 : PySem.W.nsIn K mainGlobals "replayed" = some (some (.ref f15))) (l15 : K.lookup f15 = some ⟨oc15, od15, .func (PySem.W.fnOf "replayed" "replayed" (defArgs s_replayed) (defBody s_replayed) (defScope s_replayed) .none kV15 dc15 pm15 an15 cd15 ct15), sl15⟩) (c15 : PySem.W.codeIn K cd15 "replayed" = true) (k15 : PySem.W.keepIn K (.ref f15) = true)
    (a16 : PySem.W.nsIn K mainGlobals "first_pack" = some (some (.ref f16))) (l16 : K.lookup f16 = some ⟨oc16, od16, .func (PySem.W.fnOf "first_pack" "first_pack" (defArgs s_first_pack) (defBody s_first_pack) (defScope s_first_pack) .none kV16 dc16 pm16 an16 cd16 ct16), sl16⟩) (c16 : PySem.W.codeIn K cd16 "first_pack" = true) (k16 : PySem.W.keepIn K (.ref f16) = true)
    (a17 : PySem.W.nsIn K mainGlobals "pack_at" = some (some (.ref f17))) (l17 : K.lookup f17 = some ⟨oc17, od17, .func (PySem.W.fnOf "pack_at" "pack_at" (defArgs s_pack_at) (defBody s_pack_at) (defScope s_pack_at) .none kV17 dc17 pm17 an17 cd17 ct17), sl17⟩) (c17 : PySem.W.codeIn K cd17 "pack_at" = true) (k17 : PySem.W.keepIn K (.ref f17) = true)
    (a18 : PySem.W.nsIn K mainGlobals "_law_cell_at" = some (some (.ref f18))) (l18 : K.lookup f18 = some ⟨oc18, od18, .func (PySem.W.fnOf "_law_cell_at" "_law_cell_at" (defArgs sCell) (defBody sCell) (defScope sCell) .none kV18 dc18 pm18 an18 cd18 ct18), sl18⟩) (c18 : PySem.W.codeIn K cd18 "_law_cell_at" = true) (k18 : PySem.W.keepIn K (.ref f18) = true)
    (a19 : PySem.W.nsIn K mainGlobals "_law_mixed" = some (some (.ref f19))) (l19 : K.lookup f19 = some ⟨oc19, od19, .func (PySem.W.fnOf "_law_mixed" "_law_mixed" (defArgs sMixed) (defBody sMixed) (defScope sMixed) .none kV19 dc19 pm19 an19 cd19 ct19), sl19⟩) (c19 : PySem.W.codeIn K cd19 "_law_mixed" = true) (k19 : PySem.W.keepIn K (.ref f19) = true)
    (a20 : PySem.W.nsIn K mainGlobals "_law_alike_by" = some (some (.ref f20))) (l20 : K.lookup f20 = some ⟨oc20, od20, .func (PySem.W.fnOf "_law_alike_by" "_law_alike_by" (defArgs s__law_alike_by) (defBody s__law_alike_by) (defScope s__law_alike_by) .none kV20 dc20 pm20 an20 cd20 ct20), sl20⟩) (c20 : PySem.W.codeIn K cd20 "_law_alike_by" = true) (k20 : PySem.W.keepIn K (.ref f20) = true)
    (a21 : PySem.W.nsIn K mainGlobals "_law_name_by" = some (some (.ref f21))) (l21 : K.lookup f21 = some ⟨oc21, od21, .func (PySem.W.fnOf "_law_name_by" "_law_name_by" (defArgs sNameBy) (defBody sNameBy) (defScope sNameBy) .none kV21 dc21 pm21 an21 cd21 ct21), sl21⟩) (c21 : PySem.W.codeIn K cd21 "_law_name_by" = true) (k21 : PySem.W.keepIn K (.ref f21) = true)
    (a22 : PySem.W.nsIn K mainGlobals "_law_caller_by" = some (some (.ref f22))) (l22 : K.lookup f22 = some ⟨oc22, od22, .func (PySem.W.fnOf "_law_caller_by" "_law_caller_by" (defArgs s__law_caller_by) (defBody s__law_caller_by) (defScope s__law_caller_by) .none kV22 dc22 pm22 an22 cd22 ct22), sl22⟩) (c22 : PySem.W.codeIn K cd22 "_law_caller_by" = true) (k22 : PySem.W.keepIn K (.ref f22) = true)
    (a23 : PySem.W.nsIn K mainGlobals "_law_value_by" = some (some (.ref f23))) (l23 : K.lookup f23 = some ⟨oc23, od23, .func (PySem.W.fnOf "_law_value_by" "_law_value_by" (defArgs s__law_value_by) (defBody s__law_value_by) (defScope s__law_value_by) .none kV23 dc23 pm23 an23 cd23 ct23), sl23⟩) (c23 : PySem.W.codeIn K cd23 "_law_value_by" = true) (k23 : PySem.W.keepIn K (.ref f23) = true)
    (a24 : PySem.W.nsIn K mainGlobals "_law_deed_by" = some (some (.ref f24))) (l24 : K.lookup f24 = some ⟨oc24, od24, .func (PySem.W.fnOf "_law_deed_by" "_law_deed_by" (defArgs s__law_deed_by) (defBody s__law_deed_by) (defScope s__law_deed_by) .none kV24 dc24 pm24 an24 cd24 ct24), sl24⟩) (c24 : PySem.W.codeIn K cd24 "_law_deed_by" = true) (k24 : PySem.W.keepIn K (.ref f24) = true)
    (a25 : PySem.W.nsIn K mainGlobals "_law_seats_by" = some (some (.ref f25))) (l25 : K.lookup f25 = some ⟨oc25, od25, .func (PySem.W.fnOf "_law_seats_by" "_law_seats_by" (defArgs sSeatsBy) (defBody sSeatsBy) (defScope sSeatsBy) .none kV25 dc25 pm25 an25 cd25 ct25), sl25⟩) (c25 : PySem.W.codeIn K cd25 "_law_seats_by" = true) (k25 : PySem.W.keepIn K (.ref f25) = true)
    (a26 : PySem.W.nsIn K mainGlobals "_law_what_by" = some (some (.ref f26))) (l26 : K.lookup f26 = some ⟨oc26, od26, .func (PySem.W.fnOf "_law_what_by" "_law_what_by" (defArgs s__law_what_by) (defBody s__law_what_by) (defScope s__law_what_by) .none kV26 dc26 pm26 an26 cd26 ct26), sl26⟩) (c26 : PySem.W.codeIn K cd26 "_law_what_by" = true) (k26 : PySem.W.keepIn K (.ref f26) = true)
    (a27 : PySem.W.nsIn K mainGlobals "_law_many_by" = some (some (.ref f27))) (l27 : K.lookup f27 = some ⟨oc27, od27, .func (PySem.W.fnOf "_law_many_by" "_law_many_by" (defArgs s__law_many_by) (defBody s__law_many_by) (defScope s__law_many_by) .none kV27 dc27 pm27 an27 cd27 ct27), sl27⟩) (c27 : PySem.W.codeIn K cd27 "_law_many_by" = true) (k27 : PySem.W.keepIn K (.ref f27) = true)
    (a28 : PySem.W.nsIn K mainGlobals "_law_store_by" = some (some (.ref f28))) (l28 : K.lookup f28 = some ⟨oc28, od28, .func (PySem.W.fnOf "_law_store_by" "_law_store_by" (defArgs s__law_store_by) (defBody s__law_store_by) (defScope s__law_store_by) .none kV28 dc28 pm28 an28 cd28 ct28), sl28⟩) (c28 : PySem.W.codeIn K cd28 "_law_store_by" = true) (k28 : PySem.W.keepIn K (.ref f28) = true)
    (a29 : PySem.W.nsIn K mainGlobals "_law_value" = some (some (.ref f29))) (l29 : K.lookup f29 = some ⟨oc29, od29, .func (PySem.W.fnOf "_law_value" "_law_value" (defArgs s__law_value) (defBody s__law_value) (defScope s__law_value) .none kV29 dc29 pm29 an29 cd29 ct29), sl29⟩) (c29 : PySem.W.codeIn K cd29 "_law_value" = true) (k29 : PySem.W.keepIn K (.ref f29) = true)
    (a30 : PySem.W.nsIn K mainGlobals "_law_stand" = some (some (.ref f30))) (l30 : K.lookup f30 = some ⟨oc30, od30, .func (PySem.W.fnOf "_law_stand" "_law_stand" (defArgs s__law_stand) (defBody s__law_stand) (defScope s__law_stand) .none kV30 dc30 pm30 an30 cd30 ct30), sl30⟩) (c30 : PySem.W.codeIn K cd30 "_law_stand" = true) (k30 : PySem.W.keepIn K (.ref f30) = true)
    (a31 : PySem.W.nsIn K mainGlobals "_law_with" = some (some (.ref f31))) (l31 : K.lookup f31 = some ⟨oc31, od31, .func (PySem.W.fnOf "_law_with" "_law_with" (defArgs s__law_with) (defBody s__law_with) (defScope s__law_with) .none kV31 dc31 pm31 an31 cd31 ct31), sl31⟩) (c31 : PySem.W.codeIn K cd31 "_law_with" = true) (k31 : PySem.W.keepIn K (.ref f31) = true)
    (a32 : PySem.W.nsIn K mainGlobals "_law_done" = some (some (.ref f32))) (l32 : K.lookup f32 = some ⟨oc32, od32, .func (PySem.W.fnOf "_law_done" "_law_done" (defArgs s__law_done) (defBody s__law_done) (defScope s__law_done) .none kV32 dc32 pm32 an32 cd32 ct32), sl32⟩) (c32 : PySem.W.codeIn K cd32 "_law_done" = true) (k32 : PySem.W.keepIn K (.ref f32) = true)
    (a33 : PySem.W.nsIn K mainGlobals "_law_applied" = some (some (.ref f33))) (l33 : K.lookup f33 = some ⟨oc33, od33, .func (PySem.W.fnOf "_law_applied" "_law_applied" (defArgs s__law_applied) (defBody s__law_applied) (defScope s__law_applied) .none kV33 dc33 pm33 an33 cd33 ct33), sl33⟩) (c33 : PySem.W.codeIn K cd33 "_law_applied" = true) (k33 : PySem.W.keepIn K (.ref f33) = true)
    (a34 : PySem.W.nsIn K mainGlobals "_law_replayed" = some (some (.ref f34))) (l34 : K.lookup f34 = some ⟨oc34, od34, .func (PySem.W.fnOf "_law_replayed" "_law_replayed" (defArgs s__law_replayed) (defBody s__law_replayed) (defScope s__law_replayed) .none kV34 dc34 pm34 an34 cd34 ct34), sl34⟩) (c34 : PySem.W.codeIn K cd34 "_law_replayed" = true) (k34 : PySem.W.keepIn K (.ref f34) = true)
    (a35 : PySem.W.nsIn K mainGlobals "_law_whole" = some (some (.ref f35))) (l35 : K.lookup f35 = some ⟨oc35, od35, .func (PySem.W.fnOf "_law_whole" "_law_whole" (defArgs s__law_whole) (defBody s__law_whole) (defScope s__law_whole) .none kV35 dc35 pm35 an35 cd35 ct35), sl35⟩) (c35 : PySem.W.codeIn K cd35 "_law_whole" = true) (k35 : PySem.W.keepIn K (.ref f35) = true)
    (a36 : PySem.W.nsIn K mainGlobals "_law_rows" = some (some (.ref f36))) (l36 : K.lookup f36 = some ⟨oc36, od36, .func (PySem.W.fnOf "_law_rows" "_law_rows" (defArgs s__law_rows) (defBody s__law_rows) (defScope s__law_rows) .none kV36 dc36 pm36 an36 cd36 ct36), sl36⟩) (c36 : PySem.W.codeIn K cd36 "_law_rows" = true) (k36 : PySem.W.keepIn K (.ref f36) = true)
    (a37 : PySem.W.nsIn K mainGlobals "_law_same" = some (some (.ref f37))) (l37 : K.lookup f37 = some ⟨oc37, od37, .func (PySem.W.fnOf "_law_same" "_law_same" (defArgs s__law_same) (defBody s__law_same) (defScope s__law_same) .none kV37 dc37 pm37 an37 cd37 ct37), sl37⟩) (c37 : PySem.W.codeIn K cd37 "_law_same" = true) (k37 : PySem.W.keepIn K (.ref f37) = true)
    (a38 : PySem.W.nsIn K mainGlobals "_law_row_by" = some (some (.ref f38))) (l38 : K.lookup f38 = some ⟨oc38, od38, .func (PySem.W.fnOf "_law_row_by" "_law_row_by" (defArgs s__law_row_by) (defBody s__law_row_by) (defScope s__law_row_by) .none kV38 dc38 pm38 an38 cd38 ct38), sl38⟩) (c38 : PySem.W.codeIn K cd38 "_law_row_by" = true) (k38 : PySem.W.keepIn K (.ref f38) = true)
    (a39 : PySem.W.nsIn K mainGlobals "_law_is_pack" = some (some (.ref f39))) (l39 : K.lookup f39 = some ⟨oc39, od39, .func (PySem.W.fnOf "_law_is_pack" "_law_is_pack" (defArgs s__law_is_pack) (defBody s__law_is_pack) (defScope s__law_is_pack) .none kV39 dc39 pm39 an39 cd39 ct39), sl39⟩) (c39 : PySem.W.codeIn K cd39 "_law_is_pack" = true) (k39 : PySem.W.keepIn K (.ref f39) = true)
    (a40 : PySem.W.nsIn K mainGlobals "_law_due" = some (some (.ref f40))) (l40 : K.lookup f40 = some ⟨oc40, od40, .func (PySem.W.fnOf "_law_due" "_law_due" (defArgs s__law_due) (defBody s__law_due) (defScope s__law_due) .none kV40 dc40 pm40 an40 cd40 ct40), sl40⟩) (c40 : PySem.W.codeIn K cd40 "_law_due" = true) (k40 : PySem.W.keepIn K (.ref f40) = true)
    (a41 : PySem.W.nsIn K mainGlobals "_law_told" = some (some (.ref f41))) (l41 : K.lookup f41 = some ⟨oc41, od41, .func (PySem.W.fnOf "_law_told" "_law_told" (defArgs s__law_told) (defBody s__law_told) (defScope s__law_told) .none kV41 dc41 pm41 an41 cd41 ct41), sl41⟩) (c41 : PySem.W.codeIn K cd41 "_law_told" = true) (k41 : PySem.W.keepIn K (.ref f41) = true)
    (a42 : PySem.W.nsIn K mainGlobals "law" = some (some (.ref f42))) (l42 : K.lookup f42 = some ⟨oc42, od42, .func (PySem.W.fnOf "law" "law" (defArgs sLaw) (defBody sLaw) (defScope sLaw) .none kV42 dc42 pm42 an42 cd42 ct42), sl42⟩) (c42 : PySem.W.codeIn K cd42 "law" = true) (k42 : PySem.W.keepIn K (.ref f42) = true)
    {cP cL cA cB cC cD : Addr} {ccx : PySem.ClassData}
    (ncP : PySem.W.nsIn K mainGlobals "NoPlace" = some (some (.ref cP))) (ncL : PySem.W.nsIn K mainGlobals "LogError" = some (some (.ref cL))) (ncA : PySem.W.nsIn K mainGlobals "NoLetter" = some (some (.ref cA))) (ncB : PySem.W.nsIn K mainGlobals "NoKeeper" = some (some (.ref cB))) (ncC : PySem.W.nsIn K mainGlobals "NoRoom" = some (some (.ref cC))) (ncD : PySem.W.nsIn K mainGlobals "NoSchedule" = some (some (.ref cD))) (nV : PySem.W.nsIn K mainGlobals "ValueError" = some none)
    (xP : PySem.W.excIn K cP mroV "ValueError.__new__" = true) (xe : PySem.W.exmOne K (.ref cP) (.ref cL) = some true) (xga : PySem.W.findIn K (.ref cP) "__getattribute__" = some (some (.builtin "BaseException.__getattribute__"))) (xgn : PySem.W.findIn K (.ref cP) "__getattr__" = some none) (xcl : PySem.W.findIn K (.ref cP) "__class__" = some (some (.builtin "object.__class__")))
    (xgt : PySem.W.specialIn K (.builtin "object.__class__") "__get__" = some (some (.builtin "getset_descriptor.__get__"))) (xtk : PySem.W.takesIn K (.builtin "object.__class__") = some true) (xmo : PySem.W.mroIn K cP (.type "object") = some true) (xmb : PySem.W.mroIn K cP (.type "BaseException") = some true) (xci : PySem.W.clsIn K cP = some ccx)
    (xk1 : PySem.W.kitOne K (.ref cP) (.ref cP) = some true) (xk2 : PySem.W.kitOne K (.ref cP) (.type "ValueError") = some true) (xk3 : PySem.W.kitAny K (.ref cP) [Value.ref cA, Value.ref cB, Value.ref cC, Value.ref cD] = some false)
    (yP : PySem.W.exmOne K (.ref cP) (.ref cP) = some true) (yL : PySem.W.kitOne K (.ref cP) (.ref cL) = some true) (y4 : PySem.W.kitAny K (.ref cP) [Value.ref cB, Value.ref cA, Value.ref cC, Value.ref cD] = some false)
    (z0 : PySem.W.nsIn K mainGlobals "isinstance" = some none) (z1 : PySem.W.nsIn K mainGlobals "int" = some none) (z2 : PySem.W.nsIn K mainGlobals "bool" = some none) (z3 : PySem.W.nsIn K mainGlobals "str" = some none) (z4 : PySem.W.nsIn K mainGlobals "tuple" = some none) (z5 : PySem.W.nsIn K mainGlobals "list" = some none) (z6 : PySem.W.nsIn K mainGlobals "all" = some none) (z7 : PySem.W.nsIn K mainGlobals "zip" = some none) (z8 : PySem.W.nsIn K mainGlobals "len" = some none) (z9 : PySem.W.nsIn K mainGlobals "range" = some none) (z10 : PySem.W.nsIn K mainGlobals "max" = some none) (z11 : PySem.W.nsIn K mainGlobals "min" = some none) (z12 : PySem.W.nsIn K mainGlobals "sorted" = some none) (z13 : PySem.W.nsIn K mainGlobals "any" = some none) (z14 : PySem.W.nsIn K mainGlobals "sum" = some none) :
    ∃ fd : FuncData, (∀ (s : Shared) (v : Value), BindsTo s fd ⟨[v], []⟩ [("_law_script", v)]) ∧ ∀ base : Heap, K.In base → base.Ns mainGlobals mg → FnOk l.prog w K mg base CX0 9 fa fd ["_law_script"] (spLaw K) := by
  have e := hfa.symm.trans (PySem.W.mg_of X G a42)
  cases e
  have T : Txt mg := ⟨PySem.W.mg_none_of X G z0, PySem.W.mg_none_of X G z1, PySem.W.mg_none_of X G z2, PySem.W.mg_none_of X G z3, PySem.W.mg_none_of X G z4, PySem.W.mg_none_of X G z5, PySem.W.mg_none_of X G z6, PySem.W.mg_none_of X G z7, PySem.W.mg_none_of X G z8, PySem.W.mg_none_of X G z9, PySem.W.mg_none_of X G z10, PySem.W.mg_none_of X G z11, PySem.W.mg_none_of X G z12, PySem.W.mg_none_of X G z13, PySem.W.mg_none_of X G z14⟩
  have Y : ExcG K cP cL cA cB cC cD := ⟨yP, yL, y4⟩
  have Z : ExcF K mg cP cL cA cB cC cD := ⟨PySem.W.mg_of X G ncP, PySem.W.mg_of X G ncL, PySem.W.mg_of X G ncA, PySem.W.mg_of X G ncB, PySem.W.mg_of X G ncC, PySem.W.mg_of X G ncD, PySem.W.mg_none_of X G nV, xP, xe, ⟨xga, xgn, xcl, xgt, xtk, xmo, xmb⟩, by rw [xci]; rfl, xk1, xk2, xk3⟩
  have hmx := PySem.W.mg_none_of X G z10
  have hso := PySem.W.mg_none_of X G z12
  have F0 := fun_mk (st := s_end_of) l0 c0 k0
  have m0 := PySem.W.mg_of X G a0
  have b0 := F0.binds (ps := ["row"]) fun _ _ _ _ _ _ us hl => match us, hl with | [_], _ => rfl
  have F1 := fun_mk (st := s_entry_at) l1 c1 k1
  have m1 := PySem.W.mg_of X G a1
  have b1 := F1.binds (ps := ["row", "place"]) fun _ _ _ _ _ _ us hl => match us, hl with | [_, _], _ => rfl
  have F2 := fun_mk (st := s_term_at) l2 c2 k2
  have m2 := PySem.W.mg_of X G a2
  have b2 := F2.binds (ps := ["row", "place"]) fun _ _ _ _ _ _ us hl => match us, hl with | [_, _], _ => rfl
  have F3 := fun_mk (st := s_behind) l3 c3 k3
  have m3 := PySem.W.mg_of X G a3
  have b3 := F3.binds (ps := ["row", "place", "many"]) fun _ _ _ _ _ _ us hl => match us, hl with | [_, _, _], _ => rfl
  have F4 := fun_mk (st := s_holds_seats) l4 c4 k4
  have m4 := PySem.W.mg_of X G a4
  have b4 := F4.binds (ps := ["entry"]) fun _ _ _ _ _ _ us hl => match us, hl with | [_], _ => rfl
  have F5 := fun_mk (st := s_seats_of) l5 c5 k5
  have m5 := PySem.W.mg_of X G a5
  have b5 := F5.binds (ps := ["row", "first"]) fun _ _ _ _ _ _ us hl => match us, hl with | [_, _], _ => rfl
  have F6 := fun_mk (st := s_fresh) l6 c6 k6
  have m6 := PySem.W.mg_of X G a6
  have b6 := F6.binds (ps := []) fun _ _ _ _ _ _ us hl => match us, hl with | [], _ => rfl
  have F7 := fun_mk (st := s_part_of) l7 c7 k7
  have m7 := PySem.W.mg_of X G a7
  have b7 := F7.binds (ps := ["parts", "name"]) fun _ _ _ _ _ _ us hl => match us, hl with | [_, _], _ => rfl
  have F8 := fun_mk (st := s_with_part) l8 c8 k8
  have m8 := PySem.W.mg_of X G a8
  have b8 := F8.binds (ps := ["parts", "part"]) fun _ _ _ _ _ _ us hl => match us, hl with | [_, _], _ => rfl
  have F9 := fun_mk (st := s_number_at) l9 c9 k9
  have m9 := PySem.W.mg_of X G a9
  have b9 := F9.binds (ps := ["parts", "name"]) fun _ _ _ _ _ _ us hl => match us, hl with | [_, _], _ => rfl
  have F10 := fun_mk (st := s_value_of) l10 c10 k10
  have m10 := PySem.W.mg_of X G a10
  have b10 := F10.binds (ps := ["store", "name"]) fun _ _ _ _ _ _ us hl => match us, hl with | [_, _], _ => rfl
  have F11 := fun_mk (st := s_with_value) l11 c11 k11
  have m11 := PySem.W.mg_of X G a11
  have b11 := F11.binds (ps := ["store", "name", "value"]) fun _ _ _ _ _ _ us hl => match us, hl with | [_, _, _], _ => rfl
  have F12 := fun_mk (st := s_done) l12 c12 k12
  have m12 := PySem.W.mg_of X G a12
  have b12 := F12.binds (ps := ["store", "deed"]) fun _ _ _ _ _ _ us hl => match us, hl with | [_, _], _ => rfl
  have F13 := fun_mk (st := s_number_of) l13 c13 k13
  have m13 := PySem.W.mg_of X G a13
  have b13 := F13.binds (ps := ["store", "caller"]) fun _ _ _ _ _ _ us hl => match us, hl with | [_, _], _ => rfl
  have F14 := fun_mk (st := s_applied) l14 c14 k14
  have m14 := PySem.W.mg_of X G a14
  have b14 := F14.binds (ps := ["store", "what"]) fun _ _ _ _ _ _ us hl => match us, hl with | [_, _], _ => rfl
  have F15 := fun_mk (st := s_replayed) l15 c15 k15
  have m15 := PySem.W.mg_of X G a15
  have b15 := F15.binds (ps := ["store", "entries"]) fun _ _ _ _ _ _ us hl => match us, hl with | [_, _], _ => rfl
  have F16 := fun_mk (st := s_first_pack) l16 c16 k16
  have m16 := PySem.W.mg_of X G a16
  have b16 := F16.binds (ps := ["seats"]) fun _ _ _ _ _ _ us hl => match us, hl with | [_], _ => rfl
  have F17 := fun_mk (st := s_pack_at) l17 c17 k17
  have m17 := PySem.W.mg_of X G a17
  have b17 := F17.binds (ps := ["pack", "row", "place"]) fun _ _ _ _ _ _ us hl => match us, hl with | [_, _, _], _ => rfl
  have F18 := fun_mk (st := sCell) l18 c18 k18
  have m18 := PySem.W.mg_of X G a18
  have b18 := F18.binds (ps := ["_law_script", "_law_k"]) fun _ _ _ _ _ _ us hl => match us, hl with | [_, _], _ => rfl
  have F19 := fun_mk (st := sMixed) l19 c19 k19
  have m19 := PySem.W.mg_of X G a19
  have b19 := F19.binds (ps := ["_law_script", "_law_k"]) fun _ _ _ _ _ _ us hl => match us, hl with | [_, _], _ => rfl
  have F20 := fun_mk (st := s__law_alike_by) l20 c20 k20
  have m20 := PySem.W.mg_of X G a20
  have b20 := F20.binds (ps := ["_law_style", "_law_word", "_law_number"]) fun _ _ _ _ _ _ us hl => match us, hl with | [_, _, _], _ => rfl
  have F21 := fun_mk (st := sNameBy) l21 c21 k21
  have m21 := PySem.W.mg_of X G a21
  have b21 := F21.binds (ps := ["_law_script", "_law_number"]) fun _ _ _ _ _ _ us hl => match us, hl with | [_, _], _ => rfl
  have F22 := fun_mk (st := s__law_caller_by) l22 c22 k22
  have m22 := PySem.W.mg_of X G a22
  have b22 := F22.binds (ps := ["_law_script", "_law_number"]) fun _ _ _ _ _ _ us hl => match us, hl with | [_, _], _ => rfl
  have F23 := fun_mk (st := s__law_value_by) l23 c23 k23
  have m23 := PySem.W.mg_of X G a23
  have b23 := F23.binds (ps := ["_law_number"]) fun _ _ _ _ _ _ us hl => match us, hl with | [_], _ => rfl
  have F24 := fun_mk (st := s__law_deed_by) l24 c24 k24
  have m24 := PySem.W.mg_of X G a24
  have b24 := F24.binds (ps := ["_law_script", "_law_at"]) fun _ _ _ _ _ _ us hl => match us, hl with | [_, _], _ => rfl
  have F25 := fun_mk (st := sSeatsBy) l25 c25 k25
  have m25 := PySem.W.mg_of X G a25
  have b25 := F25.binds (ps := ["_law_number"]) fun _ _ _ _ _ _ us hl => match us, hl with | [_], _ => rfl
  have F26 := fun_mk (st := s__law_what_by) l26 c26 k26
  have m26 := PySem.W.mg_of X G a26
  have b26 := F26.binds (ps := ["_law_script", "_law_at"]) fun _ _ _ _ _ _ us hl => match us, hl with | [_, _], _ => rfl
  have F27 := fun_mk (st := s__law_many_by) l27 c27 k27
  have m27 := PySem.W.mg_of X G a27
  have b27 := F27.binds (ps := ["_law_cell", "_law_limit"]) fun _ _ _ _ _ _ us hl => match us, hl with | [_, _], _ => rfl
  have F28 := fun_mk (st := s__law_store_by) l28 c28 k28
  have m28 := PySem.W.mg_of X G a28
  have b28 := F28.binds (ps := ["_law_script", "_law_at"]) fun _ _ _ _ _ _ us hl => match us, hl with | [_, _], _ => rfl
  have F29 := fun_mk (st := s__law_value) l29 c29 k29
  have m29 := PySem.W.mg_of X G a29
  have b29 := F29.binds (ps := ["_law_store", "_law_name"]) fun _ _ _ _ _ _ us hl => match us, hl with | [_, _], _ => rfl
  have F30 := fun_mk (st := s__law_stand) l30 c30 k30
  have m30 := PySem.W.mg_of X G a30
  have b30 := F30.binds (ps := ["_law_store", "_law_caller"]) fun _ _ _ _ _ _ us hl => match us, hl with | [_, _], _ => rfl
  have F31 := fun_mk (st := s__law_with) l31 c31 k31
  have m31 := PySem.W.mg_of X G a31
  have b31 := F31.binds (ps := ["_law_rows_here", "_law_row"]) fun _ _ _ _ _ _ us hl => match us, hl with | [_, _], _ => rfl
  have F32 := fun_mk (st := s__law_done) l32 c32 k32
  have m32 := PySem.W.mg_of X G a32
  have b32 := F32.binds (ps := ["_law_store", "_law_deed"]) fun _ _ _ _ _ _ us hl => match us, hl with | [_, _], _ => rfl
  have F33 := fun_mk (st := s__law_applied) l33 c33 k33
  have m33 := PySem.W.mg_of X G a33
  have b33 := F33.binds (ps := ["_law_store", "_law_what"]) fun _ _ _ _ _ _ us hl => match us, hl with | [_, _], _ => rfl
  have F34 := fun_mk (st := s__law_replayed) l34 c34 k34
  have m34 := PySem.W.mg_of X G a34
  have b34 := F34.binds (ps := ["_law_store", "_law_entries"]) fun _ _ _ _ _ _ us hl => match us, hl with | [_, _], _ => rfl
  have F35 := fun_mk (st := s__law_whole) l35 c35 k35
  have m35 := PySem.W.mg_of X G a35
  have b35 := F35.binds (ps := ["_law_found"]) fun _ _ _ _ _ _ us hl => match us, hl with | [_], _ => rfl
  have F36 := fun_mk (st := s__law_rows) l36 c36 k36
  have m36 := PySem.W.mg_of X G a36
  have b36 := F36.binds (ps := ["_law_found", "_law_size"]) fun _ _ _ _ _ _ us hl => match us, hl with | [_, _], _ => rfl
  have F37 := fun_mk (st := s__law_same) l37 c37 k37
  have m37 := PySem.W.mg_of X G a37
  have b37 := F37.binds (ps := ["_law_found", "_law_due_here"]) fun _ _ _ _ _ _ us hl => match us, hl with | [_, _], _ => rfl
  have F38 := fun_mk (st := s__law_row_by) l38 c38 k38
  have m38 := PySem.W.mg_of X G a38
  have b38 := F38.binds (ps := ["_law_script", "_law_at", "_law_base", "_law_last"]) fun _ _ _ _ _ _ us hl => match us, hl with | [_, _, _, _], _ => rfl
  have F39 := fun_mk (st := s__law_is_pack) l39 c39 k39
  have m39 := PySem.W.mg_of X G a39
  have b39 := F39.binds (ps := ["_law_found", "_law_due_here"]) fun _ _ _ _ _ _ us hl => match us, hl with | [_, _], _ => rfl
  have F40 := fun_mk (st := s__law_due) l40 c40 k40
  have m40 := PySem.W.mg_of X G a40
  have b40 := F40.binds (ps := ["_law_pack", "_law_row", "_law_place"]) fun _ _ _ _ _ _ us hl => match us, hl with | [_, _, _], _ => rfl
  have F41 := fun_mk (st := s__law_told) l41 c41 k41
  have m41 := PySem.W.mg_of X G a41
  have b41 := F41.binds (ps := ["_law_pack", "_law_row", "_law_place"]) fun _ _ _ _ _ _ us hl => match us, hl with | [_, _, _], _ => rfl
  have F42 := fun_mk (st := sLaw) l42 c42 k42
  have m42 := PySem.W.mg_of X G a42
  have b42 := F42.binds (ps := ["_law_script"]) fun _ _ _ _ _ _ us hl => match us, hl with | [_], _ => rfl
  refine ⟨PySem.W.fnOf "law" "law" (defArgs sLaw) (defBody sLaw) (defScope sLaw) .none kV42 dc42 pm42 an42 cd42 ct42, fun s v => .of_eq rfl, fun base _ _ => ?_⟩
  have CC : Cal l.prog w K mg base "_law_cell_at" 1 ["_law_script", "_law_k"] (spCellF K) := cal F18 m18 b18 (ok_cellF F18 T)
  have CM : Cal l.prog w K mg base "_law_mixed" 2 ["_law_script", "_law_k"] (spMixF K) := cal F19 m19 b19 (ok_mixF F19 CC)
  have CAl : Cal l.prog w K mg base "_law_alike_by" 1 ["_law_style", "_law_word", "_law_number"] (spAl) := cal F20 m20 b20 (ok_al F20)
  have CN : Cal l.prog w K mg base "_law_name_by" 3 ["_law_script", "_law_number"] (spNmF K nmW) := cal F21 m21 b21 (ok_nmF F21 T CM CAl)
  have CL : Cal l.prog w K mg base "_law_caller_by" 3 ["_law_script", "_law_number"] (spNmF K clW) := cal F22 m22 b22 (ok_clF F22 T CM CAl)
  have CVb : Cal l.prog w K mg base "_law_value_by" 1 ["_law_number"] (spVal) := cal F23 m23 b23 (ok_val F23)
  have CDb : Cal l.prog w K mg base "_law_deed_by" 4 ["_law_script", "_law_at"] (spDeedF K) := cal F24 m24 b24 (ok_deedF F24 CM CN CVb)
  have CMb : Cal l.prog w K mg base "_law_many_by" 1 ["_law_cell", "_law_limit"] (spManyF) := cal F27 m27 b27 (ok_manyF F27)
  have CSb : Cal l.prog w K mg base "_law_store_by" 4 ["_law_script", "_law_at"] (spSto K) := cal F28 m28 b28 (ok_sto F28 T CC CM CN CL CVb CMb)
  have CLv : Cal l.prog w K mg base "_law_value" 1 ["_law_store", "_law_name"] (spValF K) := cal F29 m29 b29 (ok_valF F29 T)
  have CLw : Cal l.prog w K mg base "_law_with" 1 ["_law_rows_here", "_law_row"] (spWith K) := cal F31 m31 b31 (ok_with F31 T)
  have CLd : Cal l.prog w K mg base "_law_done" 2 ["_law_store", "_law_deed"] (spDoneF K) := cal F32 m32 b32 (ok_doneF F32 CLv CLw)
  have CW : Cal l.prog w K mg base "_law_whole" 1 ["_law_found"] (spWholeI) := cal F35 m35 b35 (ok_wholeI F35 T)
  have CLr : Cal l.prog w K mg base "_law_rows" 2 ["_law_found", "_law_size"] (spRowsL K) := cal F36 m36 b36 (ok_rowsL F36 T CW)
  have CLs : Cal l.prog w K mg base "_law_same" 3 ["_law_found", "_law_due_here"] (spSameL) := cal F37 m37 b37 (ok_sameL F37 T CLr)
  have CSt : Cal l.prog w K mg base "_law_seats_by" 1 ["_law_number"] (spSeatsF) := cal F25 m25 b25 (ok_seatsF F25 T)
  have CWb : Cal l.prog w K mg base "_law_what_by" 5 ["_law_script", "_law_at"] (spWhatF K) := cal F26 m26 b26 (ok_whatF F26 CM CSt CL CDb)
  have CSd : Cal l.prog w K mg base "_law_stand" 1 ["_law_store", "_law_caller"] (spStandF) := cal F30 m30 b30 (ok_standF F30)
  have CLa : Cal l.prog w K mg base "_law_applied" 3 ["_law_store", "_law_what"] (spApF K) := cal F33 m33 b33 (ok_apF F33 CSd CLd CLw)
  have CLp : Cal l.prog w K mg base "_law_replayed" 4 ["_law_store", "_law_entries"] (spRepF K) := cal F34 m34 b34 (ok_repL F34 CLa)
  have CPo : Cal l.prog w K mg base "part_of" 1 ["parts", "name"] (spPartOf) := cal F7 m7 b7 (ok_part_of F7)
  have CWp : Cal l.prog w K mg base "with_part" 1 ["parts", "part"] (spWith K) := cal F8 m8 b8 (ok_with_part F8 T)
  have CNa : Cal l.prog w K mg base "number_at" 2 ["parts", "name"] (spNumAt) := cal F9 m9 b9 (ok_number_at F9 CPo)
  have CVo : Cal l.prog w K mg base "value_of" 3 ["store", "name"] (spValF K) := cal F10 m10 b10 (ok_value_of F10 CNa)
  have CWv : Cal l.prog w K mg base "with_value" 2 ["store", "name", "value"] (spWithV K) := cal F11 m11 b11 (ok_with_value F11 CWp)
  have CDo : Cal l.prog w K mg base "done" 4 ["store", "deed"] (spDoneF K) := cal F12 m12 b12 (ok_done F12 CVo CWv)
  have CNo : Cal l.prog w K mg base "number_of" 3 ["store", "caller"] (spNumP) := cal F13 m13 b13 (ok_number_of F13 CNa)
  have CAp : Cal l.prog w K mg base "applied" 5 ["store", "what"] (spApF K) := cal F14 m14 b14 (ok_applied F14 CNo CDo CWp)
  have CRp : Cal l.prog w K mg base "replayed" 6 ["store", "entries"] (spRepF K) := cal F15 m15 b15 (ok_replayed F15 CAp)
  have CFr : Cal l.prog w K mg base "fresh" 1 [] (spFreshP K) := cal F6 m6 b6 (ok_fresh F6)
  have CFp : Cal l.prog w K mg base "first_pack" 2 ["seats"] (spFp) := cal F16 m16 b16 (ok_first_pack F16 CFr)
  have CEo : Cal l.prog w K mg base "end_of" 1 ["row"] (spEndP) := cal F0 m0 b0 (ok_end_of F0 T)
  have CBh : Cal l.prog w K mg base "behind" 2 ["row", "place", "many"] (spBehP) := cal F3 m3 b3 (ok_behindP F3 T CEo)
  have CHs : Cal l.prog w K mg base "holds_seats" 1 ["entry"] (spHoldP) := cal F4 m4 b4 (ok_holds F4)
  have CSo : Cal l.prog w K mg base "seats_of" 2 ["row", "first"] (spSeatsP) := cal F5 m5 b5 (ok_seats_of F5 CHs)
  have CEa : CalE l.prog w K mg base "entry_at" 2 ["row", "place"] (spEntPE cP) := ⟨_, _, ok_entry_atPE Z F1 CEo, m1, F1.kp, b1⟩
  have CTa : CalE l.prog w K mg base "term_at" 3 ["row", "place"] (spTermPE cP) := ⟨_, _, ok_term_atPE F2 CEa, m2, F2.kp, b2⟩
  have CPk : CalE l.prog w K mg base "pack_at" 7 ["pack", "row", "place"] (spPkE K cP) := ⟨_, _, ok_pack_atPE F17 CTa CBh CSo CRp, m17, F17.kp, b17⟩
  have CRb : Cal l.prog w K mg base "_law_row_by" 6 ["_law_script", "_law_at", "_law_base", "_law_last"] (spRowB K) := cal F38 m38 b38 (ok_rowB F38 T CC CM CMb CWb)
  have CIp : Cal l.prog w K mg base "_law_is_pack" 4 ["_law_found", "_law_due_here"] (spIsPk) := cal F39 m39 b39 (ok_isPk F39 T CW CLs)
  have CDu : Cal l.prog w K mg base "_law_due" 5 ["_law_pack", "_law_row", "_law_place"] (spPk K) := cal F40 m40 b40 (ok_dueP F40 CLp)
  have CTd : Cal l.prog w K mg base "_law_told" 8 ["_law_pack", "_law_row", "_law_place"] (spToldP K) := cal F41 m41 b41 (ok_told33 (LT := 7) (by decide) Z Y F41 T CPk CIp CDu)
  exact ok_law (LV := 8) (by decide) F42 T CM CSt CSb CRb CC CFp CIp CTd
theorem walk {l : PySem.W.OpenLaw} {q : Program} {loose : List Str} {XP : (Str → Option Value) → Heap → Prop} {YP : World → Heap → Prop} {d : DefRec} {K : Params → PySem.W.Frag} (hn : l.most = some 63) (hdf : d.params.defaults = [])
    (hY : ∀ (w : World) (h : Heap), YP w h → (K w.params).In h)
    (F : ∀ (w : World) (mg : Str → Option Value) (fa : Addr) (h : Heap), (K w.params).In h → h.Ns mainGlobals mg → mg d.name = some (.ref fa) →
      ∃ fd : FuncData, (∀ (s : Shared) (u : Value), BindsTo s fd ⟨[u], []⟩ [("_law_script", u)]) ∧ ∀ base : Heap, (K w.params).In base → base.Ns mainGlobals mg → FnOk l.prog w (K w.params) mg base CX0 9 fa fd ["_law_script"] (spLaw (K w.params))) :
    PySem.W.WalkO q loose XP YP l.row.toRowW d [] (fun f vs => PySem.call f vs) :=
  L2.walk_of (n := 63) (k := 9) (x := "_law_script") (CX := fun _ => CX0) (sp := fun w => spLaw (K w.params)) hn (by decide) hdf ⟨rfl, by decide, by decide⟩ hY F (fun _ _ a ns hl _ hS => ⟨a, ns, rfl, hS, hl, fun _ => rfl⟩) fun _ _ _ _ _ z => z
end K1
def PySem.W.Fast.tw5452556250047367908 : Unit := ()
def PySem.W.Fast.tw6339308009065766201 : Unit := ()
def PySem.W.Fast.tw9345632989479099151 : Unit := ()
def PySem.W.Fast.tw788480666140251237 : Unit := ()
def PySem.W.Fast.tw15001982151412545511 : Unit := ()
def PySem.W.Fast.tw3479991094000503115 : Unit := ()
def PySem.W.Fast.tw11312440962361028943 : Unit := ()
def PySem.W.Fast.tw14669004962533749951 : Unit := ()
def PySem.W.Fast.tw10443508687230250456 : Unit := ()
def PySem.W.Fast.tw3178287785894697229 : Unit := ()
def PySem.W.Fast.tw14201745364096256562 : Unit := ()
def PySem.W.Fast.tw13658147896913590005 : Unit := ()
def PySem.W.Fast.tw14647103835361780357 : Unit := ()
def PySem.W.Fast.tw9238862233532927134 : Unit := ()
def PySem.W.Fast.tw16813288912327918856 : Unit := ()
def PySem.W.Fast.tw16903075630610428448 : Unit := ()
def PySem.W.Fast.tw11812119197335931622 : Unit := ()
def PySem.W.Fast.tw7632167807389908723 : Unit := ()
def PySem.W.Fast.tw11494619686026035897 : Unit := ()
def PySem.W.Fast.tw16081522661290286691 : Unit := ()
def PySem.W.Fast.tw9649660628527401449 : Unit := ()
def PySem.W.Fast.tw5509397302494324411 : Unit := ()
def PySem.W.Fast.tw6869859832130471694 : Unit := ()
def PySem.W.Fast.tw8412271394628487922 : Unit := ()
def PySem.W.Fast.tw15648120175771969318 : Unit := ()
def PySem.W.Fast.tw11095445221904819983 : Unit := ()
def PySem.W.Fast.tw13116868484106100144 : Unit := ()
def PySem.W.Fast.tw15547962151447769028 : Unit := ()
open PySem PySem.W PyProof.Rows
set_option maxRecDepth 100000 in
set_option maxHeartbeats 0 in
theorem PySem.Challenge.cw_keeplog_k33_packs_holds : PySem.Challenge.rw_keeplog_k33_packs.Holds := by
  w_on; o_law; k_head; (case hw => w_witness2)
  k_fill
  refine K1.walk (l := PySem.Challenge.rw_keeplog_k33_packs) rfl rfl (fun w h Y => PySem.W.kIn_of Y) ?F
  case F =>
    intro w mg fa h KX G hmg
    refine' K1.all_mk KX G hmg ?a0 ?l0 ?c0 ?k0 ?a1 ?l1 ?c1 ?k1 ?a2 ?l2 ?c2 ?k2 ?a3 ?l3 ?c3 ?k3 ?a4 ?l4 ?c4 ?k4 ?a5 ?l5 ?c5 ?k5 ?a6 ?l6 ?c6 ?k6 ?a7 ?l7 ?c7 ?k7 ?a8 ?l8 ?c8 ?k8 ?a9 ?l9 ?c9 ?k9 ?a10 ?l10 ?c10 ?k10 ?a11 ?l11 ?c11 ?k11 ?a12 ?l12 ?c12 ?k12 ?a13 ?l13 ?c13 ?k13 ?a14 ?l14 ?c14 ?k14 ?a15 ?l15 ?c15 ?k15 ?a16 ?l16 ?c16 ?k16 ?a17 ?l17 ?c17 ?k17 ?a18 ?l18 ?c18 ?k18 ?a19 ?l19 ?c19 ?k19 ?a20 ?l20 ?c20 ?k20 ?a21 ?l21 ?c21 ?k21 ?a22 ?l22 ?c22 ?k22 ?a23 ?l23 ?c23 ?k23 ?a24 ?l24 ?c24 ?k24 ?a25 ?l25 ?c25 ?k25 ?a26 ?l26 ?c26 ?k26 ?a27 ?l27 ?c27 ?k27 ?a28 ?l28 ?c28 ?k28 ?a29 ?l29 ?c29 ?k29 ?a30 ?l30 ?c30 ?k30 ?a31 ?l31 ?c31 ?k31 ?a32 ?l32 ?c32 ?k32 ?a33 ?l33 ?c33 ?k33 ?a34 ?l34 ?c34 ?k34 ?a35 ?l35 ?c35 ?k35 ?a36 ?l36 ?c36 ?k36 ?a37 ?l37 ?c37 ?k37 ?a38 ?l38 ?c38 ?k38 ?a39 ?l39 ?c39 ?k39 ?a40 ?l40 ?c40 ?k40 ?a41 ?l41 ?c41 ?k41 ?a42 ?l42 ?c42 ?k42 ?ncP ?ncL ?ncA ?ncB ?ncC ?ncD ?nV ?xP ?xe ?xga ?xgn ?xcl ?xgt ?xtk ?xmo ?xmb ?xci ?xk1 ?xk2 ?xk3 ?yP ?yL ?y4 ?z0 ?z1 ?z2 ?z3 ?z4 ?z5 ?z6 ?z7 ?z8 ?z9 ?z10 ?z11 ?z12 ?z13 ?z14
    (case a0 => k_is)
    (case l0 => k_is)
    (case c0 => k_is)
    (case k0 => k_is)
    (case a1 => k_is)
    (case l1 => k_is)
    (case c1 => k_is)
    (case k1 => k_is)
    (case a2 => k_is)
    (case l2 => k_is)
    (case c2 => k_is)
    (case k2 => k_is)
    (case a3 => k_is)
    (case l3 => k_is)
    (case c3 => k_is)
    (case k3 => k_is)
    (case a4 => k_is)
    (case l4 => k_is)
    (case c4 => k_is)
    (case k4 => k_is)
    (case a5 => k_is)
    (case l5 => k_is)
    (case c5 => k_is)
    (case k5 => k_is)
    (case a6 => k_is)
    (case l6 => k_is)
    (case c6 => k_is)
    (case k6 => k_is)
    (case a7 => k_is)
    (case l7 => k_is)
    (case c7 => k_is)
    (case k7 => k_is)
    (case a8 => k_is)
    (case l8 => k_is)
    (case c8 => k_is)
    (case k8 => k_is)
    (case a9 => k_is)
    (case l9 => k_is)
    (case c9 => k_is)
    (case k9 => k_is)
    (case a10 => k_is)
    (case l10 => k_is)
    (case c10 => k_is)
    (case k10 => k_is)
    (case a11 => k_is)
    (case l11 => k_is)
    (case c11 => k_is)
    (case k11 => k_is)
    (case a12 => k_is)
    (case l12 => k_is)
    (case c12 => k_is)
    (case k12 => k_is)
    (case a13 => k_is)
    (case l13 => k_is)
    (case c13 => k_is)
    (case k13 => k_is)
    (case a14 => k_is)
    (case l14 => k_is)
    (case c14 => k_is)
    (case k14 => k_is)
    (case a15 => k_is)
    (case l15 => k_is)
    (case c15 => k_is)
    (case k15 => k_is)
    (case a16 => k_is)
    (case l16 => k_is)
    (case c16 => k_is)
    (case k16 => k_is)
    (case a17 => k_is)
    (case l17 => k_is)
    (case c17 => k_is)
    (case k17 => k_is)
    (case a18 => k_is)
    (case l18 => k_is)
    (case c18 => k_is)
    (case k18 => k_is)
    (case a19 => k_is)
    (case l19 => k_is)
    (case c19 => k_is)
    (case k19 => k_is)
    (case a20 => k_is)
    (case l20 => k_is)
    (case c20 => k_is)
    (case k20 => k_is)
    (case a21 => k_is)
    (case l21 => k_is)
    (case c21 => k_is)
    (case k21 => k_is)
    (case a22 => k_is)
    (case l22 => k_is)
    (case c22 => k_is)
    (case k22 => k_is)
    (case a23 => k_is)
    (case l23 => k_is)
    (case c23 => k_is)
    (case k23 => k_is)
    (case a24 => k_is)
    (case l24 => k_is)
    (case c24 => k_is)
    (case k24 => k_is)
    (case a25 => k_is)
    (case l25 => k_is)
    (case c25 => k_is)
    (case k25 => k_is)
    (case a26 => k_is)
    (case l26 => k_is)
    (case c26 => k_is)
    (case k26 => k_is)
    (case a27 => k_is)
    (case l27 => k_is)
    (case c27 => k_is)
    (case k27 => k_is)
    (case a28 => k_is)
    (case l28 => k_is)
    (case c28 => k_is)
    (case k28 => k_is)
    (case a29 => k_is)
    (case l29 => k_is)
    (case c29 => k_is)
    (case k29 => k_is)
    (case a30 => k_is)
    (case l30 => k_is)
    (case c30 => k_is)
    (case k30 => k_is)
    (case a31 => k_is)
    (case l31 => k_is)
    (case c31 => k_is)
    (case k31 => k_is)
    (case a32 => k_is)
    (case l32 => k_is)
    (case c32 => k_is)
    (case k32 => k_is)
    (case a33 => k_is)
    (case l33 => k_is)
    (case c33 => k_is)
    (case k33 => k_is)
    (case a34 => k_is)
    (case l34 => k_is)
    (case c34 => k_is)
    (case k34 => k_is)
    (case a35 => k_is)
    (case l35 => k_is)
    (case c35 => k_is)
    (case k35 => k_is)
    (case a36 => k_is)
    (case l36 => k_is)
    (case c36 => k_is)
    (case k36 => k_is)
    (case a37 => k_is)
    (case l37 => k_is)
    (case c37 => k_is)
    (case k37 => k_is)
    (case a38 => k_is)
    (case l38 => k_is)
    (case c38 => k_is)
    (case k38 => k_is)
    (case a39 => k_is)
    (case l39 => k_is)
    (case c39 => k_is)
    (case k39 => k_is)
    (case a40 => k_is)
    (case l40 => k_is)
    (case c40 => k_is)
    (case k40 => k_is)
    (case a41 => k_is)
    (case l41 => k_is)
    (case c41 => k_is)
    (case k41 => k_is)
    (case a42 => k_is)
    (case l42 => k_is)
    (case c42 => k_is)
    (case k42 => k_is)
    (case ncP => k_is)
    (case ncL => k_is)
    (case ncA => k_is)
    (case ncB => k_is)
    (case ncC => k_is)
    (case ncD => k_is)
    (case nV => k_is)
    (case xP => k_exc)
    (case xe => kts_exm)
    (case xga => k_is)
    (case xgn => k_is)
    (case xcl => k_is)
    (case xgt => k_is)
    (case xtk => k_is)
    (case xmo => k_is)
    (case xmb => k_is)
    (case xci => k_is)
    (case xk1 => kit_is)
    (case xk2 => kit_is)
    (case xk3 => kit_is)
    (case yP => kts_exm)
    (case yL => kit_is)
    (case y4 => kit_is)
    (case z0 => k_is)
    (case z1 => k_is)
    (case z2 => k_is)
    (case z3 => k_is)
    (case z4 => k_is)
    (case z5 => k_is)
    (case z6 => k_is)
    (case z7 => k_is)
    (case z8 => k_is)
    (case z9 => k_is)
    (case z10 => k_is)
    (case z11 => k_is)
    (case z12 => k_is)
    (case z13 => k_is)
    (case z14 => k_is)
