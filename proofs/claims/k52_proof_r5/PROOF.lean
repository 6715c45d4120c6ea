import PyProof.Rows.All
import Wide.All
import OpenK.AllK
import Wide.FinOn
import Lean
import PyProof.EqAt
import PyProof.EqKinds
import PyProof.TupleCall
import PySem.Challenge.RW_keeplog_k52_rooms_made
set_option Elab.async false
set_option linter.all false
set_option maxRecDepth 100000
/-! THE HAND LAYER, for ints, bools, texts, own classes, LISTS and tuples (index, slices, in, append, pop ..), calls, loops. Paste it whole ahead of your own text; what your proof does not reach may be deleted. -/
namespace L2
open PySem PySem.Spec PyProof.Rows

/-- a key: an int or a str -/
abbrev Key := Sum Int Str
def keyIs : Key → Value → Bool
  | .inl k, v => Value.isInt k v
  | .inr x, v => Value.isStrOf x v
def keyH (w : World) : Key → Int
  | .inl k => hashInt k
  | .inr x => hashStr w x
theorem keyIs_shape : ∀ {k : Key} {v : Value}, keyIs k v = true → (∃ i t, k = Sum.inl i ∧ v = Value.int i t) ∨ (∃ x t, k = Sum.inr x ∧ v = Value.str x t)
  | .inl i, v, h => by
    obtain ⟨t, e⟩ := Value.isInt_shape (k := i) (v := v) h
    exact .inl ⟨i, t, rfl, e⟩
  | .inr x, v, h => by
    obtain ⟨t, e⟩ := Value.isStrOf_shape (x := x) (v := v) h
    exact .inr ⟨x, t, rfl, e⟩
theorem keyIs_int (i : Int) (t : Tok) : keyIs (.inl i) (.int i t) = true := by simp [keyIs, Value.isInt]
theorem keyIs_str (x : Str) (t : Tok) : keyIs (.inr x) (.str x t) = true := by simp [keyIs, Value.isStrOf]
theorem key_ll (a b : Int) : decide ((Sum.inl a : Key) = Sum.inl b) = (a == b) := by
  by_cases e : a = b
  · subst e; simp
  · have h : ¬ (Sum.inl a : Key) = Sum.inl b := fun q => e (Sum.inl.inj q)
    rw [decide_eq_false h]
    exact (beq_eq_false_iff_ne.mpr e).symm
theorem key_rr (a b : Str) : decide ((Sum.inr a : Key) = Sum.inr b) = decide (a = b) := by
  by_cases e : a = b
  · subst e; simp
  · have h : ¬ (Sum.inr a : Key) = Sum.inr b := fun q => e (Sum.inr.inj q)
    rw [decide_eq_false h, decide_eq_false e]
theorem key_lr (a : Int) (b : Str) : decide ((Sum.inl a : Key) = Sum.inr b) = false := decide_eq_false (fun q => nomatch q)
theorem key_rl (a : Str) (b : Int) : decide ((Sum.inr a : Key) = Sum.inl b) = false := decide_eq_false (fun q => nomatch q)

def mixKind (prog : Program) (w : World) : PySem.KeyKind prog w Key where
  is := keyIs
  hash := keyH w
  inj := fun v a b ha hb => by
    rcases keyIs_shape ha with ⟨i, t, rfl, rfl⟩ | ⟨x, t, rfl, rfl⟩
    · rcases keyIs_shape hb with ⟨j, u, rfl, e⟩ | ⟨y, u, rfl, e⟩
      · injection e with e1 _; rw [e1]
      · exact nomatch e
    · rcases keyIs_shape hb with ⟨j, u, rfl, e⟩ | ⟨y, u, rfl, e⟩
      · exact nomatch e
      · injection e with e1 _; rw [e1]
  byValue := fun k v h => by
    rcases keyIs_shape h with ⟨i, t, rfl, rfl⟩ | ⟨x, t, rfl, rfl⟩ <;> rfl
  pyHash := fun hv h => by
    rcases keyIs_shape hv with ⟨i, t, rfl, rfl⟩ | ⟨x, t, rfl, rfl⟩
    · exact wpAny_pyHash_int h
    · exact wpAny_pyHash_str h
  eqBool := fun hu hv h => by
    rcases keyIs_shape hu with ⟨i, t, rfl, rfl⟩ | ⟨x, t, rfl, rfl⟩
    · rcases keyIs_shape hv with ⟨j, u, rfl, rfl⟩ | ⟨y, u, rfl, rfl⟩
      · rw [key_ll] at h; exact wpAny_eqBool_int h
      · rw [key_lr] at h; exact SeqAt.EqAt.int_str i t y u _ _ _ _ h
    · rcases keyIs_shape hv with ⟨j, u, rfl, rfl⟩ | ⟨y, u, rfl, rfl⟩
      · rw [key_rl] at h; exact SeqAt.EqAt.str_int x t j u _ _ _ _ h
      · rw [key_rr] at h; exact wpAny_eqBool_str h
  «strs» := fun k x t v h => by
    rcases keyIs_shape h with ⟨i, u, rfl, e⟩ | ⟨y, u, rfl, e⟩
    · exact nomatch e
    · injection e with e1 _
      subst e1
      cases v <;> rfl

theorem mixKind_int (prog : Program) (w : World) (i : Int) (t : Tok) : (mixKind prog w).is (.inl i) (.int i t) = true := keyIs_int i t
theorem mixKind_str (prog : Program) (w : World) (x : Str) (t : Tok) : (mixKind prog w).is (.inr x) (.str x t) = true := keyIs_str x t
end L2

namespace L2
open PySem PySem.Spec PyProof.Rows

/-- a value, without the heap -/
inductive V where
  | non | bl (b : Bool) | int (i : Int) | str (x : Str) | byt (b : Array UInt8) | flt (b : UInt64) | ref (a : Addr) | ty (n : String)
  deriving DecidableEq

def RelV : V → Value → Prop
  | .non, u => u = Value.none
  | .bl b, u => u = Value.bool b
  | .int i, u => ∃ t, u = Value.int i t
  | .str x, u => ∃ t, u = Value.str x t
  | .byt b, u => ∃ t, u = Value.bytes b t
  | .flt b, u => ∃ t, u = Value.float b t
  | .ref a, u => u = Value.ref a
  | .ty n, u => u = Value.type n

abbrev Vals : List V → List Value → Prop := Paired RelV
theorem Vals.length {xs : List V} {us : List Value} (r : Vals xs us) : xs.length = us.length := Paired.length r
theorem Vals.get : ∀ {xs : List V} {us : List Value} {i : Nat} {x : V}, Vals xs us → xs[i]? = some x → ∃ u, us[i]? = some u ∧ RelV x u
  | _, _, _, _, .nil, e => by simp at e
  | _, _, 0, _, .cons r _, e => by simp at e; subst e; exact ⟨_, rfl, r⟩
  | _, _, i + 1, x, .cons _ t, e => by
    obtain ⟨u, h1, h2⟩ := Vals.get (i := i) (x := x) t (by simpa using e)
    exact ⟨u, by simpa using h1, h2⟩
theorem Vals.set {x : V} {u : Value} (r : RelV x u) : ∀ {xs : List V} {us : List Value} (i : Nat), Vals xs us → Vals (xs.set i x) (us.set i u)
  | _, _, _, .nil => .nil
  | _, _, 0, .cons _ t => .cons r t
  | _, _, i + 1, .cons q t => .cons q (Vals.set r i t)
theorem Vals.append : ∀ {xs ys : List V} {us ws : List Value}, Vals xs us → Vals ys ws → Vals (xs ++ ys) (us ++ ws)
  | _, _, _, _, .nil, s => s
  | _, _, _, _, .cons r t, s => .cons r (Vals.append t s)
theorem Vals.take : ∀ {xs : List V} {us : List Value} (n : Nat), Vals xs us → Vals (xs.take n) (us.take n)
  | _, _, 0, _ => .nil
  | _, _, _ + 1, .nil => .nil
  | _, _, n + 1, .cons r t => .cons r (Vals.take n t)
theorem Vals.drop : ∀ {xs : List V} {us : List Value} (n : Nat), Vals xs us → Vals (xs.drop n) (us.drop n)
  | _, _, 0, r => r
  | _, _, _ + 1, .nil => .nil
  | _, _, n + 1, .cons _ t => Vals.drop n t
theorem Vals.none_of : ∀ {xs : List V} {us : List Value} {i : Nat}, Vals xs us → xs[i]? = none → us[i]? = none := fun {xs us i} r e => by
  have h1 := r.length
  have h2 : xs.length ≤ i := List.getElem?_eq_none_iff.mp e
  exact List.getElem?_eq_none_iff.mpr (by omega)

def RelO : Option V → Option Value → Prop
  | some v, some u => RelV v u
  | none, none => True
  | _, _ => False
def KV {κ : Type} : List (κ × V) → List (κ × Value) → Prop := Paired fun (p : κ × V) (q : κ × Value) => p.1 = q.1 ∧ RelV p.2 q.2

/-- a key of a dict (00_mix): an int or a text -/
def kV : Key → V
  | .inl i => .int i
  | .inr x => .str x

/-- what stands at a tracked address -/
inductive HO where
  /-- a list -/
  | lst (xs : List V)
  /-- a tuple (never changes) -/
  | tup (xs : List V)
  /-- a dict whose keys are ints and texts; one whose keys are tuples of ints and texts (the empty one is both) -/
  | dK (kvs : List (Key × V)) | dT (kvs : List (List Key × V))
  /-- a set of ints: its members, its size -/
  | set (S : Int → Bool) (n : Nat)
  /-- an instance of the class at C, its dict at dx, its attributes -/
  | ins (C dx : Addr) (fs : List (Str × V))
  /-- the dict of the instance at x -/
  | own (x : Addr)
  /-- the dict of an exception -/
  | xd (fs : List (Str × V))
  /-- a bound method, f of x -/
  | met (f x : Addr)
  /-- a range object lo, lo + 1, .. below hi -/
  | rng (lo hi : Int)
  /-- a thing that is known to the object (the script; a dict while a loop walks it): read, never written while it is so -/
  | frz (o : Obj) (u : HO)
  /-- a code object's table -/
  | tbl (ps : Array Value)
  /-- any other thing, by what is true of its one object (a def of one's own: SetO a S n := HO.ext fun h => ..) -/
  | ext (φ : Heap → Prop)

abbrev Hp := Addr → Option HO
def upd (H : Hp) (a : Addr) (o : HO) : Hp := fun b => if b = a then some o else H b
theorem upd_same {H : Hp} {a : Addr} {o : HO} : upd H a o a = some o := by unfold upd; rw [if_pos rfl]
theorem upd_ne {H : Hp} {a b : Addr} {o : HO} (h : b ≠ a) : upd H a o b = H b := by unfold upd; rw [if_neg h]
theorem ne_of_none {H : Hp} {a b : Addr} {o : HO} (h : H a = some o) (h' : H b = none) : a ≠ b := by
  intro e; subst e; rw [h] at h'; cases h'

section
variable (P : Program) (w : World)
def ObjOk (H : Hp) (h : Heap) (a : Addr) : HO → Prop
  | .lst xs => xs.length ≤ sizeLine ∧ ∃ (its : List Value) (n : Nat), Vals xs its ∧ h.get? a = some { cls := .type "list", data := .seq its.toArray n }
  | .tup xs => xs.length ≤ sizeLine ∧ ∃ its : List Value, Vals xs its ∧ IsTup h a its.toArray
  | .dK kvs => kvs.length ≤ sizeLine ∧ (a == sysModules) = false ∧ ∃ vs, KV kvs vs ∧ h.DictOf (mixKind P w) a vs
  | .dT kvs => kvs.length ≤ sizeLine ∧ (a == sysModules) = false ∧ ∃ xs : List (List Key × Addr × Value),
      Paired (fun (p : List Key × V) (q : List Key × Addr × Value) => p.1 = q.1 ∧ H q.2.1 = some (.tup (p.1.map kV)) ∧ RelV p.2 q.2.2) kvs xs ∧
      ∃ o es ep, h.get? a = some o ∧ o.ExactDict ∧ o.data = .dict es ep ∧ es.toList = xs.map (entryOfKey (tupleKind (mixKind P w))) ∧ (xs.map (·.1)).Nodup
  | .set S n => h.SetOf (intKind P w) a S n
  | .ins C dx fs => H dx = some (.own a) ∧ fs.length ≤ 1000 ∧ dx ≠ a ∧ h.get? a = some (PySem.W.instObj C dx) ∧
      ∃ mA, h.Ns1 dx mA ∧ (∀ f, RelO (fs.lookup f) (mA f)) ∧ PySem.Within mA (fs.map (·.1))
  | .own _ => ∃ o, h.get? a = some o
  | .xd fs => ∃ mA, h.Ns1 a mA ∧ ∀ f, RelO (fs.lookup f) (mA f)
  | .rng lo hi => ∃ t u v, h.get? a = some { cls := .type "range", data := .fields #[.int lo t, .int hi u, .int 1 v] }
  | .frz o u => h.get? a = some o ∧ ObjOk H h a u
  | .tbl ps => h.get? a = some { cls := .none, data := .fields ps }
  | .met f x => h.get? a = some (PySem.W.methodObj (.ref f) (.ref x))
  | .ext φ => φ h ∧ (∃ o, h.get? a = some o) ∧ ∀ h1 h2 : Heap, φ h1 → (∀ o, h1.get? a = some o → h2.get? a = some o) → φ h2
/-- the abstract heap is held -/
def HOk (H : Hp) (h : Heap) : Prop := ∀ a o, H a = some o → ObjOk P w H h a o
end

section
variable {P : Program} {w : World} {H H' : Hp} {h h' : Heap} {a : Addr} {o : HO}
theorem ObjOk.lt (x : ObjOk P w H h a o) : a < h.objs.size := by
  cases o with
  | lst xs => obtain ⟨_, _, _, _, e⟩ := x; exact Heap.lt_size e
  | tup xs => obtain ⟨_, _, _, p⟩ := x; exact p.lt
  | dK kvs => obtain ⟨_, _, _, _, o, _, _, e, _⟩ := x; exact Heap.lt_size e
  | dT kvs => obtain ⟨_, _, _, _, o, _, _, e, _⟩ := x; exact Heap.lt_size e
  | set S n => obtain ⟨o, _, _, _, e, _⟩ := x; exact Heap.lt_size e
  | ins C dx fs => obtain ⟨_, _, _, e, _⟩ := x; exact Heap.lt_size e
  | own y => obtain ⟨_, e⟩ := x; exact Heap.lt_size e
  | xd fs => obtain ⟨_, ⟨_, _, _, e, _⟩, _⟩ := x; exact Heap.lt_size e
  | rng lo hi => obtain ⟨_, _, _, e⟩ := x; exact Heap.lt_size e
  | frz ob u => obtain ⟨e, _⟩ := x; exact Heap.lt_size e
  | tbl ps => exact Heap.lt_size (show h.get? a = some _ from x)
  | met f y => exact Heap.lt_size (show h.get? a = some _ from x)
  | ext φ => obtain ⟨_, ⟨_, e⟩, _⟩ := x; exact Heap.lt_size e
theorem Paired.mapP {α β : Type} {F G : α → β → Prop} : ∀ {l₁ : List α} {l₂ : List β}, Paired F l₁ l₂ → (∀ a b, F a b → G a b) → Paired G l₁ l₂
  | _, _, .nil, _ => .nil
  | _, _, .cons r t, f => .cons (f _ _ r) (Paired.mapP t f)
/-- what an object's description leans on: its own object, its own dict, the tuples -/
theorem ObjOk.stay (x : ObjOk P w H h a o) (k : ∀ b u, (b = a ∨ H b = some (.own a)) → h.get? b = some u → h'.get? b = some u)
    (ho : ∀ b, H b = some (.own a) → H' b = some (.own a)) (ht : ∀ b xs, H b = some (.tup xs) → H' b = some (.tup xs)) : ObjOk P w H' h' a o := by
  induction o with
  | lst xs => obtain ⟨z, its, n, r, e⟩ := x; exact ⟨z, its, n, r, k _ _ (.inl rfl) e⟩
  | tup xs => obtain ⟨z, its, r, ob, e, c⟩ := x; exact ⟨z, its, r, ob, k _ _ (.inl rfl) e, c⟩
  | dK kvs => obtain ⟨z, y, vs, r, ob, es, ep, e, c⟩ := x; exact ⟨z, y, vs, r, ob, es, ep, k _ _ (.inl rfl) e, c⟩
  | dT kvs =>
    obtain ⟨z, y, xs, r, ob, es, ep, e, c⟩ := x
    exact ⟨z, y, xs, Paired.mapP r fun p q z => ⟨z.1, ht _ _ z.2.1, z.2.2⟩, ob, es, ep, k _ _ (.inl rfl) e, c⟩
  | set S n => obtain ⟨ob, es, ep, t, e, c⟩ := x; exact ⟨ob, es, ep, t, k _ _ (.inl rfl) e, c⟩
  | ins C dx fs =>
    obtain ⟨d, z, ne, e, mA, ⟨od, es, ep, e2, c⟩, r⟩ := x
    exact ⟨ho _ d, z, ne, k _ _ (.inl rfl) e, mA, ⟨od, es, ep, k _ _ (.inr d) e2, c⟩, r⟩
  | own y => obtain ⟨ob, e⟩ := x; exact ⟨ob, k _ _ (.inl rfl) e⟩
  | xd fs => obtain ⟨mA, ⟨od, es, ep, e, c⟩, r⟩ := x; exact ⟨mA, ⟨od, es, ep, k _ _ (.inl rfl) e, c⟩, r⟩
  | rng lo hi => obtain ⟨t, u, v, e⟩ := x; exact ⟨t, u, v, k _ _ (.inl rfl) e⟩
  | frz ob u ih => obtain ⟨e, q⟩ := x; exact ⟨k _ _ (.inl rfl) e, ih q⟩
  | tbl ps =>
    have e : h.get? a = some { cls := .none, data := .fields ps } := x
    show h'.get? a = some { cls := .none, data := .fields ps }
    exact k a _ (.inl rfl) e
  | met f y =>
    have e : h.get? a = some (PySem.W.methodObj (.ref f) (.ref y)) := x
    show h'.get? a = some (PySem.W.methodObj (.ref f) (.ref y))
    exact k a _ (.inl rfl) e
  | ext φ => obtain ⟨p, ⟨o, e⟩, st⟩ := x; exact ⟨st _ _ p fun o q => k _ _ (.inl rfl) q, ⟨o, k _ _ (.inl rfl) e⟩, st⟩
theorem HOk.lt (x : HOk P w H h) (e : H a = some o) : a < h.objs.size := (x a o e).lt
theorem HOk.fresh (x : HOk P w H h) (e : h.objs.size ≤ a) : H a = none := by
  cases q : H a with
  | none => rfl
  | some u => exact absurd (Nat.lt_of_lt_of_le (x.lt q) e) (Nat.lt_irrefl _)
/-- every object of the heap is kept -/
theorem HOk.kept (x : HOk P w H h) (k : ∀ b u, h.get? b = some u → h'.get? b = some u) : HOk P w H h' := fun a o e =>
  (x a o e).stay (fun b u _ q => k b u q) (fun _ q => q) fun _ _ q => q
/-- a new object is laid and tracked -/
theorem HOk.laid (x : HOk P w H h) (k : ∀ b u, h.get? b = some u → h'.get? b = some u) (hp : h.objs.size ≤ a) (new : ObjOk P w (upd H a o) h' a o) : HOk P w (upd H a o) h' := fun b u e => by
  have hn := x.fresh hp
  by_cases hb : b = a
  · subst hb; rw [upd_same] at e; cases e; exact new
  · rw [upd_ne hb] at e
    exact (x b u e).stay (fun c v _ q => k c v q) (fun c q => by rw [upd_ne (ne_of_none q hn)]; exact q) fun c xs q => by rw [upd_ne (ne_of_none q hn)]; exact q
end

/-- what may be read as u: it is u, or a known u -/
def Rd (H : Hp) (a : Addr) (u : HO) : Prop := H a = some u ∨ ∃ o, H a = some (.frz o u)
theorem Rd.of {H : Hp} {a : Addr} {u : HO} (h : H a = some u) : Rd H a u := .inl h
theorem Rd.ok {P : Program} {w : World} {H : Hp} {h : Heap} {a : Addr} {u : HO} (r : Rd H a u) (x : HOk P w H h) : ObjOk P w H h a u := by
  rcases r with r | ⟨o, r⟩
  · exact x a u r
  · obtain ⟨_, q⟩ := x a _ r
    exact q
/-- what may be written -/
def Mut : Option HO → Prop
  | some (.lst _) => True
  | some (.dK _) => True
  | some (.dT _) => True
  | some (.set _ _) => True
  | some (.ins _ _ _) => True
  | some (.ext _) => True
  | _ => False
section
variable {P : Program} {w : World} {H : Hp} {h h' : Heap} {x e : Addr} {o' : HO}
/-- the object at e is changed: x itself, or the dict of the instance x -/
theorem HOk.write (ok : HOk P w H h) (mu : Mut (H x)) (he : e = x ∨ H e = some (.own x)) (k : ∀ b u, b ≠ e → h.get? b = some u → h'.get? b = some u) (heo : ∃ u, h'.get? e = some u)
    (new : ObjOk P w (upd H x o') h' x o') : HOk P w (upd H x o') h' := fun b u q => by
  have nown : ∀ c y, H c = some (.own y) → c ≠ x := fun c y r z => by subst z; rw [r] at mu; exact mu
  have ntup : ∀ c xs, H c = some (.tup xs) → c ≠ x := fun c xs r z => by subst z; rw [r] at mu; exact mu
  by_cases hb : b = x
  · subst hb; rw [upd_same] at q; cases q; exact new
  · rw [upd_ne hb] at q
    by_cases hbe : b = e
    · have q' : H b = some (.own x) := by
        rcases he with z | z
        · exact absurd (hbe.trans z) hb
        · rw [hbe]; exact z
      rw [q] at q'; cases q'
      obtain ⟨v, hv⟩ := heo
      exact ⟨v, by rw [hbe]; exact hv⟩
    · refine (ok b u q).stay (fun c v hc r => k c v ?_ r) (fun c r => by rw [upd_ne (nown c b r)]; exact r) fun c xs r => by rw [upd_ne (ntup c xs r)]; exact r
      rcases hc with rfl | hc
      · exact hbe
      · rintro rfl
        rcases he with z | z
        · exact nown c b hc z
        · rw [hc] at z; cases z; exact hb rfl
end

/-! ### kept unless tracked; of the frames at fs (the callers') the slots may change (an exception that passes writes there); of the records at ex (iterators) nothing is said -/
structure Un (fs ex : List Addr) (H H' : Hp) (h h' : Heap) : Prop where
  keep : ∀ b o, h.get? b = some o → H b = none → b ∉ fs → b ∉ ex → h'.get? b = some o
  slot : ∀ b o, h.get? b = some o → H b = none → b ∈ fs → b ∉ ex → ∃ sl, h'.get? b = some { o with slots := sl }
  free : ∀ b o, h.get? b = some o → H b = none → b ∉ ex → H' b = none
  there : ∀ b o, h.get? b = some o → b ∉ ex → ∃ o', h'.get? b = some o'
  tups : ∀ b xs, H b = some (.tup xs) → H' b = some (.tup xs)
  frzs : ∀ b o u, H b = some (.frz o u) → H' b = some (.frz o u)
  tbls : ∀ b ps, H b = some (.tbl ps) → ∃ more, H' b = some (.tbl (ps ++ more))
section
variable {fs fs' ex ex' : List Addr} {H H1 H2 : Hp} {h h1 h2 h' : Heap} {a x e : Addr} {o : HO}
theorem Un.any (u : Un fs ex H H1 h h1) {b : Addr} {ob : Obj} (q : h.get? b = some ob) (n : H b = none) (hx : b ∉ ex) : ∃ sl, h1.get? b = some { ob with slots := sl } := by
  by_cases hb : b ∈ fs
  · exact u.slot b ob q n hb hx
  · exact ⟨ob.slots, u.keep b ob q n hb hx⟩
theorem Un.trans (a : Un fs ex H H1 h h1) (b : Un fs ex H1 H2 h1 h2) : Un fs ex H H2 h h2 where
  keep := fun c ob q n hc hx => b.keep c ob (a.keep c ob q n hc hx) (a.free c ob q n hx) hc hx
  slot := fun c ob q n hc hx => by
    obtain ⟨sl, e1⟩ := a.slot c ob q n hc hx
    obtain ⟨sl', e2⟩ := b.slot c _ e1 (a.free c ob q n hx) hc hx
    exact ⟨sl', e2⟩
  free := fun c ob q n hx => by
    obtain ⟨o', e1⟩ := a.there c ob q hx
    exact b.free c o' e1 (a.free c ob q n hx) hx
  there := fun c ob q hx => by
    obtain ⟨o', e1⟩ := a.there c ob q hx
    exact b.there c o' e1 hx
  tups := fun c xs q => b.tups c xs (a.tups c xs q)
  frzs := fun c ob xs q => b.frzs c ob xs (a.frzs c ob xs q)
  tbls := fun c ps q => by
    obtain ⟨m1, e1⟩ := a.tbls c ps q
    obtain ⟨m2, e2⟩ := b.tbls c _ e1
    exact ⟨m1 ++ m2, by rw [e2, Array.append_assoc]⟩
theorem Un.kept (k : ∀ b u, h.get? b = some u → h'.get? b = some u) : Un fs ex H H h h' :=
  ⟨fun b ob q _ _ _ => k b ob q, fun b ob q _ _ _ => ⟨ob.slots, k b ob q⟩, fun _ _ _ n _ => n, fun b ob q _ => ⟨ob, k b ob q⟩, fun _ _ q => q, fun _ _ _ q => q, fun _ ps q => ⟨#[], by rw [q]; simp⟩⟩
theorem Un.refl : Un fs ex H H h h := Un.kept fun _ _ q => q
theorem Un.laid (k : ∀ b u, h.get? b = some u → h'.get? b = some u) (hp : h.objs.size ≤ a) (hn : H a = none) : Un fs ex H (upd H a o) h h' where
  keep := fun b u q _ _ _ => k b u q
  slot := fun b u q _ _ _ => ⟨u.slots, k b u q⟩
  free := fun b u q n _ => by rw [upd_ne (Nat.ne_of_lt (Nat.lt_of_lt_of_le (Heap.lt_size q) hp))]; exact n
  there := fun b u q _ => ⟨u, k b u q⟩
  tups := fun b xs q => by rw [upd_ne (ne_of_none q hn)]; exact q
  frzs := fun b u xs q => by rw [upd_ne (ne_of_none q hn)]; exact q
  tbls := fun b ps q => ⟨#[], by rw [upd_ne (ne_of_none q hn), q]; simp⟩
theorem Un.write (mu : Mut (H x)) (he : e = x ∨ H e = some (.own x)) (k : ∀ b u, b ≠ e → h.get? b = some u → h'.get? b = some u) (heo : ∃ u, h'.get? e = some u) : Un fs ex H (upd H x o) h h' := by
  have hx : ∀ b, H b = none → b ≠ x := fun b n z => by subst z; rw [n] at mu; exact mu
  have hb : ∀ b, H b = none → b ≠ e := fun b n z => by
    subst z
    rcases he with r | r
    · exact hx b n r
    · rw [n] at r; cases r
  have hm : ∀ b u, H b = some u → ¬ Mut (some u) → b ≠ x := fun b u q nm z => by subst z; rw [q] at mu; exact nm mu
  refine ⟨fun b u q n _ _ => k b u (hb b n) q, fun b u q n _ _ => ⟨u.slots, k b u (hb b n) q⟩, fun b u q n _ => by rw [upd_ne (hx b n)]; exact n, fun b u q _ => ?_,
    fun b xs q => by rw [upd_ne (hm b _ q fun z => z)]; exact q, fun b u xs q => by rw [upd_ne (hm b _ q fun z => z)]; exact q, fun b ps q => ⟨#[], by rw [upd_ne (hm b _ q fun z => z), q]; simp⟩⟩
  by_cases hbe : b = e
  · subst hbe; exact heo
  · exact ⟨u, k b u hbe q⟩
theorem Un.mono (u : Un fs ex H H1 h h1) (hs : ∀ b ∈ fs, b ∈ fs') (hx : ∀ b ∈ ex, b ∈ ex') : Un fs' ex' H H1 h h1 :=
  ⟨fun b ob q n hb he => u.keep b ob q n (fun z => hb (hs b z)) fun z => he (hx b z), fun _ _ q n _ he => u.any q n fun z => he (hx _ z), fun b ob q n he => u.free b ob q n fun z => he (hx b z), fun b ob q he => u.there b ob q fun z => he (hx b z), u.tups, u.frzs, u.tbls⟩
end

/-! ### the heap without what is tracked -/
def trk (h : Heap) (H : Hp) : List Addr := (List.range h.objs.size).filter fun a => (H a).isSome
def hidT (h : Heap) (H : Hp) : Heap := PySem.W.hideAll h (trk h H)
theorem hidT_size (h : Heap) (H : Hp) : (hidT h H).objs.size = h.objs.size := PySem.W.hideAll_size _ _
theorem hidT_get {h : Heap} {H : Hp} {b : Addr} {o : Obj} (e : h.get? b = some o) (n : H b = none) : (hidT h H).get? b = some o :=
  PySem.W.hideAll_get _ e fun hm => by
    have q : (H b).isSome = true := (List.mem_filter.mp hm).2
    rw [n] at q; simp at q
theorem of_hidT {h : Heap} {H : Hp} {b : Addr} {o : Obj} (e : (hidT h H).get? b = some o) : h.get? b = some o ∧ H b = none := by
  have e' : h.get? b = some o := PySem.W.of_hideAll (trk h H) e
  refine ⟨e', ?_⟩
  cases q : H b with
  | none => rfl
  | some x =>
    have hm : b ∈ trk h H := List.mem_filter.mpr ⟨List.mem_range.mpr (Heap.lt_size e'), by simp [q]⟩
    have z : (hidT h H).get? b = none := PySem.W.hideAll_none (trk h H) hm
    rw [z] at e; cases e

/-! ### OpenK's ledger, filled with every new object but one -/
def allNews (g h : Heap) (L : Addr) : List (Addr × Obj) := (List.range h.objs.size).filterMap fun a => if a = L ∨ (g.get? a).isSome = true then none else (h.get? a).map fun o => (a, o)
def rest (g h : Heap) (L d : Addr) : List (Addr × Obj) := (allNews g h L).filter fun p => decide (p.1 ≠ d)
end L2

namespace L2
open PySem PySem.Spec PyProof.Rows

/-- the module's facts, over the base: the heap at the law's entry without what is tracked there -/
structure Mod (K : PySem.W.Frag) (mg : Str → Option Value) (base : Heap) : Prop where
  kin : K.In base
  glob : base.Ns mainGlobals mg
  blt : ∃ mb, base.Ns builtinsNs mb ∧ ∀ x : Str, x ≠ "__name__" → mb x = bootBuiltins x
  nolimit : base.NoLimit

/-- the context: a def's body (or a comprehension's block) running. base: fixed through the whole law; s₀, H₀: the entry; outer: the frames whose slots others may change (a def's callers); stack: all frames that run;
   ex: iterators that were made ahead of the entry and are walked here (a comprehension's); fn: the names whose cells were made at the entry (a def: all; a comprehension's block: its own); calm: not within an except suite; pn: pins that every state bears; xe: what is wanted of an exception that leaves the code -/
structure Cx where
  prog : Program
  w : World
  K : PySem.W.Frag
  mg : Str → Option Value
  base : Heap
  A : Around
  N : List Str
  s₀ : Shared
  H₀ : Hp
  env : Env
  outer : List Env
  stack : List Env
  ex : List Addr
  fn : Str → Bool
  calm : Bool
  pn : List (Addr × Obj)
  xe : Value → Shared → Prop
/-- the callers' frames -/
def frs (l : List Env) : List Addr := l.filterMap (·.frame)
abbrev Cx.fs (X : Cx) : List Addr := frs X.outer

def Vis (sc : Scope) (x : Str) : Prop := sc.names.lookup x = some .local ∨ sc.names.lookup x = some .cell ∨ sc.names.lookup x = some .free
def Loc (sc : Scope) (x : Str) : Prop := sc.names.lookup x = some .local ∨ sc.names.lookup x = some .cell
def Look (env : Env) (h : Heap) (m : Str → Option Value) (x : Str) (u : Value) : Prop :=
  (env.kindOf x = some .local ∧ m x = some u) ∨ ((env.kindOf x = some .cell ∨ env.kindOf x = some .free) ∧ ∃ c, env.cells.lookup x = some c ∧ h.IsCell c (some u))

structure Cx.Ok (X : Cx) : Prop where
  mod : Mod X.K X.mg X.base
  kind : X.env.scope.kind = .function
  glob : X.env.globals = mainGlobals
  blt : X.env.builtins = builtinsNs
  above : X.s₀.heap.objs.size ≤ X.env.locals
  inj : ∀ x y c, X.env.cells.lookup x = some c → X.env.cells.lookup y = some c → x = y
  has : ∀ x, (X.env.kindOf x = some .cell ∨ X.env.kindOf x = some .free) → ∃ c, X.env.cells.lookup x = some c
  cab : ∀ x c, X.fn x = true → X.env.cells.lookup x = some c → X.s₀.heap.objs.size ≤ c
  hd : X.calm = true → X.A.handled = none
  frames : X.A.frames = some X.stack
  stk : X.stack = X.outer ∨ (X.stack = X.env :: X.outer ∧ X.env.frame = some X.env.locals)
  exf : ∀ b ∈ X.ex, b ≠ X.env.locals ∧ ∀ x c, X.env.cells.lookup x = some c → c ≠ b
  bs : ∀ b o, X.base.get? b = some o → X.s₀.heap.get? b = some o ∧ X.H₀ b = none
  bsz : X.base.objs.size ≤ X.s₀.heap.objs.size
  noex : ∀ b o, X.base.get? b = some o → b ∉ X.ex
  exfs : ∀ b ∈ X.ex, b ∉ X.fs
  funs : X.s₀.heap.FunFrames X.base X.outer
  frf : ∀ b ∈ X.fs, X.H₀ b = none

structure Inv (X : Cx) (pins : List (Addr × Obj)) (σ : List (Option V)) (H : Hp) (s : Shared) : Prop where
  ok : X.Ok
  os : s.os = X.s₀.os
  bare : AllBare s.gens
  base : Un X.fs X.ex X.H₀ H X.s₀.heap s.heap
  loc : ∃ m, s.heap.Ns X.env.locals m ∧ ∀ (i : Nat) (x : Str) (v : V), X.N[i]? = some x → σ[i]? = some (some v) → Vis X.env.scope x → ∃ u, RelV v u ∧ Look X.env s.heap m x u
  cell : ∀ x c, X.env.cells.lookup x = some c → ∃ v, s.heap.IsCell c v
  free : H X.env.locals = none
  freeC : ∀ x c, X.env.cells.lookup x = some c → H c = none
  pin : ∀ p ∈ X.pn ++ pins, s.heap.get? p.1 = some p.2 ∧ H p.1 = none ∧ p.1 ≠ X.env.locals ∧ p.1 ∉ X.fs ∧ ∀ v, p.2.data ≠ .cell v
  hok : HOk X.prog X.w H s.heap
  len : σ.length = X.N.length

section
variable {X : Cx} {pins : List (Addr × Obj)} {σ : List (Option V)} {H H' : Hp} {s : Shared} {h' : Heap}

theorem Cx.Ok.nofr (ok : X.Ok) {b : Addr} {o : Obj} (e : X.base.get? b = some o) : b ∉ X.fs := fun hb => by
  have := (ok.funs.mem hb).1
  rw [e] at this; cases this
theorem Inv.bs (I : Inv X pins σ H s) : ∀ b o, X.base.get? b = some o → s.heap.get? b = some o ∧ H b = none := fun b o e =>
  ⟨I.base.keep b o (I.ok.bs b o e).1 (I.ok.bs b o e).2 (I.ok.nofr e) (I.ok.noex b o e), I.base.free b o (I.ok.bs b o e).1 (I.ok.bs b o e).2 (I.ok.noex b o e)⟩
theorem Inv.bk (I : Inv X pins σ H s) : ∀ b o, X.base.get? b = some o → s.heap.get? b = some o := fun b o e => (I.bs b o e).1
theorem Inv.mod (I : Inv X pins σ H s) : Mod X.K X.mg X.base := I.ok.mod
theorem Inv.kIn (I : Inv X pins σ H s) : X.K.In s.heap := I.ok.mod.kin.keeps I.bk
theorem Inv.nolimit (I : Inv X pins σ H s) : s.heap.NoLimit := I.ok.mod.nolimit.keeps I.bk
/-- the frame over the base: for OpenK's rules (K.In X.base is I.mod.kin) -/
theorem Inv.fr (I : Inv X pins σ H s) : ∃ m, Fr X.base X.env.locals s.heap m :=
  let ⟨m, hn, _⟩ := I.loc
  ⟨m, hn, I.bk, Nat.le_trans I.ok.bsz I.ok.above⟩
theorem Inv.lt (I : Inv X pins σ H s) : X.env.locals < s.heap.objs.size := let ⟨_, hn, _⟩ := I.loc; hn.lt
theorem Inv.sz (I : Inv X pins σ H s) : X.s₀.heap.objs.size ≤ s.heap.objs.size := Nat.le_trans I.ok.above (Nat.le_of_lt I.lt)
theorem Inv.nofs (I : Inv X pins σ H s) {a : Addr} (h : s.heap.objs.size ≤ a) : a ∉ X.fs := fun hb => by
  obtain ⟨_, o, ho, _⟩ := I.ok.funs.mem hb
  exact absurd (Nat.lt_of_lt_of_le (Heap.lt_size ho) (Nat.le_trans I.sz h)) (Nat.lt_irrefl _)
theorem Inv.cne (I : Inv X pins σ H s) : ∀ x c, X.env.cells.lookup x = some c → c ≠ X.env.locals := fun x c e z => by
  obtain ⟨v, o, ho, hd⟩ := I.cell x c e
  obtain ⟨m, ⟨o', es, ep, ho', hd', _⟩, _⟩ := I.loc
  rw [z, ho'] at ho; cases ho; rw [hd'] at hd; cases hd
theorem Inv.funs (I : Inv X pins σ H s) : s.heap.FunFrames X.base X.outer := by
  have all : ∀ (l : List Env), (∀ b ∈ frs l, b ∈ X.fs) → X.s₀.heap.FunFrames X.base l → s.heap.FunFrames X.base l := by
    intro l
    induction l with
    | nil => intro _ _; trivial
    | cons env r ih =>
      intro hs hl
      obtain ⟨hk, ⟨L, o, hf, hn, ho, hd⟩, hr⟩ := hl
      have hL : L ∈ X.fs := hs L (by unfold frs; rw [List.filterMap_cons, hf]; exact List.mem_cons_self)
      obtain ⟨sl, e⟩ := I.base.slot L o ho (I.ok.frf L hL) hL fun z => I.ok.exfs L z hL
      exact ⟨hk, ⟨L, _, hf, hn, e, hd⟩, ih (fun b hb => hs b (by unfold frs; rw [List.filterMap_cons, hf]; exact List.mem_cons_of_mem _ hb)) hr⟩
  exact all X.outer (fun _ hb => hb) I.ok.funs

/-- the frames that run, for a call -/
theorem Inv.stack (I : Inv X pins σ H s) : s.heap.FunFrames X.base X.stack := by
  rcases I.ok.stk with e | ⟨e, hf⟩
  · rw [e]; exact I.funs
  · rw [e]
    obtain ⟨m, hn, _⟩ := I.loc
    refine .cons (by rw [I.ok.kind]; decide) hf hn ?_ I.funs
    exact Heap.get?_none_of_le (Nat.le_trans I.ok.bsz I.ok.above)
theorem Inv.stkSub (I : Inv X pins σ H s) : ∀ b ∈ frs X.stack, b ∈ X.env.locals :: X.fs := fun b hb => by
  rcases I.ok.stk with e | ⟨e, hf⟩
  · rw [e] at hb; exact List.mem_cons_of_mem _ hb
  · rw [e] at hb
    unfold frs at hb
    rw [List.filterMap_cons, hf] at hb
    exact hb
theorem Inv.stkFree (I : Inv X pins σ H s) : ∀ b ∈ frs X.stack, H b = none := fun b hb => by
  rcases List.mem_cons.mp (I.stkSub b hb) with e | hb
  · rw [e]; exact I.free
  · obtain ⟨_, o, ho, _⟩ := I.ok.funs.mem hb
    exact I.base.free b o ho (I.ok.frf b hb) fun z => I.ok.exfs b z hb

/-- THE STEP: the untracked objects but the frame and the records at ch are kept (the callers' frames up to slots), the frame's map is kept, the new abstract heap is held -/
theorem Inv.step {g' : Array GenState} {t' : Nat} {d' : Drawn} {ch : List Addr} (I : Inv X pins σ H s)
    (hch : ∀ b ∈ ch, (b ∈ X.ex ∨ X.s₀.heap.objs.size ≤ b) ∧ b ≠ X.env.locals ∧ (∀ x c, X.env.cells.lookup x = some c → c ≠ b) ∧ ∀ p ∈ X.pn ++ pins, p.1 ≠ b)
    (keep : ∀ b o, b ≠ X.env.locals → b ∉ X.fs → b ∉ ch → s.heap.get? b = some o → H b = none → h'.get? b = some o)
    (slot : ∀ b o, b ≠ X.env.locals → b ∈ X.fs → b ∉ ch → s.heap.get? b = some o → H b = none → ∃ sl, h'.get? b = some { o with slots := sl }) (free : ∀ b o, b ∉ ch → s.heap.get? b = some o → H b = none → H' b = none)
    (there : ∀ b o, b ∉ ch → s.heap.get? b = some o → ∃ o', h'.get? b = some o')
    (tups : ∀ b xs, H b = some (.tup xs) → H' b = some (.tup xs)) (frzs : ∀ b o u, H b = some (.frz o u) → H' b = some (.frz o u)) (tbls : ∀ b ps, H b = some (.tbl ps) → ∃ more, H' b = some (.tbl (ps ++ more)))
    (ns : ∀ m, s.heap.Ns X.env.locals m → h'.Ns X.env.locals m) (hok : HOk X.prog X.w H' h') (hg : AllBare g') :
    Inv X pins σ H' { s with heap := h', gens := g', drawn := d', toks := t' } := by
  have neL : ∀ b o, X.s₀.heap.get? b = some o → b ≠ X.env.locals := fun b o e => Nat.ne_of_lt (Nat.lt_of_lt_of_le (Heap.lt_size e) I.ok.above)
  have neC : ∀ b o, X.s₀.heap.get? b = some o → b ∉ X.ex → b ∉ ch := fun b o e hx hb => by
    rcases (hch b hb).1 with z | z
    · exact hx z
    · exact absurd (Nat.lt_of_lt_of_le (Heap.lt_size e) z) (Nat.lt_irrefl _)
  have cellK : ∀ x c, X.env.cells.lookup x = some c → ∀ v, s.heap.IsCell c v → h'.IsCell c v := fun x c e v ⟨o, ho, hd⟩ => by
    have nch : c ∉ ch := fun z => (hch c z).2.2.1 x c e rfl
    by_cases hc : c ∈ X.fs
    · obtain ⟨sl, q⟩ := slot c o (I.cne x c e) hc nch ho (I.freeC x c e)
      exact ⟨_, q, hd⟩
    · exact ⟨o, keep c o (I.cne x c e) hc nch ho (I.freeC x c e), hd⟩
  refine ⟨I.ok, I.os, hg, ⟨fun b o e n hb hx => ?_, fun b o e n hb hx => ?_, fun b o e n hx => ?_, fun b o e hx => ?_, fun b xs e => tups b xs (I.base.tups b xs e), fun b o xs e => frzs b o xs (I.base.frzs b o xs e), fun b ps e => ?_⟩, ?_, fun x c e => ?_, ?_, fun x c e => ?_, fun p hp => ?_, hok, I.len⟩
  · exact keep b o (neL b o e) hb (neC b o e hx) (I.base.keep b o e n hb hx) (I.base.free b o e n hx)
  · obtain ⟨sl, e1⟩ := I.base.slot b o e n hb hx
    obtain ⟨sl', e2⟩ := slot b _ (neL b o e) hb (neC b o e hx) e1 (I.base.free b o e n hx)
    exact ⟨sl', e2⟩
  · obtain ⟨o', e1⟩ := I.base.there b o e hx
    exact free b o' (neC b o e hx) e1 (I.base.free b o e n hx)
  · obtain ⟨o', e1⟩ := I.base.there b o e hx
    exact there b o' (neC b o e hx) e1
  · obtain ⟨m1, e1⟩ := I.base.tbls b ps e
    obtain ⟨m2, e2⟩ := tbls b _ e1
    exact ⟨m1 ++ m2, by rw [e2, Array.append_assoc]⟩
  · obtain ⟨m, hn, hl⟩ := I.loc
    refine ⟨m, ns m hn, fun i x v e1 e2 e3 => ?_⟩
    obtain ⟨u, r, l⟩ := hl i x v e1 e2 e3
    refine ⟨u, r, ?_⟩
    rcases l with l | ⟨k, c, e, z⟩
    · exact .inl l
    · exact .inr ⟨k, c, e, cellK x c e _ z⟩
  · obtain ⟨v, z⟩ := I.cell x c e
    exact ⟨v, cellK x c e v z⟩
  · obtain ⟨m, ⟨o, _, _, ho, _⟩, _⟩ := I.loc
    exact free _ o (fun z => (hch _ z).2.1 rfl) ho I.free
  · obtain ⟨v, o, ho, hd⟩ := I.cell x c e
    exact free c o (fun z => (hch c z).2.2.1 x c e rfl) ho (I.freeC x c e)
  · obtain ⟨e, n, ne, nf, d⟩ := I.pin p hp
    have nch : p.1 ∉ ch := fun z => (hch p.1 z).2.2.2 p hp rfl
    exact ⟨keep p.1 p.2 ne nf nch e n, free p.1 p.2 nch e n, ne, nf, d⟩
/-- .. where the frame's own object is kept too -/
theorem Inv.un {t' : Nat} (I : Inv X pins σ H s) (u : Un X.fs [] H H' s.heap h') (hok : HOk X.prog X.w H' h') : Inv X pins σ H' { s with heap := h', toks := t' } := by
  obtain ⟨m, ⟨o, es, ep, ho, r⟩, _⟩ := id I.loc
  obtain ⟨sl, hL⟩ := u.any ho I.free (by simp)
  exact I.step (g' := s.gens) (d' := s.drawn) (ch := []) (fun _ z => nomatch z) (fun b o _ hb _ e n => u.keep b o e n hb (by simp)) (fun b o _ hb _ e n => u.slot b o e n hb (by simp)) (fun b o _ e n => u.free b o e n (by simp)) (fun b o _ e => u.there b o e (by simp)) u.tups u.frzs u.tbls (fun m' hm => by
    obtain ⟨o', es', ep', ho', r'⟩ := hm
    rw [ho] at ho'; cases ho'
    exact ⟨_, es', ep', hL, r'⟩) hok I.bare
/-- behind a call (or a comprehension's block): the slots of this frame may have changed too, the records at ch may have turned -/
theorem Inv.call {g' : Array GenState} {t' : Nat} {d' : Drawn} {ch : List Addr} (I : Inv X pins σ H s) (u : Un (frs X.stack) ch H H' s.heap h') (hok : HOk X.prog X.w H' h') (hg : AllBare g')
    (hch : ∀ b ∈ ch, (b ∈ X.ex ∨ X.s₀.heap.objs.size ≤ b) ∧ b ≠ X.env.locals ∧ (∀ x c, X.env.cells.lookup x = some c → c ≠ b) ∧ ∀ p ∈ X.pn ++ pins, p.1 ≠ b) :
    Inv X pins σ H' { s with heap := h', gens := g', drawn := d', toks := t' } := by
  obtain ⟨m, ⟨o, es, ep, ho, r⟩, _⟩ := id I.loc
  obtain ⟨sl, hL⟩ := u.any ho I.free fun z => (hch _ z).2.1 rfl
  exact I.step (ch := ch) hch (fun b o hL hb hc e n => u.keep b o e n (fun z => (List.mem_cons.mp (I.stkSub b z)).elim hL hb) hc) (fun b o _ _ hc e n => u.any e n hc) (fun b o hc e n => u.free b o e n hc) (fun b o hc e => u.there b o e hc) u.tups u.frzs u.tbls (fun m' hm => by
    obtain ⟨o', es', ep', ho', r'⟩ := hm
    rw [ho] at ho'; cases ho'
    exact ⟨_, es', ep', hL, r'⟩) hok hg
/-- an untracked record of ours (an iterator) has turned -/
theorem Inv.turned {t' : Nat} {it : Addr} (I : Inv X pins σ H s) (k : ∀ b o, b ≠ it → s.heap.get? b = some o → h'.get? b = some o) (hn : H it = none) (hL : it ≠ X.env.locals)
    (h1 : it ∈ X.ex ∨ X.s₀.heap.objs.size ≤ it) (h2 : ∀ x c, X.env.cells.lookup x = some c → c ≠ it) (h3 : ∀ p ∈ X.pn ++ pins, p.1 ≠ it) : Inv X pins σ H { s with heap := h', toks := t' } := by
  have nit : ∀ b u, H b = some u → b ≠ it := fun b u e z => by rw [z, hn] at e; cases e
  refine I.step (g' := s.gens) (d' := s.drawn) (ch := [it]) (fun b hb => ?_) (fun b o _ _ hc e _ => k b o (fun z => hc (by simp [z])) e) (fun b o _ _ hc e _ => ⟨o.slots, k b o (fun z => hc (by simp [z])) e⟩) (fun _ _ _ _ n => n)
    (fun b o hc e => ⟨o, k b o (fun z => hc (by simp [z])) e⟩) (fun _ _ e => e) (fun _ _ _ e => e) (fun b ps e => ⟨#[], by rw [e]; simp⟩) (fun m hm => ?_) (fun b u e => ?_) I.bare
  · have e : b = it := by simpa using hb
    subst e
    exact ⟨h1, hL, h2, h3⟩
  · obtain ⟨o, es, ep, ho, r⟩ := hm
    exact ⟨o, es, ep, k _ o (Ne.symm hL) ho, r⟩
  · refine (I.hok b u e).stay (fun c v hc q => k c v ?_ q) (fun _ q => q) fun _ _ q => q
    rcases hc with z | z
    · rw [z]; exact nit b u e
    · exact nit c _ z
theorem Inv.tok (I : Inv X pins σ H s) (t : Nat) : Inv X pins σ H { s with toks := t } := I.un (h' := s.heap) (t' := t) Un.refl I.hok
/-- all objects kept -/
theorem Inv.kept {t' : Nat} (I : Inv X pins σ H s) (k : ∀ b u, s.heap.get? b = some u → h'.get? b = some u) : Inv X pins σ H { s with heap := h', toks := t' } := I.un (Un.kept k) (I.hok.kept k)
/-- a new object laid and tracked -/
theorem Inv.laid {a : Addr} {o : HO} {t' : Nat} (I : Inv X pins σ H s) (k : ∀ b u, s.heap.get? b = some u → h'.get? b = some u) (hp : s.heap.objs.size ≤ a) (new : ObjOk X.prog X.w (upd H a o) h' a o) :
    Inv X pins σ (upd H a o) { s with heap := h', toks := t' } := I.un (Un.laid k hp (I.hok.fresh hp)) (I.hok.laid k hp new)
/-- an object written -/
theorem Inv.write {x e : Addr} {o : HO} {t' : Nat} (I : Inv X pins σ H s) (mu : Mut (H x)) (he : e = x ∨ H e = some (.own x)) (k : ∀ b u, b ≠ e → s.heap.get? b = some u → h'.get? b = some u) (heo : ∃ u, h'.get? e = some u)
    (new : ObjOk X.prog X.w (upd H x o) h' x o) : Inv X pins σ (upd H x o) { s with heap := h', toks := t' } := I.un (Un.write mu he k heo) (I.hok.write mu he k heo new)
/-- forgetting slots, pins -/
theorem Inv.weak {σ' : List (Option V)} (I : Inv X pins σ H s) (hl : σ'.length = σ.length) (w : ∀ (i : Nat) v, σ'[i]? = some (some v) → σ[i]? = some (some v)) : Inv X pins σ' H s :=
  ⟨I.ok, I.os, I.bare, I.base, let ⟨m, hn, hl'⟩ := I.loc; ⟨m, hn, fun i x v e1 e2 e3 => hl' i x v e1 (w i v e2) e3⟩, I.cell, I.free, I.freeC, I.pin, I.hok, hl.trans I.len⟩
theorem Inv.pins_of {pins' : List (Addr × Obj)} (I : Inv X pins σ H s) (h : ∀ p ∈ pins', s.heap.get? p.1 = some p.2 ∧ H p.1 = none ∧ p.1 ≠ X.env.locals ∧ p.1 ∉ X.fs ∧ ∀ v, p.2.data ≠ .cell v) : Inv X pins' σ H s :=
  ⟨I.ok, I.os, I.bare, I.base, I.loc, I.cell, I.free, I.freeC, fun p hp => (List.mem_append.mp hp).elim (fun z => I.pin p (List.mem_append_left _ z)) (h p), I.hok, I.len⟩

theorem nodup_ix {N : List Str} (hN : N.Nodup) {i j : Nat} {x : Str} (a : N[i]? = some x) (b : N[j]? = some x) : i = j := by
  obtain ⟨h1, e1⟩ := List.getElem?_eq_some_iff.mp a
  obtain ⟨h2, e2⟩ := List.getElem?_eq_some_iff.mp b
  exact (List.getElem_inj hN).mp (e1.trans e2.symm)

/-- a name is stored; what changed -/
theorem store_ok2 {M : Model} {A : Around} {E : Value → Shared → Prop} {i : Nat} {x : Str} {v : V} {u : Value} {Q : Unit → Shared → Prop} (I : Inv X pins σ H s) (hN : X.N.Nodup) (hi : X.N[i]? = some x) (hx : Loc X.env.scope x) (r : RelV v u)
    (h : ∀ s', Inv X pins (σ.set i (some v)) H s' → (∃ a, Heap.SameBut a s.heap s'.heap ∧ (a = X.env.locals ∨ X.env.cells.lookup x = some a)) → Q () s') (hf : X.fn x = true ∨ X.env.scope.names.lookup x = some .local := by first | exact .inl rfl | exact .inr rfl | assumption) : wpAny M A (storeName X.env x u) Q E s := by
  obtain ⟨m, hn, hl⟩ := id I.loc
  have hcls : (X.env.scope.kind == .class || (X.env.scope.kind == .module && X.env.locals != X.env.globals)) = false := by rw [I.ok.kind]; rfl
  have hiσ : i < σ.length := by rw [I.len]; exact (List.getElem?_eq_some_iff.mp hi).1
  have cne := I.cne
  have tracked : ∀ {a : Addr} {h' : Heap}, (∃ o, s.heap.get? a = some o ∧ H a = none) → Heap.SameBut a s.heap h' → HOk X.prog X.w H h' := fun {a h'} ha hs b ob e => by
    obtain ⟨_, _, hfree⟩ := ha
    refine (I.hok b ob e).stay (fun c w' hc q => (hs.2 c ?_).trans q) (fun _ q => q) fun _ _ q => q
    rintro rfl
    rcases hc with rfl | hc
    · rw [hfree] at e; cases e
    · rw [hfree] at hc; cases hc
  rcases hx with hk | hk
  · refine wpAny_storeName_local hk hn (fun h' hn' hs => ?_) hcls
    obtain ⟨oL, _, _, hoL, _⟩ := id hn
    refine h _ ⟨I.ok, I.os, I.bare, ⟨fun b o e n hb hx => ?_, fun b o e n hb hx => ?_, I.base.free, fun b o e hx => ?_, I.base.tups, I.base.frzs, I.base.tbls⟩, ⟨_, hn', fun j y v' e1 e2 e3 => ?_⟩, fun y c e => ?_, I.free, I.freeC, fun p hp => ?_, tracked ⟨oL, hoL, I.free⟩ hs, by simpa using I.len⟩ ⟨_, hs, .inl rfl⟩
    · exact (hs.2 b (Nat.ne_of_lt (Nat.lt_of_lt_of_le (Heap.lt_size e) I.ok.above))).trans (I.base.keep b o e n hb hx)
    · obtain ⟨sl, e1⟩ := I.base.slot b o e n hb hx
      exact ⟨sl, (hs.2 b (Nat.ne_of_lt (Nat.lt_of_lt_of_le (Heap.lt_size e) I.ok.above))).trans e1⟩
    · obtain ⟨o', e1⟩ := I.base.there b o e hx
      exact ⟨o', (hs.2 b (Nat.ne_of_lt (Nat.lt_of_lt_of_le (Heap.lt_size e) I.ok.above))).trans e1⟩
    · by_cases hj : j = i
      · subst hj
        rw [hi] at e1; cases e1
        rw [List.getElem?_set_self hiσ] at e2
        cases e2
        exact ⟨u, r, .inl ⟨hk, by simp⟩⟩
      · rw [List.getElem?_set_ne (Ne.symm hj)] at e2
        obtain ⟨u', r', q⟩ := hl j y v' e1 e2 e3
        refine ⟨u', r', ?_⟩
        rcases q with ⟨k, e⟩ | ⟨k, c, e, z⟩
        · refine .inl ⟨k, ?_⟩
          have : y ≠ x := fun e => hj (nodup_ix hN e1 (e ▸ hi))
          simp [this, e]
        · exact .inr ⟨k, c, e, z.sameBut hs (cne y c e)⟩
    · obtain ⟨w', z⟩ := I.cell y c e
      exact ⟨w', z.sameBut hs (cne y c e)⟩
    · obtain ⟨e, n, ne, nf, d⟩ := I.pin p hp
      exact ⟨(hs.2 p.1 ne).trans e, n, ne, nf, d⟩
  · have hfn : X.fn x = true := by
      rcases hf with z | z
      · exact z
      · rw [z] at hk; cases hk
    obtain ⟨c, hc⟩ := I.ok.has x (.inl hk)
    obtain ⟨w', z⟩ := I.cell x c hc
    refine wpAny_storeName_cell I.ok.kind hk hc z (fun h' hc' hs => ?_)
    obtain ⟨oc, hoc, hocd⟩ := id z
    refine h { s with heap := h' } ⟨I.ok, I.os, I.bare, ⟨fun b o e n hb hx => ?_, fun b o e n hb hx => ?_, I.base.free, fun b o e hx => ?_, I.base.tups, I.base.frzs, I.base.tbls⟩, ⟨m, hn.sameBut hs (Ne.symm (cne x c hc)), fun j y v' e1 e2 e3 => ?_⟩, fun y c' e => ?_, I.free, I.freeC, fun p hp => ?_, tracked ⟨oc, hoc, I.freeC x c hc⟩ hs, by simpa using I.len⟩ ⟨c, hs, .inr hc⟩
    · exact (hs.2 b (Nat.ne_of_lt (Nat.lt_of_lt_of_le (Heap.lt_size e) (I.ok.cab x c hfn hc)))).trans (I.base.keep b o e n hb hx)
    · obtain ⟨sl, e1⟩ := I.base.slot b o e n hb hx
      exact ⟨sl, (hs.2 b (Nat.ne_of_lt (Nat.lt_of_lt_of_le (Heap.lt_size e) (I.ok.cab x c hfn hc)))).trans e1⟩
    · obtain ⟨o', e1⟩ := I.base.there b o e hx
      exact ⟨o', (hs.2 b (Nat.ne_of_lt (Nat.lt_of_lt_of_le (Heap.lt_size e) (I.ok.cab x c hfn hc)))).trans e1⟩
    · by_cases hj : j = i
      · subst hj
        rw [hi] at e1; cases e1
        rw [List.getElem?_set_self hiσ] at e2
        cases e2
        exact ⟨u, r, .inr ⟨.inl hk, c, hc, hc'⟩⟩
      · rw [List.getElem?_set_ne (Ne.symm hj)] at e2
        obtain ⟨u', r', q⟩ := hl j y v' e1 e2 e3
        refine ⟨u', r', ?_⟩
        rcases q with q | ⟨k, c', e, z'⟩
        · exact .inl q
        · refine .inr ⟨k, c', e, z'.sameBut hs ?_⟩
          rintro rfl
          exact hj (nodup_ix hN e1 (I.ok.inj _ _ _ e hc ▸ hi))
    · by_cases hcc : c' = c
      · subst hcc; exact ⟨_, hc'⟩
      · obtain ⟨w2, z2⟩ := I.cell y c' e
        exact ⟨w2, z2.sameBut hs hcc⟩
    · obtain ⟨e, n, ne, nf, d⟩ := I.pin p hp
      refine ⟨(hs.2 p.1 ?_).trans e, n, ne, nf, d⟩
      intro q
      rw [q, hoc] at e
      have q' : oc = p.2 := Option.some.inj e
      exact d w' (by rw [← q']; exact hocd)
theorem store_ok {M : Model} {A : Around} {E : Value → Shared → Prop} {i : Nat} {x : Str} {v : V} {u : Value} {Q : Unit → Shared → Prop} (I : Inv X pins σ H s) (hN : X.N.Nodup) (hi : X.N[i]? = some x) (hx : Loc X.env.scope x) (r : RelV v u)
    (h : ∀ s', Inv X pins (σ.set i (some v)) H s' → Q () s') (hf : X.fn x = true ∨ X.env.scope.names.lookup x = some .local := by first | exact .inl rfl | exact .inr rfl | assumption) : wpAny M A (storeName X.env x u) Q E s :=
  store_ok2 I hN hi hx r (fun s' I' _ => h s' I') hf
/-- behind a call or a block, the state as it is -/
theorem Inv.call' {s' : Shared} {ch : List Addr} (I : Inv X pins σ H s) (ho : s'.os = s.os) (u : Un (frs X.stack) ch H H' s.heap s'.heap) (hok : HOk X.prog X.w H' s'.heap) (hg : AllBare s'.gens)
    (hch : ∀ b ∈ ch, (b ∈ X.ex ∨ X.s₀.heap.objs.size ≤ b) ∧ b ≠ X.env.locals ∧ (∀ x c, X.env.cells.lookup x = some c → c ≠ b) ∧ ∀ p ∈ X.pn ++ pins, p.1 ≠ b) : Inv X pins σ H' s' := by
  obtain ⟨h', g', d', t', o'⟩ := s'
  have e : o' = s.os := ho
  subst e
  exact I.call (g' := g') (t' := t') (d' := d') u hok hg hch
end

/-! ### the judgements -/
/-- an exception: its class, its own dict's address (where it has one), the abstract heap behind it -/
abbrev XK := Value → Option Addr → Hp → Prop
abbrev St := List (Option V)
abbrev VK := V → Hp → Prop
/-- an expression's reading; a test's; an argument list's -/
abbrev TE := St → Hp → VK → Prop
abbrev TT := St → Hp → (Bool → Hp → Prop) → Prop
abbrev TA := St → Hp → (List V → Hp → Prop) → Prop
/-- what is wanted behind a statement -/
structure Ends where
  nx : St → Hp → Prop
  rt : VK
  bk : St → Hp → Prop := fun _ _ => False
  ct : St → Hp → Prop := fun _ _ => False
abbrev TS := Ends → St → Hp → Prop

def EP (X : Cx) (pins : List (Addr × Obj)) (σ : St) (Q : VK) (u : Value) (s' : Shared) : Prop := ∃ v H', Inv X pins σ H' s' ∧ RelV v u ∧ Q v H'
def TP (X : Cx) (pins : List (Addr × Obj)) (σ : St) (Q : Bool → Hp → Prop) (b : Bool) (s' : Shared) : Prop := ∃ H', Inv X pins σ H' s' ∧ Q b H'
def AP (X : Cx) (pins : List (Addr × Obj)) (σ : St) (Q : List V → Hp → Prop) (us : List Value) (s' : Shared) : Prop := ∃ vs H', Inv X pins σ H' s' ∧ Vals vs us ∧ Q vs H'
def SP (X : Cx) (pins : List (Addr × Obj)) (D : Ends) (f : Flow) (s' : Shared) : Prop :=
  match f with
  | .next => ∃ σ' H', Inv X pins σ' H' s' ∧ D.nx σ' H'
  | .brk => ∃ σ' H', Inv X pins σ' H' s' ∧ D.bk σ' H'
  | .cont => ∃ σ' H', Inv X pins σ' H' s' ∧ D.ct σ' H'
  | .ret u => ∃ v σ' H', Inv X pins σ' H' s' ∧ RelV v u ∧ D.rt v H'

def PE (X : Cx) (e : Expr) (t : TE) : Prop :=
  ∀ (pins : List (Addr × Obj)) (s : Shared) (σ : St) (H : Hp) (Q : VK), Inv X pins σ H s → t σ H Q → wpAny (model X.prog X.w) X.A (eval e X.env) (EP X pins σ Q) X.xe s
def PT (X : Cx) (e : Expr) (t : TT) : Prop :=
  ∀ (pins : List (Addr × Obj)) (s : Shared) (σ : St) (H : Hp) (Q : Bool → Hp → Prop), Inv X pins σ H s → t σ H Q → wpAny (model X.prog X.w) X.A (isTrue e X.env (eval e X.env)) (TP X pins σ Q) X.xe s
/-- a test whatever its 'whole' is (and, or) -/
def PW (X : Cx) (e : Expr) (t : TT) : Prop :=
  ∀ (whole : Sem Value) (pins : List (Addr × Obj)) (s : Shared) (σ : St) (H : Hp) (Q : Bool → Hp → Prop), Inv X pins σ H s → t σ H Q → wpAny (model X.prog X.w) X.A (isTrue e X.env whole) (TP X pins σ Q) X.xe s
theorem PW.pt {X : Cx} {e : Expr} {t : TT} (h : PW X e t) : PT X e t := h _
/-- an argument list (no star), from the left -/
def PA (X : Cx) (es : List Expr) (t : TA) : Prop :=
  ∀ (pos : Pos) (pins : List (Addr × Obj)) (s : Shared) (σ : St) (H : Hp) (Q : List V → Hp → Prop), Inv X pins σ H s → t σ H Q → wpAny (model X.prog X.w) X.A (spliced (backTo pos (starEach es X.env))) (AP X pins σ Q) X.xe s
def PS (X : Cx) (st : Stmt) (t : TS) : Prop :=
  ∀ (pins : List (Addr × Obj)) (s : Shared) (σ : St) (H : Hp) (D : Ends), Inv X pins σ H s → t D σ H → wpAny (model X.prog X.w) X.A (exec st X.env) (SP X pins D) X.xe s
def PSs (X : Cx) (st : List Stmt) (t : TS) : Prop :=
  ∀ (pins : List (Addr × Obj)) (s : Shared) (σ : St) (H : Hp) (D : Ends), Inv X pins σ H s → t D σ H → wpAny (model X.prog X.w) X.A (execs st X.env) (SP X pins D) X.xe s
/-- weaken the end -/
theorem thn {α : Type} {t : Sem α} {Q Q' : α → Shared → Prop} {M : Model} {A : Around} {E : Value → Shared → Prop} {s : Shared} (h : wpAny M A t Q E s) (hQ : ∀ a s, Q a s → Q' a s) : wpAny M A t Q' E s := wpAny_mono h hQ fun _ _ x => x
end L2

namespace L2
open PySem PySem.Spec PyProof.Rows
section
variable {X : Cx}

/-! ### names and constants -/
def tVar (i : Nat) : TE := fun σ H Q => ∃ v, σ[i]? = some (some v) ∧ Q v H
def tC (v : V) : TE := fun _ H Q => Q v H
theorem pe_var {i : Nat} {x : Str} {pos : Pos} (hN : X.N[i]? = some x) (hv : Vis X.env.scope x) (hd : (x == ("__debug__" : Str)) = false := by decide) (hcd : (x == ("__classdict__" : Str)) = false := by decide) : PE X (.Name x pos) (tVar i) := by
  intro pins s σ H Q I h
  obtain ⟨v, e, h⟩ := h
  obtain ⟨m, hn, hl⟩ := I.loc
  obtain ⟨u, r, l⟩ := hl i x v hN e hv
  have fin : EP X pins σ Q u s := ⟨v, H, I, r, h⟩
  rcases l with ⟨hk, hm⟩ | ⟨hk, c, hc, hcell⟩
  · exact wpAny_Name (wpAny_loadName_local I.ok.kind hk hn hm fin) hd
  · rcases hk with hk | hk
    · exact wpAny_Name (wpAny_loadName_cell I.ok.kind hk hc hcell fin) hd
    · exact wpAny_Name (wpAny_loadName_free I.ok.kind hk hc hcell fin hcd) hd
theorem pe_int {i j pos} : PE X (.Constant (.int i) j pos) (tC (.int i)) := fun _ _ _ H _ I h => wpAny_Constant_int ⟨.int i, H, I.tok _, ⟨_, rfl⟩, h⟩
theorem pe_bl {b j pos} : PE X (.Constant (.bool b) j pos) (tC (.bl b)) := fun _ _ _ H _ I h => Constant_bool ⟨.bl b, H, I, rfl, h⟩
theorem pe_non {j pos} : PE X (.Constant .none j pos) (tC .non) := fun _ _ _ H _ I h => Constant_none ⟨.non, H, I, rfl, h⟩
theorem pe_str {x j pos} : PE X (.Constant (.str x) j pos) (tC (.str x)) := fun _ _ _ H _ I h => Calls.Constant_str ⟨.str x, H, I.tok _, ⟨_, rfl⟩, h⟩

/-- a global name of the def -/
def Gl (X : Cx) (x : Str) : Prop := X.env.kindOf x = some .globalImplicit
theorem ld_glob {E : Value → Shared → Prop} {pins : List (Addr × Obj)} {s : Shared} {σ : St} {H : Hp} {x : Str} {u : Value} {pos : Pos} {Q : Value → Shared → Prop} (I : Inv X pins σ H s) (hg : Gl X x) (hm : X.mg x = some u) (h : Q u s)
    (hd : (x == ("__debug__" : Str)) = false := by decide) : wpAny (model X.prog X.w) X.A (eval (.Name x pos) X.env) Q E s :=
  Calls.Name_function_global I.ok.kind hg (Calls.loadGlobal_global (by rw [I.ok.glob]; exact I.mod.glob.keeps I.bk) hm h) hd
theorem ld_blt {E : Value → Shared → Prop} {pins : List (Addr × Obj)} {s : Shared} {σ : St} {H : Hp} {x : Str} {u : Value} {pos : Pos} {Q : Value → Shared → Prop} (I : Inv X pins σ H s) (hg : Gl X x) (hm : X.mg x = none) (hv : bootBuiltins x = some u) (h : Q u s)
    (hn : x ≠ "__name__" := by decide) (hd : (x == ("__debug__" : Str)) = false := by decide) : wpAny (model X.prog X.w) X.A (eval (.Name x pos) X.env) Q E s := by
  obtain ⟨mb, h1, h2⟩ := I.mod.blt
  exact Calls.Name_function_global I.ok.kind hg (Calls.loadGlobal_builtin (by rw [I.ok.glob]; exact I.mod.glob.keeps I.bk) hm (by rw [I.ok.blt]; exact h1.keeps I.bk) ((h2 x hn).trans hv) h) hd
/-- a module's constant, a class, a function, as a value -/
theorem pe_glob {x : Str} {v : V} {u : Value} {pos : Pos} (hg : Gl X x) (hm : X.mg x = some u) (r : RelV v u) (hd : (x == ("__debug__" : Str)) = false := by decide) : PE X (.Name x pos) (tC v) :=
  fun _ _ _ H _ I h => ld_glob I hg hm ⟨v, H, I, r, h⟩ hd
theorem pe_bltn {x : Str} {v : V} {u : Value} {pos : Pos} (hg : Gl X x) (hm : X.mg x = none) (hv : bootBuiltins x = some u) (r : RelV v u) (hn : x ≠ "__name__" := by decide) (hd : (x == ("__debug__" : Str)) = false := by decide) : PE X (.Name x pos) (tC v) :=
  fun _ _ _ H _ I h => ld_blt I hg hm hv ⟨v, H, I, r, h⟩ hn hd

/-! ### arithmetic -/
variable {a b : Expr} {ta tb : TE} {pos : Pos}
/-! ### comparisons -/
def PC (X : Cx) (op : CmpOp) (a b : Expr) (t : TE) : Prop :=
  ∀ (pins : List (Addr × Obj)) (s : Shared) (σ : St) (H : Hp) (Q : VK), Inv X pins σ H s → t σ H Q →
    wpAny (model X.prog X.w) X.A (eval a X.env) (fun v s₁ => wpAny (model X.prog X.w) X.A (eval b X.env) (fun u s₂ => wpAny (model X.prog X.w) X.A (compareOp op v u) (EP X pins σ Q) X.xe s₂) X.xe s₁) X.xe s
theorem nobehind (b : Expr) {op : CmpOp} (h : op ≠ .In) (h2 : op ≠ .NotIn) : behindInMarks op b = false := by
  have e1 : (op == CmpOp.In) = false := by cases op <;> first | rfl | exact absurd rfl h
  have e2 : (op == CmpOp.NotIn) = false := by cases op <;> first | rfl | exact absurd rfl h2
  cases b <;> simp [behindInMarks, e1, e2]
/-- a comparison as a value, as a test -/
def tB (t : TE) : TT := fun σ H Q => t σ H fun x H1 => ∃ c, x = .bl c ∧ Q c H1
theorem pt_cmp {op : CmpOp} {t : TE} (h : PC X op a b t) (h1 : behindInMarks op b = false := by first | exact nobehind _ (by decide) (by decide) | rfl) : PT X (.Compare a [op] [b] pos) (tB t) := by
  intro pins s σ H Q I hw
  refine wpAny_isTrue_Compare1 (thn (h pins s σ H _ I hw) fun v s1 h1 => thn h1 fun u s2 h2 => thn h2 fun c s3 ⟨x, H1, I1, r1, q1⟩ => ?_) h1
  obtain ⟨d, rfl, q⟩ := q1
  cases r1
  exact wpAny_truthy_bool ⟨H1, I1, q⟩
/-- an expression whose value is a bool, as a test -/
theorem pt_val {e : Expr} {t : TE} (h : PE X e t) (he : ∀ whole, isTrue e X.env whole = (do let v ← whole; standAt e.pos; holding [v] (truthy v)) := by intro _; rfl) : PT X e (tB t) := by
  intro pins s σ H Q I hw
  refine isTrue_plain (thn (h pins s σ H _ I hw) fun v s1 ⟨x, H1, I1, r1, q1⟩ => ?_) (he _)
  obtain ⟨d, rfl, q⟩ := q1
  cases r1
  exact wpAny_truthy_bool ⟨H1, I1, q⟩

/-! ### and, or, not -/
variable {tA tB' : TT} {rest : List Expr}
def tOr (t u : TT) : TT := fun σ H Q => t σ H fun c H1 => if c = true then Q true H1 else u σ H1 Q
def tNot (t : TT) : TT := fun σ H Q => t σ H fun c H1 => Q (!c) H1
theorem pw_or1 (ha : PT X a tA) : PW X (.BoolOp .Or [a] pos) tA := by
  intro wh pins s σ H Q I h
  refine isTrue_or (thn (ha pins s σ H Q I h) fun c s1 e => ?_)
  cases c with
  | false => exact isTrue_or_nil e
  | true => exact e
theorem pw_or (ha : PT X a tA) (hb : PW X (.BoolOp .Or (b :: rest) pos) tB') : PW X (.BoolOp .Or (a :: b :: rest) pos) (tOr tA tB') := by
  intro wh pins s σ H Q I h
  refine isTrue_or (thn (ha pins s σ H _ I h) fun c s1 ⟨H1, I1, q1⟩ => ?_)
  cases c with
  | true => exact ⟨H1, I1, q1⟩
  | false => exact hb wh pins s1 σ H1 Q I1 q1
theorem pt_not (ha : PT X a tA) : PT X (.UnaryOp .Not a pos) (tNot tA) := by
  intro pins s σ H Q I h
  exact isTrue_not (ha pins s σ H (fun c H1 => Q (!c) H1) I h)
/-- .. as values (bools) -/
def tAndV (ta tb : TE) : TE := fun σ H Q => ta σ H fun x H1 => ∃ c, x = .bl c ∧ if c = true then tb σ H1 Q else Q (.bl false) H1
def tNotV (ta : TE) : TE := fun σ H Q => ta σ H fun x H1 => ∃ c, x = .bl c ∧ Q (.bl (!c)) H1
theorem pe_one {op} {t : TE} (h : PE X a t) : PE X (.BoolOp op [a] pos) t := fun pins s σ H Q I hw => BoolOp_one (h pins s σ H Q I hw)
theorem pe_and (ha : PE X a ta) (hb : PE X (.BoolOp .And (b :: rest) pos) tb) : PE X (.BoolOp .And (a :: b :: rest) pos) (tAndV ta tb) := by
  intro pins s σ H Q I h
  refine BoolOp_and (thn (ha pins s σ H _ I h) fun v s1 ⟨x, H1, I1, r1, q1⟩ => ?_)
  obtain ⟨c, rfl, q1⟩ := q1
  cases r1
  refine wpAny_truthy_bool ?_
  cases c with
  | true => exact hb pins s1 σ H1 Q I1 q1
  | false => exact ⟨.bl false, H1, I1, rfl, q1⟩
theorem pe_not (ha : PE X a ta) : PE X (.UnaryOp .Not a pos) (tNotV ta) := by
  intro pins s σ H Q I h
  refine UnaryOp_ (thn (ha pins s σ H _ I h) fun v s1 ⟨x, H1, I1, r1, q1⟩ => ?_)
  obtain ⟨c, rfl, q1⟩ := q1
  cases r1
  exact not_of (wpAny_truthy_bool ⟨.bl (!c), H1, I1, rfl, q1⟩)
end
end L2

namespace L2
open PySem PySem.Spec PyProof.Rows

/-! ### a list, a tuple that is read: tracked, frozen, or an object of the module -/
def SqL (K : PySem.W.Frag) (H : Hp) (a : Addr) (xs : List V) : Prop :=
  Rd H a (.lst xs) ∨
    ∃ (o : Obj) (its : Array Value) (n : Nat), K.lookup a = some o ∧ o.cls = .type "list" ∧ o.dict = none ∧ o.data = .seq its n ∧ its.size ≤ sizeLine ∧ Vals xs its.toList
def SqT (K : PySem.W.Frag) (H : Hp) (a : Addr) (xs : List V) : Prop :=
  Rd H a (.tup xs) ∨
    ∃ (o : Obj) (its : Array Value) (n : Nat), K.lookup a = some o ∧ o.cls = .type "tuple" ∧ o.data = .seq its n ∧ its.size ≤ sizeLine ∧ Vals xs its.toList
def absV : Value → Option V
  | .none => some .non
  | .bool b => some (.bl b)
  | .int i _ => some (.int i)
  | .str x _ => some (.str x)
  | .bytes b _ => some (.byt b)
  | .float b _ => some (.flt b)
  | .ref a => some (.ref a)
  | .type n => some (.ty n)
  | _ => none
theorem RelV.abs {x : V} {u : Value} (r : RelV x u) : absV u = some x := by
  cases x with
  | non => cases r; rfl
  | bl _ => cases r; rfl
  | int _ => obtain ⟨t, rfl⟩ := r; rfl
  | str _ => obtain ⟨t, rfl⟩ := r; rfl
  | byt _ => obtain ⟨t, rfl⟩ := r; rfl
  | flt _ => obtain ⟨t, rfl⟩ := r; rfl
  | ref _ => cases r; rfl
  | ty _ => cases r; rfl
theorem RelV.inj {x y : V} {u : Value} (r : RelV x u) (q : RelV y u) : x = y := Option.some.inj (r.abs.symm.trans q.abs)
theorem Vals.inj : ∀ {xs ys : List V} {us : List Value}, Vals xs us → Vals ys us → xs = ys
  | _, _, _, .nil, .nil => rfl
  | _, _, _, .cons r t, .cons r' t' => by rw [r.inj r', Vals.inj t t']
section
variable {X : Cx} {pins : List (Addr × Obj)} {σ : St} {H : Hp} {s : Shared} {a : Addr} {xs ys : List V}
theorem SqL.of {K : PySem.W.Frag} (h : H a = some (.lst xs)) : SqL K H a xs := .inl (.inl h)
theorem SqT.of {K : PySem.W.Frag} (h : H a = some (.tup xs)) : SqT K H a xs := .inl (.inl h)
theorem Inv.list (I : Inv X pins σ H s) (h : SqL X.K H a xs) : ∃ its : List Value, Vals xs its ∧ PlainL s.heap a its.toArray ∧ xs.length ≤ sizeLine := by
  rcases h with h | ⟨o, its, n, hk, hc, hd, hs, hz, r⟩
  · obtain ⟨z, its, n, r, e⟩ := h.ok I.hok
    exact ⟨its, r, ⟨_, n, e, rfl, rfl, rfl⟩, z⟩
  · refine ⟨its.toList, r, ⟨o, n, I.kIn a o hk, hc, hd, by simpa using hs⟩, ?_⟩
    have e := r.length
    simp only [Array.length_toList] at e
    omega
theorem Inv.tuple (I : Inv X pins σ H s) (h : SqT X.K H a xs) : ∃ its : List Value, Vals xs its ∧ IsTup s.heap a its.toArray ∧ xs.length ≤ sizeLine := by
  rcases h with h | ⟨o, its, n, hk, hc, hs, hz, r⟩
  · obtain ⟨z, its, r, p⟩ := h.ok I.hok
    exact ⟨its, r, p, z⟩
  · refine ⟨its.toList, r, ⟨o, I.kIn a o hk, hc, n, by simpa using hs⟩, ?_⟩
    have e := r.length
    simp only [Array.length_toList] at e
    omega
theorem Inv.list_inj (I : Inv X pins σ H s) (h : SqL X.K H a xs) (h' : SqL X.K H a ys) : xs = ys := by
  obtain ⟨its, r, ⟨o, n, e, _, _, d⟩, _⟩ := I.list h
  obtain ⟨its', r', ⟨o', n', e', _, _, d'⟩, _⟩ := I.list h'
  rw [e] at e'; cases e'
  rw [d] at d'
  injection d' with d1 _
  have : its = its' := by simpa using congrArg Array.toList d1
  subst this
  exact r.inj r'
theorem Inv.tuple_inj (I : Inv X pins σ H s) (h : SqT X.K H a xs) (h' : SqT X.K H a ys) : xs = ys := by
  obtain ⟨its, r, ⟨o, e, _, n, d⟩, _⟩ := I.tuple h
  obtain ⟨its', r', ⟨o', e', _, n', d'⟩, _⟩ := I.tuple h'
  rw [e] at e'; cases e'
  rw [d] at d'
  injection d' with d1 _
  have : its = its' := by simpa using congrArg Array.toList d1
  subst this
  exact r.inj r'
end

/-! ### another wish about exceptions -/
abbrev Cx.wish (X : Cx) (E : Value → Shared → Prop) : Cx := { X with xe := E }
/-- no exception leaves -/
abbrev Cx.nox (X : Cx) : Cx := X.wish fun _ _ => False
theorem Cx.Ok.wish {X : Cx} (ok : X.Ok) (E : Value → Shared → Prop) : (X.wish E).Ok :=
  ⟨ok.mod, ok.kind, ok.glob, ok.blt, ok.above, ok.inj, ok.has, ok.cab, ok.hd, ok.frames, ok.stk, ok.exf, ok.bs, ok.bsz, ok.noex, ok.exfs, ok.funs, ok.frf⟩
theorem Cx.Ok.unwish {X : Cx} {E : Value → Shared → Prop} (ok : (X.wish E).Ok) : X.Ok :=
  ⟨ok.mod, ok.kind, ok.glob, ok.blt, ok.above, ok.inj, ok.has, ok.cab, ok.hd, ok.frames, ok.stk, ok.exf, ok.bs, ok.bsz, ok.noex, ok.exfs, ok.funs, ok.frf⟩
section
variable {X : Cx} {pins : List (Addr × Obj)} {σ : St} {H : Hp} {s : Shared} {E : Value → Shared → Prop}
theorem Inv.wish (I : Inv X pins σ H s) (E : Value → Shared → Prop) : Inv (X.wish E) pins σ H s := ⟨I.ok.wish E, I.os, I.bare, I.base, I.loc, I.cell, I.free, I.freeC, I.pin, I.hok, I.len⟩
theorem Inv.unwish (I : Inv (X.wish E) pins σ H s) : Inv X pins σ H s := ⟨I.ok.unwish, I.os, I.bare, I.base, I.loc, I.cell, I.free, I.freeC, I.pin, I.hok, I.len⟩
theorem SP.unwish {D : Ends} {f : Flow} {s' : Shared} (h : SP (X.wish E) pins D f s') : SP X pins D f s' := by
  cases f with
  | next => obtain ⟨σ', H', I, q⟩ := h; exact ⟨σ', H', I.unwish, q⟩
  | brk => obtain ⟨σ', H', I, q⟩ := h; exact ⟨σ', H', I.unwish, q⟩
  | cont => obtain ⟨σ', H', I, q⟩ := h; exact ⟨σ', H', I.unwish, q⟩
  | ret u => obtain ⟨v, σ', H', I, r, q⟩ := h; exact ⟨v, σ', H', I.unwish, r, q⟩
theorem PE.nox {e : Expr} {t : TE} (h : PE X.nox e t) : PE X e t := fun pins s σ H Q I hw =>
  wpAny_mono (h pins s σ H Q (I.wish _) hw) (fun _ _ ⟨v, H', I', r, q⟩ => ⟨v, H', I'.unwish, r, q⟩) fun _ _ z => False.elim z
theorem PT.nox {e : Expr} {t : TT} (h : PT X.nox e t) : PT X e t := fun pins s σ H Q I hw =>
  wpAny_mono (h pins s σ H Q (I.wish _) hw) (fun _ _ ⟨H', I', q⟩ => ⟨H', I'.unwish, q⟩) fun _ _ z => False.elim z
theorem PSs.nox {st : List Stmt} {t : TS} (h : PSs X.nox st t) : PSs X st t := fun pins s σ H D I hw =>
  wpAny_mono (h pins s σ H D (I.wish _) hw) (fun _ _ q => q.unwish) fun _ _ z => False.elim z
end

/-! ### blocks and small statements -/
section
variable {X : Cx} {st : Stmt} {rest : List Stmt} {t u : TS} {e : Expr} {te : TE} {pos : Pos}
def tNext : TS := fun D σ H => D.nx σ H
def tSeq (t u : TS) : TS := fun D σ H => t { D with nx := u D } σ H
theorem pss_nil : PSs X [] tNext := fun _ _ σ H _ I h => wpAny_execs_nil ⟨σ, H, I, h⟩
theorem pss_cons (h1 : PS X st t) (h2 : PSs X rest u) : PSs X (st :: rest) (tSeq t u) := by
  intro pins s σ H D I h
  refine wpAny_execs_cons (thn (h1 pins s σ H { D with nx := u D } I h) fun f s1 q => ?_)
  cases f with
  | next =>
    obtain ⟨σ', H', I', q⟩ := q
    exact h2 pins s1 σ' H' D I' q
  | ret v => exact q
  | brk => exact q
  | cont => exact q
theorem pss_one (h1 : PS X st t) : PSs X [st] t := by
  intro pins s σ H D I h
  refine wpAny_execs_cons (thn (h1 pins s σ H D I h) fun f s1 q => ?_)
  cases f with
  | next => exact wpAny_execs_nil q
  | ret v => exact q
  | brk => exact q
  | cont => exact q
/-- in a def's body nothing is shown -/
theorem Inv.quiet {pins : List (Addr × Obj)} {σ : St} {H : Hp} {s : Shared} (I : Inv X pins σ H s) : interactive X.env = false := by simp [interactive, I.ok.kind]
/-- an expression whose value is dropped -/
def tDrop (te : TE) : TS := fun D σ H => te σ H fun _ H1 => D.nx σ H1
theorem ps_expr (he : PE X e te) (hs : swapsWith e none pos.line X.env = pure false := by rfl) : PS X (.Expr e pos) (tDrop te) := by
  intro pins s σ H D I h
  exact wpAny_Expr_any (thn (he pins s σ H _ I h) fun v s1 ⟨x, H1, I1, r1, q1⟩ => ⟨σ, H1, I1, q1⟩) I.quiet hs
def tRet (te : TE) : TS := fun D σ H => te σ H D.rt
theorem ps_ret (he : PE X e te) : PS X (.Return (some e) pos) (tRet te) := by
  intro pins s σ H D I h
  exact wpAny_Return_some (thn (he pins s σ H _ I h) fun v s1 ⟨x, H1, I1, r1, q1⟩ => ⟨x, σ, H1, I1, r1, q1⟩)
def tIfS (c : TT) (t u : TS) : TS := fun D σ H => c σ H fun b H1 => if b = true then t D σ H1 else u D σ H1
theorem ps_if {c : Expr} {a b : List Stmt} {tc : TT} (hc : PT X c tc) (ha : PSs X a t) (hb : PSs X b u) : PS X (.If c a b pos) (tIfS tc t u) := by
  intro pins s σ H D I h
  refine wpAny_If (thn (hc pins s σ H _ I h) fun d s1 ⟨H1, I1, q1⟩ => ?_)
  cases d with
  | true => exact ha pins s1 σ H1 D I1 q1
  | false => exact hb pins s1 σ H1 D I1 q1
/-- code that the proof never comes to -/
def tNever : TS := fun _ _ _ => False
theorem pss_never {sts : List Stmt} : PSs X sts tNever := fun _ _ _ _ _ _ h => h.elim
end

/-! ### targets -/
abbrev TG := V → St → Hp → (St → Hp → Prop) → Prop
def PG (X : Cx) (target : Expr) (t : TG) : Prop :=
  ∀ (pins : List (Addr × Obj)) (s : Shared) (σ : St) (H : Hp) (v : V) (u : Value) (Q : St → Hp → Prop), Inv X pins σ H s → RelV v u → t v σ H Q →
    wpAny (model X.prog X.w) X.A (assign target X.env u) (fun _ s' => ∃ σ' H', Inv X pins σ' H' s' ∧ Q σ' H') X.xe s
section
variable {X : Cx} {pos : Pos}
def gName (i : Nat) : TG := fun v σ H Q => Q (σ.set i (some v)) H
theorem pg_name {i : Nat} {x : Str} (hN : X.N.Nodup) (hi : X.N[i]? = some x) (hx : Loc X.env.scope x) (hf : X.fn x = true ∨ X.env.scope.names.lookup x = some .local := by first | exact .inl rfl | exact .inr rfl | assumption) : PG X (.Name x pos) (gName i) := by
  intro pins s σ H v u Q I r h
  exact wpAny_assign_Name (store_ok I hN hi hx r (fun s' I' => ⟨_, H, I', h⟩) hf)
/-- target = value -/
def tAsg (te : TE) (g : TG) : TS := fun D σ H => te σ H fun x H1 => g x σ H1 D.nx
/-- name = value -/
theorem ps_set {i : Nat} {x : Str} {e : Expr} {te : TE} {pos' : Pos} (hN : X.N.Nodup) (hi : X.N[i]? = some x) (hx : Loc X.env.scope x) (he : PE X e te) (hs : swapsWith e (some (.Name x pos')) pos.line X.env = pure false := by rfl) (hf : X.fn x = true ∨ X.env.scope.names.lookup x = some .local := by first | exact .inl rfl | exact .inr rfl | assumption) :
    PS X (.Assign [.Name x pos'] e pos) (tAsg te (gName i)) := by
  intro pins s σ H D I h
  refine wpAny_Assign_Name (thn (he pins s σ H _ I h) fun v s1 ⟨y, H1, I1, r1, q1⟩ => ?_) hs
  exact store_ok I1 hN hi hx r1 (fun s2 I2 => ⟨_, H1, I2, q1⟩) hf
end

/-! ### while -/
section
variable {X : Cx} {pos : Pos}
end

/-! ### what a loop or a comprehension walks -/
/-- at turn i: it yields x (the heap may grow), or it stops -/
structure It where
  go : Nat → Hp → Prop
  yld : Nat → Hp → V → Hp → Prop
  stop : Nat → Hp → Prop
/-- the iterator's own objects may turn: they are not the frame's, not pinned, younger than the entry (or a comprehension's own) -/
def FpOk (X : Cx) (pins : List (Addr × Obj)) (H : Hp) (b : Addr) : Prop :=
  H b = none ∧ b ≠ X.env.locals ∧ b ∉ X.fs ∧ (b ∈ X.ex ∨ X.s₀.heap.objs.size ≤ b) ∧ (∀ x c, X.env.cells.lookup x = some c → c ≠ b) ∧ ∀ p ∈ X.pn ++ pins, p.1 ≠ b
theorem Inv.fpOk {X : Cx} {pins : List (Addr × Obj)} {σ : St} {H H' : Hp} {s : Shared} {b : Addr} (I : Inv X pins σ H s) (hb : s.heap.objs.size ≤ b) (hn : H' b = none) : FpOk X pins H' b := by
  refine ⟨hn, Nat.ne_of_gt (Nat.lt_of_lt_of_le I.lt hb), I.nofs hb, .inr (Nat.le_trans I.sz hb), fun x c e z => ?_, fun p hp z => ?_⟩
  · obtain ⟨v, q⟩ := I.cell x c e
    exact absurd (Nat.lt_of_lt_of_le q.lt (by rw [z]; exact hb)) (Nat.lt_irrefl _)
  · exact absurd (Nat.lt_of_lt_of_le (Heap.lt_size (I.pin p hp).1) (by rw [z]; exact hb)) (Nat.lt_irrefl _)
structure Turn (P : Program) (w : World) (K : PySem.W.Frag) (tg : Expr) (J : It) (fp : List Addr) (it : Addr) (tn : Nat → Heap → Prop) : Prop where
  mem : it ∈ fp
  obj : ∀ i h, tn i h → ∀ b ∈ fp, ∃ o, h.get? b = some o ∧ ∀ v, o.data ≠ .cell v
  keep : ∀ i h h', tn i h → (∀ b ∈ fp, ∀ o, h.get? b = some o → h'.get? b = some o) → tn i h'
  item : ∀ (X : Cx), X.prog = P → X.w = w → X.K = K → X.calm = true → ∀ (i : Nat) (pins : List (Addr × Obj)) (s : Shared) (σ : St) (H : Hp) (E : Value → Shared → Prop), Inv X pins σ H s → (∀ b ∈ fp, FpOk X pins H b) → tn i s.heap → J.go i H →
    wpAny (model P w) X.A (pyNext (.ref it)) (fun r s1 => ∃ u, r = some u ∧
      wpAny (model P w) X.A (letOwnedTupleGo tg (.ref it) u) (fun _ s2 => ∃ x H', Inv X pins σ H' s2 ∧ RelV x u ∧ J.yld i H x H' ∧ tn (i + 1) s2.heap ∧ ∀ b ∈ fp, H' b = none) E s1) E s
  done : ∀ (X : Cx), X.prog = P → X.w = w → X.K = K → X.calm = true → ∀ (i : Nat) (pins : List (Addr × Obj)) (s : Shared) (σ : St) (H : Hp) (E : Value → Shared → Prop), Inv X pins σ H s → (∀ b ∈ fp, FpOk X pins H b) → tn i s.heap → J.stop i H →
    wpAny (model P w) X.A (pyNext (.ref it)) (fun r s1 => r = none ∧ Inv X pins σ H s1) E s
  self : ∀ (A : Around) (i : Nat) (s : Shared) (Q : Value → Shared → Prop) (E : Value → Shared → Prop), tn i s.heap → Q (.ref it) s → wpAny (model P w) A (pyIter (.ref it)) Q E s
abbrev TI := St → Hp → (It → Hp → Prop) → Prop
/-- an iterator has come -/
def PIE (X : Cx) (pins : List (Addr × Obj)) (σ : St) (tg : Expr) (R : It → Hp → Prop) (itv : Value) (s2 : Shared) : Prop :=
  ∃ (it : Addr) (fp : List Addr) (tn : Nat → Heap → Prop) (J : It) (H' : Hp), itv = .ref it ∧ Inv X pins σ H' s2 ∧ Turn X.prog X.w X.K tg J fp it tn ∧ tn 0 s2.heap ∧ (∀ b ∈ fp, FpOk X pins H' b) ∧ R J H'
def PI (X : Cx) (tg iter : Expr) (wi : TI) : Prop :=
  ∀ (pins : List (Addr × Obj)) (s : Shared) (σ : St) (H : Hp) (R : It → Hp → Prop), Inv X pins σ H s → wi σ H R →
    wpAny (model X.prog X.w) X.A (eval iter X.env) (fun v s1 => wpAny (model X.prog X.w) X.A (pyIter v) (PIE X pins σ tg R) X.xe s1) X.xe s

/-- the step ahead of the store is nothing for an iterator that keeps no tuple -/
theorem go_of {M : Model} {A : Around} {E : Value → Shared → Prop} {s : Shared} {tg : Expr} {it : Addr} {u : Value} {o : Obj} {n : String} {vs : Array Value} {Q : Unit → Shared → Prop} (ho : s.heap.get? it = some o) (hc : o.cls = .type n) (hd : o.data = .fields vs)
    (hn : ["enumerate", "zip", "dict_itemiterator", "dict_reverseitemiterator", "odict_iterator", "itertools.zip_longest", "itertools.pairwise"].contains n = false) (hQ : Q () s) : wpAny M A (letOwnedTupleGo tg (.ref it) u) Q E s := by
  unfold letOwnedTupleGo
  cases tg <;> first
    | exact wpAny_pure hQ
    | (cases u <;> first
        | exact wpAny_pure hQ
        | (refine wpAny_bind (wpAny_load ho ?_)
           rw [hc, hd]
           show wpAny M A (if (["enumerate", "zip", "dict_itemiterator", "dict_reverseitemiterator", "odict_iterator", "itertools.zip_longest", "itertools.pairwise"].contains n && vs[0]? == some (rawInt _)) = true then _ else _) Q E s
           rw [if_neg (by intro h; rw [hn, Bool.false_and] at h; cases h)]
           exact wpAny_pure hQ))

/-- the list at a, as it stands at each turn (a loop may append to it) -/
def Itl (K : PySem.W.Frag) (a : Addr) : It :=
  ⟨fun i H => ∃ xs x, SqL K H a xs ∧ xs[i]? = some x, fun i H x H' => H' = H ∧ ∀ xs, SqL K H a xs → xs[i]? = some x, fun i H => ∃ xs, SqL K H a xs ∧ xs.length ≤ i⟩
def Itt (K : PySem.W.Frag) (a : Addr) : It :=
  ⟨fun i H => ∃ xs x, SqT K H a xs ∧ xs[i]? = some x, fun i H x H' => H' = H ∧ ∀ xs, SqT K H a xs → xs[i]? = some x, fun i H => ∃ xs, SqT K H a xs ∧ xs.length ≤ i⟩
/-- lo, lo + 1, .. (n of them) -/
def Itr (lo : Int) (n : Nat) : It := ⟨fun i _ => i < n, fun i H x H' => H' = H ∧ x = .int (lo + i), fun i _ => n ≤ i⟩
theorem turn_list {P : Program} {w : World} {K : PySem.W.Frag} {tg : Expr} (a it : Addr) : Turn P w K tg (Itl K a) [it] it (fun i h => h.IsListIter it a i) where
  mem := by simp
  obj := fun i h st b hb => by
    have e : b = it := by simpa using hb
    subst e
    obtain ⟨o, e, c, d⟩ := st
    exact ⟨o, e, fun v z => by rw [d] at z; cases z⟩
  keep := fun i h h' st k => st.at fun o e => k it (by simp) o e
  item := by
    intro X hP hw hK hc i pins s σ H E I hf st hg
    subst hP hw hK
    obtain ⟨xs, x, hq, hx⟩ := hg
    obtain ⟨its, rv, p, hz⟩ := I.list hq
    obtain ⟨u, hu, ru⟩ := rv.get hx
    obtain ⟨f0, f1, f2, f3, f4, f5⟩ := hf it (by simp)
    refine wpAny_pyNext_list_item st p.isList (x := u) (by simpa using hu) fun h' st' sb => ?_
    have I1 : Inv X pins σ H { s with heap := h' } := I.turned (t' := s.toks) (fun b o hb e => (sb.2 b hb).trans e) f0 f1 f3 f4 f5
    obtain ⟨o, e, c, d⟩ := id st'
    exact ⟨u, rfl, go_of (s := { s with heap := h' }) e c d (by decide) ⟨x, H, I1, ru, ⟨rfl, fun ys hy => by rw [I.list_inj hy hq]; exact hx⟩, st', fun b hb => (hf b hb).1⟩⟩
  done := by
    intro X hP hw hK hc i pins s σ H E I hf st hg
    subst hP hw hK
    obtain ⟨xs, hq, hx⟩ := hg
    obtain ⟨its, rv, p, hz⟩ := I.list hq
    obtain ⟨f0, f1, f2, f3, f4, f5⟩ := hf it (by simp)
    have hl := rv.length
    exact wpAny_pyNext_list_end (I.ok.hd hc) st p.isList (by simp; omega) fun h' eb => ⟨rfl, I.turned (t' := s.toks) (fun b o hb e => eb b o hb e) f0 f1 f3 f4 f5⟩
  self := fun _ _ _ _ _ st h => wpAny_pyIter_listiter st h
theorem turn_tuple {P : Program} {w : World} {K : PySem.W.Frag} {tg : Expr} (a it : Addr) : Turn P w K tg (Itt K a) [it] it (fun i h => h.IsTupleIter it a i) where
  mem := by simp
  obj := fun i h st b hb => by
    have e : b = it := by simpa using hb
    subst e
    obtain ⟨o, e, c, d⟩ := st
    exact ⟨o, e, fun v z => by rw [d] at z; cases z⟩
  keep := fun i h h' st k => st.at fun o e => k it (by simp) o e
  item := by
    intro X hP hw hK hc i pins s σ H E I hf st hg
    subst hP hw hK
    obtain ⟨xs, x, hq, hx⟩ := hg
    obtain ⟨its, rv, p, hz⟩ := I.tuple hq
    obtain ⟨u, hu, ru⟩ := rv.get hx
    obtain ⟨f0, f1, f2, f3, f4, f5⟩ := hf it (by simp)
    refine wpAny_pyNext_tuple_item st (show s.heap.IsTuple a its.toArray from p) (x := u) (by simpa using hu) fun h' st' sb => ?_
    have I1 : Inv X pins σ H { s with heap := h' } := I.turned (t' := s.toks) (fun b o hb e => (sb.2 b hb).trans e) f0 f1 f3 f4 f5
    obtain ⟨o, e, c, d⟩ := id st'
    exact ⟨u, rfl, go_of (s := { s with heap := h' }) e c d (by decide) ⟨x, H, I1, ru, ⟨rfl, fun ys hy => by rw [I.tuple_inj hy hq]; exact hx⟩, st', fun b hb => (hf b hb).1⟩⟩
  done := by
    intro X hP hw hK hc i pins s σ H E I hf st hg
    subst hP hw hK
    obtain ⟨xs, hq, hx⟩ := hg
    obtain ⟨its, rv, p, hz⟩ := I.tuple hq
    obtain ⟨f0, f1, f2, f3, f4, f5⟩ := hf it (by simp)
    have hl := rv.length
    exact wpAny_pyNext_tuple_end (I.ok.hd hc) st (show s.heap.IsTuple a its.toArray from p) (by simp; omega) fun h' eb => ⟨rfl, I.turned (t' := s.toks) (fun b o hb e => eb b o hb e) f0 f1 f3 f4 f5⟩
  self := fun _ _ _ _ _ st h => wpAny_pyIter_tupleiter st h
theorem turn_range {P : Program} {w : World} {K : PySem.W.Frag} {tg : Expr} (it : Addr) (lo : Int) (n : Nat) : Turn P w K tg (Itr lo n) [it] it (fun i h => IsRangeIter h it (lo + (i : Nat) * 1) ((n : Int) - (i : Nat)) 1) where
  mem := by simp
  obj := fun i h st b hb => by
    have e : b = it := by simpa using hb
    subst e
    exact ⟨_, st, fun v z => by
      have z' : Data.fields _ = Data.cell v := z
      cases z'⟩
  keep := fun i h h' st k => k it (by simp) _ st
  item := by
    intro X hP hw hK hc i pins s σ H E I hf st hg
    subst hP hw hK
    obtain ⟨f0, f1, f2, f3, f4, f5⟩ := hf it (by simp)
    have W := Walks.range (prog := X.prog) (w := X.w) (I.ok.hd hc) it lo 1 n
    refine W.item i s _ _ hg st fun v h' tk hv st' kk => ?_
    obtain ⟨t, rfl⟩ := hv
    have I1 : Inv X pins σ H { s with heap := h', toks := tk } := I.turned (fun b o hb e => kk b o (by simpa using hb) e) f0 f1 f3 f4 f5
    refine ⟨_, rfl, go_of (s := { s with heap := h', toks := tk }) (n := "range_iterator") st' rfl rfl (by decide) ⟨.int (lo + i), H, I1, ⟨t, ?_⟩, ⟨rfl, rfl⟩, st', fun b hb => (hf b hb).1⟩⟩
    rw [Int.mul_one]
  done := by
    intro X hP hw hK hc i pins s σ H E I hf st hg
    subst hP hw hK
    obtain ⟨f0, f1, f2, f3, f4, f5⟩ := hf it (by simp)
    exact wpAny_pyNext_range_end (I.ok.hd hc) st (by have : n ≤ i := hg; omega) fun h' eb => ⟨rfl, I.turned (t' := s.toks) (fun b o hb e => eb b o hb e) f0 f1 f3 f4 f5⟩
  self := fun _ _ _ _ _ st h => wpAny_pyIter_rangeiter st h
end L2

namespace L2
open PySem PySem.Spec PyProof.Rows
section
variable {X : Cx} {tg : Expr}
def iList (K : PySem.W.Frag) (tl : TE) : TI := fun σ H R => tl σ H fun x H1 => ∃ a, x = .ref a ∧ (∃ xs, SqL K H1 a xs) ∧ R (Itl K a) H1
def iTup (K : PySem.W.Frag) (tl : TE) : TI := fun σ H R => tl σ H fun x H1 => ∃ a, x = .ref a ∧ (∃ xs, SqT K H1 a xs) ∧ R (Itt K a) H1
theorem pi_list {l : Expr} {tl : TE} (hl : PE X l tl) : PI X tg l (iList X.K tl) := by
  intro pins s σ H R I h
  refine thn (hl pins s σ H _ I h) fun v s1 ⟨x, H1, I1, r1, q1⟩ => ?_
  obtain ⟨a, e, ⟨xs, hq⟩, q⟩ := q1
  subst e
  cases r1
  obtain ⟨its, rv, p, hz⟩ := I1.list hq
  refine wpAny_pyIter_list p.isList ?_
  refine ⟨s1.heap.objs.size, [s1.heap.objs.size], _, _, H1, rfl, I1.kept (t' := s1.toks) fun b o e => Heap.get?_push_of_some _ e, turn_list a _, ⟨_, Heap.get?_push_size _ rfl, rfl, rfl⟩, fun b hb => ?_, q⟩
  have e : b = s1.heap.objs.size := by simpa using hb
  subst e
  exact I1.fpOk (Nat.le_refl _) (I1.hok.fresh (Nat.le_refl _))
theorem pi_tup {l : Expr} {tl : TE} (hl : PE X l tl) : PI X tg l (iTup X.K tl) := by
  intro pins s σ H R I h
  refine thn (hl pins s σ H _ I h) fun v s1 ⟨x, H1, I1, r1, q1⟩ => ?_
  obtain ⟨a, e, ⟨xs, hq⟩, q⟩ := q1
  subst e
  cases r1
  obtain ⟨its, rv, p, hz⟩ := I1.tuple hq
  refine wpAny_pyIter_tuple (show s1.heap.IsTuple a its.toArray from p) ?_
  refine ⟨s1.heap.objs.size, [s1.heap.objs.size], _, _, H1, rfl, I1.kept (t' := s1.toks) fun b o e => Heap.get?_push_of_some _ e, turn_tuple a _, ⟨_, Heap.get?_push_size _ rfl, rfl, rfl⟩, fun b hb => ?_, q⟩
  have e : b = s1.heap.objs.size := by simpa using hb
  subst e
  exact I1.fpOk (Nat.le_refl _) (I1.hok.fresh (Nat.le_refl _))
/-- a range object just made, walked -/
theorem range_it {pins : List (Addr × Obj)} {σ : St} {H : Hp} {s : Shared} {R : It → Hp → Prop} {E : Value → Shared → Prop} {lo hi : Int} {t u v : Tok} {tk : Nat} (I : Inv X pins σ H s) (h1 : -(2 ^ 62) ≤ lo) (h2 : lo < 2 ^ 62) (h3 : -(2 ^ 62) ≤ hi) (h4 : hi < 2 ^ 62)
    (q : R (Itr lo (hi - lo).toNat) H) : wpAny (model X.prog X.w) X.A (pyIter (.ref s.heap.objs.size)) (PIE X pins σ tg R) E { s with heap := s.heap.push { cls := .type "range", data := .fields #[.int lo t, .int hi u, .int 1 v] }, toks := tk } := by
  refine wpAny_pyIter_range (IsRange.new ..) (small_one h1 h2 h3 h4) ?_
  have I1 : Inv X pins σ H { s with heap := s.heap.push { cls := .type "range", data := .fields #[.int lo t, .int hi u, .int 1 v] }, toks := tk } := I.kept fun b o e => Heap.get?_push_of_some _ e
  refine ⟨(s.heap.push { cls := .type "range", data := .fields #[.int lo t, .int hi u, .int 1 v] }).objs.size, [(s.heap.push { cls := .type "range", data := .fields #[.int lo t, .int hi u, .int 1 v] }).objs.size], _, _, H, rfl,
    I1.kept (t' := tk) fun b o e => Heap.get?_push_of_some _ e, turn_range _ lo (hi - lo).toNat, ?_, fun b hb => ?_, q⟩
  · have e1 : lo + ((0 : Nat) : Int) * 1 = lo := by simp
    have e2 : (((hi - lo).toNat : Nat) : Int) - ((0 : Nat) : Int) = Builtin.Range.rangeSize lo hi 1 := by rw [rangeSize_one]; split <;> omega
    show IsRangeIter _ _ (lo + ((0 : Nat) : Int) * 1) ((((hi - lo).toNat : Nat) : Int) - ((0 : Nat) : Int)) 1
    rw [e1, e2]
    exact Heap.get?_push_size _ rfl
  · have e : b = (s.heap.push { cls := .type "range", data := .fields #[.int lo t, .int hi u, .int 1 v] }).objs.size := by simpa using hb
    subst e
    exact I1.fpOk (Nat.le_refl _) (I1.hok.fresh (Nat.le_refl _))
def iRng1 (ta : TA) : TI := fun σ H R => ta σ H fun vs H1 => ∃ j : Int, vs = [.int j] ∧ -(2 ^ 62) ≤ j ∧ j < 2 ^ 62 ∧ R (Itr 0 j.toNat) H1
theorem pi_range1 {a : Expr} {ta : TA} {p pos : Pos} (hg : Gl X "range") (hm : X.mg "range" = none) (ha : PA X [a] ta) (hs : starEach [a] X.env = [(false, eval a X.env)] := by rfl) : PI X tg (.Call (.Name "range" p) [a] [] pos) (iRng1 ta) := by
  intro pins s σ H R I h
  refine Call_ (ld_blt I hg hm boot_range (PyProof.Rows.callWith_type1 (thn (ha pos pins s σ H _ I h) fun us s1 ⟨vs, H1, I1, r1, q1⟩ => ?_) hs rfl))
  obtain ⟨j, e, q1, q2, q⟩ := q1
  subst e
  cases r1 with
  | cons r rr =>
    cases rr
    obtain ⟨t, rfl⟩ := r
    exact call_range_1 (range_it I1 (by omega) (by omega) q1 q2 (by simpa using q))
/-! ### for -/
/-- W: the invariant by the turn and a measure; N: what the body is to reach -/
def tFor (wi : TI) (g : TG) (tb : TS) : TS := fun D σ H => wi σ H fun J H1 => ∃ W : Nat → Nat → St → Hp → Prop, (∃ m, W 0 m σ H1) ∧ ∀ i m σ H, W i m σ H →
  (J.stop i H ∧ D.nx σ H) ∨ (J.go i H ∧ ∃ N : St → Hp → Prop, (∀ σ' H', N σ' H' → ∃ m', m' < m ∧ W (i + 1) m' σ' H') ∧ ∀ x H', J.yld i H x H' → g x σ H' fun σ2 H2 => tb { D with nx := N, ct := N, bk := D.nx } σ2 H2)
/-- the records at fp as they stand -/
def pinsAt (fp : List Addr) (h : Heap) : List (Addr × Obj) := fp.filterMap fun b => (h.get? b).map fun o => (b, o)
theorem mem_pinsAt {fp : List Addr} {h : Heap} {b : Addr} {o : Obj} (hb : b ∈ fp) (e : h.get? b = some o) : (b, o) ∈ pinsAt fp h := List.mem_filterMap.mpr ⟨b, hb, by rw [e]; rfl⟩
theorem of_pinsAt {fp : List Addr} {h : Heap} {p : Addr × Obj} (hp : p ∈ pinsAt fp h) : p.1 ∈ fp ∧ h.get? p.1 = some p.2 := by
  obtain ⟨b, hb, e⟩ := List.mem_filterMap.mp hp
  cases q : h.get? b with
  | none => rw [q] at e; cases e
  | some o =>
    rw [q] at e
    have e' : (b, o) = p := Option.some.inj e
    subst e'
    exact ⟨hb, q⟩
theorem Inv.pinned {pins : List (Addr × Obj)} {σ : St} {H : Hp} {s : Shared} {fp : List Addr} (I : Inv X pins σ H s) (hf : ∀ b ∈ fp, FpOk X pins H b) (ho : ∀ b ∈ fp, ∃ o, s.heap.get? b = some o ∧ ∀ v, o.data ≠ .cell v) : Inv X (pins ++ pinsAt fp s.heap) σ H s :=
  I.pins_of fun p hp => (List.mem_append.mp hp).elim (fun z => I.pin p (List.mem_append_right _ z)) fun z => by
    obtain ⟨hb, e⟩ := of_pinsAt z
    obtain ⟨f0, f1, f2, _⟩ := hf p.1 hb
    obtain ⟨o, e', d⟩ := ho p.1 hb
    rw [e] at e'; cases e'
    exact ⟨e, f0, f1, f2, d⟩
theorem Inv.unpinned {pins pl : List (Addr × Obj)} {σ : St} {H : Hp} {s : Shared} (I : Inv X (pins ++ pl) σ H s) : Inv X pins σ H s := I.pins_of fun p hp => I.pin p (List.mem_append_right _ (List.mem_append_left _ hp))
theorem ps_for {iter : Expr} {body : List Stmt} {wi : TI} {g : TG} {tb : TS} {pos : Pos} (hp : PassesOwn (model X.prog X.w) X.A X.env X.xe) (hc : X.calm = true) (hi : PI X tg iter wi) (hg : PG X tg g) (hb : PSs X body tb)
    (hs : ∀ x, foldedSetIterable iter X.env x = pure x := by intro _; rfl) : PS X (.For tg iter body [] pos) (tFor wi g tb) := by
  intro pins s σ H D I h
  refine wpAny_For (thn (hi pins s σ H _ I h) fun v s1 h1 => thn h1 fun itv s2 h2 => ?_) hs
  obtain ⟨it, fp, tn, J, H2, e, I2, T, st2, f2, W, ⟨m0, w0⟩, turn⟩ := h2
  subst e
  -- what stays true of the iterator's objects through the loop
  have stat : ∀ {H' : Hp}, (∀ b ∈ fp, H' b = none) → ∀ b ∈ fp, FpOk X pins H' b := fun hn b hb => ⟨hn b hb, (f2 b hb).2⟩
  refine codeAny_forLoop_any (fun n s' => ∃ i σ' H', Inv X pins σ' H' s' ∧ tn i s'.heap ∧ (∀ b ∈ fp, H' b = none) ∧ W i n σ' H') ?_ m0 ⟨0, σ, H2, I2, st2, fun b hb => (f2 b hb).1, w0⟩
  rintro n s3 ⟨i, σ3, H3, I3, st3, fr3, w3⟩
  rcases turn i n σ3 H3 w3 with ⟨stop, qn⟩ | ⟨go, N, hN, step⟩
  · refine wpAny_passesOwn hp (thn (T.done X rfl rfl rfl hc i pins s3 σ3 H3 X.xe I3 (stat fr3) st3 stop) fun r s4 ⟨hr, I4⟩ => ?_)
    subst hr
    exact wpAny_execs_nil ⟨σ3, H3, I4, qn⟩
  · refine wpAny_passesOwn hp (thn (T.item X rfl rfl rfl hc i pins s3 σ3 H3 X.xe I3 (stat fr3) st3 go) fun r s4 ⟨u, hr, h4⟩ => ?_)
    subst hr
    refine wpAny_passesOwn hp (thn h4 fun _ s5 ⟨x, H5, I5, r5, y5, st5, fr5⟩ => ?_)
    have I5' := I5.pinned (stat fr5) (T.obj _ _ st5)
    refine wpAny_passesOwn hp (thn (hg _ s5 σ3 H5 x u _ I5' r5 (step x H5 y5)) fun _ s6 ⟨σ6, H6, I6, q6⟩ => ?_)
    refine wpAny_passesOwn hp (thn (hb _ s6 σ6 H6 _ I6 q6) fun f s7 q7 => ?_)
    have again : ∀ {σ7 : St} {H7 : Hp}, Inv X (pins ++ pinsAt fp s5.heap) σ7 H7 s7 → N σ7 H7 → ∃ m, m < n ∧ ∃ i σ' H', Inv X pins σ' H' s7 ∧ tn i s7.heap ∧ (∀ b ∈ fp, H' b = none) ∧ W i m σ' H' := fun {σ7 H7} I7 n7 => by
      obtain ⟨m', hm, w7⟩ := hN σ7 H7 n7
      refine ⟨m', hm, i + 1, σ7, H7, I7.unpinned, T.keep _ _ _ st5 fun b hb o e => (I7.pin (b, o) (List.mem_append_right _ (List.mem_append_right _ (mem_pinsAt hb e)))).1, fun b hb => ?_, w7⟩
      obtain ⟨o, e, d⟩ := T.obj _ _ st5 b hb
      exact (I7.pin (b, o) (List.mem_append_right _ (List.mem_append_right _ (mem_pinsAt hb e)))).2.1
    cases f with
    | next => obtain ⟨σ7, H7, I7, n7⟩ := q7; exact again I7 n7
    | cont => obtain ⟨σ7, H7, I7, n7⟩ := q7; exact again I7 n7
    | brk => obtain ⟨σ7, H7, I7, q7⟩ := q7; exact ⟨σ7, H7, I7.unpinned, q7⟩
    | ret v => obtain ⟨x7, σ7, H7, I7, r7, q7⟩ := q7; exact ⟨x7, σ7, H7, I7.unpinned, r7, q7⟩
end

/-! ### the forms one uses -/
/-- over a list that the body leaves as it is -/
theorem for_list {K : PySem.W.Frag} {a : Addr} {xs : List V} {g : TG} {tb : TS} {D : Ends} {σ : St} {H : Hp} (Pv : Nat → St → Hp → Prop) (h0 : Pv 0 σ H) (hl : ∀ i σ H, i ≤ xs.length → Pv i σ H → SqL K H a xs)
    (hs : ∀ i x σ H, xs[i]? = some x → Pv i σ H → g x σ H fun σ2 H2 => tb { D with nx := Pv (i + 1), ct := Pv (i + 1), bk := D.nx } σ2 H2) (hd : ∀ σ H, Pv xs.length σ H → D.nx σ H) :
    ∃ W : Nat → Nat → St → Hp → Prop, (∃ m, W 0 m σ H) ∧ ∀ i m σ H, W i m σ H →
      ((Itl K a).stop i H ∧ D.nx σ H) ∨ ((Itl K a).go i H ∧ ∃ N : St → Hp → Prop, (∀ σ' H', N σ' H' → ∃ m', m' < m ∧ W (i + 1) m' σ' H') ∧ ∀ x H', (Itl K a).yld i H x H' → g x σ H' fun σ2 H2 => tb { D with nx := N, ct := N, bk := D.nx } σ2 H2) := by
  refine ⟨fun i m σ H => m = xs.length - i ∧ i ≤ xs.length ∧ Pv i σ H, ⟨xs.length, by simp, Nat.zero_le _, h0⟩, ?_⟩
  rintro i m σ H ⟨rfl, hi, p⟩
  have q := hl i σ H hi p
  by_cases hlt : i < xs.length
  · refine .inr ⟨⟨xs, xs[i], q, by simp [hlt]⟩, Pv (i + 1), fun σ' H' p' => ⟨xs.length - (i + 1), by omega, rfl, hlt, p'⟩, fun x H' y => ?_⟩
    obtain ⟨e, y⟩ := y
    subst e
    exact hs i x σ _ (y xs q) p
  · have e : i = xs.length := by omega
    subst e
    exact .inl ⟨⟨xs, q, Nat.le_refl _⟩, hd σ H p⟩
theorem for_range {lo : Int} {n : Nat} {g : TG} {tb : TS} {D : Ends} {σ : St} {H : Hp} (Pv : Nat → St → Hp → Prop) (h0 : Pv 0 σ H)
    (hs : ∀ i σ H, i < n → Pv i σ H → g (.int (lo + i)) σ H fun σ2 H2 => tb { D with nx := Pv (i + 1), ct := Pv (i + 1), bk := D.nx } σ2 H2) (hd : ∀ σ H, Pv n σ H → D.nx σ H) :
    ∃ W : Nat → Nat → St → Hp → Prop, (∃ m, W 0 m σ H) ∧ ∀ i m σ H, W i m σ H →
      ((Itr lo n).stop i H ∧ D.nx σ H) ∨ ((Itr lo n).go i H ∧ ∃ N : St → Hp → Prop, (∀ σ' H', N σ' H' → ∃ m', m' < m ∧ W (i + 1) m' σ' H') ∧ ∀ x H', (Itr lo n).yld i H x H' → g x σ H' fun σ2 H2 => tb { D with nx := N, ct := N, bk := D.nx } σ2 H2) := by
  refine ⟨fun i m σ H => m = n - i ∧ i ≤ n ∧ Pv i σ H, ⟨n, by simp, Nat.zero_le _, h0⟩, ?_⟩
  rintro i m σ H ⟨rfl, hi, p⟩
  by_cases hlt : i < n
  · refine .inr ⟨hlt, Pv (i + 1), fun σ' H' p' => ⟨n - (i + 1), by omega, rfl, hlt, p'⟩, fun x H' y => ?_⟩
    obtain ⟨e, y⟩ := y
    subst e y
    exact hs i σ _ hlt p
  · have e : i = n := by omega
    subst e
    exact .inl ⟨Nat.le_refl _, hd σ H p⟩
end L2

namespace L2
open PySem PySem.Spec PyProof.Rows

abbrev R2 := V → V → Hp → VK → Prop
/-- a two-place operation on values: f is binaryOp op, inplaceOp op or compareOp op -/
def OpR (X : Cx) (f : Value → Value → Sem Value) (r : R2) : Prop :=
  ∀ (pins : List (Addr × Obj)) (s : Shared) (σ : St) (H : Hp) (x y : V) (v u : Value) (Q : VK), Inv X pins σ H s → RelV x v → RelV y u → r x y H Q →
    wpAny (model X.prog X.w) X.A (f v u) (EP X pins σ Q) X.xe s
/-- a one-place operation -/
def UnR (X : Cx) (f : Value → Sem Value) (r : V → Hp → VK → Prop) : Prop :=
  ∀ (pins : List (Addr × Obj)) (s : Shared) (σ : St) (H : Hp) (x : V) (v : Value) (Q : VK), Inv X pins σ H s → RelV x v → r x H Q →
    wpAny (model X.prog X.w) X.A (f v) (EP X pins σ Q) X.xe s
/-- a call of a value that is known (a builtin, a type) with values -/
def CallR (X : Cx) (f : Value) (r : List V → Hp → VK → Prop) : Prop :=
  ∀ (pins : List (Addr × Obj)) (s : Shared) (σ : St) (H : Hp) (xs : List V) (us : List Value) (Q : VK), Inv X pins σ H s → Vals xs us → r xs H Q →
    wpAny (model X.prog X.w) X.A (call f us) (EP X pins σ Q) X.xe s
def tOp (r : R2) (ta tb : TE) : TE := fun σ H Q => ta σ H fun x H1 => tb σ H1 fun y H2 => r x y H2 Q
def tUn (r : V → Hp → VK → Prop) (ta : TE) : TE := fun σ H Q => ta σ H fun x H1 => r x H1 Q
/-- ints in, under C, and a value out -/
def rI (C : Int → Int → Prop) (g : Int → Int → V) : R2 := fun x y H Q => ∃ i j, x = .int i ∧ y = .int j ∧ C i j ∧ Q (g i j) H
def rI0 (g : Int → Int → V) : R2 := fun x y H Q => ∃ i j, x = .int i ∧ y = .int j ∧ Q (g i j) H
def rU (g : Int → V) : V → Hp → VK → Prop := fun x H Q => ∃ i, x = .int i ∧ Q (g i) H

section
variable {X : Cx} {a b c : Expr} {ta tb tc : TE} {pos : Pos}

theorem binT (ha : PE X a ta) (hb : PE X b tb) {pins : List (Addr × Obj)} {s : Shared} {σ : St} {H : Hp} {R : V → V → Hp → Prop} (I : Inv X pins σ H s)
    (h : ta σ H fun x H1 => tb σ H1 fun y H2 => R x y H2) {Q : Value → Shared → Prop} {f : Value → Value → Sem Value}
    (hf : ∀ v u s2 x y H2, Inv X pins σ H2 s2 → RelV x v → RelV y u → R x y H2 → wpAny (model X.prog X.w) X.A (f v u) Q X.xe s2) :
    wpAny (model X.prog X.w) X.A (eval a X.env) (fun v s₁ => wpAny (model X.prog X.w) X.A (eval b X.env) (fun u s₂ => wpAny (model X.prog X.w) X.A (f v u) Q X.xe s₂) X.xe s₁) X.xe s := by
  refine thn (ha pins s σ H _ I h) fun v s1 ⟨x, H1, I1, r1, q1⟩ => ?_
  refine thn (hb pins s1 σ H1 _ I1 q1) fun u s2 ⟨y, H2, I2, r2, q2⟩ => ?_
  exact hf v u s2 x y H2 I2 r1 r2 q2

theorem pe_op {op : Operator} {r : R2} (ho : OpR X (binaryOp op) r) (ha : PE X a ta) (hb : PE X b tb) : PE X (.BinOp a op b pos) (tOp r ta tb) := by
  intro pins s σ H Q I h
  exact wpAny_BinOp (binT ha hb I h fun v u s2 x y H2 I2 rx ry q => ho pins s2 σ H2 x y v u Q I2 rx ry q)
theorem pe_un {op : UnaryOp} {r : V → Hp → VK → Prop} (ho : UnR X (unaryOp op) r) (ha : PE X a ta) : PE X (.UnaryOp op a pos) (tUn r ta) := by
  intro pins s σ H Q I h
  exact UnaryOp_ (thn (ha pins s σ H _ I h) fun v s1 ⟨x, H1, I1, r1, q1⟩ => ho pins s1 σ H1 x v Q I1 r1 q1)
/-! ### ints -/
theorem opI {f : Value → Value → Sem Value} {C : Int → Int → Prop} {g : Int → Int → Int}
    (rule : ∀ (i j : Int) (t u : Tok) (s : Shared) (Q : Value → Shared → Prop) (E : Value → Shared → Prop), C i j → Q (.int (g i j) s.toks) { s with toks := s.toks + 1 } → wpAny (model X.prog X.w) X.A (f (.int i t) (.int j u)) Q E s) :
    OpR X f (rI C fun i j => .int (g i j)) := by
  intro pins s σ H x y v u Q I rx ry h
  obtain ⟨i, j, rfl, rfl, hc, q⟩ := h
  obtain ⟨t, rfl⟩ := rx
  obtain ⟨t', rfl⟩ := ry
  exact rule i j t t' s _ _ hc ⟨.int (g i j), H, I.tok _, ⟨_, rfl⟩, q⟩
theorem opI0 {f : Value → Value → Sem Value} {g : Int → Int → Int}
    (rule : ∀ (i j : Int) (t u : Tok) (s : Shared) (Q : Value → Shared → Prop) (E : Value → Shared → Prop), Q (.int (g i j) s.toks) { s with toks := s.toks + 1 } → wpAny (model X.prog X.w) X.A (f (.int i t) (.int j u)) Q E s) :
    OpR X f (rI0 fun i j => .int (g i j)) := by
  intro pins s σ H x y v u Q I rx ry h
  obtain ⟨i, j, rfl, rfl, q⟩ := h
  obtain ⟨t, rfl⟩ := rx
  obtain ⟨t', rfl⟩ := ry
  exact rule i j t t' s _ _ ⟨.int (g i j), H, I.tok _, ⟨_, rfl⟩, q⟩
theorem opB0 {f : Value → Value → Sem Value} {g : Int → Int → Bool}
    (rule : ∀ (i j : Int) (t u : Tok) (s : Shared) (Q : Value → Shared → Prop) (E : Value → Shared → Prop), Q (.bool (g i j)) s → wpAny (model X.prog X.w) X.A (f (.int i t) (.int j u)) Q E s) :
    OpR X f (rI0 fun i j => .bl (g i j)) := by
  intro pins s σ H x y v u Q I rx ry h
  obtain ⟨i, j, rfl, rfl, q⟩ := h
  obtain ⟨t, rfl⟩ := rx
  obtain ⟨t', rfl⟩ := ry
  exact rule i j t t' s _ _ ⟨.bl (g i j), H, I, rfl, q⟩

def CDiv (i j : Int) : Prop := 0 < j ∧ j < 1073741824
def CPow (i j : Int) : Prop := 0 ≤ j ∧ j ≤ 1000000 ∧ i.natAbs < 2 ^ 64
def CMul (i j : Int) : Prop := (-(2 ^ 64) < i ∧ i < 2 ^ 64) ∨ (-(2 ^ 64) < j ∧ j < 2 ^ 64)
theorem CMul.ok {i j : Int} (h : CMul i j) : IntMulOk i j := by
  rcases h with ⟨h1, h2⟩ | ⟨h1, h2⟩
  · exact .of_left (intBits_le_64 h1 h2)
  · exact .of_right (intBits_le_64 h1 h2)
theorem op_add : OpR X (binaryOp .Add) (rI0 fun i j => .int (i + j)) := opI0 fun _ _ _ _ _ _ _ q => add_int q
theorem op_sub : OpR X (binaryOp .Sub) (rI0 fun i j => .int (i - j)) := opI0 fun _ _ _ _ _ _ _ q => sub_int q
/-- // by a positive divisor -/
theorem op_fdiv : OpR X (binaryOp .FloorDiv) (rI CDiv fun i j => .int (i / j)) := opI fun i j _ _ _ _ _ hc q => by
  have h1 : (0 : Int) < j := hc.1
  have h2 : j < 1073741824 := hc.2
  exact floordiv_int (by omega) (by rw [Int.fdiv_eq_ediv_of_nonneg i (by omega)]; exact q) (.inl (PyProof.noPylong_small (by omega)))
/-- % by a positive divisor of any size -/
theorem op_mod : OpR X (binaryOp .Mod) (rI (fun _ j => 0 < j) fun i j => .int (i % j)) := opI fun i j _ _ _ _ _ hc q => by
  have h1 : (0 : Int) < j := hc
  exact mod_int' (by omega) (by rw [Int.fmod_eq_emod_of_nonneg i (by omega)]; exact q)
theorem op_pow : OpR X (binaryOp .Pow) (rI CPow fun i j => .int (i ^ j.toNat)) := opI fun _ _ _ _ _ _ _ hc q => pow_int_small hc.1 hc.2.1 hc.2.2 q
theorem unI {f : Value → Sem Value} {g : Int → Int}
    (rule : ∀ (i : Int) (t : Tok) (s : Shared) (Q : Value → Shared → Prop) (E : Value → Shared → Prop), Q (.int (g i) s.toks) { s with toks := s.toks + 1 } → wpAny (model X.prog X.w) X.A (f (.int i t)) Q E s) :
    UnR X f (rU fun i => .int (g i)) := by
  intro pins s σ H x v Q I rx h
  obtain ⟨i, rfl, q⟩ := h
  obtain ⟨t, rfl⟩ := rx
  exact rule i t s _ _ ⟨.int (g i), H, I.tok _, ⟨_, rfl⟩, q⟩
theorem un_neg : UnR X (unaryOp .USub) (rU fun i => .int (-i)) := unI fun _ _ _ _ _ q => neg_int q
/-! ### bools among ints: n += (a < b) -/
end

/-! ### comparisons -/
/-- the scalars that == tells apart as data does -/
def scal : V → V → Bool
  | .non, .non => true | .non, .int _ => true | .int _, .non => true | .non, .bl _ => true | .bl _, .non => true | .non, .str _ => true | .str _, .non => true
  | .int _, .int _ => true | .bl _, .bl _ => true | .str _, .str _ => true | .byt _, .byt _ => true
  | .int _, .str _ => true | .str _, .int _ => true | .bl _, .str _ => true | .str _, .bl _ => true
  | _, _ => false
def rEq : R2 := fun x y H Q => scal x y = true ∧ Q (.bl (decide (x = y))) H
def rNe : R2 := fun x y H Q => scal x y = true ∧ Q (.bl (!decide (x = y))) H

theorem dec_int {i j : Int} : decide (V.int i = V.int j) = (i == j) := by
  rw [Bool.eq_iff_iff]
  simp
theorem dec_bl {i j : Bool} : decide (V.bl i = V.bl j) = (i == j) := by
  rw [Bool.eq_iff_iff]
  simp
theorem dec_str {i j : Str} : decide (V.str i = V.str j) = (i == j) := by
  rw [Bool.eq_iff_iff]
  simp
theorem dec_byt {i j : Array UInt8} : decide (V.byt i = V.byt j) = (i.toList == j.toList) := by
  rw [Bool.eq_iff_iff]
  cases i
  cases j
  simp

section
variable {X : Cx} {a b c : Expr} {ta tb tc : TE} {pos : Pos}
theorem fin_bl {pins : List (Addr × Obj)} {σ : St} {H : Hp} {s : Shared} {Q : VK} {k k' : Bool} (I : Inv X pins σ H s) (q : Q (.bl k) H) (e : k = k') : EP X pins σ Q (.bool k') s := by
  subst e
  exact ⟨.bl k, H, I, rfl, q⟩
theorem op_eq : OpR X (compareOp .Eq) rEq := by
  intro pins s σ H x y v u Q I rx ry h
  obtain ⟨hs, q⟩ := h
  cases x with
  | non =>
    cases rx
    cases y with
    | non => cases ry; exact PySem.EqNone.eq_none_none (fin_bl I q (by simp))
    | bl j => cases ry; exact PySem.EqNone.eq_none_bool (fin_bl I q (by simp))
    | int j => obtain ⟨t', rfl⟩ := ry; exact PySem.EqNone.eq_none_int (fin_bl I q (by simp))
    | str j => obtain ⟨t', rfl⟩ := ry; exact PySem.EqNone.eq_none_str (fin_bl I q (by simp))
    | _ => exact absurd (show false = true from hs) Bool.false_ne_true
  | bl i =>
    cases rx
    cases y with
    | non => cases ry; exact PySem.EqNone.eq_bool_none (fin_bl I q (by simp))
    | bl j => cases ry; exact eq_bool (fin_bl I q dec_bl)
    | str j => obtain ⟨t', rfl⟩ := ry; exact PySem.EqMixed.eq_bool_str (fin_bl I q (by simp))
    | _ => exact absurd (show false = true from hs) Bool.false_ne_true
  | int i =>
    obtain ⟨t, rfl⟩ := rx
    cases y with
    | non => cases ry; exact PySem.EqNone.eq_int_none (fin_bl I q (by simp))
    | int j => obtain ⟨t', rfl⟩ := ry; exact eq_int (fin_bl I q dec_int)
    | str j => obtain ⟨t', rfl⟩ := ry; exact PySem.EqMixed.eq_int_str (fin_bl I q (by simp))
    | _ => exact absurd (show false = true from hs) Bool.false_ne_true
  | str i =>
    obtain ⟨t, rfl⟩ := rx
    cases y with
    | non => cases ry; exact PySem.EqNone.eq_str_none (fin_bl I q (by simp))
    | bl j => cases ry; exact PySem.EqMixed.eq_str_bool (fin_bl I q (by simp))
    | int j => obtain ⟨t', rfl⟩ := ry; exact PySem.EqMixed.eq_str_int (fin_bl I q (by simp))
    | str j => obtain ⟨t', rfl⟩ := ry; exact eq_str (fin_bl I q dec_str)
    | _ => exact absurd (show false = true from hs) Bool.false_ne_true
  | byt i =>
    obtain ⟨t, rfl⟩ := rx
    cases y with
    | byt j => obtain ⟨t', rfl⟩ := ry; exact PySem.W.eq_bytes (fin_bl I q dec_byt)
    | _ => exact absurd (show false = true from hs) Bool.false_ne_true
  | _ => cases y <;> exact absurd (show false = true from hs) Bool.false_ne_true
theorem op_ne : OpR X (compareOp .NotEq) rNe := by
  intro pins s σ H x y v u Q I rx ry h
  obtain ⟨hs, q⟩ := h
  cases x with
  | non =>
    cases rx
    cases y with
    | non => cases ry; exact PySem.EqNone.ne_none_none (fin_bl I q (by simp))
    | bl j => cases ry; exact PySem.EqNone.ne_none_bool (fin_bl I q (by simp))
    | int j => obtain ⟨t', rfl⟩ := ry; exact PySem.EqNone.ne_none_int (fin_bl I q (by simp))
    | str j => obtain ⟨t', rfl⟩ := ry; exact PySem.EqNone.ne_none_str (fin_bl I q (by simp))
    | _ => exact absurd (show false = true from hs) Bool.false_ne_true
  | bl i =>
    cases rx
    cases y with
    | non => cases ry; exact PySem.EqNone.ne_bool_none (fin_bl I q (by simp))
    | bl j => cases ry; exact ne_bool (fin_bl I q (congrArg not dec_bl))
    | str j => obtain ⟨t', rfl⟩ := ry; exact PySem.EqMixed.ne_bool_str (fin_bl I q (by simp))
    | _ => exact absurd (show false = true from hs) Bool.false_ne_true
  | int i =>
    obtain ⟨t, rfl⟩ := rx
    cases y with
    | non => cases ry; exact PySem.EqNone.ne_int_none (fin_bl I q (by simp))
    | int j => obtain ⟨t', rfl⟩ := ry; exact ne_int (fin_bl I q (congrArg not dec_int))
    | str j => obtain ⟨t', rfl⟩ := ry; exact PySem.EqMixed.ne_int_str (fin_bl I q (by simp))
    | _ => exact absurd (show false = true from hs) Bool.false_ne_true
  | str i =>
    obtain ⟨t, rfl⟩ := rx
    cases y with
    | non => cases ry; exact PySem.EqNone.ne_str_none (fin_bl I q (by simp))
    | bl j => cases ry; exact PySem.EqMixed.ne_str_bool (fin_bl I q (by simp))
    | int j => obtain ⟨t', rfl⟩ := ry; exact PySem.EqMixed.ne_str_int (fin_bl I q (by simp))
    | str j => obtain ⟨t', rfl⟩ := ry; exact ne_str (fin_bl I q (congrArg not dec_str))
    | _ => exact absurd (show false = true from hs) Bool.false_ne_true
  | byt i =>
    obtain ⟨t, rfl⟩ := rx
    cases y with
    | byt j => obtain ⟨t', rfl⟩ := ry; exact PySem.W.ne_bytes (fin_bl I q (congrArg not dec_byt))
    | _ => exact absurd (show false = true from hs) Bool.false_ne_true
  | _ => cases y <;> exact absurd (show false = true from hs) Bool.false_ne_true

theorem op_lt : OpR X (compareOp .Lt) (rI0 fun i j => .bl (decide (i < j))) := opB0 fun _ _ _ _ _ _ _ q => lt_int q
theorem op_gt : OpR X (compareOp .Gt) (rI0 fun i j => .bl (decide (j < i))) := opB0 fun _ _ _ _ _ _ _ q => gt_int q
theorem op_ge : OpR X (compareOp .GtE) (rI0 fun i j => .bl (decide (j ≤ i))) := opB0 fun _ _ _ _ _ _ _ q => ge_int q
/-- two rules for one operation: by cases -/
theorem OpR.or {f : Value → Value → Sem Value} {r r' : R2} (h : OpR X f r) (h' : OpR X f r') : OpR X f (fun x y H Q => r x y H Q ∨ r' x y H Q) := by
  intro pins s σ H x y v u Q I rx ry q
  rcases q with q | q
  · exact h pins s σ H x y v u Q I rx ry q
  · exact h' pins s σ H x y v u Q I rx ry q

theorem nomark (b : Expr) {op : CmpOp} (h : op ≠ .In := by decide) (h2 : op ≠ .NotIn := by decide) : behindInMarks op b = false := by
  have e1 : (op == CmpOp.In) = false := by cases op <;> first | rfl | exact absurd rfl h
  have e2 : (op == CmpOp.NotIn) = false := by cases op <;> first | rfl | exact absurd rfl h2
  cases b <;> simp [behindInMarks, e1, e2]
/-- a comparison as a value; hm: nomark b, or (for in, not in) by with_unfolding_all rfl -/
theorem pe_cmpR {op : CmpOp} {r : R2} (ho : OpR X (compareOp op) r) (ha : PE X a ta) (hb : PE X b tb) (hm : behindInMarks op b = false) : PE X (.Compare a [op] [b] pos) (tOp r ta tb) := by
  intro pins s σ H Q I h
  exact wpAny_Compare1 (binT ha hb I h fun v u s2 x y H2 I2 rx ry q => ho pins s2 σ H2 x y v u Q I2 rx ry q) hm
/-- a reading of a value as a test -/
def tTest (t : TE) : TT := fun σ H Q => t σ H fun x H' => ∃ k, x = .bl k ∧ Q k H'
theorem pt_cmpR {op : CmpOp} {r : R2} (ho : OpR X (compareOp op) r) (ha : PE X a ta) (hb : PE X b tb) (hm : behindInMarks op b = false) : PT X (.Compare a [op] [b] pos) (tTest (tOp r ta tb)) := by
  intro pins s σ H Q I h
  refine wpAny_isTrue_Compare1 (thn (ha pins s σ H _ I h) fun v s1 ⟨x, H1, I1, r1, q1⟩ => thn (hb pins s1 σ H1 _ I1 q1) fun u s2 ⟨y, H2, I2, r2, q2⟩ =>
    thn (ho pins s2 σ H2 x y v u _ I2 r1 r2 q2) fun c s3 ⟨z, H3, I3, r3, k, e, q3⟩ => ?_) hm
  subst e
  cases r3
  exact wpAny_truthy_bool ⟨H3, I3, q3⟩
/-! ### truth -/
theorem line63 : (sizeLine : Nat) < 2 ^ 63 := by rw [sizeLine_eq]; decide
/-! ### strs and bytes -/
theorem op_add_str : OpR X (binaryOp .Add) (fun x y H Q => ∃ i j, x = .str i ∧ y = .str j ∧ i.length + j.length ≤ sizeLine ∧ Q (.str (i ++ j)) H) := by
  intro pins s σ H x y v u Q I rx ry h
  obtain ⟨i, j, rfl, rfl, hz, q⟩ := h
  obtain ⟨t, rfl⟩ := rx
  obtain ⟨t', rfl⟩ := ry
  exact add_str (fun t' tk => ⟨.str (i ++ j), H, I.tok _, ⟨_, rfl⟩, q⟩) hz
/-! ### scalar builtins, by CallR -/
theorem vals1 {x : V} {us : List Value} (r : Vals [x] us) : ∃ u, us = [u] ∧ RelV x u := by
  cases r with
  | cons r1 r2 => cases r2; exact ⟨_, rfl, r1⟩
theorem vals2 {x y : V} {us : List Value} (r : Vals [x, y] us) : ∃ u w', us = [u, w'] ∧ RelV x u ∧ RelV y w' := by
  cases r with
  | cons r1 r2 =>
    cases r2 with
    | cons r3 r4 => cases r4; exact ⟨_, _, rfl, r1, r3⟩
end
end L2

namespace L2
open PySem PySem.Spec PyProof.Rows

/-! ### an instance, its attributes a map -/
structure ObjM (h : Heap) (x dx C : Addr) (mA : Str → Option Value) : Prop where
  obj : h.get? x = some (PySem.W.instObj C dx)
  ns : h.Ns1 dx mA
  ne : dx ≠ x

theorem lookIn_ns {h : Heap} {dx : Addr} {mA : Str → Option Value} (n : h.Ns1 dx mA) : ∃ od, h.get? dx = some od ∧ ∀ name, PySem.W.lookIn name od = some (mA name) := by
  obtain ⟨o, es, ep, ho, hd, hk, _, hm⟩ := n
  refine ⟨o, ho, fun name => ?_⟩
  have e := hm name
  unfold nsFind findBy at e
  rw [← Array.find?_toList] at e
  unfold PySem.W.lookIn
  rw [hd]
  dsimp only
  split
  · rename_i y q
    rw [q] at e
    exact congrArg some e
  · rename_i q
    rw [q] at e
    have a : es.toList.any (·.refKey) = false := by
      rw [List.any_eq_false]
      intro y hy
      obtain ⟨z, t, hkey⟩ := hk y (Array.mem_toList_iff.mp hy)
      simp [DictEntry.refKey, hkey]
    have a' : ¬ es.toList.any (·.refKey) = true := by rw [a]; exact Bool.false_ne_true
    rw [if_neg a']
    exact congrArg some e

theorem ObjM.look {h : Heap} {x dx C : Addr} {mA : Str → Option Value} (I : ObjM h x dx C mA) : ∃ od, PySem.W.InstAt h x (PySem.W.instObj C dx) C (some od) ∧ ∀ name, PySem.W.lookIn name od = some (mA name) :=
  let ⟨od, ho, hl⟩ := lookIn_ns I.ns
  ⟨od, ⟨I.obj, rfl, rfl, ho⟩, hl⟩

section
variable {prog : Program} {w : World} {A : Around} {E : Value → Shared → Prop} {s : Shared} {K : PySem.W.Frag} {x dx C f : Addr} {mA : Str → Option Value} {name : Str} {v : Value}

theorem get_map {expr : Bool} {Q : Value → Shared → Prop} (X : K.In s.heap) (I : ObjM s.heap x dx C mA) (hg : PySem.W.plainGet K C name = true) (hh : PySem.W.hasDictIn K C = true)
    (ha : PySem.W.findIn K (.ref C) name = some none) (hv : mA name = some v) (hv' : PySem.W.handedIn v = true) (h : Q v { s with toks := s.toks + 1 }) :
    wpAny (model prog w) A (getAttr (.ref x) name expr) Q E s := by
  obtain ⟨od, J, hl⟩ := I.look
  exact PySem.W.get_value X J (PySem.W.plainGet_of hg).1 (PySem.W.findObj_own hh ha rfl (by rw [hl, hv])) hv' h

theorem get_meth {pl : Sem Bool} {Q : Value × List Value → Shared → Prop} (X : K.In s.heap) (I : ObjM s.heap x dx C mA) (hg : PySem.W.plainGet K C name = true)
    (hf : PySem.W.findIn K (.ref C) name = some (some (.ref f))) (ht : PySem.W.isFn K (.ref f) = true) (hv : mA name = none) (h : Q (.ref f, [.ref x]) s) :
    wpAny (model prog w) A (getMethod (.ref x) name pl) Q E s := by
  obtain ⟨od, J, hl⟩ := I.look
  exact PySem.W.method_fn X J (PySem.W.plainGet_of hg).1 (PySem.W.plainGet_of hg).2 hf (beq_iff_eq.mp ht) (by show (PySem.W.lookIn name od).map (·.isSome) = some false; rw [hl, hv]; rfl) h

theorem set_map {ns : List Str} {Q : Unit → Shared → Prop} (X : K.In s.heap) (I : ObjM s.heap x dx C mA)
    (hs : PySem.W.findIn K (.ref C) "__setattr__" = some (some (.builtin "object.__setattr__"))) (hp : PySem.W.plainOver K C = true) (ht : PySem.W.takerIn K C name = some none) (hh : PySem.W.hasDictIn K C = true)
    (hw : PySem.Within mA ns) (hsz : ns.length ≤ sizeLine)
    (h : ∀ h', ObjM h' x dx C (fun y => if y = name then some v else mA y) → Heap.SameBut dx s.heap h' → Q () { s with heap := h', toks := s.toks + 2 }) :
    wpAny (model prog w) A (setAttr (.ref x) name v) Q E s := by
  obtain ⟨od, J, hl⟩ := I.look
  refine PySem.W.set_plain X J hs (PySem.W.osa_open (s := { s with toks := s.toks + 1 }) (r := none) X J hp ht fun b => ?_)
  obtain ⟨cd, hc, hd'⟩ := PySem.W.any_some hh
  have hx : s.heap.get? x = some ⟨.ref C, some dx, .plain, #[]⟩ := I.obj
  refine wpAny_bind (wpAny_pure (wpAny_bind (wpAny_bind (wpAny_loadPart hx (wpAny_bind (PySem.W.Looks.here (s := { s with toks := s.toks + 1 }) (PySem.W.looks_clsIn X hc) ?_))))))
  rw [hd']
  refine wpAny_pure (a := some dx) (wpAny_bind (wpAny_pure (wpAny_bind ?_)))
  refine wpAny_nsSet1 (s := { s with toks := s.toks + 1 }) I.ns fun h' hn2 hs2 => ?_
  obtain ⟨oD, esD, epD, hoD, hdD, hcD⟩ := hn2.count (PySem.Within.cons name v hw)
  refine wpAny_bind (wpAny_lookBehind hoD (by rw [hdD]; exact pastItsLine_dict (Nat.le_trans hcD (by rw [List.length_cons]; omega))) ?_)
  exact wpAny_pure (h _ ⟨(hs2.2 _ (Ne.symm I.ne)).trans I.obj, hn2, I.ne⟩ hs2)

/-- C(..): the dict at the heap's end, the instance behind it; then its __init__ -/
theorem make_map {R : Result → Shared → Prop} {vs : List Value} {kw : List (Str × Value)} (X : K.In s.heap) (hm : PySem.W.makesIn K C = true)
    (hi : PySem.W.findIn K (.ref C) "__init__" = some (some (.ref f))) (hf : PySem.W.typeIn K (.ref f) = some (.type "function"))
    (h : codeAny (model prog w) (A.under (.builtin "type.__call__" ⟨.ref C :: vs, kw⟩)) (.call (.ref f) ⟨.ref (s.heap.objs.size + 1) :: vs, kw⟩) (PySem.W.InitBack (s.heap.objs.size + 1) R)
      { s with heap := (s.heap.push PySem.W.emptyDict).push (PySem.W.instObj C s.heap.objs.size) }) :
    codeAny (model prog w) A (.call (.ref C) ⟨vs, kw⟩) R s := by
  obtain ⟨hh, g, d, t, os⟩ := s
  exact PySem.W.make_core (PySem.W.makes_of X hm) (PySem.W.looks_findIn X hi) (fun self => PySem.W.bind_fn X self hf) (.inl rfl) h
end

/-! ### the attributes as a list of pairs -/
def putF (f : Str) (v : V) : List (Str × V) → List (Str × V)
  | [] => [(f, v)]
  | (g, x) :: r => if g = f then (g, v) :: r else (g, x) :: putF f v r
theorem lookup_putF (f g : Str) (v : V) : ∀ fs : List (Str × V), (putF f v fs).lookup g = if g = f then some v else fs.lookup g
  | [] => by
    show List.lookup g [(f, v)] = _
    by_cases h : g = f
    · have hb : (g == f) = true := beq_iff_eq.mpr h
      simp only [List.lookup, hb, if_pos h]
    · have hb : (g == f) = false := beq_eq_false_iff_ne.mpr h
      simp only [List.lookup, hb, if_neg h]
  | (k, x) :: r => by
    have ih := lookup_putF f g v r
    rw [show putF f v ((k, x) :: r) = (if k = f then (k, v) :: r else (k, x) :: putF f v r) from rfl]
    by_cases hk : k = f
    · rw [if_pos hk]
      by_cases h : g = k
      · have hb : (g == k) = true := beq_iff_eq.mpr h
        simp only [List.lookup, hb, if_pos (h.trans hk)]
      · have hb : (g == k) = false := beq_eq_false_iff_ne.mpr h
        simp only [List.lookup, hb, if_neg (fun e : g = f => h (e.trans hk.symm))]
    · rw [if_neg hk]
      by_cases h : g = k
      · have hb : (g == k) = true := beq_iff_eq.mpr h
        simp only [List.lookup, hb, if_neg (fun e : g = f => hk (h.symm.trans e))]
      · have hb : (g == k) = false := beq_eq_false_iff_ne.mpr h
        simp only [List.lookup, hb]
        exact ih
theorem keys_putF (f : Str) (v : V) : ∀ fs : List (Str × V), f ∈ (putF f v fs).map (·.1) ∧ ∀ g, g ∈ fs.map (·.1) → g ∈ (putF f v fs).map (·.1)
  | [] => ⟨by simp [putF], fun g h => by simp at h⟩
  | (k, x) :: r => by
    obtain ⟨i1, i2⟩ := keys_putF f v r
    rw [show putF f v ((k, x) :: r) = (if k = f then (k, v) :: r else (k, x) :: putF f v r) from rfl]
    by_cases hk : k = f
    · rw [if_pos hk]
      subst hk
      exact ⟨by simp, fun g h => by simpa using h⟩
    · rw [if_neg hk]
      refine ⟨?_, fun g h => ?_⟩
      · rw [List.map_cons]
        exact List.mem_cons_of_mem _ i1
      · rw [List.map_cons] at h ⊢
        rcases List.mem_cons.mp h with e | e
        · exact List.mem_cons.mpr (.inl e)
        · exact List.mem_cons_of_mem _ (i2 g e)
theorem length_putF (f : Str) (v : V) : ∀ fs : List (Str × V), (putF f v fs).length ≤ fs.length + 1
  | [] => by simp [putF]
  | (k, x) :: r => by
    have ih := length_putF f v r
    rw [show putF f v ((k, x) :: r) = (if k = f then (k, v) :: r else (k, x) :: putF f v r) from rfl]
    by_cases hk : k = f
    · rw [if_pos hk, List.length_cons, List.length_cons]; omega
    · rw [if_neg hk, List.length_cons, List.length_cons]; omega

theorem RelO.some_of {v : V} {o : Option Value} (r : RelO (some v) o) : ∃ u, o = some u ∧ RelV v u := by
  cases o with
  | none => exact (show False from r).elim
  | some u => exact ⟨u, rfl, r⟩
theorem RelO.none_of {o : Option Value} (r : RelO none o) : o = none := by
  cases o with
  | none => rfl
  | some u => exact (show False from r).elim
theorem handed_of {v : V} {u : Value} (r : RelV v u) : PySem.W.handedIn u = true := by
  cases v with
  | non => cases (show u = Value.none from r); rfl
  | bl b => cases (show u = Value.bool b from r); rfl
  | int i => obtain ⟨t, e⟩ := (show ∃ t, u = Value.int i t from r); cases e; rfl
  | str x => obtain ⟨t, e⟩ := (show ∃ t, u = Value.str x t from r); cases e; rfl
  | byt b => obtain ⟨t, e⟩ := (show ∃ t, u = Value.bytes b t from r); cases e; rfl
  | flt b => obtain ⟨t, e⟩ := (show ∃ t, u = Value.float b t from r); cases e; rfl
  | ref a => cases (show u = Value.ref a from r); rfl
  | ty n => cases (show u = Value.type n from r); rfl

section
variable {P : Program} {w : World} {H H' : Hp} {h h' : Heap} {a C dx : Addr} {fs fs' : List (Str × V)}
theorem ins_get (hok : HOk P w H h) (e : H a = some (.ins C dx fs)) : ∃ mA, ObjM h a dx C mA ∧ (∀ f, RelO (fs.lookup f) (mA f)) ∧ PySem.Within mA (fs.map (·.1)) ∧ fs.length ≤ 1000 ∧ H dx = some (.own a) := by
  obtain ⟨d, z, ne, ob, mA, n, r, q⟩ := (show ObjOk P w H h a (.ins C dx fs) from hok a _ e)
  exact ⟨mA, ⟨ob, n, ne⟩, r, q, z, d⟩
end

/-! ### what of the text a class must have -/
structure Cls (K : PySem.W.Frag) (C : Addr) : Prop where
  pg : PySem.W.plainGet K C Str.empty = true
  hd : PySem.W.hasDictIn K C = true
  po : PySem.W.plainOver K C = true
  sa : PySem.W.findIn K (.ref C) "__setattr__" = some (some (.builtin "object.__setattr__"))
theorem Cls.get {K : PySem.W.Frag} {C : Addr} (c : Cls K C) (f : Str) : PySem.W.plainGet K C f = true := c.pg
/-- no class of it has the name -/
def NoAttr (K : PySem.W.Frag) (C : Addr) (f : Str) : Prop := PySem.W.findIn K (.ref C) f = some none
theorem NoAttr.taker {K : PySem.W.Frag} {C : Addr} {f : Str} (n : NoAttr K C f) : PySem.W.takerIn K C f = some none := by
  unfold PySem.W.takerIn
  rw [show PySem.W.findIn K (.ref C) f = some none from n]
  rfl
/-- a constant of the class -/
structure Con (K : PySem.W.Frag) (C : Addr) (f : Str) (v : V) (u : Value) : Prop where
  at_ : PySem.W.findIn K (.ref C) f = some (some u)
  rel : RelV v u
  get : PySem.W.specialIn K u "__get__" = some none
  cp : PySem.W.copiedNames.contains f = false
/-- a method: a plain def of the class or of one above it -/
structure Meth (K : PySem.W.Frag) (C : Addr) (m : Str) (f : Addr) : Prop where
  at_ : PySem.W.findIn K (.ref C) m = some (some (.ref f))
  fn : PySem.W.isFn K (.ref f) = true
  kp : PySem.W.keepIn K (.ref f) = true

section
variable {X : Cx} {pins : List (Addr × Obj)} {σ : St} {H : Hp} {s : Shared} {a C dx : Addr} {fs : List (Str × V)} {f : Str} {v : V} {A : Around} {E : Value → Shared → Prop}

theorem getattr_ok {b : Bool} {Q : Value → Shared → Prop} (I : Inv X pins σ H s) (e : H a = some (.ins C dx fs)) (c : Cls X.K C) (n : NoAttr X.K C f) (l : fs.lookup f = some v)
    (h : ∀ u s', Inv X pins σ H s' → RelV v u → Q u s') : wpAny (model X.prog X.w) A (getAttr (.ref a) f b) Q E s := by
  obtain ⟨mA, O, r, _, _, _⟩ := ins_get I.hok e
  obtain ⟨u, hu, ru⟩ := RelO.some_of (v := v) (o := mA f) (by rw [← l]; exact r f)
  exact get_map I.kIn O (c.get f) c.hd n hu (handed_of ru) (h u _ (I.tok _) ru)

theorem getmeth_ok {m : Str} {g : Addr} {pl : Sem Bool} {Q : Value × List Value → Shared → Prop} (I : Inv X pins σ H s) (e : H a = some (.ins C dx fs)) (c : Cls X.K C) (k : Meth X.K C m g) (l : fs.lookup m = none)
    (h : Q (.ref g, [.ref a]) s) : wpAny (model X.prog X.w) A (getMethod (.ref a) m pl) Q E s := by
  obtain ⟨mA, O, r, _, _, _⟩ := ins_get I.hok e
  have hn : mA m = none := RelO.none_of (by rw [← l]; exact r m)
  exact get_meth I.kIn O (c.get m) k.at_ k.fn hn h

theorem setattr_ok {y : V} {u : Value} {Q : Unit → Shared → Prop} (I : Inv X pins σ H s) (e : H a = some (.ins C dx fs)) (c : Cls X.K C) (n : NoAttr X.K C f) (hl : fs.length < 1000) (ry : RelV y u)
    (h : ∀ s', Inv X pins σ (upd H a (.ins C dx (putF f y fs))) s' → Q () s') : wpAny (model X.prog X.w) A (setAttr (.ref a) f u) Q E s := by
  obtain ⟨mA, O, r, wi, _, ho⟩ := ins_get I.hok e
  have hz : (fs.map (·.1)).length ≤ sizeLine := by rw [List.length_map, sizeLine_eq]; omega
  refine set_map I.kIn O c.sa c.po n.taker c.hd wi hz fun h' O' sb => h _ ?_
  have hd : ∃ o, h'.get? dx = some o := let ⟨o, _, _, e', _⟩ := O'.ns; ⟨o, e'⟩
  refine I.write (x := a) (e := dx) (by rw [e]; exact True.intro) (.inr ho) (fun b q hb z => (sb.2 b hb).trans z) hd ?_
  refine ⟨by rw [upd_ne O.ne]; exact ho, ?_, O.ne, O'.obj, _, O'.ns, fun g => ?_, fun g hg => ?_⟩
  · have := length_putF f y fs; omega
  · show RelO ((putF f y fs).lookup g) (if g = f then some u else mA g)
    rw [lookup_putF]
    by_cases q : g = f
    · rw [if_pos q, if_pos q]; exact ry
    · rw [if_neg q, if_neg q]; exact r g
  · by_cases q : g = f
    · rw [q]; exact (keys_putF f y fs).1
    · refine (keys_putF f y fs).2 g (wi g fun z => hg ?_)
      show (if g = f then some u else mA g) = none
      rw [if_neg q]; exact z

/-- a new instance, tracked, without attributes -/
theorem Inv.made (I : Inv X pins σ H s) : Inv X pins σ (upd (upd H s.heap.objs.size (.own (s.heap.objs.size + 1))) (s.heap.objs.size + 1) (.ins C s.heap.objs.size []))
    { s with heap := (s.heap.push PySem.W.emptyDict).push (PySem.W.instObj C s.heap.objs.size) } := by
  have e1 : (s.heap.push PySem.W.emptyDict).get? s.heap.objs.size = some PySem.W.emptyDict := Heap.get?_push_size s.heap rfl
  have e2 : ((s.heap.push PySem.W.emptyDict).push (PySem.W.instObj C s.heap.objs.size)).get? (s.heap.objs.size + 1) = some (PySem.W.instObj C s.heap.objs.size) := by
    have := Heap.get?_push_size (s.heap.push PySem.W.emptyDict) (o := PySem.W.instObj C s.heap.objs.size) rfl
    rwa [Heap.size_push] at this
  have e3 : (s.heap.push PySem.W.emptyDict).Ns s.heap.objs.size (fun _ => none) := ⟨PySem.W.emptyDict, #[], _, e1, rfl, (fun e he => absurd he (by simp)), fun _ => rfl⟩
  have I1 := I.laid (a := s.heap.objs.size) (o := .own (s.heap.objs.size + 1)) (h' := s.heap.push PySem.W.emptyDict) (t' := s.toks) (fun b u q => Heap.get?_push_of_some _ q) (Nat.le_refl _) ⟨_, e1⟩
  refine I1.laid (a := s.heap.objs.size + 1) (o := .ins C s.heap.objs.size []) (t' := s.toks) (fun b u q => Heap.get?_push_of_some _ q) (Nat.le_of_eq (Heap.size_push _ _)) ?_
  have ne : s.heap.objs.size ≠ s.heap.objs.size + 1 := Nat.ne_of_lt (Nat.lt_succ_self _)
  refine ⟨by rw [upd_ne ne, upd_same], Nat.zero_le _, ne, e2, fun _ => none, (Heap.Ns1.of_empty e3).at fun o q => Heap.get?_push_of_some _ q, fun _ => True.intro, fun y hy => absurd rfl hy⟩

/-- e.f where nothing but the object is asked: through attributeBase (super) and the last hold -/
theorem attr_of {prog : Program} {w : World} {env : Env} {e : Expr} {f : Str} {pos : Pos} {s : Shared} {Q : Value → Shared → Prop} (hb : attributeBase e f env (eval e env) = eval e env)
    (h : wpAny (model prog w) A (eval e env) (fun o s₁ => wpAny (model prog w) A (getAttr o f true) Q E s₁) E s) : wpAny (model prog w) A (eval (.Attribute e f pos) env) Q E s :=
  Attribute_any_ h (by rw [arm_eval_Attribute, hb])
end

/-! ### readings and rules -/
/-- e.f, an attribute of the instance -/
def tFld (K : PySem.W.Frag) (ta : TE) (f : Str) : TE := fun σ H Q => ta σ H fun x H1 => ∃ a C dx fs v, x = .ref a ∧ H1 a = some (.ins C dx fs) ∧ Cls K C ∧ NoAttr K C f ∧ fs.lookup f = some v ∧ Q v H1
/-- e.f = value -/
def sFld (K : PySem.W.Frag) (ta tv : TE) (f : Str) : TS := fun D σ H => tv σ H fun y H1 => ta σ H1 fun x H2 => ∃ a C dx fs, x = .ref a ∧ H2 a = some (.ins C dx fs) ∧ Cls K C ∧ NoAttr K C f ∧ fs.length < 1000 ∧
  D.nx σ (upd H2 a (.ins C dx (putF f y fs)))
section
variable {X : Cx} {o e value : Expr} {f : Str} {pos pos' tpos : Pos} {ta tv : TE}
theorem pe_fld (he : PE X e ta) (hb : attributeBase e f X.env (eval e X.env) = eval e X.env) : PE X (.Attribute e f pos) (tFld X.K ta f) := by
  intro pins s σ H Q I h
  refine attr_of hb (thn (he pins s σ H _ I h) fun u s1 ⟨x, H1, I1, rx, a, C, dx, fs, v, ex, ea, c, n, l, q⟩ => ?_)
  subst ex
  obtain rfl : u = Value.ref a := rx
  exact getattr_ok I1 ea c n l fun u' s2 I2 ru => ⟨v, H1, I2, ru, q⟩
theorem ps_fld (ha : PE X o ta) (hv : PE X value tv) (hs : swapsWith value (some (.Attribute o f pos')) pos.line X.env = pure false) : PS X (.Assign [.Attribute o f pos'] value pos) (sFld X.K ta tv f) := by
  intro pins s σ H D I h
  refine plainObj_wpAny_Assign_Attribute (thn (hv pins s σ H _ I h) fun u s1 ⟨y, H1, I1, ry, q⟩ => thn (ha pins s1 σ H1 _ I1 q) fun ov s2 ⟨x, H2, I2, rx, a, C, dx, fs, ex, ea, c, n, l, q2⟩ => ?_) hs
  subst ex
  obtain rfl : ov = Value.ref a := rx
  exact setattr_ok I2 ea c n l ry fun s3 I3 => ⟨σ, _, I3, q2⟩
end

/-! ### isinstance -/
section
variable {X : Cx} {pins : List (Addr × Obj)} {σ : St} {H : Hp} {s : Shared} {A : Around} {E : Value → Shared → Prop} {Q : Value → Shared → Prop} {c : Value} {b : Bool}
/-- the type of a value, as the fragment's deciders take it; for an instance its class -/
inductive TyOf (K : PySem.W.Frag) (H : Hp) : V → Value → Prop where
  | non : TyOf K H .non (.type "NoneType")
  | bl (x : Bool) : TyOf K H (.bl x) (.type "bool")
  | int (i : Int) : TyOf K H (.int i) (.type "int")
  | str (x : Str) : TyOf K H (.str x) (.type "str")
  | flt (x : UInt64) : TyOf K H (.flt x) (.type "float")
  | lst {a : Addr} {xs : List V} (e : H a = some (.lst xs)) : TyOf K H (.ref a) (.type "list")
  | frz {a : Addr} {o : Obj} {xs : List V} (e : H a = some (.frz o (.lst xs))) : TyOf K H (.ref a) (.type "list")
  | tup {a : Addr} {xs : List V} (e : H a = some (.tup xs)) : TyOf K H (.ref a) (.type "tuple")
  | dK {a : Addr} {kvs : List (Key × V)} (e : H a = some (.dK kvs)) : TyOf K H (.ref a) (.type "dict")
  | dT {a : Addr} {kvs : List (List Key × V)} (e : H a = some (.dT kvs)) : TyOf K H (.ref a) (.type "dict")
  | ins {a C dx : Addr} {fs : List (Str × V)} (e : H a = some (.ins C dx fs)) (cl : Cls K C) (ha : PySem.W.findIn K (.ref C) "__class__" = some (some (.builtin "object.__class__")))
      (hn : PySem.W.specialIn K (.builtin "object.__class__") "__get__" = some (some (.builtin "getset_descriptor.__get__"))) (htk : PySem.W.takesIn K (.builtin "object.__class__") = some true)
      (hm : PySem.W.mroIn K C (.type "object") = some true) : TyOf K H (.ref a) (.ref C)
/-- isinstance(x, c) for one class c, a built-in or an own one: kitOne's answer -/
theorem isinst_ok {x : V} {u t : Value} (I : Inv X pins σ H s) (rx : RelV x u) (ty : TyOf X.K H x t) (e : PySem.W.kitOne X.K t c = some b) (h : ∀ tk, Q (.bool b) { s with toks := tk }) :
    wpAny (model X.prog X.w) A (call (.builtin "isinstance") [u, c]) Q E s := by
  cases ty with
  | non => cases (show u = Value.none from rx); exact PySem.W.kia_one PySem.W.kitx_none I.kIn True.intro e (fun z => nomatch z) h
  | bl y => cases (show u = Value.bool y from rx); exact PySem.W.kia_one PySem.W.kitx_bool I.kIn True.intro e (fun z => nomatch z) h
  | int i => obtain ⟨t, q⟩ := (show ∃ t, u = Value.int i t from rx); cases q; exact PySem.W.kia_one PySem.W.kitx_int I.kIn True.intro e (fun z => nomatch z) h
  | str y => obtain ⟨t, q⟩ := (show ∃ t, u = Value.str y t from rx); cases q; exact PySem.W.kia_one PySem.W.kitx_str I.kIn True.intro e (fun z => nomatch z) h
  | flt y => obtain ⟨t, q⟩ := (show ∃ t, u = Value.float y t from rx); cases q; exact PySem.W.kia_one PySem.W.kitx_float I.kIn True.intro e (fun z => nomatch z) h
  | @lst a xs ea =>
    cases (show u = Value.ref a from rx)
    obtain ⟨_, _, n, _, h1⟩ := (show ObjOk X.prog X.w H s.heap a (.lst xs) from I.hok a _ ea)
    exact PySem.W.kia_one PySem.W.kitx_list I.kIn ⟨_, h1, rfl⟩ e (fun z => nomatch z) h
  | @frz a ob xs ea =>
    cases (show u = Value.ref a from rx)
    obtain ⟨_, _, _, n, _, h1⟩ := (show ObjOk X.prog X.w H s.heap a (.frz ob (.lst xs)) from I.hok a _ ea)
    exact PySem.W.kia_one PySem.W.kitx_list I.kIn ⟨_, h1, rfl⟩ e (fun z => nomatch z) h
  | @tup a xs ea =>
    cases (show u = Value.ref a from rx)
    obtain ⟨_, _, _, p⟩ := (show ObjOk X.prog X.w H s.heap a (.tup xs) from I.hok a _ ea)
    obtain ⟨o, h1, h2, _⟩ := p
    exact PySem.W.kia_one PySem.W.kitx_tuple I.kIn ⟨o, h1, h2⟩ e (fun z => nomatch z) h
  | @dK a kvs ea =>
    cases (show u = Value.ref a from rx)
    obtain ⟨_, _, vs, _, p⟩ := (show ObjOk X.prog X.w H s.heap a (.dK kvs) from I.hok a _ ea)
    obtain ⟨o, es, ep, h1, h2, _⟩ := p
    exact PySem.W.kia_one PySem.W.kitx_dict I.kIn ⟨o, h1, h2.1⟩ e (fun z => nomatch z) h
  | @dT a kvs ea =>
    cases (show u = Value.ref a from rx)
    obtain ⟨_, _, xs, _, o, es, ep, h1, h2, _⟩ := (show ObjOk X.prog X.w H s.heap a (.dT kvs) from I.hok a _ ea)
    exact PySem.W.kia_one PySem.W.kitx_dict I.kIn ⟨o, h1, h2.1⟩ e (fun z => nomatch z) h
  | @ins a C dx fs ea cl ha hn htk hm =>
    cases (show u = Value.ref a from rx)
    obtain ⟨mA, O, _⟩ := ins_get I.hok ea
    obtain ⟨od, J, _⟩ := O.look
    exact PySem.W.kia_one (PySem.W.kitx_own (cl.get _) cl.hd ha hn htk hm) I.kIn J e (fun z => nomatch z) h
end
end L2

namespace L2
open PySem PySem.Spec PyProof.Rows

/-! ### room -/
structure Room (k : Nat) (A : Around) : Prop where
  hd : A.handled = none
  dp : A.depth + 3 * k + 5 < recursionLimit
  un : A.units + 16 * k + 200 < cLine
theorem Room.mono {j k : Nat} {A : Around} (r : Room k A) (h : j ≤ k) : Room j A := ⟨r.hd, by have := r.dp; omega, by have := r.un; omega⟩
theorem Room.deeper {k : Nat} {A : Around} (r : Room (k + 1) A) (env : Env) : Room k (A.deeper env) :=
  ⟨r.hd, by have := r.dp; show A.depth + 1 + 3 * k + 5 < _; omega, by have := r.un; show A.units + 3 + 16 * k + 200 < _; omega⟩
theorem Room.in1 {k : Nat} {A : Around} (r : Room (k + 1) A) : Room k A.in1 :=
  ⟨r.hd, by have := r.dp; show A.depth + 3 * k + 5 < _; omega, by have := r.un; show A.units + 1 + 16 * k + 200 < _; omega⟩
theorem make_depth {A : Around} {C : Addr} {us : List Value} {kw : List (Str × Value)} : (A.under (.builtin "type.__call__" ⟨.ref C :: us, kw⟩)).depth = A.depth + 1 := by
  first | rfl | simp [Around.under, Code.weight, Code.isCreation, Code.isGuard, Code.isCaller, Code.frames, Code.isFrame, guardIds]
theorem make_units {A : Around} {C : Addr} {us : List Value} {kw : List (Str × Value)} : (A.under (.builtin "type.__call__" ⟨.ref C :: us, kw⟩)).units = A.units + 1 := by
  first | rfl | simp [Around.under, Code.cUnits, Code.frames, Code.isFrame]
theorem Room.make {k : Nat} {A : Around} (r : Room (k + 1) A) (C : Addr) (us : List Value) (kw : List (Str × Value)) : Room k (A.under (.builtin "type.__call__" ⟨.ref C :: us, kw⟩)) :=
  ⟨r.hd, by have := r.dp; rw [make_depth]; omega, by have := r.un; rw [make_units]; omega⟩
theorem Room.depth {k : Nat} {A : Around} (r : Room k A) : A.depth < recursionLimit := by have := r.dp; omega
theorem Room.units {k : Nat} {A : Around} (r : Room k A) : A.units + 64 < cLine := by have := r.un; omega
theorem Room.units0 {k : Nat} {A : Around} (r : Room k A) : A.units < cLine := by have := r.un; omega

/-! ### argument lists and displays -/
def tNil : TA := fun _ H Q => Q [] H
def tCons (ta : TE) (tr : TA) : TA := fun σ H Q => ta σ H fun x H1 => tr σ H1 fun xs H2 => Q (x :: xs) H2
section
variable {X : Cx} {e : Expr} {es : List Expr} {te : TE} {t : TA} {pos : Pos}
theorem pa_nil : PA X [] tNil := fun _ _ _ _ H Q I h => Calls.spliced_nil ⟨[], H, I, .nil, h⟩
theorem pa_cons (ha : PE X e te) (hr : PA X es t) (hs : starEach (e :: es) X.env = (false, eval e X.env) :: starEach es X.env := by rfl) : PA X (e :: es) (tCons te t) := by
  intro pos pins s σ H Q I h
  rw [hs]
  show wpAny _ _ (spliced ((false, eval e X.env) :: backTo pos (starEach es X.env))) _ _ s
  refine Calls.spliced_cons (thn (ha pins s σ H _ I h) fun u s1 ⟨x, H1, I1, r1, q1⟩ => ?_)
  exact thn (hr pos pins s1 σ H1 _ I1 q1) fun us s2 ⟨xs, H2, I2, r2, q2⟩ => ⟨x :: xs, H2, I2, .cons r1 r2, q2⟩

/-- a tuple, a list of written items -/
def tTup (t : TA) : TE := fun σ H Q => t σ H fun xs H1 => xs.length ≤ sizeLine ∧ ∀ p, H1 p = none → Q (.ref p) (upd H1 p (.tup xs))
def tLst (t : TA) : TE := fun σ H Q => t σ H fun xs H1 => xs.length ≤ sizeLine ∧ ∀ p, H1 p = none → Q (.ref p) (upd H1 p (.lst xs))
theorem pe_tup {x1} (h : PA X es t) : PE X (.Tuple es x1 pos) (tTup t) := by
  intro pins s σ H Q I hq
  refine wpAny_Tuple_spliced (thn (h pos pins s σ H _ I hq) fun us s1 ⟨xs, H1, I1, r, z, q⟩ => ⟨by rw [← r.length]; exact z, ?_⟩)
  have hf : H1 s1.heap.objs.size = none := I1.hok.fresh (Nat.le_refl _)
  refine ⟨.ref s1.heap.objs.size, upd H1 s1.heap.objs.size (.tup xs), I1.laid (t' := s1.toks) (fun b u e => Heap.get?_push_of_some _ e) (Nat.le_refl _) ?_, rfl, q _ hf⟩
  exact ⟨z, us, r, ⟨_, Heap.get?_push_size _ rfl, rfl, _, rfl⟩⟩
theorem pe_lst (h : PA X es t) : PE X (.List es pos) (tLst t) := by
  intro pins s σ H Q I hq
  refine wpAny_List_spliced (thn (h pos pins s σ H _ I hq) fun us s1 ⟨xs, H1, I1, r, z, q⟩ => ⟨by rw [← r.length]; exact z, ?_⟩)
  have hf : H1 s1.heap.objs.size = none := I1.hok.fresh (Nat.le_refl _)
  refine ⟨.ref s1.heap.objs.size, upd H1 s1.heap.objs.size (.lst xs), I1.laid (t' := s1.toks) (fun b u e => Heap.get?_push_of_some _ e) (Nat.le_refl _) ?_, rfl, q _ hf⟩
  exact ⟨z, us, 0, r, Heap.get?_push_size _ rfl⟩
end

/-! ### what a def promises -/
/-- a def's promise: the bound arguments in the parameters' order, the heap, the wanted end, the wanted exception -/
abbrev Sp := List V → Hp → VK → XK → Prop
/-- how an exception lies behind a call (file 08 gives it): the callers' frames, abstract heap and state ahead of the call, the wish, the exception, the state -/
abbrev CXT := List Env → Hp → Shared → XK → Value → Shared → Prop

/-- the state at a call -/
structure Env0 (P : Program) (w : World) (K : PySem.W.Frag) (mg : Str → Option Value) (base : Heap) (A : Around) (outer : List Env) (s : Shared) (H : Hp) : Prop where
  frames : A.frames = some outer
  mod : Mod K mg base
  bs : ∀ b o, base.get? b = some o → s.heap.get? b = some o ∧ H b = none
  bsz : base.objs.size ≤ s.heap.objs.size
  funs : s.heap.FunFrames base outer
  frf : ∀ b ∈ frs outer, H b = none
  hok : HOk P w H s.heap
  bare : AllBare s.gens
/-- a call's end -/
def CE (outer : List Env) (P : Program) (w : World) (H : Hp) (s : Shared) (Q : VK) (u : Value) (s' : Shared) : Prop :=
  ∃ v H', s'.os = s.os ∧ AllBare s'.gens ∧ Un (frs outer) [] H H' s.heap s'.heap ∧ HOk P w H' s'.heap ∧ RelV v u ∧ Q v H'
def CR (CX : CXT) (outer : List Env) (P : Program) (w : World) (H : Hp) (s : Shared) (Q : VK) (E : XK) (r : Result) (s' : Shared) : Prop :=
  match r with
  | .ok (.ret u) => CE outer P w H s Q u s'
  | .ok _ => False
  | .error e => CX outer H s E e s'
structure FnOk (P : Program) (w : World) (K : PySem.W.Frag) (mg : Str → Option Value) (base : Heap) (CX : CXT) (k : Nat) (f : Addr) (fd : FuncData) (ps : List Str) (sp : Sp) : Prop where
  len : ∀ vs H Q E, sp vs H Q E → vs.length = ps.length
  run : ∀ (A : Around) (outer : List Env) (s : Shared) (H : Hp) (args : Args) (us : List Value) (vs : List V) (Q : VK) (E : XK), Room k A → Env0 P w K mg base A outer s H → BindsTo s fd args (ps.zip us) → Vals vs us → sp vs H Q E →
    codeAny (model P w) A (.call (.ref f) args) (CR CX outer P w H s Q E) s
theorem FnOk.mono {P : Program} {w : World} {K : PySem.W.Frag} {mg : Str → Option Value} {base : Heap} {CX : CXT} {j k : Nat} {f : Addr} {fd : FuncData} {ps : List Str} {sp : Sp} (F : FnOk P w K mg base CX j f fd ps sp) (h : j ≤ k) :
    FnOk P w K mg base CX k f fd ps sp := ⟨F.len, fun A outer s H args us vs Q E hr => F.run A outer s H args us vs Q E (hr.mono h)⟩
/-- a weaker promise -/
theorem FnOk.imp {P : Program} {w : World} {K : PySem.W.Frag} {mg : Str → Option Value} {base : Heap} {CX : CXT} {k : Nat} {f : Addr} {fd : FuncData} {ps : List Str} {sp sp' : Sp} (F : FnOk P w K mg base CX k f fd ps sp)
    (h : ∀ vs H Q E, sp' vs H Q E → sp vs H Q E) : FnOk P w K mg base CX k f fd ps sp' :=
  ⟨fun vs H Q E q => F.len vs H Q E (h _ _ _ _ q), fun A outer s H args us vs Q E hr he hb hv hs => F.run A outer s H args us vs Q E hr he hb hv (h _ _ _ _ hs)⟩

theorem Env0.make {P : Program} {w : World} {K : PySem.W.Frag} {mg : Str → Option Value} {base : Heap} {A : Around} {outer : List Env} {s : Shared} {H : Hp} (e : Env0 P w K mg base A outer s H) (C : Addr) (us : List Value) (kw : List (Str × Value)) :
    Env0 P w K mg base (A.under (.builtin "type.__call__" ⟨.ref C :: us, kw⟩)) outer s H := ⟨by first | exact e.frames | (simpa [Around.under, Code.envs, Code.isFrame, pushEnvs] using e.frames), e.mod, e.bs, e.bsz, e.funs, e.frf, e.hok, e.bare⟩
theorem Env0.in1 {P : Program} {w : World} {K : PySem.W.Frag} {mg : Str → Option Value} {base : Heap} {A : Around} {outer : List Env} {s : Shared} {H : Hp} (e : Env0 P w K mg base A outer s H) :
    Env0 P w K mg base A.in1 outer s H := ⟨e.frames, e.mod, e.bs, e.bsz, e.funs, e.frf, e.hok, e.bare⟩

section
variable {X : Cx} {pins : List (Addr × Obj)} {σ : St} {H : Hp} {s s' : Shared}
/-- from a body: what a callee wants -/
theorem Inv.env0 (I : Inv X pins σ H s) : Env0 X.prog X.w X.K X.mg X.base X.A X.stack s H :=
  ⟨I.ok.frames, I.ok.mod, I.bs, Nat.le_trans I.ok.bsz I.sz, I.stack, I.stkFree, I.hok, I.bare⟩
/-- behind a call -/
theorem Inv.after {Q : VK} {u : Value} (I : Inv X pins σ H s) (h : CE X.stack X.prog X.w H s Q u s') : EP X pins σ Q u s' := by
  obtain ⟨v, H', os, bare, un, hok, r, q⟩ := h
  obtain ⟨hh, g, d, t, os'⟩ := s'
  obtain rfl : os' = s.os := os
  exact ⟨v, H', I.call (h' := hh) (g' := g) (d' := d) (t' := t) (ch := []) un hok bare (fun b z => absurd z (by simp)), r, q⟩
end

/-! ### calls -/
/-- f(..): the written arguments, then the defaults dvs; E: what is wanted of an exception -/
def tCall (sp : Sp) (dvs : List V) (E : XK) (t : TA) : TE := fun σ H Q => t σ H fun vs H1 => sp (vs ++ dvs) H1 Q E
/-- o.m(..) of an instance of the class at C -/
def tMeth (C : Addr) (m : Str) (sp : Sp) (dvs : List V) (E : XK) (ta : TE) (t : TA) : TE := fun σ H Q => ta σ H fun x H1 => ∃ a dx fs, x = .ref a ∧ H1 a = some (.ins C dx fs) ∧ fs.lookup m = none ∧
  t σ H1 fun vs H2 => sp (x :: (vs ++ dvs)) H2 Q E
/-- C(..): a new instance and its dict, then __init__ -/
def tMake (C : Addr) (sp : Sp) (dvs : List V) (E : XK) (t : TA) : TE := fun σ H Q => t σ H fun vs H1 => ∀ x dx, H1 x = none → H1 dx = none → dx ≠ x →
  sp (.ref x :: (vs ++ dvs)) (upd (upd H1 dx (.own x)) x (.ins C dx [])) (fun v H2 => v = .non ∧ Q (.ref x) H2) E

/-- how the parameters are bound: us the positional arguments, kw the keywords' values by name, ds the defaults that fill up -/
def Binds (K : PySem.W.Frag) (fd : FuncData) (ps : List Str) (ds : List Value) : Prop :=
  ∀ (s : Shared) (us : List Value), K.In s.heap → (us ++ ds).length = ps.length → BindsTo s fd ⟨us, []⟩ (ps.zip (us ++ ds))
/-- every parameter is given -/
theorem Binds.all {K : PySem.W.Frag} {fd : FuncData} {ps : List Str} (h : ∀ us : List Value, us.length = ps.length → bindArgs fd ⟨us, []⟩ = pure (ps.zip us)) : Binds K fd ps [] := fun s us _ hl => by
  rw [List.append_nil] at hl ⊢
  exact .of_eq (h us hl)

/-- an exception of a callee reaches what this body wants of exceptions -/
def Passes (CX : CXT) (X : Cx) (E : XK) : Prop := ∀ (pins : List (Addr × Obj)) (σ : St) (H : Hp) (s : Shared) (e : Value) (s' : Shared), Inv X pins σ H s → CX X.stack H s E e s' → X.xe e s'

section
variable {X : Cx} {CX : CXT} {k : Nat} {f C : Addr} {fd : FuncData} {ps : List Str} {sp : Sp} {dvs : List V} {ds : List Value} {E : XK} {x m : Str} {p pos apos : Pos} {e o : Expr} {es : List Expr} {ta : TE} {t : TA}

/-- the callee runs -/
theorem run_fn {pins : List (Addr × Obj)} {σ : St} {H : Hp} {s : Shared} {Q : VK} {us : List Value} {vs : List V} (F : FnOk X.prog X.w X.K X.mg X.base CX k f fd ps sp) (hr : Room k X.A) (hb : Binds X.K fd ps ds) (hd : Vals dvs ds) (hx : Passes CX X E)
    (I : Inv X pins σ H s) (r : Vals vs us) (h : sp (vs ++ dvs) H Q E) : wpAny (model X.prog X.w) X.A (call (.ref f) us) (EP X pins σ Q) X.xe s := by
  have r2 : Vals (vs ++ dvs) (us ++ ds) := r.append hd
  have hl : (us ++ ds).length = ps.length := by rw [← r2.length]; exact F.len _ _ _ _ h
  refine wpAny_call (codeAny_mono (F.run X.A X.stack s H ⟨us, []⟩ (us ++ ds) (vs ++ dvs) Q E hr I.env0 (hb s us I.kIn hl) r2 h) fun r s' hq => ?_)
  cases r with
  | error e => exact hx pins σ H s e s' I hq
  | ok fl =>
    cases fl with
    | ret u => exact I.after hq
    | next => exact False.elim hq
    | brk => exact False.elim hq
    | cont => exact False.elim hq

theorem pe_call (F : FnOk X.prog X.w X.K X.mg X.base CX k f fd ps sp) (hr : Room k X.A) (hg : Gl X x) (hm : X.mg x = some (.ref f)) (hk : PySem.W.keepIn X.K (.ref f) = true) (hb : Binds X.K fd ps ds) (hd : Vals dvs ds) (hx : Passes CX X E)
    (ha : PA X (e :: es) t) (hdb : (x == ("__debug__" : Str)) = false := by decide) (he : starEach (e :: es) X.env = (false, eval e X.env) :: starEach es X.env := by rfl) (hpl : (backTo pos (starEach es X.env)).any (·.1) = false := by rfl) :
    PE X (.Call (.Name x p) (e :: es) [] pos) (tCall sp dvs E t) := by
  intro pins s σ H Q I h
  refine wpAny_Call_Name_kw (ld_glob I hg hm ?_ hdb)
  refine PySem.W.callWith_K (h₀ := X.base) I.ok.mod.kin hk (thn (ha pos pins s σ H _ I h) fun us s1 ⟨vs, H1, I1, r, q⟩ => ⟨I1.kIn, ?_⟩) he hpl
  exact run_fn F hr hb hd hx I1 r q
theorem pe_call0 (F : FnOk X.prog X.w X.K X.mg X.base CX k f fd ps sp) (hr : Room k X.A) (hg : Gl X x) (hm : X.mg x = some (.ref f)) (hk : PySem.W.keepIn X.K (.ref f) = true) (hb : Binds X.K fd ps ds) (hd : Vals dvs ds) (hx : Passes CX X E)
    (hdb : (x == ("__debug__" : Str)) = false := by decide) : PE X (.Call (.Name x p) [] [] pos) (tCall sp dvs E tNil) := by
  intro pins s σ H Q I h
  refine wpAny_Call_Name_kw (ld_glob I hg hm ?_ hdb)
  exact PySem.W.callWith_K0 I.kIn hk (run_fn (us := []) F hr hb hd hx I .nil h)

/-- o.m(e, ..) -/
theorem pe_meth {pl : Sem Bool} (he : PE X o ta) (c : Cls X.K C) (hm : Meth X.K C m f) (F : FnOk X.prog X.w X.K X.mg X.base CX k f fd ps sp) (hr : Room k X.A) (hb : Binds X.K fd ps ds) (hd : Vals dvs ds) (hx : Passes CX X E) (ha : PA X (e :: es) t)
    (hst : starEach (e :: es) X.env = (false, eval e X.env) :: starEach es X.env := by rfl) (hpl : (backTo pos (starEach es X.env)).any (·.1) = false := by rfl)
    (ht : eval (.Call (.Attribute o m apos) (e :: es) [] pos) X.env = (do
      let ov ← eval o X.env
      standAt apos.atName
      let (f, first) ← holding [ov] (getMethod ov m pl)
      callWith pos f first (backTo pos (starEach (e :: es) X.env)) (backToKw pos (keywordEach [] X.env))) := by rfl) :
    PE X (.Call (.Attribute o m apos) (e :: es) [] pos) (tMeth C m sp dvs E ta t) := by
  intro pins s σ H Q I h
  refine PySem.W.methodCall_KW (pl := pl) (thn (he pins s σ H _ I h) fun u s1 ⟨x, H1, I1, rx, a, dx, fs, ex, ea, l, q⟩ => ?_) ht
  subst ex
  obtain rfl : u = Value.ref a := rx
  refine getmeth_ok I1 ea c hm l ?_
  refine PySem.W.callWith_K (first := [.ref a]) (h₀ := X.base) I.ok.mod.kin hm.kp (thn (ha pos pins s1 σ H1 _ I1 q) fun us s2 ⟨vs, H2, I2, r, q2⟩ => ⟨I2.kIn, ?_⟩) hst hpl
  exact run_fn (us := .ref a :: us) (vs := .ref a :: vs) F hr hb hd hx I2 (.cons rfl r) q2
/-- o.m() -/
theorem pe_meth0 {pl : Sem Bool} (he : PE X o ta) (c : Cls X.K C) (hm : Meth X.K C m f) (F : FnOk X.prog X.w X.K X.mg X.base CX k f fd ps sp) (hr : Room k X.A) (hb : Binds X.K fd ps ds) (hd : Vals dvs ds) (hx : Passes CX X E)
    (ht : eval (.Call (.Attribute o m apos) [] [] pos) X.env = (do
      let ov ← eval o X.env
      standAt apos.atName
      let (f, first) ← holding [ov] (getMethod ov m pl)
      callWith pos f first (backTo pos (starEach [] X.env)) (backToKw pos (keywordEach [] X.env))) := by rfl) :
    PE X (.Call (.Attribute o m apos) [] [] pos) (tMeth C m sp dvs E ta tNil) := by
  intro pins s σ H Q I h
  refine PySem.W.methodCall_KW (pl := pl) (thn (he pins s σ H _ I h) fun u s1 ⟨x, H1, I1, rx, a, dx, fs, ex, ea, l, q⟩ => ?_) ht
  subst ex
  obtain rfl : u = Value.ref a := rx
  refine getmeth_ok I1 ea c hm l ?_
  exact PySem.W.callWith_K0 (first := [.ref a]) I1.kIn hm.kp (run_fn (us := [.ref a]) (vs := [.ref a]) F hr hb hd hx I1 (.cons rfl .nil) q)

/-- what a class must have to be made -/
structure Mk (K : PySem.W.Frag) (C f : Addr) : Prop where
  makes : PySem.W.makesIn K C = true
  init : PySem.W.findIn K (.ref C) "__init__" = some (some (.ref f))
  fn : PySem.W.isFn K (.ref f) = true
  kp : PySem.W.keepIn K (.ref C) = true

theorem run_make {pins : List (Addr × Obj)} {σ : St} {H : Hp} {s : Shared} {Q : VK} {us : List Value} {vs : List V} (M : Mk X.K C f) (F : FnOk X.prog X.w X.K X.mg X.base CX k f fd ps sp) (hr : Room (k + 1) X.A) (hb : Binds X.K fd ps ds) (hd : Vals dvs ds)
    (hx : Passes CX X E) (I : Inv X pins σ H s) (r : Vals vs us)
    (h : ∀ x dx, H x = none → H dx = none → dx ≠ x → sp (.ref x :: (vs ++ dvs)) (upd (upd H dx (.own x)) x (.ins C dx [])) (fun v H2 => v = .non ∧ Q (.ref x) H2) E) :
    wpAny (model X.prog X.w) X.A (call (.ref C) us) (EP X pins σ Q) X.xe s := by
  have hq := h (s.heap.objs.size + 1) s.heap.objs.size (I.hok.fresh (Nat.le_succ _)) (I.hok.fresh (Nat.le_refl _)) (Nat.ne_of_lt (Nat.lt_succ_self _))
  have I2 := Inv.made (C := C) I
  have r2 : Vals (V.ref (s.heap.objs.size + 1) :: (vs ++ dvs)) (Value.ref (s.heap.objs.size + 1) :: (us ++ ds)) := .cons rfl (r.append hd)
  have hl : (Value.ref (s.heap.objs.size + 1) :: us ++ ds).length = ps.length := by
    have e := r2.length
    rw [F.len _ _ _ _ hq] at e
    exact e.symm
  refine wpAny_call (make_map (f := f) I.kIn M.makes M.init (beq_iff_eq.mp M.fn) (codeAny_mono (F.run _ X.stack _ _ ⟨Value.ref (s.heap.objs.size + 1) :: us, []⟩ (Value.ref (s.heap.objs.size + 1) :: (us ++ ds)) _ _ E (hr.make C us [])
    (I2.env0.make C us []) (hb _ (Value.ref (s.heap.objs.size + 1) :: us) I2.kIn hl) r2 hq) fun r s' hq' => ?_))
  cases r with
  | error e => exact hx pins σ _ _ e s' I2 hq'
  | ok fl =>
    cases fl with
    | ret u =>
      obtain ⟨v, H', I3, rv, ev, q3⟩ := I2.after hq'
      subst ev
      exact ⟨rv, ⟨V.ref (s.heap.objs.size + 1), H', I3, rfl, q3⟩⟩
    | next => exact False.elim hq'
    | brk => exact False.elim hq'
    | cont => exact False.elim hq'
theorem pe_make (M : Mk X.K C f) (F : FnOk X.prog X.w X.K X.mg X.base CX k f fd ps sp) (hr : Room (k + 1) X.A) (hg : Gl X x) (hm : X.mg x = some (.ref C)) (hb : Binds X.K fd ps ds) (hd : Vals dvs ds) (hx : Passes CX X E)
    (ha : PA X (e :: es) t) (hdb : (x == ("__debug__" : Str)) = false := by decide) (he : starEach (e :: es) X.env = (false, eval e X.env) :: starEach es X.env := by rfl) (hpl : (backTo pos (starEach es X.env)).any (·.1) = false := by rfl) :
    PE X (.Call (.Name x p) (e :: es) [] pos) (tMake C sp dvs E t) := by
  intro pins s σ H Q I h
  refine wpAny_Call_Name_kw (ld_glob I hg hm ?_ hdb)
  refine PySem.W.callWith_K (h₀ := X.base) I.ok.mod.kin M.kp (thn (ha pos pins s σ H _ I h) fun us s1 ⟨vs, H1, I1, r, q⟩ => ⟨I1.kIn, ?_⟩) he hpl
  exact run_make M F hr hb hd hx I1 r q
theorem pe_make0 (M : Mk X.K C f) (F : FnOk X.prog X.w X.K X.mg X.base CX k f fd ps sp) (hr : Room (k + 1) X.A) (hg : Gl X x) (hm : X.mg x = some (.ref C)) (hb : Binds X.K fd ps ds) (hd : Vals dvs ds) (hx : Passes CX X E)
    (hdb : (x == ("__debug__" : Str)) = false := by decide) : PE X (.Call (.Name x p) [] [] pos) (tMake C sp dvs E tNil) := by
  intro pins s σ H Q I h
  refine wpAny_Call_Name_kw (ld_glob I hg hm ?_ hdb)
  exact PySem.W.callWith_K0 I.kIn M.kp (run_make (us := []) M F hr hb hd hx I .nil h)
end

/-! ### keywords -/
section
variable {X : Cx} {CX : CXT} {k : Nat} {f C : Addr} {fd : FuncData} {ps ks : List Str} {sp : Sp} {E : XK} {x m : Str} {p pos apos kpos : Pos} {e o : Expr} {es : List Expr} {kws : List Keyword} {te ta : TE} {t tk : TA} {nm : Option Str}
/-- how a call with keywords binds: g puts the positional values us and the keywords' values ws (names ks) in the parameters' order, defaults among them -/
structure KBinds (K : PySem.W.Frag) (fd : FuncData) (ps ks : List Str) (g : List Value → List Value → List Value) (gV : List V → List V → List V) : Prop where
  to : ∀ (s : Shared) (us ws : List Value), K.In s.heap → (g us ws).length = ps.length → BindsTo s fd ⟨us, ks.zip ws⟩ (ps.zip (g us ws))
  rel : ∀ {vs : List V} {us : List Value} {zs : List V} {ws : List Value}, Vals vs us → Vals zs ws → Vals (gV vs zs) (g us ws)
variable {g : List Value → List Value → List Value} {gV : List V → List V → List V}
end

/-! ### a def's body keeps its promise -/
/-- names: the parameters first -/
structure FnScope (N P : List Str) (sc : Scope) : Prop where
  kind : sc.kind = .function
  co : sc.isCoroutine = false
  gen : sc.isGenerator = false
  nd : N.Nodup
  pre : N.take P.length = P
  par : ∀ x ∈ P, sc.names.lookup x = some .local ∨ sc.names.lookup x = some .cell
  nofree : ∀ y ∈ sc.names, y.2 ≠ .free

theorem bindL_out {kindOf : Str → Option NameKind} {x : Str} : ∀ {binds : List (Str × Value)} {m : Str → Option Value}, (∀ v, (x, v) ∉ binds) → bindL kindOf binds m x = m x
  | [], _, _ => rfl
  | (n, v) :: r, m, h => by
    unfold bindL
    rw [bindL_out fun w hw => h w (List.mem_cons_of_mem _ hw)]
    split
    · have : x ≠ n := by rintro rfl; exact h v List.mem_cons_self
      simp [this]
    · rfl
theorem bindC_out {kindOf : Str → Option NameKind} {x : Str} : ∀ {binds : List (Str × Value)} {m : Str → Option Value}, (∀ v, (x, v) ∉ binds) → bindC kindOf binds m x = m x
  | [], _, _ => rfl
  | (n, v) :: r, m, h => by
    unfold bindC
    rw [bindC_out fun w hw => h w (List.mem_cons_of_mem _ hw)]
    split
    · rfl
    · have : x ≠ n := by rintro rfl; exact h v List.mem_cons_self
      simp [this]
theorem bindL_get {kindOf : Str → Option NameKind} {x : Str} {v : Value} : ∀ {P : List Str} {vs : List Value} {i : Nat} {m : Str → Option Value}, P.Nodup → P[i]? = some x → vs[i]? = some v → kindOf x = some .local →
    bindL kindOf (P.zip vs) m x = some v
  | [], _, _, _, _, h, _, _ => by simp at h
  | _ :: _, [], _, _, _, _, h, _ => by simp at h
  | p :: P, w :: vs, 0, m, nd, h1, h2, hk => by
    simp at h1 h2; subst h1; subst h2
    show bindL kindOf ((p, w) :: P.zip vs) m p = _
    unfold bindL
    rw [bindL_out fun v hv => (List.nodup_cons.mp nd).1 (List.of_mem_zip hv).1, if_pos hk]
    simp
  | p :: P, w :: vs, i + 1, m, nd, h1, h2, hk => by
    show bindL kindOf ((p, w) :: P.zip vs) m x = _
    unfold bindL
    exact bindL_get (i := i) (List.nodup_cons.mp nd).2 (by simpa using h1) (by simpa using h2) hk
theorem bindC_get {kindOf : Str → Option NameKind} {x : Str} {v : Value} : ∀ {P : List Str} {vs : List Value} {i : Nat} {m : Str → Option Value}, P.Nodup → P[i]? = some x → vs[i]? = some v → kindOf x ≠ some .local →
    bindC kindOf (P.zip vs) m x = some v
  | [], _, _, _, _, h, _, _ => by simp at h
  | _ :: _, [], _, _, _, _, h, _ => by simp at h
  | p :: P, w :: vs, 0, m, nd, h1, h2, hk => by
    simp at h1 h2; subst h1; subst h2
    show bindC kindOf ((p, w) :: P.zip vs) m p = _
    unfold bindC
    rw [bindC_out fun v hv => (List.nodup_cons.mp nd).1 (List.of_mem_zip hv).1, if_neg hk]
    simp
  | p :: P, w :: vs, i + 1, m, nd, h1, h2, hk => by
    show bindC kindOf ((p, w) :: P.zip vs) m x = _
    unfold bindC
    exact bindC_get (i := i) (List.nodup_cons.mp nd).2 (by simpa using h1) (by simpa using h2) hk

/-- the names' values at the entry -/
def start (N : List Str) (vs : List V) : St := vs.map some ++ List.replicate (N.length - vs.length) none

/-- the context of a def's body, at its entry; an exception leaves the frame, then lies as CX says -/
def cxOf (CX : CXT) (P : Program) (w : World) (K : PySem.W.Frag) (mg : Str → Option Value) (base : Heap) (N : List Str) (qual : Str) (scope : Scope) (f : Addr) (cd : Value) (A : Around) (outer : List Env) (s : Shared) (H : Hp) (E : XK) : Cx where
  prog := P
  w := w
  K := K
  mg := mg
  base := base
  A := A.deeper (envOfC qual scope s.heap.objs.size f cd)
  N := N
  s₀ := s
  H₀ := H
  env := envOfC qual scope s.heap.objs.size f cd
  outer := outer
  stack := envOfC qual scope s.heap.objs.size f cd :: outer
  ex := []
  calm := true
  fn := fun _ => true
  pn := []
  xe := fun e s' => wpAny (model P w) (A.deeper (envOfC qual scope s.heap.objs.size f cd)) (leaving (envOfC qual scope s.heap.objs.size f cd) e) (fun _ s'' => CX outer H s E e s'') (fun e' s'' => CX outer H s E e' s'') s'

theorem cell_has {sc : Scope} {n : Nat} {x : Str} (h : sc.names.lookup x = some .cell) : ∃ c, (cellsFrom n sc.names []).lookup x = some c := by
  have q := PySem.W.cellsFrom_some sc.names n [] (.inl h)
  exact Option.isSome_iff_exists.mp q

theorem inv_start {CX : CXT} {P : Program} {w : World} {K : PySem.W.Frag} {mg : Str → Option Value} {base : Heap} {N ps : List Str} {qual : Str} {scope : Scope} {f : Addr} {cd : Value} {A : Around} {outer : List Env} {s s1 : Shared} {H : Hp} {E : XK} {us : List Value} {vs : List V}
    (S : FnScope N ps scope) (hd : A.handled = none) (e0 : Env0 P w K mg base A outer s H) (hl : vs.length = ps.length) (r : Vals vs us)
    (x : InCallC s s.heap.objs.size (bindL (envOfC qual scope s.heap.objs.size f cd).kindOf (ps.zip us) fun _ => none) (cellsFrom (s.heap.objs.size + 1) scope.names []) (bindC (envOfC qual scope s.heap.objs.size f cd).kindOf (ps.zip us) fun _ => none) s1) :
    Inv (cxOf CX P w K mg base N qual scope f cd A outer s H E) [] (start N vs) H s1 := by
  have hpl : ps.length ≤ N.length := by have := congrArg List.length S.pre; rw [List.length_take] at this; omega
  obtain ⟨h1, tk, rfl, hk⟩ := x.done
  have noA : ∀ b : Addr, b ∉ (cxOf CX P w K mg base N qual scope f cd A outer s H E).ex := fun b z => absurd (show b ∈ ([] : List Addr) from z) (by simp)
  refine ⟨⟨e0.mod, S.kind, rfl, rfl, Nat.le_refl _, fun y z c h1 h2 => ?_, fun y hy => ?_, fun y c _ h => ?_, fun _ => hd, Around.frames_deeper e0.frames, .inr ⟨rfl, rfl⟩, fun b z => absurd z (noA b), e0.bs, e0.bsz, fun b _ _ => noA b, fun b z => absurd z (noA b), e0.funs, e0.frf⟩,
    rfl, e0.bare, Un.kept hk, ⟨_, x.toInCall.ns, fun i y v h1 h2 h3 => ?_⟩, fun y c h => ⟨_, x.cell y c h⟩, e0.hok.fresh (Nat.le_refl _), fun y c h => ?_, fun p hp => absurd (show p ∈ ([] : List (Addr × Obj)) from hp) (by simp), e0.hok.kept hk, ?_⟩
  · exact name_of_addr x.apart (PySem.mem_of_lookup h1) (PySem.mem_of_lookup h2)
  · have hy : scope.names.lookup y = some .cell ∨ scope.names.lookup y = some .free := hy
    rcases hy with hy | hy
    · exact cell_has hy
    · exact absurd rfl (S.nofree _ (PySem.mem_of_lookup hy))
  · exact Nat.le_of_lt (x.above y c (PySem.mem_of_lookup h))
  · have hi : i < vs.length := by
      unfold start at h2
      by_cases hi : i < vs.length
      · exact hi
      · rw [List.getElem?_append_right (by simpa using hi)] at h2
        rw [List.getElem?_replicate] at h2
        split at h2 <;> cases h2
    have ha : vs[i]? = some v := by
      unfold start at h2
      rw [List.getElem?_append_left (by simpa using hi), List.getElem?_map] at h2
      cases e : vs[i]? with
      | none => rw [e] at h2; cases h2
      | some a => rw [e] at h2; cases h2; rfl
    obtain ⟨u, hu, rv⟩ := r.get ha
    have hp : ps[i]? = some y := by
      rw [← S.pre, List.getElem?_take_of_lt (by omega)]; exact h1
    have ndP : ps.Nodup := by rw [← S.pre]; exact S.nd.sublist (List.take_sublist _ _)
    refine ⟨u, rv, ?_⟩
    rcases S.par y (List.mem_of_getElem? hp) with k | k
    · exact .inl ⟨k, bindL_get ndP hp hu k⟩
    · obtain ⟨c, e⟩ := cell_has (n := s.heap.objs.size + 1) k
      refine .inr ⟨.inl k, c, e, ?_⟩
      have q := x.cell y c e
      rw [bindC_get ndP hp hu (by show scope.names.lookup y ≠ _; rw [k]; decide)] at q
      exact q
  · exact e0.hok.fresh (Nat.le_of_lt (x.above y c (PySem.mem_of_lookup h)))
  · unfold start
    show _ = N.length
    rw [List.length_append, List.length_map, List.length_replicate]
    omega

/-- THE RULE: a def (or a method) of the text, by its body. The body's reading t is chosen for each entry; it is run at the parameters' values -/
theorem fn_of {CX : CXT} {P : Program} {w : World} {K : PySem.W.Frag} {mg : Str → Option Value} {base : Heap} {k : Nat} {f : Addr} {name qual : Str} {params : Arguments} {body : List Stmt} {scope : Scope} {dV kV doc pm cdv ct oc : Value} {an od : Option Addr}
    {osl : Array (Option Value)} {N ps : List Str} {sp : Sp} (lk : K.lookup f = some ⟨oc, od, .func (PySem.W.fnOf name qual params body scope dV kV doc pm an cdv ct), osl⟩) (hcd : PySem.W.codeIn K cdv qual = true) (S : FnScope N ps scope)
    (len : ∀ vs H Q E, sp vs H Q E → vs.length = ps.length)
    (hbody : ∀ (A : Around) (outer : List Env) (s : Shared) (H : Hp) (vs : List V) (Q : VK) (E : XK), Room k (A.deeper (envOfC qual scope s.heap.objs.size f cdv)) → sp vs H Q E →
      ∃ t, PSs (cxOf CX P w K mg base N qual scope f cdv A outer s H E) body t ∧ t { nx := fun _ H' => Q .non H', rt := Q } (start N vs) H) :
    FnOk P w K mg base CX (k + 1) f (PySem.W.fnOf name qual params body scope dV kV doc pm an cdv ct) ps sp := by
  refine ⟨len, fun A outer s H args us vs Q E hr e0 hb r hsp => ?_⟩
  have hl := len _ _ _ _ hsp
  have KX : K.In s.heap := e0.mod.kin.keeps fun b o e => (e0.bs b o e).1
  have lim : s.heap.NoLimit := e0.mod.nolimit.keeps fun b o e => (e0.bs b o e).1
  have hkind : ∀ y ∈ ps.zip us, scope.names.lookup y.1 = some .local ∨ (scope.names.lookup y.1 = some .cell ∧ ((cellsFrom (s.heap.objs.size + 1) scope.names []).lookup y.1).isSome = true) := fun ⟨n, v⟩ hy => by
    rcases S.par n (List.of_mem_zip hy).1 with q | q
    · exact .inl q
    · exact .inr ⟨q, PySem.W.cellsFrom_some _ _ _ (.inl q)⟩
  refine codeAny_call_function hr.depth (KX _ _ lk) rfl S.co S.gen rfl (PySem.W.codeRec_of KX hcd) (hb _ _ _ _ ?_)
  refine wpAny_newFunctionEnv_cells S.kind hkind fun env he s1 x => ?_
  subst he
  refine ⟨lim.keeps x.toInCall.keep, codeAny_func ?_⟩
  obtain ⟨t, ht, hq⟩ := hbody A outer s H vs Q E (hr.deeper _) hsp
  have I : Inv (cxOf CX P w K mg base N qual scope f cdv A outer s H E) [] (start N vs) H s1 := inv_start S hr.hd e0 hl r x
  refine wpAny_mono (ht [] s1 (start N vs) H _ I hq) (fun fl s' hs => ?_) fun e s' hs => hs
  have fin : ∀ {σ' : St} {H' : Hp} {v : V} {u : Value}, Inv (cxOf CX P w K mg base N qual scope f cdv A outer s H E) [] σ' H' s' → RelV v u → Q v H' → CE outer P w H s Q u s' :=
    fun {σ' H' v u} J rv q => ⟨v, H', J.os, J.bare, J.base, J.hok, rv, q⟩
  cases fl with
  | ret u =>
    obtain ⟨v, σ', H', J, rv, q⟩ := hs
    exact fin J rv q
  | next =>
    obtain ⟨σ', H', J, q⟩ := hs
    exact fin (v := V.non) (u := Value.none) J rfl q
  | brk =>
    obtain ⟨_, _, _, q⟩ := hs
    exact False.elim q
  | cont =>
    obtain ⟨_, _, _, q⟩ := hs
    exact False.elim q
end L2

namespace L2
open PySem PySem.Spec PyProof.Rows
section
variable {X : Cx} {x : Str} {p pos : Pos} {e : Expr} {es : List Expr} {t : TA} {id T : String} {r : List V → Hp → VK → Prop}

def tCB (r : List V → Hp → VK → Prop) (t : TA) : TE := fun σ H Q => t σ H fun vs H1 => r vs H1 Q
/-- f(e, ..), f a built-in function -/
theorem pe_callB (hc : CallR X (.builtin id) r) (hg : Gl X x) (hm : X.mg x = none) (hv : bootBuiltins x = some (.builtin id)) (ha : PA X (e :: es) t) (hn : x ≠ "__name__" := by decide) (hdb : (x == ("__debug__" : Str)) = false := by decide)
    (he : starEach (e :: es) X.env = (false, eval e X.env) :: starEach es X.env := by rfl) (hpl : (backTo pos (starEach es X.env)).any (·.1) = false := by rfl) : PE X (.Call (.Name x p) (e :: es) [] pos) (tCB r t) := by
  intro pins s σ H Q I h
  refine wpAny_Call_Name_kw (ld_blt I hg hm hv ?_ hn hdb)
  exact PyProof.Rows.callWith_builtin1 (thn (ha pos pins s σ H _ I h) fun us s1 ⟨vs, H1, I1, r1, q1⟩ => hc pins s1 σ H1 vs us Q I1 r1 q1) he hpl
/-- T(e, ..), T a built-in type -/
theorem pe_callTy (hc : CallR X (.type T) r) (hg : Gl X x) (hm : X.mg x = none) (hv : bootBuiltins x = some (.type T)) (ha : PA X (e :: es) t) (hn : x ≠ "__name__" := by decide) (hdb : (x == ("__debug__" : Str)) = false := by decide)
    (he : starEach (e :: es) X.env = (false, eval e X.env) :: starEach es X.env := by rfl) (hpl : (backTo pos (starEach es X.env)).any (·.1) = false := by rfl) : PE X (.Call (.Name x p) (e :: es) [] pos) (tCB r t) := by
  intro pins s σ H Q I h
  refine wpAny_Call_Name_kw (ld_blt I hg hm hv ?_ hn hdb)
  exact PyProof.Rows.callWith_type1 (thn (ha pos pins s σ H _ I h) fun us s1 ⟨vs, H1, I1, r1, q1⟩ => hc pins s1 σ H1 vs us Q I1 r1 q1) he hpl
end
end L2

namespace HT
open PySem PyProof.Rows

section
open PySem.SeqAt
open PySem.AutoSeq1 (wpAny_loadPart')
open PySem.MeetsSeq PySem.MeetsSeq2 PySem.MeetsSeq3

end

section
variable {prog : Program} {w : World} {A : Around} {E : Value → Shared → Prop} {s : Shared}

/-- t + u, t not empty -/
theorem cat_tup {t b : Addr} {vs ws : List Value} {Q : Value → Shared → Prop} (ht : IsTup s.heap t vs.toArray) (hb : IsTup s.heap b ws.toArray) (hv : vs ≠ [])
    (h1 : ws = [] → Q (.ref t) s) (h2 : ws ≠ [] → Q (.ref s.heap.objs.size) { s with heap := s.heap.push { cls := .type "tuple", data := .seq (vs ++ ws).toArray } })
    (hsz : vs.length + ws.length ≤ sizeLine) : wpAny (model prog w) A (binaryOp .Add (.ref t) (.ref b)) Q E s := by
  obtain ⟨⟨cls, dd, data, sl⟩, ho, hc, n, hd⟩ := id ht
  obtain ⟨⟨cls2, dd2, data2, sl2⟩, ho2, hc2, n2, hd2⟩ := id hb
  simp only at hc hd hc2 hd2
  subst hc hd hc2 hd2
  have e : vs.toArray ++ ws.toArray = (vs ++ ws).toArray := by simp
  by_cases hw : ws = []
  · exact concat_meets ⟨_, ho, rfl⟩ ⟨_, ho2, rfl⟩ noFill_tuple_add seq_tuple_add PySem.F.slot_tuple_add PySem.F.entry_tuple_add (PySem.F.args_tuple_add_2 _ _)
      (tuple_addW1 t b vs.toArray ws.toArray n n2 dd dd2 sl sl2 (by simpa using hv) (by simp [hw])) ⟨ho, ho2, h1 hw⟩
  · refine concat_meets ⟨_, ho, rfl⟩ ⟨_, ho2, rfl⟩ noFill_tuple_add seq_tuple_add PySem.F.slot_tuple_add PySem.F.entry_tuple_add (PySem.F.args_tuple_add_2 _ _)
      (tuple_addW2 t b vs.toArray ws.toArray n n2 dd dd2 sl sl2 (by simpa using hv) (by simpa using hw) (by rw [List.size_toArray, List.size_toArray]; exact hsz)) ⟨ho, ho2, ?_⟩
    rw [e]
    exact h2 hw

/-! ### t[a:b], not the whole -/
theorem slicePart_ {v : Value} {o : Option Int} {Q : Option Int → Shared → Prop} (p : IsPart v o) (h : Q o s) : wpAny (model prog w) A (Builtin.Slice.slicePartIndex v) Q E s := by
  cases p with
  | none => exact slicePart_none h
  | int i t => exact slicePart_int h
end
end HT

namespace L2
open PySem PySem.Spec PyProof.Rows

/-! ### the parts of a slice -/
abbrev TO := St → Hp → (Option Int → Hp → Prop) → Prop
/-- a slice's part (left out, or an int) -/
def PO (X : Cx) (e : Option Expr) (t : TO) : Prop :=
  ∀ (pins : List (Addr × Obj)) (s : Shared) (σ : St) (H : Hp) (Q : Option Int → Hp → Prop), Inv X pins σ H s → t σ H Q →
    wpAny (model X.prog X.w) X.A (evalPart e X.env) (fun u s' => ∃ o H', Inv X pins σ H' s' ∧ IsPart u o ∧ Q o H') X.xe s
def tPart (t : TE) : TO := fun σ H Q => t σ H fun x H1 => ∃ i, x = .int i ∧ Q (some i) H1

section
variable {X : Cx} {e : Expr} {te : TE} {lo hi : Option Expr} {tl th : TO} {pos p2 : Pos}

theorem po_some (h : PE X e te) : PO X (some e) (tPart te) := by
  intro pins s σ H Q I hw
  rw [evalPart_some]
  refine thn (h pins s σ H _ I hw) fun u s1 ⟨x, H1, I1, r1, q1⟩ => ?_
  obtain ⟨i, rfl, q⟩ := q1
  obtain ⟨t, rfl⟩ := r1
  exact ⟨some i, H1, I1, .int i t, q⟩

/-- what a slice of a value is, by values: the slice object stands at sl -/
def SlR (X : Cx) (r : V → Option Int → Option Int → Hp → VK → Prop) : Prop :=
  ∀ (pins : List (Addr × Obj)) (s : Shared) (σ : St) (H : Hp) (x : V) (v vl vu : Value) (lo hi : Option Int) (sl : Addr) (Q : VK), Inv X pins σ H s → RelV x v → s.heap.IsSliceOf sl vl vu .none → IsPart vl lo → IsPart vu hi → r x lo hi H Q →
    ∃ T id, typeLookup (.type T) "__getitem__" = pure (some (.builtin id)) ∧ s.TypeIs v T ∧ wpAny (model X.prog X.w) X.A (getItem v (.ref sl)) (EP X pins σ Q) X.xe s
theorem SlR.or {r r' : V → Option Int → Option Int → Hp → VK → Prop} (h : SlR X r) (h' : SlR X r') : SlR X (fun x lo hi H Q => r x lo hi H Q ∨ r' x lo hi H Q) := by
  intro pins s σ H x v vl vu lo hi sl Q I rx hs pl pu q
  rcases q with q | q
  · exact h pins s σ H x v vl vu lo hi sl Q I rx hs pl pu q
  · exact h' pins s σ H x v vl vu lo hi sl Q I rx hs pl pu q
/-! ### t < u, t + u -/
/-- t + u, t not empty: u empty gives t itself -/
def rCatT (K : PySem.W.Frag) : R2 := fun x y H Q => ∃ a b xs ys, x = .ref a ∧ y = .ref b ∧ SqT K H a xs ∧ SqT K H b ys ∧ xs ≠ [] ∧ xs.length + ys.length ≤ sizeLine ∧
  (ys = [] → Q (.ref a) H) ∧ (ys ≠ [] → ∀ p, H p = none → Q (.ref p) (upd H p (.tup (xs ++ ys))))
theorem Vals.nil_iff {xs : List V} {us : List Value} (r : Vals xs us) : us = [] ↔ xs = [] := by
  cases r with
  | nil => simp
  | cons _ _ => simp
theorem op_catT : OpR X (binaryOp .Add) (rCatT X.K) := by
  intro pins s σ H x y v u Q I rx ry h
  obtain ⟨a, b, xs, ys, rfl, rfl, ha, hb, hx, hz, q1, q2⟩ := h
  cases rx
  cases ry
  obtain ⟨its, r1, p1, _⟩ := I.tuple ha
  obtain ⟨its2, r2, p2, _⟩ := I.tuple hb
  refine HT.cat_tup p1 p2 (fun z => hx (r1.nil_iff.mp z)) (fun z => ⟨.ref a, H, I, rfl, q1 (r2.nil_iff.mp z)⟩) (fun z => ?_) (by rw [← r1.length, ← r2.length]; exact hz)
  refine ⟨.ref s.heap.objs.size, _, I.laid (t' := s.toks) (o := .tup (xs ++ ys)) (fun b ob q => Heap.get?_push_of_some _ q) (Nat.le_refl _) ?_, rfl, q2 (fun w => z (r2.nil_iff.mpr w)) _ (I.hok.fresh (Nat.le_refl _))⟩
  exact ⟨by rw [List.length_append]; exact hz, _, r1.append r2, IsTup.new _ _⟩
end
end L2

namespace L2
open PySem PySem.Spec PyProof.Rows

/-! ### places -/
/-- the place that an index of any sign means -/
def ixN (n : Nat) (i : Int) : Option Nat := if 0 ≤ i then (if i < n then some i.toNat else none) else if -(n : Int) ≤ i then some (i + n).toNat else none
def atI {α : Type} (xs : List α) (i : Int) : Option α := (ixN xs.length i).bind fun j => xs[j]?
theorem ixN_seq {n : Nat} {i : Int} {j : Nat} (h : ixN n i = some j) : seqIndex? i n = some j ∧ j < n ∧ -(n : Int) ≤ i ∧ i < n := by
  unfold ixN at h
  by_cases h0 : 0 ≤ i
  · rw [if_pos h0] at h
    by_cases h1 : i < n
    · rw [if_pos h1] at h
      have e : i.toNat = j := Option.some.inj h
      exact ⟨by rw [seqIndex_of h0 h1, e], by omega, by omega, h1⟩
    · rw [if_neg h1] at h; cases h
  · rw [if_neg h0] at h
    by_cases h1 : -(n : Int) ≤ i
    · rw [if_pos h1] at h
      have e : (i + n).toNat = j := Option.some.inj h
      exact ⟨by rw [seqIndex_neg (by omega) h1, e], by omega, h1, by omega⟩
    · rw [if_neg h1] at h; cases h
theorem atI_get {α : Type} {xs : List α} {i : Int} {v : α} (h : atI xs i = some v) : ∃ j, seqIndex? i xs.length = some j ∧ xs[j]? = some v ∧ j < xs.length ∧ -(xs.length : Int) ≤ i ∧ i < xs.length := by
  unfold atI at h
  cases e : ixN xs.length i with
  | none => rw [e] at h; cases h
  | some j =>
    rw [e] at h
    obtain ⟨h1, h2, h3, h4⟩ := ixN_seq e
    exact ⟨j, h1, h, h2, h3, h4⟩
theorem atI_nat {α : Type} {xs : List α} {j : Nat} {v : α} (h : xs[j]? = some v) : atI xs (j : Int) = some v := by
  have hj : j < xs.length := (List.getElem?_eq_some_iff.mp h).1
  have e : ixN xs.length (j : Int) = some j := by
    unfold ixN
    rw [if_pos (by omega), if_pos (by omega)]; simp
  unfold atI; rw [e]; exact h
theorem atI_last {α : Type} (xs : List α) (v : α) : atI (xs ++ [v]) (-1) = some v := by
  have hl : (xs ++ [v]).length = xs.length + 1 := by simp
  have e : ixN (xs ++ [v]).length (-1) = some xs.length := by
    unfold ixN
    rw [hl, if_neg (by decide), if_pos (by omega)]
    congr 1
    omega
  unfold atI
  rw [e]
  show (xs ++ [v])[xs.length]? = some v
  simp

/-! ### what may be subscripted -/
/-- what stands as an index of a plain subscript -/
def PlainIx (b : Expr) : Prop := ∀ o i, subscripted b false o i = operate [o, i] (getItem o i)
/-- a subscript by values -/
def IxR (X : Cx) (r : R2) : Prop :=
  ∀ (value slice : Expr) (pins : List (Addr × Obj)) (s : Shared) (σ : St) (H : Hp) (x y : V) (v u : Value) (Q : VK), Inv X pins σ H s → RelV x v → RelV y u → r x y H Q →
    subscripted slice false v u = operate [v, u] (getItem v u) → wpAny (model X.prog X.w) X.A (subscriptTail value slice v u) (EP X pins σ Q) X.xe s
/-- a call of a builtin's method by values: the receiver, the arguments -/
def MtR (X : Cx) (id : String) (r : V → List V → Hp → VK → Prop) : Prop :=
  ∀ (pins : List (Addr × Obj)) (s : Shared) (σ : St) (H : Hp) (x : V) (xs : List V) (v : Value) (us : List Value) (Q : VK), Inv X pins σ H s → RelV x v → Vals xs us → r x xs H Q →
    wpAny (model X.prog X.w) X.A (call (.builtin id) (v :: us)) (EP X pins σ Q) X.xe s
section
variable {X : Cx} {a b : Expr} {ta tb : TE} {pos : Pos}
theorem IxR.or {r r' : R2} (h : IxR X r) (h' : IxR X r') : IxR X (fun x y H Q => r x y H Q ∨ r' x y H Q) := by
  intro value slice pins s σ H x y v u Q I rx ry q hs
  rcases q with q | q
  · exact h value slice pins s σ H x y v u Q I rx ry q hs
  · exact h' value slice pins s σ H x y v u Q I rx ry q hs
theorem MtR.or {id : String} {r r' : V → List V → Hp → VK → Prop} (h : MtR X id r) (h' : MtR X id r') : MtR X id (fun x xs H Q => r x xs H Q ∨ r' x xs H Q) := by
  intro pins s σ H x xs v us Q I rx rs q
  rcases q with q | q
  · exact h pins s σ H x xs v us Q I rx rs q
  · exact h' pins s σ H x xs v us Q I rx rs q
/-- a[b] -/
theorem pe_ix {r : R2} (hr : IxR X r) (ha : PE X a ta) (hb : PE X b tb) (hs : PlainIx b) : PE X (.Subscript a b pos) (tOp r ta tb) := by
  intro pins s σ H Q I h
  exact Subscript_ (binT ha hb I h fun v u s2 x y H2 I2 rx ry q => hr a b pins s2 σ H2 x y v u Q I2 rx ry q (hs _ _))

def rIxL (K : PySem.W.Frag) : R2 := fun x y H Q => ∃ p xs i v, x = .ref p ∧ y = .int i ∧ SqL K H p xs ∧ atI xs i = some v ∧ Q v H
def rIxT (K : PySem.W.Frag) : R2 := fun x y H Q => ∃ p xs i v, x = .ref p ∧ y = .int i ∧ SqT K H p xs ∧ atI xs i = some v ∧ Q v H
def rIxS : R2 := fun x y H Q => ∃ z i c, x = .str z ∧ y = .int i ∧ z.length ≤ sizeLine ∧ atI z.cps.toList i = some c ∧ Q (.str ⟨#[c]⟩) H
theorem ix_list : IxR X (rIxL X.K) := by
  intro value slice pins s σ H x y v u Q I rx ry h hs
  obtain ⟨p, xs, i, z, rfl, rfl, hq, he, q⟩ := h
  cases rx
  obtain ⟨t, rfl⟩ := ry
  obtain ⟨its, r, pl, hz⟩ := I.list hq
  obtain ⟨j, h1, h2, h3, h4, h5⟩ := atI_get he
  obtain ⟨w, ew, rw'⟩ := r.get h2
  have hl := r.length
  have hn := line63
  have fin : EP X pins σ Q w s := ⟨z, H, I, rw', q⟩
  by_cases h0 : 0 ≤ i
  · have hj : i.toNat = j := by
      rw [seqIndex_of h0 h5] at h1
      exact Option.some.inj h1
    exact item_listR pl.isList h0 (by omega) (by rw [hj]; simpa using ew) fin hs
  · have hj : (i + (its.toArray.size : Int)).toNat = j := by
      rw [seqIndex_neg (by omega) h4] at h1
      rw [List.size_toArray, ← hl]
      exact Option.some.inj h1
    exact subscriptTail_builtinR (x := w) pl.isList.typeIs slot_list_getitem.lookup
      (wpAny_getItem_list_neg (Q := fun r s' => r = w ∧ EP X pins σ Q r s') pl.isList (by omega) (by rw [List.size_toArray] <;> omega) (by omega) (by rw [hj]; simpa using ew) ⟨rfl, fin⟩) hs
theorem ix_tup : IxR X (rIxT X.K) := by
  intro value slice pins s σ H x y v u Q I rx ry h hs
  obtain ⟨p, xs, i, z, rfl, rfl, hq, he, q⟩ := h
  cases rx
  obtain ⟨t, rfl⟩ := ry
  obtain ⟨its, r, pl, hz⟩ := I.tuple hq
  obtain ⟨j, h1, h2, h3, h4, h5⟩ := atI_get he
  obtain ⟨w, ew, rw'⟩ := r.get h2
  have hl := r.length
  have hn := line63
  have fin : EP X pins σ Q w s := ⟨z, H, I, rw', q⟩
  exact subscriptTail_builtinR (x := w) pl.typeIs slot_tuple_getitem.lookup
    (getItem_tuple (j := j) (Q := fun r s' => r = w ∧ EP X pins σ Q r s') pl (by omega) (by omega) (by rw [List.size_toArray, ← hl]; exact h1) (by simpa using ew) ⟨rfl, fin⟩) hs
theorem ix_str : IxR X rIxS := by
  intro value slice pins s σ H x y v u Q I rx ry h hs
  obtain ⟨z, i, c, rfl, rfl, hz, he, q⟩ := h
  obtain ⟨t, rfl⟩ := rx
  obtain ⟨t', rfl⟩ := ry
  obtain ⟨j, h1, h2, h3, h4, h5⟩ := atI_get he
  have hl : z.cps.toList.length = z.length := by simp [Str.length]
  rw [hl] at h1 h4 h5
  have hn := line63
  exact tail_any (typeIs_str s z t) slot_str_getitem.lookup (getItem_str (c := c) (by
    have e1 : decide (i < -(2 ^ 63 : Int)) = false := decide_eq_false (by omega)
    have e2 : decide (i ≥ 2 ^ 63) = false := decide_eq_false (by omega)
    rw [e1, e2, Bool.or_false]) (by rw [h1]; simpa using h2) ⟨.str ⟨#[c]⟩, H, I.tok _, ⟨_, rfl⟩, q⟩) hs
/-! ### xs[i] = v, any sign -/
theorem Inv.lst {pins : List (Addr × Obj)} {σ : St} {H : Hp} {s : Shared} {p : Addr} {xs : List V} (I : Inv X pins σ H s) (h : H p = some (.lst xs)) :
    ∃ (its : List Value) (n : Nat), Vals xs its ∧ s.heap.get? p = some { cls := .type "list", data := .seq its.toArray n } ∧ xs.length ≤ sizeLine := by
  obtain ⟨z, its, n, r, e⟩ := I.hok p _ h
  exact ⟨its, n, r, e, z⟩
/-! ### slices -/
/-! ### in, not in: flat items -/
def flatV : V → Bool
  | .non => true
  | .bl _ => true
  | .int _ => true
  | .str _ => true
  | _ => false
/-- == of flat values -/
def eqV : V → V → Bool
  | .non, .non => true
  | .bl a, .bl b => a == b
  | .bl a, .int b => (if a then 1 else 0) == b
  | .int a, .bl b => a == (if b then 1 else 0)
  | .int a, .int b => a == b
  | .str a, .str b => a == b
  | _, _ => false
theorem eqAt_V {A : Around} {s : Shared} {y x : V} {u v : Value} (ry : RelV y u) (rx : RelV x v) (fy : flatV y = true) (fx : flatV x = true) : SeqAt.EqAt A s u v (eqV y x) := by
  cases y with
  | non =>
    cases ry
    cases x with
    | non => cases rx; exact SeqAt.EqAt.same _
    | bl b => cases rx; exact SeqAt.EqAt.none_bool b
    | int b => obtain ⟨t, rfl⟩ := rx; exact SeqAt.EqAt.none_int b t
    | str b => obtain ⟨t, rfl⟩ := rx; exact SeqAt.EqAt.none_str b t
    | _ => exact absurd (show false = true from fx) Bool.false_ne_true
  | bl a =>
    cases ry
    cases x with
    | non => cases rx; exact SeqAt.EqAt.bool_none a
    | bl b => cases rx; exact SeqAt.EqAt.bool_bool a b
    | int b => obtain ⟨t, rfl⟩ := rx; exact SeqAt.EqAt.bool_int a b t
    | str b => obtain ⟨t, rfl⟩ := rx; exact SeqAt.EqAt.bool_str a b t
    | _ => exact absurd (show false = true from fx) Bool.false_ne_true
  | int a =>
    obtain ⟨t', rfl⟩ := ry
    cases x with
    | non => cases rx; exact SeqAt.EqAt.int_none a t'
    | bl b => cases rx; exact SeqAt.EqAt.int_bool a t' b
    | int b => obtain ⟨t, rfl⟩ := rx; exact SeqAt.EqAt.int_int a t' b t
    | str b => obtain ⟨t, rfl⟩ := rx; exact SeqAt.EqAt.int_str a t' b t
    | _ => exact absurd (show false = true from fx) Bool.false_ne_true
  | str a =>
    obtain ⟨t', rfl⟩ := ry
    cases x with
    | non => cases rx; exact SeqAt.EqAt.str_none a t'
    | bl b => cases rx; exact SeqAt.EqAt.str_bool a t' b
    | int b => obtain ⟨t, rfl⟩ := rx; exact SeqAt.EqAt.str_int a t' b t
    | str b => obtain ⟨t, rfl⟩ := rx; exact SeqAt.EqAt.str_str a t' b t
    | _ => exact absurd (show false = true from fx) Bool.false_ne_true
  | _ => exact absurd (show false = true from fy) Bool.false_ne_true
/-- the items' answers, read off the values (a value's own answer does not lean on its token) -/
def eqU (x : V) (u : Value) : Bool := match u with
  | .none => eqV .non x
  | .bool b => eqV (.bl b) x
  | .int i _ => eqV (.int i) x
  | .str z _ => eqV (.str z) x
  | _ => false
theorem eqU_of {x y : V} {u : Value} (r : RelV y u) (f : flatV y = true) : eqU x u = eqV y x := by
  cases y with
  | non => cases r; rfl
  | bl b => cases r; rfl
  | int i => obtain ⟨t, rfl⟩ := r; rfl
  | str z => obtain ⟨t, rfl⟩ := r; rfl
  | _ => exact absurd (show false = true from f) Bool.false_ne_true
theorem any_eqU {x : V} : ∀ {xs : List V} {us : List Value}, Vals xs us → xs.all flatV = true → us.any (eqU x) = xs.any fun y => eqV y x
  | _, _, .nil, _ => rfl
  | y :: xs, u :: us, .cons r t, f => by
    rw [List.all_cons, Bool.and_eq_true] at f
    rw [List.any_cons, List.any_cons, eqU_of r f.1, any_eqU t f.2]
theorem mem_eqAt {A : Around} {s : Shared} {x : V} {v : Value} (rx : RelV x v) (fx : flatV x = true) : ∀ {xs : List V} {us : List Value}, Vals xs us → xs.all flatV = true → ∀ u ∈ us, SeqAt.EqAt A s u v (eqU x u)
  | _, _, .nil, _ => fun u hu => by cases hu
  | y :: xs, u :: us, .cons r t, f => fun u' hu => by
    rw [List.all_cons, Bool.and_eq_true] at f
    rcases List.mem_cons.mp hu with rfl | hu
    · rw [eqU_of r f.1]; exact eqAt_V r rx f.1 fx
    · exact mem_eqAt rx fx t f.2 u' hu
def inV (x : V) (xs : List V) : Bool := xs.any fun y => eqV y x
/-- x in a list or tuple of flat items -/
def rIn (K : PySem.W.Frag) (neg : Bool) : R2 := fun x y H Q => ∃ p xs, y = .ref p ∧ (SqL K H p xs ∨ SqT K H p xs) ∧ flatV x = true ∧ xs.all flatV = true ∧ Q (.bl (if neg then !inV x xs else inV x xs)) H
theorem op_in_seq : OpR X (compareOp .In) (rIn X.K false) := by
  intro pins s σ H x y v u Q I rx ry h
  obtain ⟨p, xs, rfl, hq, fx, fs, q⟩ := h
  cases ry
  rcases hq with hq | hq
  · obtain ⟨its, r, pl, hz⟩ := I.list hq
    refine SeqAt.in_listAt (eqU x) pl.isList (fun w hw => mem_eqAt rx fx r fs w (by simpa using hw)) ⟨.bl _, H, I, rfl, ?_⟩
    rw [show its.toArray.any (eqU x) = its.any (eqU x) by simp, any_eqU r fs]
    exact q
  · obtain ⟨its, r, pl, hz⟩ := I.tuple hq
    refine SeqAt.in_tupleAt (eqU x) pl (fun w hw => mem_eqAt rx fx r fs w (by simpa using hw)) ⟨.bl _, H, I, rfl, ?_⟩
    rw [show its.toArray.any (eqU x) = its.any (eqU x) by simp, any_eqU r fs]
    exact q
/-! ### len, list(x), tuple(x) of any list or tuple that is read -/
theorem call_len_seq : CallR X (.builtin "len") (fun xs H Q => ∃ p ys, xs = [.ref p] ∧ (SqL X.K H p ys ∨ SqT X.K H p ys) ∧ Q (.int ys.length) H) := by
  intro pins s σ H xs us Q I r h
  obtain ⟨p, ys, rfl, hq, q⟩ := h
  obtain ⟨u, rfl, rx⟩ := vals1 r
  cases rx
  have hn := line63
  rcases hq with hq | hq
  · obtain ⟨its, r', pl, hz⟩ := I.list hq
    have hlen := r'.length
    exact Calls.call_len_list pl.isList (by simp only [List.size_toArray] <;> omega) ⟨.int ys.length, H, I.tok _, ⟨s.toks + 1, by rw [List.size_toArray, hlen]⟩, q⟩
  · obtain ⟨its, r', pl, hz⟩ := I.tuple hq
    have hlen := r'.length
    exact len_tuple pl (by simp only [List.size_toArray] <;> omega) ⟨.int ys.length, H, I.tok _, ⟨s.toks + 1, by rw [List.size_toArray, hlen]⟩, q⟩
theorem CallR.or {f : Value} {r r' : List V → Hp → VK → Prop} (h : CallR X f r) (h' : CallR X f r') : CallR X f (fun xs H Q => r xs H Q ∨ r' xs H Q) := by
  intro pins s σ H xs us Q I rs q
  rcases q with q | q
  · exact h pins s σ H xs us Q I rs q
  · exact h' pins s σ H xs us Q I rs q
theorem call_list_of : CallR X (.type "list") (fun xs H Q => ∃ p ys, xs = [.ref p] ∧ (SqL X.K H p ys ∨ SqT X.K H p ys) ∧ ∀ l, H l = none → Q (.ref l) (upd H l (.lst ys))) := by
  intro pins s σ H xs us Q I r h
  obtain ⟨p, ys, rfl, hq, q⟩ := h
  obtain ⟨u, rfl, rx⟩ := vals1 r
  cases rx
  have fin : ∀ (its : List Value), Vals ys its → ys.length ≤ sizeLine → ∀ (h' : Heap) (c' : Nat), (∀ b o', s.heap.get? b = some o' → h'.get? b = some o') →
      h'.get? s.heap.objs.size = some { cls := .type "list", dict := none, data := .seq its.toArray c', slots := #[] } → EP X pins σ Q (.ref s.heap.objs.size) { s with heap := h' } := fun its r' hz h' c' kp e =>
    ⟨.ref s.heap.objs.size, _, I.laid (t' := s.toks) kp (Nat.le_refl _) (show ObjOk X.prog X.w _ h' _ (.lst ys) from ⟨hz, its, c', r', e⟩), rfl, q _ (I.hok.fresh (Nat.le_refl _))⟩
  rcases hq with hq | hq
  · obtain ⟨its, r', pl, hz⟩ := I.list hq
    have hlen := r'.length
    obtain ⟨o, ho, hc, n, hd⟩ := pl.isList
    exact call_list_seq p (.inl rfl) ho hc hd (fun h' c' kp e => fin its r' hz h' c' kp e) (by simp only [List.size_toArray] <;> omega)
  · obtain ⟨its, r', pl, hz⟩ := I.tuple hq
    have hlen := r'.length
    obtain ⟨o, ho, hc, n, hd⟩ := pl
    exact call_list_seq p (.inr rfl) ho hc hd (fun h' c' kp e => fin its r' hz h' c' kp e) (by simp only [List.size_toArray] <;> omega)
theorem call_tuple_of : CallR X (.type "tuple") (fun xs H Q => ∃ p ys, xs = [.ref p] ∧ ((SqL X.K H p ys ∧ ∀ l, H l = none → Q (.ref l) (upd H l (.tup ys))) ∨ (SqT X.K H p ys ∧ Q (.ref p) H))) := by
  intro pins s σ H xs us Q I r h
  obtain ⟨p, ys, rfl, h⟩ := h
  obtain ⟨u, rfl, rx⟩ := vals1 r
  cases rx
  rcases h with ⟨hq, q⟩ | ⟨hq, q⟩
  · obtain ⟨its, r', pl, hz⟩ := I.list hq
    have hlen := r'.length
    refine call_tuple_list pl.isList (fun h' kp => ?_) (by simp only [List.size_toArray] <;> omega)
    have I1 : Inv X pins σ H { s with heap := h' } := I.kept (t' := s.toks) kp
    have I2 : Inv X pins σ (upd H h'.objs.size (.tup ys)) { s with heap := h'.push { cls := .type "tuple", data := .seq its.toArray } } :=
      I1.laid (t' := s.toks) (fun b o e => Heap.get?_push_of_some _ e) (Nat.le_refl _) (show ObjOk X.prog X.w _ _ _ (.tup ys) from ⟨hz, its, r', IsTup.new _ _⟩)
    exact ⟨.ref h'.objs.size, _, I2, rfl, q _ (I1.hok.fresh (Nat.le_refl _))⟩
  · obtain ⟨its, r', pl, hz⟩ := I.tuple hq
    exact call_tuple_same pl ⟨.ref p, H, I, rfl, q⟩

/-! ### the call of a builtin's method: o.m(..) -/
variable {o e : Expr} {es : List Expr} {to : TE} {t : TA} {name : Str} {apos cpos : Pos} {T id : String} {r : V → List V → Hp → VK → Prop}
/- xs.append(e), list.index on a module's tuple .. are MtR facts of 06m -/
end
end L2

namespace L2
open PySem PySem.Spec PyProof.Rows

def MtM (X : Cx) (id : String) (r : V → List V → Hp → VK → Prop) : Prop :=
  ∀ (pins : List (Addr × Obj)) (s : Shared) (σ : St) (H : Hp) (x : V) (xs : List V) (v : Value) (us : List Value) (Q : VK), Inv X pins σ H s → RelV x v → Vals xs us → r x xs H Q →
    wpAny (model X.prog X.w) X.A (call (.builtin id) (v :: us)) (EP X pins σ Q) X.xe s

/-! ### lists of values -/
theorem Vals.one : ∀ {x : V} {us : List Value}, Vals [x] us → ∃ u, us = [u] ∧ RelV x u
  | _, _, .cons r .nil => ⟨_, rfl, r⟩
theorem Vals.two : ∀ {x y : V} {us : List Value}, Vals [x, y] us → ∃ u v, us = [u, v] ∧ RelV x u ∧ RelV y v
  | _, _, _, .cons r (.cons q .nil) => ⟨_, _, rfl, r, q⟩
theorem Vals.zero : ∀ {us : List Value}, Vals [] us → us = []
  | _, .nil => rfl
theorem Vals.reverse {xs : List V} {us : List Value} (h : Vals xs us) : Vals xs.reverse us.reverse := by
  induction h with
  | nil => exact .nil
  | cons r t ih => rw [List.reverse_cons, List.reverse_cons]; exact Vals.append ih (.cons r .nil)
theorem Vals.rep {xs : List V} {us : List Value} (h : Vals xs us) : ∀ k : Nat, Vals (List.replicate k xs).flatten (List.replicate k us).flatten
  | 0 => .nil
  | k + 1 => by
    rw [List.replicate_succ, List.replicate_succ, List.flatten_cons, List.flatten_cons]
    exact Vals.append h (Vals.rep h k)
theorem foldl_rep (its : List Value) : ∀ (k : Nat) (acc : List Value),
    List.foldl (fun x1 x2 => x1 ++ x2) acc.toArray (List.replicate k its.toArray) = (acc ++ (List.replicate k its).flatten).toArray
  | 0, acc => by simp
  | k + 1, acc => by
    have e : acc.toArray ++ its.toArray = (acc ++ its).toArray := by simp
    have e2 : (acc ++ its) ++ (List.replicate k its).flatten = acc ++ (List.replicate (k + 1) its).flatten := by
      rw [List.replicate_succ, List.flatten_cons, List.append_assoc]
    rw [← e2, ← foldl_rep its k (acc ++ its), ← e, List.replicate_succ, List.foldl_cons]

section
variable {X : Cx} {pins : List (Addr × Obj)} {σ : St} {H : Hp} {s : Shared} {l b : Addr} {xs ys zs : List V}

/-! ### the two steps: a tracked list is rewritten, a new list is laid -/
theorem Inv.lset {its its' : List Value} {n : Nat} {f : Array Value → Array Value} {t' : Nat} (I : Inv X pins σ H s) (hH : H l = some (.lst xs))
    (e : s.heap.get? l = some { cls := .type "list", data := .seq its.toArray n }) (hf : f its.toArray = its'.toArray) (hv : Vals ys its') (hz : ys.length ≤ sizeLine) :
    Inv X pins σ (upd H l (.lst ys)) { s with heap := s.heap.update l (Obj.mapSeq f), toks := t' } := by
  have q := PySem.IsL.update e f
  rw [hf] at q
  refine I.write (x := l) (e := l) (by rw [hH]; exact trivial) (.inl rfl) (fun b' u hb hu => (Heap.get?_update_other s.heap (Obj.mapSeq f) (Ne.symm hb)).trans hu) ⟨_, q⟩ ?_
  exact ⟨hz, its', _, hv, q⟩
theorem Inv.lnew {its : List Value} {t' : Nat} (I : Inv X pins σ H s) (hv : Vals ys its) (hz : ys.length ≤ sizeLine) :
    Inv X pins σ (upd H s.heap.objs.size (.lst ys)) { s with heap := s.heap.push { cls := .type "list", data := .seq its.toArray }, toks := t' } :=
  I.laid (fun _ _ q => Heap.get?_push_of_some _ q) (Nat.le_refl _) ⟨hz, its, 0, hv, Heap.get?_push_size _ rfl⟩
theorem Inv.fresh (I : Inv X pins σ H s) : H s.heap.objs.size = none := I.hok.fresh (Nat.le_refl _)
theorem Inv.lstM (I : Inv X pins σ H s) (hH : H l = some (.lst xs)) : xs.length ≤ sizeLine ∧ ∃ (its : List Value) (n : Nat), Vals xs its ∧ xs.length = its.length ∧ s.heap.get? l = some { cls := .type "list", data := .seq its.toArray n } := by
  obtain ⟨z, its, n, r, e⟩ := I.hok l _ hH
  exact ⟨z, its, n, r, r.length, e⟩

end

section
variable {X : Cx}

/-! ### methods -/
def rAppend : V → List V → Hp → VK → Prop := fun x vs H Q => ∃ l xs y, x = .ref l ∧ vs = [y] ∧ H l = some (.lst xs) ∧ xs.length < sizeLine ∧ Q .non (upd H l (.lst (xs ++ [y])))
theorem mt_append : MtM X "list.append" rAppend := by
  intro pins s σ H x vs v us Q I rx rv h
  obtain ⟨l, xs, y, rfl, rfl, hH, hz, q⟩ := h
  cases rx
  obtain ⟨u, rfl, ru⟩ := rv.one
  obtain ⟨z, its, n, r, hl, e⟩ := I.lstM hH
  refine call_meets F.slot_list_append ⟨_, e, rfl⟩ F.entry_list_append (F.args_list_append_2 _ _) (PySem.list_append l its.toArray n u (by rw [List.size_toArray]; omega)) ⟨e, ?_⟩
  refine ⟨.non, _, I.lset (its' := its ++ [u]) hH e (by simp) (r.append (.cons ru .nil)) ?_, rfl, q⟩
  rw [List.length_append, List.length_singleton]
  omega

/-! ### list + list, list += list, list * int -/
def rCat : R2 := fun x y H Q => ∃ l b xs zs, x = .ref l ∧ y = .ref b ∧ H l = some (.lst xs) ∧ H b = some (.lst zs) ∧ xs.length + zs.length ≤ sizeLine ∧ ∀ p, H p = none → Q (.ref p) (upd H p (.lst (xs ++ zs)))
theorem op_cat : OpR X (binaryOp .Add) rCat := by
  intro pins s σ H x y v u Q I rx ry h
  obtain ⟨l, b, xs, zs, rfl, rfl, hH, hB, hz, q⟩ := h
  cases rx
  cases ry
  obtain ⟨z, its, n, r, hl, e⟩ := I.lstM hH
  obtain ⟨z2, its2, n2, r2, hl2, e2⟩ := I.lstM hB
  refine PySem.P.add_list e e2 ?_ (by rw [List.size_toArray, List.size_toArray]; omega)
  have ea : its.toArray ++ its2.toArray = (its ++ its2).toArray := by simp
  rw [ea]
  exact ⟨.ref _, _, I.lnew (t' := s.toks) (r.append r2) (by rw [List.length_append]; omega), rfl, q _ I.fresh⟩
theorem len_rep {α : Type} (xs : List α) (k : Nat) : (List.replicate k xs).flatten.length = k * xs.length := by
  induction k with
  | zero => simp
  | succ k ih => rw [List.replicate_succ, List.flatten_cons, List.length_append, ih, Nat.succ_mul, Nat.add_comm]
/-! ### del xs[i] -/
end

/-! ### xs[a:b] = ys -/
section
variable {prog : Program} {w : World} {A : Around} {E : Value → Shared → Prop} {s : Shared}
set_option maxRecDepth 100000 in
end

section
variable {X : Cx}
end
end L2

namespace Att
open PySem PySem.W PySem.Calls PyProof.Rows

/-! ### the script -/
theorem ints_of_wellAll {P : Params} {h : Heap} : ∀ (ns : List Int) (vs : List Value), WellAll P h vs (ns.map WData.int) → IntsAre vs ns := by
  intro ns
  induction ns with
  | nil =>
    intro vs w
    rw [List.map_nil] at w
    cases w
    exact .nil
  | cons n ns ih =>
    intro vs w
    rw [List.map_cons] at w
    cases w with
    | cons a b =>
      cases a
      exact .cons _ _ (ih _ b)

theorem script_of {l : OpenLaw} {n : Nat} (hn : l.most = some n) {P : Params} {h : Heap} {args : List WData} {vals : List Value}
    (hpre : l.row.toRowW.claim.pre args = true) (hwl : WellAll P h vals args) :
    ∃ a vs ns, vals = [Value.ref a] ∧ args = [WData.list (ns.map WData.int)] ∧ h.get? a = some { cls := .type "list", data := .seq vs.toArray } ∧ IntsAre vs ns ∧ ns.length ≤ n := by
  have hsh : WShape.hasAll [] args [.list .int] = true := (pre_splitW hpre).1
  have hc : l.pre.holds [] { args := args } = true := (pre_splitW hpre).2
  obtain ⟨d, r, rfl, h1, h2⟩ := hasAllW_cons hsh
  obtain rfl := hasAllW_nil h2
  obtain ⟨xs, rfl, h3⟩ := hasW_list h1
  obtain ⟨ns, rfl⟩ := items_int h3
  have hlen : ns.length ≤ n := by
    unfold OpenLaw.pre at hc
    have h4 : (WTm.not (.lt (.lit (.int (n : Int))) (.len (.arg 0)))).holds [] { args := [.list (ns.map .int)] } = true := by
      have h4 := (holds_andW hc).1
      rw [hn] at h4
      exact h4
    have h5 := condW_of h4 (w_not (w_lt w_lit (w_len_list (w_arg rfl))))
    rw [List.length_map] at h5
    refine Nat.le_of_not_lt fun q => ?_
    have q' : (n : Int) < ((ns.length : Nat) : Int) := by omega
    first
      | (rw [decide_eq_true q'] at h5; exact absurd h5 (by decide))
      | (simp at h5; omega)
  cases hwl with
  | cons w1 w2 =>
    cases w2
    cases w1 with
    | list ho hall => exact ⟨_, _, ns, rfl, rfl, ho, ints_of_wellAll ns _ hall, hlen⟩

theorem post_true (l : OpenLaw) (args : List WData) : l.row.toRowW.claim.post args (.bool true) args = true :=
  postW_of (r := l.row.toRowW) (X := (true == true))
    (show WShape.has [] (.bool true) .bool = true by first | rfl | decide | simp [WShape.has, WShape.arms, WShape.armsAll])
    (show (WTm.eq .res (.lit (.bool true))).value [] { args := args, res := some (.bool true), after := args } = some (.bool (true == true)) from w_eq_bool (w_res rfl) w_lit) rfl

/-! ### the attachment: holds_open's last premise (the goal 'hc' behind k_head) from a wpAny of the law's body -/
/-- the same from a codeAny of the CALL (for a layer whose function contracts speak of calls) -/
theorem attach_call {l : OpenLaw} {n : Nat} {q : Program} {loose : List Str} {XP : (Str → Option Value) → Heap → Prop} {YP : World → Heap → Prop} {d : DefRec}
    (hn : l.most = some n) (hdf : d.params.defaults = [])
    (call : ∀ (w : World) (s₀ s₁ : Shared) (mg mb : Str → Option Value) (fa : Addr) (o : Obj) (pm cd doc : Value) (a : Addr) (vs : List Value) (ns : List Int),
      Ground q loose [] XP w s₀ mg mb s₁.heap → YP w s₁.heap →
      s₁.heap.get? fa = some o → o.data = .func (docDef d.name d.params d.body d.scope pm cd doc) → s₁.heap.CodeRec cd d.name → mg d.name = some (.ref fa) →
      s₁.heap.get? a = some { cls := .type "list", data := .seq vs.toArray } → IntsAre vs ns → ns.length ≤ n → s₁.gens = #[] →
      codeAny (model l.prog w) callerA (.call (.ref fa) ⟨[.ref a], []⟩) (fun r s' => r = .ok (.ret (.bool true)) ∧ OldK s₁.heap s'.heap ∧ s'.os = s₁.os ∧ AllBare s'.gens) s₁) :
    WalkO q loose XP YP l.row.toRowW d [] (fun f vs => PySem.call f vs) := by
  intro w s₀ s₁ mg mb G Y fa o pm cd doc dV kV ho hd hcd hD hmg hg args vals as hpre hlay hrd hwl hlo
  obtain rfl : dV = .none := Dflts.none hD hdf
  obtain rfl : kV = .none := Dflts.noKw hD
  obtain ⟨a, vs, ns, rfl, rfl, hobj, hints, hlen⟩ := script_of hn hpre hwl
  refine enter_call (codeAny_mono (call w s₀ s₁ mg mb fa o pm cd doc a vs ns G Y ho (fd_plain hd) hcd hmg hobj hints hlen hg) fun r s' hq => ?_)
  obtain ⟨rfl, h2, h3, h4⟩ := hq
  exact ⟨.inl ⟨.bool true, .bool true, [], rfl, fun _ => rfl, .bool true, post_true l _, fun _ => ⟨List.Pairwise.nil, fun _ hm => (nomatch hm)⟩⟩, h2, h3, h4⟩

/-! ### rules over ANY heap (no ledger) from facts about the written part K: the library's own take a ledger (News) for what they write -/
section
variable {prog : Program} {w : World} {A : Around} {E : Value → Shared → Prop} {s : Shared} {K : Frag}

/-! the whole heap as the ledger: makes every rule that writes through a ledger a rule over any heap -/
def ledger (h : Heap) (L d : Addr) : List (Addr × Obj) := (List.range h.objs.size).filterMap fun a => if a = L ∨ a = d then none else (h.get? a).map fun o => (a, o)
end
end Att

namespace L2
open PySem PySem.Spec PyProof.Rows

theorem vals_ints : ∀ {vs : List Value} {ns : List Int}, IntsAre vs ns → Vals (ns.map V.int) vs
  | _, _, .nil => .nil
  | _, _, .cons n t h => .cons ⟨t, rfl⟩ (vals_ints h)

/-- nothing is tracked but the script, known to the object (or it is an object of the module) -/
def Only (H : Hp) : Prop := ∀ b, H b = none ∨ ∃ o xs, H b = some (.frz o (.lst xs))

/-- THE HEAD: the law's promise, at the heap behind the top. F, the promise of the law's def, may use that base is part of the heap (so K.In base, base.Ns mainGlobals mg stand in Mod) -/
theorem law_call {P : Program} {w : World} {K : PySem.W.Frag} {mg mb : Str → Option Value} {CX : CXT} {k : Nat} {fa a : Addr} {fd : FuncData} {x : Str} {sp : Sp} {s₁ : Shared} {vs : List Value} {ns : List Int}
    (KX : K.In s₁.heap) (hns : s₁.heap.Ns mainGlobals mg) (hb : s₁.heap.Ns builtinsNs mb) (hbb : ∀ x : Str, x ≠ "__name__" → mb x = bootBuiltins x) (hlim : s₁.heap.NoLimit) (hg : s₁.gens = #[])
    (ha : s₁.heap.get? a = some { cls := .type "list", data := .seq vs.toArray }) (hi : IntsAre vs ns) (hl : ns.length ≤ sizeLine) (hr : Room k callerA)
    (F : ∀ base : Heap, K.In base → base.Ns mainGlobals mg → FnOk P w K mg base CX k fa fd [x] sp) (hbind : ∀ (s : Shared) (u : Value), BindsTo s fd ⟨[u], []⟩ [(x, u)])
    (hsp : ∀ H : Hp, Only H → SqL K H a (ns.map V.int) → sp [.ref a] H (fun v _ => v = .bl true) fun _ _ _ => False)
    (hCX : ∀ H e s', CX [] H s₁ (fun _ _ _ => False) e s' → False) :
    codeAny (model P w) callerA (.call (.ref fa) ⟨[.ref a], []⟩) (fun r s' => r = .ok (.ret (.bool true)) ∧ OldK s₁.heap s'.heap ∧ s'.os = s₁.os ∧ AllBare s'.gens) s₁ := by
  have rv := vals_ints hi
  have lenV := hi.length
  -- from an abstract heap in which nothing but the script may be tracked
  have core : ∀ H : Hp, Only H → SqL K H a (ns.map V.int) → HOk P w H s₁.heap → (∀ b, H b ≠ none → b = a) → (H a ≠ none → K.lookup a = none) →
      codeAny (model P w) callerA (.call (.ref fa) ⟨[.ref a], []⟩) (fun r s' => r = .ok (.ret (.bool true)) ∧ OldK s₁.heap s'.heap ∧ s'.os = s₁.os ∧ AllBare s'.gens) s₁ := by
    intro H hO hS hok hA hK
    have base_of : ∀ {b : Addr} {o : Obj}, s₁.heap.get? b = some o → H b = none → (hidT s₁.heap H).get? b = some o := fun e n => hidT_get e n
    have noA : ∀ {b : Addr} {o : Obj} {es : Array DictEntry} {ep : Nat}, s₁.heap.get? b = some o → o.data = .dict es ep → H b = none := fun {b o es ep} e d => by
      cases q : H b with
      | none => rfl
      | some u =>
        have e' : b = a := hA b (by rw [q]; simp)
        subst e'
        rw [ha] at e; cases e
        have d' : Data.seq vs.toArray _ = Data.dict es ep := d
        cases d'
    have nsK : ∀ {b : Addr} {m : Str → Option Value}, s₁.heap.Ns b m → (hidT s₁.heap H).Ns b m := fun {b m} ⟨o, es, ep, e, d, r⟩ => ⟨o, es, ep, base_of e (noA e d), d, r⟩
    have hKb : K.In (hidT s₁.heap H) := fun b o e => base_of (KX b o e) (by
      cases q : H b with
      | none => rfl
      | some u =>
        have e' : b = a := hA b (by rw [q]; simp)
        subst e'
        rw [hK (by rw [q]; simp)] at e; cases e)
    have hM : Mod K mg (hidT s₁.heap H) := ⟨hKb, nsK hns, ⟨mb, nsK hb, hbb⟩, let ⟨mc, h1, h2⟩ := hlim; ⟨mc, nsK h1, h2⟩⟩
    have e0 : Env0 P w K mg (hidT s₁.heap H) callerA [] s₁ H := ⟨rfl, hM, fun b o e => of_hidT e, Nat.le_of_eq (hidT_size _ _), trivial, fun b hb => absurd (show b ∈ ([] : List Addr) from hb) (by simp), hok, .of_eq hg⟩
    refine codeAny_mono ((F _ hKb (nsK hns)).run callerA [] s₁ H ⟨[.ref a], []⟩ [.ref a] [.ref a] _ _ hr e0 (hbind s₁ (.ref a)) (.cons rfl .nil) (hsp H hO hS)) fun r s' h => ?_
    cases r with
    | error e => exact (hCX H e s' h).elim
    | ok fl =>
      cases fl with
      | next => exact False.elim h
      | brk => exact False.elim h
      | cont => exact False.elim h
      | ret u =>
        obtain ⟨v, H', os, bare, un, hok', r', q⟩ := h
        have q' : v = .bl true := q
        subst q'
        obtain rfl : u = Value.bool true := r'
        refine ⟨rfl, OldK.of_keep fun b o e => ?_, os, bare⟩
        cases q : H b with
        | none => exact un.keep b o e q (by intro z; exact absurd (show b ∈ ([] : List Addr) from z) (by simp)) (by simp)
        | some u =>
          rcases hO b with z | ⟨ob, xs, z⟩
          · rw [q] at z; cases z
          · have z2 := un.frzs b ob _ z
            obtain ⟨e1, _⟩ := hok b _ z
            obtain ⟨e2, _⟩ := hok' b _ z2
            rw [e] at e1; cases e1
            exact e2
  cases hk : K.lookup a with
  | some o =>
    -- the script is one of the module's own objects
    have e := KX a o hk
    rw [ha] at e
    cases e
    refine core (fun _ => none) (fun _ => .inl rfl) (.inr ⟨_, vs.toArray, _, hk, rfl, rfl, rfl, by rw [List.size_toArray, lenV]; exact hl, by simpa using rv⟩) (fun b u z => by have z' : (none : Option HO) = some u := z; cases z') (fun b z => absurd rfl z) fun z => absurd rfl z
  | none =>
    refine core (fun b => if b = a then some (.frz { cls := .type "list", data := .seq vs.toArray } (.lst (ns.map V.int))) else none) (fun b => ?_) (.inl (.inr ⟨{ cls := .type "list", data := .seq vs.toArray }, if_pos rfl⟩)) (fun b u z => ?_) (fun b z => ?_) fun _ => hk
    · by_cases hb : b = a
      · exact .inr ⟨_, _, if_pos hb⟩
      · exact .inl (if_neg hb)
    · by_cases hb : b = a
      · have z' := (if_pos hb).symm.trans z
        cases z'
        subst hb
        exact ⟨ha, by rw [List.length_map]; exact hl, vs, _, rv, ha⟩
      · have z' := (if_neg hb).symm.trans z
        cases z'
    · by_cases hb : b = a
      · exact hb
      · exact absurd (if_neg hb) z
end L2

namespace L2
open PySem PySem.Spec PyProof.Rows

abbrev KOf {K : PySem.W.Frag} {h : Heap} (_ : K.In h) : PySem.W.Frag := K

/-- the goal that k_head leaves (case hc), from the law's promise. F gives the function object fd (K's own) once, then the promise over every base -/
theorem walk_of {l : PySem.W.OpenLaw} {n k : Nat} {q : Program} {loose : List Str} {XP : (Str → Option Value) → Heap → Prop} {YP : World → Heap → Prop} {d : DefRec} {K : Params → PySem.W.Frag} {CX : World → CXT} {sp : World → Sp} {x : Str}
    (hn : l.most = some n) (hn2 : n ≤ sizeLine) (hdf : d.params.defaults = []) (hr : Room k callerA)
    (hY : ∀ (w : World) (h : Heap), YP w h → (K w.params).In h)
    (F : ∀ (w : World) (mg : Str → Option Value) (fa : Addr) (h : Heap), (K w.params).In h → h.Ns mainGlobals mg → mg d.name = some (.ref fa) →
      ∃ fd : FuncData, (∀ (s : Shared) (u : Value), BindsTo s fd ⟨[u], []⟩ [(x, u)]) ∧
        ∀ base : Heap, (K w.params).In base → base.Ns mainGlobals mg → FnOk l.prog w (K w.params) mg base (CX w) k fa fd [x] (sp w))
    (hsp : ∀ (w : World) (H : Hp) (a : Addr) (ns : List Int), ns.length ≤ n → Only H → SqL (K w.params) H a (ns.map V.int) → sp w [.ref a] H (fun v _ => v = .bl true) fun _ _ _ => False)
    (hCX : ∀ (w : World) (H : Hp) (s : Shared) (e : Value) (s' : Shared), CX w [] H s (fun _ _ _ => False) e s' → False) :
    PySem.W.WalkO q loose XP YP l.row.toRowW d [] (fun f vs => PySem.call f vs) := by
  refine Att.attach_call hn hdf fun w s₀ s₁ mg mb fa o pm cd doc a vs ns G Y ho hd hcd hmg hobj hints hlen hg => ?_
  have KX := hY w _ Y
  obtain ⟨fd, hb, hF⟩ := F w mg fa _ KX G.T.g hmg
  exact law_call KX G.T.g G.T.b G.T.builtins G.T.nolimit hg hobj hints (Nat.le_trans hlen hn2) hr hF hb (fun H hO hS => hsp w H a ns hlen hO hS) fun H e s' => hCX w H s₁ e s'
end L2

/- THE LAST THEOREM (shape; LID, My.* are yours):
   My.Adr: a structure of the addresses that your layer names (classes, functions); My.Txt K t: a structure (Prop) of the equations over K;
   My.txt_mk : {K} {implicit addresses ..} (e1 : nsIn K mainGlobals "law" = some (some (.ref f))) (e2 : K.lookup f = some ⟨oc, od, .func (fnOf "law" "law" params body scope dV kV doc pm an cdv ct), sl⟩) (e3 : codeIn K cdv "law" = true) .. : ∃ t, My.Txt K t

set_option maxRecDepth 100000 in
set_option maxHeartbeats 0 in
theorem PySem.Challenge.cw_LID_holds : PySem.Challenge.rw_LID.Holds := by
  w_on; o_law; k_head; (case hw => w_witness2)
  k_fill
  refine L2.walk_of (l := PySem.Challenge.rw_LID) (n := 63) (k := 40) (x := "script") (CX := fun w => ..) (sp := fun _ => My.sp_law) rfl (by decide) rfl ⟨rfl, by decide, by decide⟩ (fun w h Y => PySem.W.kIn_of Y) ?F ?S ?C
  case F =>
    intro w mg fa h KX G hmg
    have T : ∃ t, My.Txt (L2.KOf KX) t := by
      dsimp only [L2.KOf]                          -- K must stand as «<heap const> w.params» for k_is
      refine' My.txt_mk ?e1 ?e2 ?e3 ..
      (case e1 => PySem.W.k_is)                    -- in the order: a name -> its address -> its object -> its parts
      (case e2 => PySem.W.k_is)
      ..
    obtain ⟨t, T⟩ := T
    have e0 := hmg.symm.trans (PySem.W.mg_of KX G T.law)
    cases e0                                       -- fa is the law's own address
    exact ⟨_, fun s u => .of_eq rfl, fun base kb nb => My.law_fn T kb nb⟩     -- if «.of_eq rfl» comes too early: refine' ⟨_, ?b, fun base kb nb => My.law_fn T kb nb⟩; exact fun s u => .of_eq rfl
  case S => exact fun w H a ns hl hO hS => ..
  case C => exact ..
(the tactic k_is has no namespace: write k_is) -/

/-! SHORT WORDS over the layer: a def of the text, its body, what a loop and a test want. -/
namespace L2
open PySem PySem.Spec PyProof.Rows

/-! ### the text by places -/
/-- the j-th statement of a class's body -/
def inClass (s : Stmt) (j : Nat) : Stmt := match s with
  | .ClassDef _ _ _ body _ _ _ _ _ _ _ => body.getD j (.Pass ⟨0, 0, 0, 0⟩)
  | _ => .Pass ⟨0, 0, 0, 0⟩
def defArgs (s : Stmt) : Arguments := match s with
  | .FunctionDef _ a _ _ _ _ _ _ _ _ => a
  | _ => { posonlyargs := [], args := [], vararg := none, kwonlyargs := [], kw_defaults := [], kwarg := none, defaults := [] }
def defBody (s : Stmt) : List Stmt := match s with
  | .FunctionDef _ _ b _ _ _ _ _ _ _ => b
  | _ => []
def defScope (s : Stmt) : Scope := match s with
  | .FunctionDef _ _ _ _ _ _ sc _ _ _ => sc
  | _ => { kind := .function, names := [], isGenerator := false, isCoroutine := false }

/-! ### no exception leaves a def -/
abbrev CX0 : CXT := fun _ _ _ _ _ _ => False
abbrev E0 : XK := fun _ _ _ => False
theorem pass0 {X : Cx} : Passes CX0 X E0 := fun _ _ _ _ _ _ _ h => h.elim

/-! ### a def (or method) of the text as it stands behind the top -/
structure Fun (K : PySem.W.Frag) (x qual : Str) (st : Stmt) (f : Addr) (fd : FuncData) : Prop where
  ex : ∃ (oc : Value) (od : Option Addr) (kV doc pm : Value) (an : Option Addr) (cdv ct : Value) (osl : Array (Option Value)),
    fd = PySem.W.fnOf x qual (defArgs st) (defBody st) (defScope st) .none kV doc pm an cdv ct ∧ K.lookup f = some ⟨oc, od, .func fd, osl⟩ ∧ PySem.W.codeIn K cdv qual = true
  kp : PySem.W.keepIn K (.ref f) = true
section
variable {P : Program} {w : World} {K : PySem.W.Frag} {mg : Str → Option Value} {base : Heap}
/-- THE RULE for a def: its body as a term of rules, and the reading of that term -/
theorem Fun.ok {x qual : Str} {st : Stmt} {f : Addr} {fd : FuncData} {N ps : List Str} {k : Nat} {sp : Sp} (F : Fun K x qual st f fd) (S : FnScope N ps (defScope st)) (len : ∀ vs H Q E, sp vs H Q E → vs.length = ps.length)
    (hbody : ∀ (cdv : Value) (A : Around) (outer : List Env) (s : Shared) (H : Hp) (vs : List V) (Q : VK) (E : XK), Room k (A.deeper (envOfC qual (defScope st) s.heap.objs.size f cdv)) → sp vs H Q E →
      ∃ t, PSs (cxOf CX0 P w K mg base N qual (defScope st) f cdv A outer s H E).nox (defBody st) t ∧ t { nx := fun _ H' => Q .non H', rt := Q } (start N vs) H) : FnOk P w K mg base CX0 (k + 1) f fd ps sp := by
  obtain ⟨oc, od, kV, doc, pm, an, cdv, ct, osl, rfl, lk, hcd⟩ := F.ex
  refine fn_of lk hcd S len fun A outer s H vs Q E hr hsp => ?_
  obtain ⟨t, h, q⟩ := hbody cdv A outer s H vs Q E hr hsp
  exact ⟨t, h.nox, q⟩
/-- how its arguments bind (no defaults): h is «fun _ _ _ _ _ _ us hl => match us, hl with | [_, _], _ => rfl», one _ a parameter -/
theorem Fun.binds {x qual : Str} {st : Stmt} {f : Addr} {fd : FuncData} {ps : List Str} (F : Fun K x qual st f fd)
    (h : ∀ (kV doc pm : Value) (an : Option Addr) (cdv ct : Value) (us : List Value), us.length = ps.length → bindArgs (PySem.W.fnOf x qual (defArgs st) (defBody st) (defScope st) .none kV doc pm an cdv ct) ⟨us, []⟩ = pure (ps.zip us)) : Binds K fd ps [] := by
  obtain ⟨oc, od, kV, doc, pm, an, cdv, ct, osl, rfl, lk, hcd⟩ := F.ex
  exact .all (h kV doc pm an cdv ct)
theorem fun_mk {x qual : Str} {st : Stmt} {f : Addr} {oc : Value} {od an : Option Addr} {osl : Array (Option Value)} {kV doc pm cdv ct : Value} (l : K.lookup f = some ⟨oc, od, .func (PySem.W.fnOf x qual (defArgs st) (defBody st) (defScope st) .none kV doc pm an cdv ct), osl⟩)
    (c : PySem.W.codeIn K cdv qual = true) (k : PySem.W.keepIn K (.ref f) = true) : Fun K x qual st f (PySem.W.fnOf x qual (defArgs st) (defBody st) (defScope st) .none kV doc pm an cdv ct) := ⟨⟨oc, od, kV, doc, pm, an, cdv, ct, osl, rfl, l, c⟩, k⟩
end
/-! ### expressions in short: the name that stands in the i-th slot -/
section
variable {X : Cx}
theorem pv (i : Nat) {x : Str} {pos : Pos} (hN : X.N[i]? = some x := by rfl) (hv : Vis X.env.scope x := by first | exact Or.inl rfl | exact Or.inr (Or.inl rfl) | exact Or.inr (Or.inr rfl)) (hd : (x == ("__debug__" : Str)) = false := by decide)
    (hcd : (x == ("__classdict__" : Str)) = false := by decide) : PE X (.Name x pos) (tVar i) := pe_var hN hv hd hcd
end

/-! ### tests -/
theorem iteF {A B : Prop} (h : B) : if false = true then A else B := by
  rw [if_neg Bool.false_ne_true]
  exact h
theorem iteT {A B : Prop} (h : A) : if true = true then A else B := by
  rw [if_pos rfl]
  exact h
theorem ite2 {c A B : Prop} [Decidable c] (h1 : c → A) (h2 : ¬ c → B) : if c then A else B := by
  by_cases h : c
  · rw [if_pos h]
    exact h1 h
  · rw [if_neg h]
    exact h2 h
/-! ### heaps -/
/-- all that was tracked is as it was -/
def Same (H H' : Hp) : Prop := ∀ b o, H b = some o → H' b = some o
theorem Same.refl (H : Hp) : Same H H := fun _ _ h => h
theorem Same.trans {H H1 H2 : Hp} (a : Same H H1) (b : Same H1 H2) : Same H H2 := fun c o h => b c o (a c o h)
theorem Same.free {H H' : Hp} (e : Same H H') {l : Addr} (h : H' l = Option.none) : H l = Option.none := by
  cases q : H l with
  | none => rfl
  | some o =>
    rw [e l o q] at h
    cases h
theorem Same.seq {K : PySem.W.Frag} {H H' : Hp} {a : Addr} {xs : List V} (e : Same H H') (h : SqL K H a xs) : SqL K H' a xs := by
  rcases h with (h | ⟨o, h⟩) | h
  · exact .inl (.inl (e _ _ h))
  · exact .inl (.inr ⟨o, e _ _ h⟩)
  · exact .inr h

end L2
set_option Elab.async false
set_option linter.all false
set_option maxRecDepth 100000
set_option maxHeartbeats 4000000
namespace L2
open PySem PySem.Spec PyProof.Rows

/-! ### the cells that a comprehension's block takes over -/
def clo (cells : List (Str × Addr)) : List (Str × NameKind) → List (Str × Addr) → List (Str × Addr)
  | [], cs => cs
  | p :: r, cs => clo cells r (if (p.2 == NameKind.free) = true then (match cells.lookup p.1 with | some a => (p.1, a) :: cs | none => cs) else cs)

theorem clo_run {env : Env} {f : Str × NameKind → List (Str × Addr) → Sem (ForInStep (List (Str × Addr)))}
    (hf : ∀ p cs, f p cs = if (p.2 == NameKind.free) = true then (cellOf env p.1 >>= fun a => pure (ForInStep.yield ((p.1, a) :: cs))) else pure (ForInStep.yield cs)) :
    ∀ (names : List (Str × NameKind)) (cs : List (Str × Addr)), (∀ p ∈ names, p.2 = .free → ∃ a, env.cells.lookup p.1 = some a) →
      (forIn names cs f : Sem (List (Str × Addr))) = pure (clo env.cells names cs) := by
  intro names
  induction names with
  | nil => intro cs _; rfl
  | cons p r ih =>
    intro cs h
    have hr := fun cs => ih cs fun q hq => h q (List.mem_cons_of_mem _ hq)
    rw [List.forIn_cons, hf]
    by_cases hk : p.2 = .free
    · obtain ⟨a, ha⟩ := h p List.mem_cons_self hk
      have hb : (p.2 == NameKind.free) = true := by rw [hk]; rfl
      rw [if_pos hb]
      have hc : cellOf env p.1 = pure a := by unfold cellOf; rw [ha]
      rw [hc]
      show (forIn r ((p.1, a) :: cs) f : Sem _) = _
      rw [hr, clo, if_pos hb, ha]
    · have hb : ¬ (p.2 == NameKind.free) = true := by simpa using hk
      rw [if_neg hb]
      show (forIn r cs f : Sem _) = _
      rw [hr, clo, if_neg hb]
theorem clo_for {env : Env} {scope : Scope} (h : ∀ p ∈ scope.names, p.2 = .free → ∃ a, env.cells.lookup p.1 = some a) : closureFor scope env = pure (clo env.cells scope.names []) := by
  simp only [closureFor]
  rw [clo_run (env := env) (fun p cs => by obtain ⟨n, k⟩ := p; cases hk : (k == NameKind.free) <;> simp [hk] <;> rfl) scope.names [] h]
  rfl
theorem clo_old {cells : List (Str × Addr)} {x : Str} {c : Addr} : ∀ (names : List (Str × NameKind)) (cs : List (Str × Addr)), (clo cells names cs).lookup x = some c → cells.lookup x = some c ∨ cs.lookup x = some c := by
  intro names
  induction names with
  | nil => intro cs h; exact .inr h
  | cons p r ih =>
    intro cs h
    rw [clo] at h
    rcases ih _ h with e | e
    · exact .inl e
    · split at e
      · cases ha : cells.lookup p.1 with
        | none => rw [ha] at e; exact .inr e
        | some a =>
          rw [ha] at e
          rw [List.lookup_cons] at e
          cases hx : x == p.1 with
          | true =>
            rw [hx] at e
            have : x = p.1 := by simpa using hx
            subst this
            left
            rw [ha]; exact e
          | false => rw [hx] at e; exact .inr e
      · exact .inr e
theorem clo_new {cells : List (Str × Addr)} {x : Str} {a : Addr} (ha : cells.lookup x = some a) : ∀ (names : List (Str × NameKind)) (cs : List (Str × Addr)),
    ((x, NameKind.free) ∈ names ∨ cs.lookup x = some a) → (clo cells names cs).lookup x = some a := by
  intro names
  induction names with
  | nil => intro cs h; rcases h with h | h
           · cases h
           · exact h
  | cons p r ih =>
    intro cs h
    rw [clo]
    by_cases hr : (x, NameKind.free) ∈ r
    · exact ih _ (.inl hr)
    · refine ih _ (.inr ?_)
      by_cases hb : (p.2 == NameKind.free) = true
      · rw [if_pos hb]
        by_cases hx : x = p.1
        · subst hx
          rw [ha]
          simp [List.lookup_cons]
        · have h2 : cs.lookup x = some a := by
            rcases h with h | h
            · rcases List.mem_cons.mp h with e | e
              · exact absurd (congrArg Prod.fst e) hx
              · exact absurd e hr
            · exact h
          cases hc : cells.lookup p.1 with
          | none => exact h2
          | some b =>
            have hx' : (x == p.1) = false := by simpa using hx
            simp [List.lookup_cons, hx', h2]
      · rw [if_neg hb]
        rcases h with h | h
        · rcases List.mem_cons.mp h with e | e
          · exact absurd (by rw [← e]; rfl) hb
          · exact absurd e hr
        · exact h

theorem mem_lookup {α β : Type} [BEq α] [LawfulBEq α] {x : α} {y : β} : ∀ {l : List (α × β)}, l.lookup x = some y → (x, y) ∈ l
  | [], h => by cases h
  | p :: r, h => by
    rw [List.lookup_cons] at h
    cases hx : x == p.1 with
    | true =>
      rw [hx] at h
      have e : x = p.1 := by simpa using hx
      cases h
      rw [e]
      exact List.mem_cons_self
    | false => rw [hx] at h; exact List.mem_cons_of_mem _ (mem_lookup h)

/-- how a name of the block is seen behind the relabelling -/
theorem relabG {f : Str × NameKind → Str × NameKind} (hf : ∀ p, f p = p ∨ (p.2 = .free ∧ f p = (p.1, .cell))) {x : Str} : ∀ {names : List (Str × NameKind)}, (names.map f).lookup x = names.lookup x ∨ (names.lookup x = some .free ∧ (names.map f).lookup x = some .cell)
  | [] => .inl rfl
  | p :: r => by
    have ih := @relabG f hf x r
    rw [List.map_cons]
    rcases hf p with e | ⟨e1, e2⟩
    · rw [e, List.lookup_cons, List.lookup_cons]
      cases hx : x == p.1 with
      | true => exact .inl rfl
      | false => exact ih
    · rw [e2, List.lookup_cons, List.lookup_cons]
      cases hx : x == p.1 with
      | true => exact .inr ⟨congrArg some e1, rfl⟩
      | false => exact ih
theorem relab {env : Env} {x : Str} {names : List (Str × NameKind)} :
    ((names.map fun (n, k) => if (k == NameKind.free && env.scope.kind == .function && env.kindOf n == some .cell) then (n, NameKind.cell) else (n, k)).lookup x = names.lookup x) ∨
    (names.lookup x = some .free ∧ (names.map fun (n, k) => if (k == NameKind.free && env.scope.kind == .function && env.kindOf n == some .cell) then (n, NameKind.cell) else (n, k)).lookup x = some .cell) := by
  refine relabG (fun p => ?_)
  obtain ⟨n, k⟩ := p
  by_cases hc : (k == NameKind.free && env.scope.kind == .function && env.kindOf n == some .cell) = true
  · right
    have hk : k = .free := by
      simp only [Bool.and_eq_true, beq_iff_eq] at hc
      exact hc.1.1
    exact ⟨hk, by show (if _ then _ else _) = _; rw [if_pos hc]⟩
  · left
    show (if _ then _ else _) = _
    rw [if_neg hc]

/-! ### the block's context -/
def cxB (X : Cx) (NB : List Str) (scope : Scope) (cl : List (Str × Addr)) (C : Addr) (fp : List Addr) (s : Shared) (H : Hp) : Cx where
  prog := X.prog
  w := X.w
  K := X.K
  mg := X.mg
  base := X.base
  A := X.A
  N := NB
  s₀ := s
  H₀ := H
  env := compEnvC scope cl C X.env
  outer := X.stack
  stack := X.stack
  ex := fp
  fn := fun _ => false
  calm := X.calm
  pn := []
  xe := fun _ _ => False

/-- the tests of a clause -/
def PIfs (X : Cx) (ifs : List Expr) (t : TT) : Prop :=
  ∀ (pins : List (Addr × Obj)) (s : Shared) (σ : St) (H : Hp) (Q : Bool → Hp → Prop), Inv X pins σ H s → t σ H Q →
    wpAny (model X.prog X.w) X.A (forIn ifs true fun c r => if r = true then do let ok ← isTrue c X.env (eval c X.env); pure (ForInStep.yield ok) else pure (ForInStep.yield r)) (TP X pins σ Q) X.xe s
def tYes : TT := fun _ H Q => Q true H
theorem pifs_nil {X : Cx} : PIfs X [] tYes := fun _ _ _ H _ I h => wpAny_tests_nil ⟨H, I, h⟩
theorem pifs_one {X : Cx} {c : Expr} {t : TT} (h : PT X c t) : PIfs X [c] t := fun pins s σ H Q I q => wpAny_tests_one (h pins s σ H Q I q)

section
variable {prog : Program} {w : World} {A : Around} {R : Result → Shared → Prop} {s : Shared}
/-- the loop of a list's comprehension by an invariant; nothing is raised in it -/
theorem comp_loop {elt target iter : Expr} {ifs : List Expr} {scope : Scope} {pos : Pos} {it acc : Value} {env : Env} (I : Nat → Shared → Prop)
    (turn : ∀ n s, I n s → wpAny (model prog w) A (pyNext it) (fun r s1 => (r = none ∧ R (.ok .next) s1) ∨ ∃ v, r = some v ∧
      wpAny (model prog w) A (letOwnedTupleGo target it v) (fun _ s2 => wpAny (model prog w) A (assign target env v) (fun _ s3 =>
        wpAny (model prog w) A (forIn ifs true fun c r => if r = true then do let ok ← isTrue c env (eval c env); pure (ForInStep.yield ok) else pure (ForInStep.yield r)) (fun ok s4 =>
          if ok = true then wpAny (model prog w) A (eval elt env) (fun x s5 => wpAny (model prog w) A (call (.builtin "list.append") [acc, x]) (fun _ s6 => ∃ m, m < n ∧ I m s6) (fun _ _ => False) s5) (fun _ _ => False) s4
          else ∃ m, m < n ∧ I m s4) (fun _ _ => False) s3) (fun _ _ => False) s2) (fun _ _ => False) s1) (fun _ _ => False) s)
    (n : Nat) (h : I n s) : codeAny (model prog w) A (.compLoop (.ListComp elt [⟨target, iter, ifs, 0⟩] scope pos) 0 it acc env) R s := by
  refine codeAny_loop rfl I (fun k s0 hk => ?_) n h
  show wpAny _ A (Sem.onRaise (compTurn (.ListComp elt [⟨target, iter, ifs, 0⟩] scope pos) 0 it acc env) (fun x => do noteFrame x env; theTreesLotGoes x)) _ _ s0
  refine wpAny_noted ?_
  rw [compTurn_list]
  refine wpAny_bind (wpAny_standAt (wpAny_bind (wpAny_mono (turn k s0 hk) (fun r s1 h1 => ?_) fun _ _ z => z.elim)))
  rcases h1 with ⟨rfl, h1⟩ | ⟨v, rfl, h1⟩
  · exact wpAny_pure h1
  · refine wpAny_bind (wpAny_mono h1 (fun _ s2 h2 => wpAny_bind (wpAny_mono h2 (fun _ s3 h3 => wpAny_bind (wpAny_mono h3 (fun ok s4 h4 => ?_) fun _ _ z => z.elim)) fun _ _ z => z.elim)) fun _ _ z => z.elim)
    cases ok with
    | false => exact wpAny_pure ⟨rfl, h4⟩
    | true => exact wpAny_bind (wpAny_bind (wpAny_mono h4 (fun x s5 h5 => wpAny_bind (wpAny_mono h5 (fun _ s6 h6 => wpAny_pure (wpAny_pure ⟨rfl, h6⟩)) fun _ _ z => z.elim)) fun _ _ z => z.elim))
end

/-- the tracked things stay when an untracked one is changed -/
theorem HOk.but {P : Program} {w : World} {H : Hp} {h h' : Heap} {C : Addr} (x : HOk P w H h) (hC : H C = none) (k : ∀ b o, b ≠ C → h.get? b = some o → h'.get? b = some o) : HOk P w H h' := fun b u e => by
  have nit : ∀ c v, H c = some v → c ≠ C := fun c v q z => by rw [z, hC] at q; cases q
  refine (x b u e).stay (fun c v hc q => k c v ?_ q) (fun _ q => q) fun _ _ q => q
  rcases hc with z | z
  · rw [z]; exact nit b u e
  · exact nit c _ z

/-- what a comprehension's loop wants: W the invariant, by the turn and a measure; D the list that is made -/
def CompGo (frs : St) (g : TG) (tt : TT) (te : TE) (Q : VK) (J : It) (H1 : Hp) : Prop := ∀ D, H1 D = none →
  ∃ W : Nat → Nat → List V → St → Hp → Prop, (∃ m, W 0 m [] frs (upd H1 D (.lst []))) ∧
    ∀ i m ys σ' H', W i m ys σ' H' → H' D = some (.lst ys) →
      (J.stop i H' ∧ Q (.ref D) H') ∨
      (J.go i H' ∧ ys.length < sizeLine ∧ ∀ x H2, J.yld i H' x H2 → g x σ' H2 fun σ3 H3 => tt σ3 H3 fun b H4 =>
        if b = true then te σ3 H4 fun v H5 => H5 D = some (.lst ys) ∧ ∃ m', m' < m ∧ W (i + 1) m' (ys ++ [v]) σ3 (upd H5 D (.lst (ys ++ [v])))
        else H4 D = some (.lst ys) ∧ ∃ m', m' < m ∧ W (i + 1) m' ys σ3 H4)
def tComp (n : Nat) (fr : List Nat) (wi : TI) (g : TG) (tt : TT) (te : TE) : TE := fun σ H Q => wi σ H (CompGo (List.replicate n none ++ fr.map fun k => (σ[k]?).join) g tt te Q)

section
variable {X : Cx} {elt tg iter : Expr} {ifs : List Expr} {scope : Scope} {pos : Pos} {NB : List Str} {n : Nat} {fr : List Nat} {wi : TI} {g : TG} {tt : TT} {te : TE}

structure CompOk (X : Cx) (scope : Scope) (NB : List Str) (n : Nat) (fr : List Nat) : Prop where
  kind : scope.kind = .function
  nocell : ∀ y ∈ scope.names, y.2 ≠ .cell
  names : ∀ y ∈ scope.names, y.2 = .local → scope.names.lookup y.1 = some .local
  free : ∀ y ∈ scope.names, y.2 = .free → X.env.kindOf y.1 = some .cell ∨ X.env.kindOf y.1 = some .free
  len : NB.length = n + fr.length
  own : ∀ (j k : Nat), fr[j]? = some k → ∃ x, NB[n + j]? = some x ∧ X.N[k]? = some x ∧ scope.names.lookup x = some .free

theorem blk_ok {pins : List (Addr × Obj)} {σ : St} {H : Hp} {s : Shared} {fp : List Addr} {C : Addr} (O : CompOk X scope NB n fr) (I : Inv X pins σ H s) (hf : ∀ b ∈ fp, FpOk X pins H b) (hfl : ∀ b ∈ fp, b < s.heap.objs.size) (hC : s.heap.objs.size ≤ C) :
    (cxB X NB scope (clo X.env.cells scope.names []) C fp s H).Ok where
  mod := I.ok.mod
  kind := O.kind
  glob := I.ok.glob
  blt := I.ok.blt
  above := hC
  inj := fun x y c h1 h2 => by
    have e1 := (clo_old scope.names [] h1).resolve_right (by intro z; cases z)
    have e2 := (clo_old scope.names [] h2).resolve_right (by intro z; cases z)
    exact I.ok.inj x y c e1 e2
  has := fun x hx => by
    have hx' : (relabel scope X.env).names.lookup x = some .cell ∨ (relabel scope X.env).names.lookup x = some .free := hx
    have hfree : scope.names.lookup x = some .free := by
      have r := @relab X.env x scope.names
      rcases r with r | r
      · have hx2 : scope.names.lookup x = some .cell ∨ scope.names.lookup x = some .free := by rw [← r]; exact hx'
        rcases hx2 with e | e
        · exact absurd rfl (O.nocell _ (mem_lookup e))
        · exact e
      · exact r.1
    have hm := mem_lookup hfree
    obtain ⟨c, hc⟩ := I.ok.has x (O.free _ hm rfl)
    exact ⟨c, clo_new hc scope.names [] (.inl hm)⟩
  cab := fun x c h => nomatch h
  hd := fun h => I.ok.hd h
  frames := I.ok.frames
  stk := .inl rfl
  exf := fun b hb => ⟨Nat.ne_of_lt (Nat.lt_of_lt_of_le (hfl b hb) hC), fun x c h => by
    have e1 := (clo_old scope.names [] h).resolve_right (by intro z; cases z)
    exact (hf b hb).2.2.2.2.1 x c e1⟩
  bs := I.bs
  bsz := Nat.le_trans I.ok.bsz I.sz
  noex := fun b o e hb => by
    rcases (hf b hb).2.2.2.1 with z | z
    · exact I.ok.noex b o e z
    · exact absurd (Nat.lt_of_lt_of_le (Heap.lt_size e) (Nat.le_trans I.ok.bsz z)) (Nat.lt_irrefl _)
  exfs := fun b hb z => by
    rcases List.mem_cons.mp (I.stkSub b z) with e | e
    · exact (hf b hb).2.1 e
    · exact (hf b hb).2.2.1 e
  funs := I.stack
  frf := I.stkFree

/-- a state whose block's own names are let go -/
theorem Inv.but {pins : List (Addr × Obj)} {σ : St} {H : Hp} {s : Shared} {C : Addr} {h' : Heap} (I : Inv X pins σ H s) (hC : X.s₀.heap.objs.size ≤ C) (hH : H C = none) (hL : C ≠ X.env.locals) (hcl : ∀ x c, X.env.cells.lookup x = some c → c ≠ C) (hpn : ∀ p ∈ X.pn ++ pins, p.1 ≠ C) (sb : Heap.SameBut C s.heap h') :
    Inv X pins σ H { s with heap := h' } := by
  refine I.call' (s' := { s with heap := h' }) (ch := [C]) rfl ?_ (HOk.but I.hok hH fun b o hb e => sb.extBut b o hb e) I.bare (fun b hb => ?_)
  · have ne : ∀ {b : Addr}, b ∉ [C] → b ≠ C := fun {b} h z => h (by rw [z]; exact List.mem_cons_self)
    exact ⟨fun b o e _ _ hx => sb.extBut b o (ne hx) e, fun b o e _ _ hx => ⟨o.slots, sb.extBut b o (ne hx) e⟩, fun _ _ _ n _ => n, fun b o e hx => ⟨o, sb.extBut b o (ne hx) e⟩, fun _ _ q => q, fun _ _ _ q => q, fun _ ps q => ⟨#[], by rw [q]; simp⟩⟩
  · have e : b = C := by simpa using hb
    subst e
    exact ⟨.inr hC, hL, hcl, hpn⟩
/-- the block itself, with what is done with its list -/
theorem comp_core {use : Option (Value → Sem Unit)} {QQ : Value → Shared → Prop} {pins : List (Addr × Obj)} {s : Shared} {σ : St} {H : Hp} {Q : VK} {pos2 : Pos} (O : CompOk X scope NB n fr) (hc : X.calm = true) (hi : PI X tg iter wi)
    (hg : ∀ cl C fp s H, PG (cxB X NB scope cl C fp s H) tg g) (ht : ∀ cl C fp s H, PIfs (cxB X NB scope cl C fp s H) ifs tt) (he : ∀ cl C fp s H, PE (cxB X NB scope cl C fp s H) elt te)
    (hs : ∀ x, foldedSetIterable iter X.env x = pure x) (I : Inv X pins σ H s) (h : tComp n fr wi g tt te σ H Q)
    (fin0 : ∀ (D C : Addr) (H' : Hp) (s' : Shared) (m : Str → Option Value), s'.heap.Ns C m → Inv X pins σ H' s' → X.s₀.heap.objs.size ≤ C → H' C = none → C ≠ X.env.locals → (∀ x c, X.env.cells.lookup x = some c → c ≠ C) → (∀ p ∈ X.pn ++ pins, p.1 ≠ C) → Q (.ref D) H' →
      compPost (model X.prog X.w) X.A X.xe use QQ (.ref D) C (.ok .next) s') :
    wpAny (model X.prog X.w) X.A (comprehension (.ListComp elt [⟨tg, iter, ifs, 0⟩] scope pos) scope X.env pos2 (newList []) false (eval iter X.env) use) QQ X.xe s := by
  have hcl : closureFor scope X.env = pure (clo X.env.cells scope.names []) := clo_for fun p hp hk => I.ok.has p.1 (O.free p hp hk)
  refine wpAny_comprehension_free (use := use) rfl hs hcl O.kind O.names (thn (hi pins s σ H _ I h) fun v s1 h1 => thn h1 fun itv s2 h2 => ?_)
  obtain ⟨it, fp, tn, J, H2, e, I2, T, st2, f2, R⟩ := h2
  subst e
  have fpl : ∀ b ∈ fp, b < s2.heap.objs.size := fun b hb => by
    obtain ⟨o, ho, _⟩ := T.obj 0 _ st2 b hb
    exact Heap.lt_size ho
  refine wpAny_newObj_type (wpAny_newFunctionEnv O.nocell (fun y hy => absurd hy (by simp)) (fun h1 ns1 sb1 => ?_) O.kind)
  dsimp only at ns1 sb1 ⊢
  generalize hD2 : s2.heap.push { cls := .type "list", dict := none, data := .seq ([] : List Value).toArray } = hp2 at ns1 sb1 ⊢
  have zC : hp2.objs.size = s2.heap.objs.size + 1 := by rw [← hD2, Heap.size_push]
  have kept : ∀ b o, s2.heap.get? b = some o → h1.get? b = some o := fun b o q => by
    have lt := Heap.lt_size q
    refine sb1.extBut b o (by rw [zC]; exact Nat.ne_of_lt (Nat.lt_succ_of_lt lt)) (Heap.get?_push_of_some _ ?_)
    rw [← hD2]
    exact Heap.get?_push_of_some _ q
  have gD : h1.get? s2.heap.objs.size = some { cls := .type "list", data := .seq ([] : List Value).toArray 0 } := by
    refine sb1.extBut _ _ (by rw [zC]; exact Nat.ne_of_lt (Nat.lt_succ_self _)) (Heap.get?_push_of_some _ ?_)
    rw [← hD2]
    exact Heap.get?_push_size _ rfl
  generalize hD : s2.heap.objs.size = D at *
  have fD : H2 D = none := I2.hok.fresh (Nat.le_of_eq hD)
  have fC : H2 hp2.objs.size = none := I2.hok.fresh (by rw [hD, zC]; exact Nat.le_succ _)
  have nCD : hp2.objs.size ≠ D := by rw [zC]; exact Nat.succ_ne_self _
  have hCle : s2.heap.objs.size ≤ hp2.objs.size := by rw [hD, zC]; exact Nat.le_succ _
  have ok := blk_ok (C := hp2.objs.size) O I2 f2 (fun b hb => by rw [hD]; exact fpl b hb) hCle
  obtain ⟨W, ⟨m0, w0⟩, turn⟩ := R D fD
  generalize hY : cxB X NB scope (clo X.env.cells scope.names []) hp2.objs.size fp s2 H2 = Y at ok
  have eY : Y.env = compEnvC scope (clo X.env.cells scope.names []) hp2.objs.size X.env := by rw [← hY]; rfl
  have I0 : Inv Y [] (List.replicate n none ++ fr.map fun k => (σ[k]?).join) (upd H2 D (.lst [])) { s2 with heap := h1, toks := s2.toks + ([] : List (Str × Value)).length } := by
    subst hY
    refine ⟨ok, rfl, I2.bare, Un.laid kept (Nat.le_of_eq hD) fD, ⟨_, ns1, fun i x v e1 e2 e3 => ?_⟩, fun x c h => ?_, ?_, fun x c h => ?_, fun p hp => absurd (show p ∈ ([] : List (Addr × Obj)) from hp) (by simp), ?_, ?_⟩
    · have hin : n ≤ i := by
        refine Nat.le_of_not_lt fun z => ?_
        rw [List.getElem?_append_left (by simpa using z), List.getElem?_replicate] at e2
        split at e2 <;> cases e2
      obtain ⟨j, rfl⟩ := Nat.exists_eq_add_of_le hin
      rw [List.getElem?_append_right (by simp)] at e2
      simp only [List.length_replicate, Nat.add_sub_cancel_left, List.getElem?_map] at e2
      cases hk : fr[j]? with
      | none => rw [hk] at e2; cases e2
      | some k =>
        rw [hk] at e2
        obtain ⟨x', n1, n2, n3⟩ := O.own j k hk
        have e1' : NB[n + j]? = some x := e1
        rw [n1] at e1'
        cases e1'
        have e4 : (σ[k]?).join = some v := Option.some.inj e2
        have e5 : σ[k]? = some (some v) := by
          cases q : σ[k]? with
          | none => rw [q] at e4; cases e4
          | some z => rw [q] at e4; exact congrArg some e4
        have hm := mem_lookup n3
        have kd := O.free _ hm rfl
        obtain ⟨m, hn, hl⟩ := I2.loc
        obtain ⟨u, ru, lk⟩ := hl k x v n2 e5 (by rcases kd with z | z; exact .inr (.inl z); exact .inr (.inr z))
        refine ⟨u, ru, .inr ⟨?_, ?_⟩⟩
        · show (relabel scope X.env).names.lookup x = some .cell ∨ (relabel scope X.env).names.lookup x = some .free
          rcases @relab X.env x scope.names with r | r
          · exact .inr (Eq.trans r n3)
          · exact .inl r.2
        · rcases lk with ⟨z, _⟩ | ⟨_, c, hc1, hc2⟩
          · rcases kd with q | q <;> (rw [z] at q; cases q)
          · refine ⟨c, clo_new hc1 scope.names [] (.inl hm), ?_⟩
            obtain ⟨o, ho, hd⟩ := hc2
            exact ⟨o, kept c o ho, hd⟩
    · have e1 := (clo_old scope.names [] (show (clo X.env.cells scope.names []).lookup x = some c from h)).resolve_right (by intro z; cases z)
      obtain ⟨v, o, ho, hd⟩ := I2.cell x c e1
      exact ⟨v, o, kept c o ho, hd⟩
    · show upd H2 D (.lst []) hp2.objs.size = none
      rw [upd_ne nCD]; exact fC
    · have e1 := (clo_old scope.names [] (show (clo X.env.cells scope.names []).lookup x = some c from h)).resolve_right (by intro z; cases z)
      obtain ⟨v, o, ho, hd⟩ := I2.cell x c e1
      rw [upd_ne (by rw [← hD]; exact Nat.ne_of_lt (Heap.lt_size ho))]
      exact I2.freeC x c e1
    · exact I2.hok.laid kept (Nat.le_of_eq hD) ⟨by simp, [], 0, .nil, gD⟩
    · show _ = NB.length
      rw [O.len]; simp
  have fY : ∀ {H' : Hp}, (∀ b ∈ fp, H' b = none) → ∀ b ∈ fp, FpOk Y [] H' b := fun {H'} hn b hb => by
    subst hY
    refine ⟨hn b hb, (ok.exf b hb).1, ok.exfs b hb, .inl hb, fun x c z => (ok.exf b hb).2 x c z, fun p hp => absurd (show p ∈ ([] : List (Addr × Obj)) from hp) (by simp)⟩
  have pY : Y.prog = X.prog ∧ Y.w = X.w ∧ Y.K = X.K ∧ Y.A = X.A ∧ Y.calm = true ∧ Y.xe = fun _ _ => False := by subst hY; exact ⟨rfl, rfl, rfl, rfl, hc, rfl⟩
  obtain ⟨p1, p2, p3, p4, p5, p6⟩ := pY
  have fin : ∀ {σ' : St} {H' : Hp} {s' : Shared}, Inv Y [] σ' H' s' → Q (.ref D) H' → compPost (model X.prog X.w) X.A X.xe use QQ (.ref D) hp2.objs.size (.ok .next) s' := fun {σ' H' s'} J' q => by
    subst hY
    obtain ⟨m, hn, _⟩ := J'.loc
    have fr' : H' hp2.objs.size = none := J'.free
    have neC : ∀ b o, s2.heap.get? b = some o → b ≠ hp2.objs.size := fun b o e => Nat.ne_of_lt (Nat.lt_of_lt_of_le (Heap.lt_size e) hCle)
    have J : Inv X pins σ H' s' := I2.call' (s' := s') J'.os J'.base J'.hok J'.bare fun b hb => by
      obtain ⟨_, a2, _, a4, a5, a6⟩ := f2 b hb
      exact ⟨a4, a2, a5, a6⟩
    refine fin0 D _ H' s' m hn J (Nat.le_trans I2.sz hCle) fr' (Ne.symm (Nat.ne_of_lt (Nat.lt_of_lt_of_le I2.lt hCle))) (fun x c e => ?_) (fun p hp => ?_) q
    · obtain ⟨v, o, ho, _⟩ := I2.cell x c e
      exact neC c o ho
    · exact neC _ _ (I2.pin p hp).1
  have st0 : tn 0 h1 := T.keep 0 _ _ st2 fun b hb o q => kept b o q
  have fp0 : ∀ b ∈ fp, upd H2 D (.lst []) b = none := fun b hb => by
    rw [upd_ne (Nat.ne_of_lt (fpl b hb))]; exact (f2 b hb).1
  have loop : ∀ s3 : Shared, s3 = { s2 with heap := h1, toks := s2.toks + ([] : List (Str × Value)).length } →
      codeAny (model X.prog X.w) X.A (.compLoop (.ListComp elt [⟨tg, iter, ifs, 0⟩] scope pos) 0 (.ref it) (.ref D) (compEnvC scope (clo X.env.cells scope.names []) hp2.objs.size X.env))
        (compPost (model X.prog X.w) X.A X.xe use QQ (.ref D) hp2.objs.size) s3 := by
    rintro s3 rfl
    refine comp_loop (fun k s' => ∃ i ys σ' H', Inv Y [] σ' H' s' ∧ tn i s'.heap ∧ (∀ b ∈ fp, H' b = none) ∧ H' D = some (.lst ys) ∧ W i k ys σ' H') ?_ m0 ⟨0, [], _, _, I0, st0, fp0, upd_same, w0⟩
    rintro k s4 ⟨i, ys, σ4, H4, I4, t4, fr4, d4, w4⟩
    have hgY : PG Y tg g := by subst hY; exact hg _ _ _ _ _
    have htY : PIfs Y ifs tt := by subst hY; exact ht _ _ _ _ _
    have heY : PE Y elt te := by subst hY; exact he _ _ _ _ _
    rcases turn i k ys σ4 H4 w4 d4 with ⟨stop, q⟩ | ⟨go, hlen, step⟩
    · have z := T.done Y p1 p2 p3 p5 i [] s4 σ4 H4 (fun _ _ => False) I4 (fY fr4) t4 stop
      rw [p4] at z
      exact thn z fun r s5 ⟨hr, I5⟩ => .inl ⟨hr, fin I5 q⟩
    · have z := T.item Y p1 p2 p3 p5 i [] s4 σ4 H4 (fun _ _ => False) I4 (fY fr4) t4 go
      rw [p4] at z
      refine thn z fun r s5 ⟨u, hr, h5⟩ => .inr ⟨u, hr, thn h5 fun _ s6 ⟨x, H6, I6, r6, y6, t6, fr6⟩ => ?_⟩
      have I6' := I6.pinned (fY fr6) (T.obj _ _ t6)
      have back : ∀ {σ7 : St} {H7 : Hp} {s7 : Shared}, Inv Y ([] ++ pinsAt fp s6.heap) σ7 H7 s7 → Inv Y [] σ7 H7 s7 ∧ tn (i + 1) s7.heap ∧ ∀ b ∈ fp, H7 b = none := fun {σ7 H7 s7} I7 => by
        refine ⟨I7.unpinned, T.keep _ _ _ t6 fun b hb o e => (I7.pin (b, o) (List.mem_append_right _ (List.mem_append_right _ (mem_pinsAt hb e)))).1, fun b hb => ?_⟩
        obtain ⟨o, e, _⟩ := T.obj _ _ t6 b hb
        exact (I7.pin (b, o) (List.mem_append_right _ (List.mem_append_right _ (mem_pinsAt hb e)))).2.1
      have a7 := hgY _ s6 σ4 H6 x u _ I6' r6 (step x H6 y6)
      rw [p1, p2, p4, p6, eY] at a7
      refine thn a7 fun _ s7 ⟨σ7, H7, I7, q7⟩ => ?_
      have a8 := htY _ s7 σ7 H7 _ I7 q7
      rw [p1, p2, p4, p6, eY] at a8
      refine thn a8 fun b s8 ⟨H8, I8, q8⟩ => ?_
      cases b with
      | false =>
        obtain ⟨d8, m', hm, w8⟩ := q8
        rw [if_neg Bool.false_ne_true]
        obtain ⟨b1, b2, b3⟩ := back I8
        exact ⟨m', hm, i + 1, ys, σ7, H8, b1, b2, b3, d8, w8⟩
      | true =>
        rw [if_pos rfl]
        have a9 := heY _ s8 σ7 H8 _ I8 q8
        rw [p1, p2, p4, p6, eY] at a9
        refine thn a9 fun uv s9 ⟨v, H9, I9, r9, d9, m', hm, w9⟩ => ?_
        have a10 := mt_append (X := Y) _ s9 σ7 H9 (.ref D) [v] (.ref D) [uv] (fun x H' => H' = upd H9 D (.lst (ys ++ [v]))) I9 rfl (.cons r9 .nil) ⟨D, ys, v, rfl, rfl, d9, hlen, rfl⟩
        rw [p1, p2, p4, p6] at a10
        refine thn a10 fun _ s10 ⟨_, H10, I10, _, e10⟩ => ?_
        subst e10
        obtain ⟨b1, b2, b3⟩ := back I10
        exact ⟨m', hm, i + 1, _, σ7, _, b1, b2, b3, upd_same, w9⟩
  refine codeAny_compStart_list (loop _ rfl) ?_
  exact T.self _ 0 _ _ _ st0 (loop _ rfl)
theorem pe_comp (O : CompOk X scope NB n fr) (hc : X.calm = true) (hi : PI X tg iter wi)
    (hg : ∀ cl C fp s H, PG (cxB X NB scope cl C fp s H) tg g) (ht : ∀ cl C fp s H, PIfs (cxB X NB scope cl C fp s H) ifs tt) (he : ∀ cl C fp s H, PE (cxB X NB scope cl C fp s H) elt te)
    (hs : ∀ x, foldedSetIterable iter X.env x = pure x := by intro _; rfl) : PE X (.ListComp elt [⟨tg, iter, ifs, 0⟩] scope pos) (tComp n fr wi g tt te) := by
  intro pins s σ H Q I h
  rw [eval_ListComp]
  exact comp_core (QQ := EP X pins σ Q) O hc hi hg ht he hs I h fun D C H' s' m hn J h1 h2 h3 h4 h5 q => ⟨m, hn, fun h' sb => ⟨.ref D, H', J.but h1 h2 h3 h4 h5 sb, rfl, q⟩⟩
end
end L2
set_option Elab.async false
set_option linter.all false
set_option maxRecDepth 100000
set_option maxHeartbeats 4000000
namespace L2
open PySem PySem.Spec PyProof.Rows

/-! ### an iterator over a list (false) or a tuple (true), at place k -/
def Src (t : Bool) (h : Heap) (it l : Addr) (xs : Array Value) (k : Nat) : Prop := match t with
  | true => h.IsTupleIter it l k ∧ h.IsTuple l xs
  | false => h.IsListIter it l k ∧ h.IsList l xs
theorem Src.keep {t : Bool} {h h' : Heap} {it l : Addr} {xs : Array Value} {k : Nat} (x : Src t h it l xs k) (a : ∀ o, h.get? it = some o → h'.get? it = some o) (b : ∀ o, h.get? l = some o → h'.get? l = some o) : Src t h' it l xs k := by
  cases t with
  | true => obtain ⟨⟨o, h1, r1⟩, ⟨o2, h2, r2⟩⟩ := x; exact ⟨⟨o, a o h1, r1⟩, ⟨o2, b o2 h2, r2⟩⟩
  | false => obtain ⟨⟨o, h1, r1⟩, ⟨o2, h2, r2⟩⟩ := x; exact ⟨⟨o, a o h1, r1⟩, ⟨o2, b o2 h2, r2⟩⟩

section
variable {prog : Program} {w : World} {A : Around} {E : Value → Shared → Prop} {st : Shared}
theorem draw_tup_end {it l : Addr} {i : Nat} {its : Array Value} {Q : Value → Shared → Prop} (hh : A.handled = none) (hit : st.heap.IsTupleIter it l i) (hl : st.heap.IsTuple l its) (hx : its[i]? = none)
    (hE : ∀ h' e, Heap.ExtBut it st.heap h' → (∃ o, h'.get? e = some o ∧ o.cls = .type "StopIteration") → E (.ref e) { st with heap := h' }) : wpAny (model prog w) A (Builtin.SmallTypes.nextOf (.ref it)) Q E st := by
  obtain ⟨o, ho, hc, hd⟩ := id hit
  obtain ⟨o2, ho2, _, n2, hd2⟩ := hl
  unfold Builtin.SmallTypes.nextOf
  refine wpAny_bind (wpAny_callSpecial?_slot (name := Str.ofString "__next__") hit.typeIs F.slot_tuple_iterator_next (wpAny_call_entry F.slot_tuple_iterator_next hit.typeIs F.entry_tuple_iterator_next ?_ (F.args_tuple_iterator_next_1 _)))
  show wpAny _ A.in1 (field (.ref it) 0 >>= _) _ _ st
  refine wpAny_bind (wpAny_field ho hd (x := .ref l) rfl ?_)
  show wpAny _ A.in1 (if (Value.ref l == Value.none) = true then _ else _) _ _ st
  rw [if_neg (fun z : (Value.ref l == Value.none) = true => Bool.false_ne_true z)]
  show wpAny _ A.in1 (field (.ref it) 1 >>= _) _ _ st
  refine wpAny_bind (wpAny_field (x := .int i 0) ho hd rfl ?_)
  show wpAny _ A.in1 (seqItems? (.ref l) >>= _) _ _ st
  refine wpAny_bind (wpAny_seqItems ho2 hd2 ?_)
  simp only [Int.toNat_natCast, hx]
  refine wpAny_bind (wpAny_rule (wpAny_bind (wpAny_setField ho hd (by simp) (wpAny_bind ?_))))
  show wpAny _ A.in1 (newExc (.type "StopIteration") []) _ _ _
  simp only [newTuple, newExc]
  refine wpAny_bind (wpAny_newObj_type (wpAny_bind (m := firstArgMember _ _) (wpAny_of_eq (a := Value.none) (by first | rfl | (simp only [firstArgMember]; rfl)) (wpAny_newObj_type ?_ (by size_fits)))) (by size_fits))
  simp only [raiseNew]
  refine wpAny_bind (wpAny_handled ?_)
  first | rw [hh] | rw [show A.in1.handled = none from hh]
  exact wpAny_bind (wpAny_pure (wpAny_throw (hE _ _ (((Heap.SameBut.update ..).extBut.push _).push _) ⟨_, Heap.get?_push_size _ rfl, rfl⟩)))

theorem Src.none {t : Bool} {it l : Addr} {i : Nat} {its : Array Value} {Q : Value → Shared → Prop} (hh : A.handled = none) (S : Src t st.heap it l its i) (hx : its[i]? = none)
    (hE : ∀ h' e, Heap.ExtBut it st.heap h' → (∃ o, h'.get? e = some o ∧ o.cls = .type "StopIteration") → E (.ref e) { st with heap := h' }) : wpAny (model prog w) A (Builtin.SmallTypes.nextOf (.ref it)) Q E st := by
  cases t with
  | true => exact draw_tup_end hh S.1 S.2 hx hE
  | false => exact wpAny_nextOf_list_end hh S.1 S.2 hx hE

/-- the five own records of a zip stand apart, and from what it walks -/
structure Apart (z TI TO i1 i2 l1 l2 : Addr) : Prop where
  a : TI ≠ z ∧ TO ≠ z ∧ i1 ≠ z ∧ i2 ≠ z
  b : TI ≠ TO ∧ TI ≠ i1 ∧ TI ≠ i2 ∧ TO ≠ i1 ∧ TO ≠ i2 ∧ i1 ≠ i2
  c : l1 ≠ z ∧ l1 ≠ TO ∧ l1 ≠ i1 ∧ l1 ≠ i2
  d : l2 ≠ z ∧ l2 ≠ TO ∧ l2 ≠ i1 ∧ l2 ≠ i2

end
section
def SqK (t : Bool) (h : Heap) (l : Addr) (xs : Array Value) : Prop := match t with
  | true => h.IsTuple l xs
  | false => h.IsList l xs
def itObj (t : Bool) (l : Addr) : Obj := { cls := .type (if t then "tuple_iterator" else "list_iterator"), data := .fields #[.ref l, .int 0 0] }
theorem SqK.push {t : Bool} {h : Heap} {l : Addr} {xs : Array Value} (x : SqK t h l xs) (o : Obj) : SqK t (h.push o) l xs := by
  cases t with
  | true => exact Heap.IsTuple.push x o
  | false => exact Heap.IsList.push x o
theorem Src.new {t : Bool} {h : Heap} {it l : Addr} {xs : Array Value} (e : h.get? it = some (itObj t l)) (q : SqK t h l xs) : Src t h it l xs 0 := by
  cases t with
  | true => exact ⟨⟨_, e, rfl, rfl⟩, q⟩
  | false => exact ⟨⟨_, e, rfl, rfl⟩, q⟩
variable {prog : Program} {w : World} {A : Around} {E : Value → Shared → Prop} {st : Shared}
end
end L2
set_option Elab.async false
set_option linter.all false
set_option maxRecDepth 100000
set_option maxHeartbeats 4000000
namespace L2
open PySem PySem.Spec PyProof.Rows

/-! ### for sign in text -/
/-! ### for a, b in zip(x, y) -/
def SqB (t : Bool) (K : PySem.W.Frag) (H : Hp) (a : Addr) (xs : List V) : Prop := match t with
  | true => SqT K H a xs
  | false => SqL K H a xs
section
variable {X : Cx} {pins : List (Addr × Obj)} {σ : St} {H : Hp} {s : Shared}
theorem Inv.sq {t : Bool} {a : Addr} {xs : List V} (I : Inv X pins σ H s) (h : SqB t X.K H a xs) : ∃ its : List Value, Vals xs its ∧ SqK t s.heap a its.toArray ∧ xs.length ≤ sizeLine := by
  cases t with
  | true => obtain ⟨its, r, p, z⟩ := I.tuple h; exact ⟨its, r, p, z⟩
  | false => obtain ⟨its, r, p, z⟩ := I.list h; exact ⟨its, r, p.isList, z⟩
end
def ItB (t : Bool) (h : Heap) (it l : Addr) (k : Nat) : Prop := match t with
  | true => h.IsTupleIter it l k
  | false => h.IsListIter it l k
theorem Src.it {t : Bool} {h : Heap} {it l : Addr} {k : Nat} {xs : Array Value} (a : Src t h it l xs k) : ItB t h it l k := by cases t <;> exact a.1
theorem ItB.ob {t : Bool} {h : Heap} {it l : Addr} {k : Nat} (a : ItB t h it l k) : ∃ o, h.get? it = some o ∧ ∀ v, o.data ≠ .cell v := by
  cases t <;> (obtain ⟨o, e, _, d⟩ := a; exact ⟨o, e, fun v z => by rw [d] at z; cases z⟩)
theorem ItB.keep {t : Bool} {h h' : Heap} {it l : Addr} {k : Nat} (a : ItB t h it l k) (e : ∀ o, h.get? it = some o → h'.get? it = some o) : ItB t h' it l k := by
  cases t <;> (obtain ⟨o, q, r⟩ := a; exact ⟨o, e o q, r⟩)

end L2
set_option Elab.async false
set_option linter.all false
set_option maxRecDepth 100000
set_option maxHeartbeats 4000000
namespace L2
open PySem PySem.Spec PyProof.Rows
section
variable {X : Cx} {a b : Expr} {ta tb : TE} {pos : Pos}

/-! ### all(list of truths) -/
/-! ### isinstance(x, T) -/
def rIsi (K : PySem.W.Frag) : List V → Hp → VK → Prop := fun xs H Q => ∃ x c t k, xs = [x, .ty c] ∧ TyOf K H x t ∧ PySem.W.kitOne K t (.type c) = some k ∧ Q (.bl k) H
theorem call_isi : CallR X (.builtin "isinstance") (rIsi X.K) := by
  intro pins s σ H xs us Q I r h
  obtain ⟨x, c, t, k, rfl, ty, e, q⟩ := h
  obtain ⟨u, u', rfl, rx, rc⟩ := vals2 r
  cases rc
  exact isinst_ok I rx ty e fun tk => ⟨.bl k, H, I.tok tk, rfl, q⟩

/-! ### f(e, ..) where f is a name that holds a def -/
/-! ### texts -/
/-! ### two lists of flat things compared -/
def eqVs : List V → List V → Bool
  | [], [] => true
  | x :: xs, y :: ys => eqV x y && eqVs xs ys
  | _, _ => false
theorem eqVs_len : ∀ {xs ys : List V}, xs.length ≠ ys.length → eqVs xs ys = false
  | [], [], h => absurd rfl h
  | [], _ :: _, _ => rfl
  | _ :: _, [], _ => rfl
  | x :: xs, y :: ys, h => by
    rw [eqVs, eqVs_len (fun e => h (by simp [e])), Bool.and_false]
theorem eqVs_range : ∀ {xs ys : List V}, xs.length = ys.length → (List.range xs.length).all (fun j => eqV (xs.getD j .non) (ys.getD j .non)) = eqVs xs ys
  | [], [], _ => rfl
  | x :: xs, y :: ys, h => by
    have h' : xs.length = ys.length := by simpa using h
    rw [eqVs, ← eqVs_range h', List.length_cons, List.range_succ_eq_map, List.all_cons, List.all_map]
    rfl
theorem op_neL (hu : X.A.units < cLine) : OpR X (compareOp .NotEq) (fun x y H Q => ∃ p q xs ys, x = .ref p ∧ y = .ref q ∧ SqL X.K H p xs ∧ SqL X.K H q ys ∧ xs.all flatV = true ∧ ys.all flatV = true ∧ Q (.bl (!eqVs xs ys)) H) := by
  intro pins s σ H x y v u Q I rx ry h
  obtain ⟨p, q', xs, ys, rfl, rfl, h1, h2, f1, f2, q⟩ := h
  cases rx
  cases ry
  obtain ⟨its, r1, pl1, _⟩ := I.list h1
  obtain ⟨jts, r2, pl2, _⟩ := I.list h2
  by_cases hl : xs.length = ys.length
  · refine SeqAt.RcNeAt.lists (e := fun j => eqV (xs.getD j .non) (ys.getD j .non)) pl1.isList pl2.isList (by simp [← r1.length, ← r2.length, hl]) hu (fun j g1 g2 => ?_) _ _ _ _ ⟨.bl (!eqVs xs ys), H, I, ?_, q⟩
    · have j1 : j < xs.length := by rw [r1.length]; simpa using g1
      have j2 : j < ys.length := by rw [r2.length]; simpa using g2
      obtain ⟨u1, e1, ru1⟩ := r1.get (i := j) (x := xs[j]) (by simp [j1])
      obtain ⟨u2, e2, ru2⟩ := r2.get (i := j) (x := ys[j]) (by simp [j2])
      have z1 : its.toArray[j] = u1 := by
        have := (List.getElem?_eq_some_iff.mp e1).2
        simpa using this
      have z2 : jts.toArray[j] = u2 := by
        have := (List.getElem?_eq_some_iff.mp e2).2
        simpa using this
      rw [z1, z2]
      have w1 : xs.getD j .non = xs[j] := by simp [j1]
      have w2 : ys.getD j .non = ys[j] := by simp [j2]
      show SeqAt.EqAt _ _ _ _ (eqV (xs.getD j .non) (ys.getD j .non))
      rw [w1, w2]
      exact eqAt_V ru1 ru2 (List.all_eq_true.mp f1 _ (List.getElem_mem j1)) (List.all_eq_true.mp f2 _ (List.getElem_mem j2))
    · rw [List.size_toArray, ← r1.length, eqVs_range hl]; rfl
  · refine SeqAt.RcNeAt.lists_lengths pl1.isList pl2.isList (by simp [← r1.length, ← r2.length, hl]) hu _ _ _ _ ⟨.bl (!eqVs xs ys), H, I, ?_, q⟩
    rw [eqVs_len hl]; rfl
end

/-! ### t[::-1] of a tuple -/
section
variable {prog : Program} {w : World} {A : Around} {E : Value → Shared → Prop} {s : Shared}
theorem fm_some {α β : Type} (f : α → Option β) (g : α → β) : ∀ (l : List α), (∀ k ∈ l, f k = some (g k)) → l.filterMap f = l.map g
  | [], _ => rfl
  | a :: r, h => by
    rw [List.filterMap_cons, h a List.mem_cons_self, List.map_cons, fm_some f g r fun k hk => h k (List.mem_cons_of_mem _ hk)]
theorem pick_rev (xs : Array Value) : ((List.range xs.size).filterMap fun (k : Nat) => xs[(((xs.size : Int) - 1) + (k : Int) * (-1)).toNat]?).toArray = xs.toList.reverse.toArray := by
  congr 1
  apply List.ext_getElem?
  intro i
  have e : ∀ k ∈ List.range xs.size, (fun (k : Nat) => xs[(((xs.size : Int) - 1) + (k : Int) * (-1)).toNat]?) k = some (xs.getD (xs.size - 1 - k) .none) := fun k hk => by
    have hk' : k < xs.size := List.mem_range.mp hk
    have e1 : (((xs.size : Int) - 1) + (k : Int) * (-1)).toNat = xs.size - 1 - k := by omega
    have e2 : xs.size - 1 - k < xs.size := by omega
    show xs[(((xs.size : Int) - 1) + (k : Int) * (-1)).toNat]? = _
    rw [e1, Array.getElem?_eq_getElem e2, Array.getD_eq_getD_getElem?, Array.getElem?_eq_getElem e2]
    rfl
  have e3 : (List.range xs.size).filterMap (fun (k : Nat) => xs[(((xs.size : Int) - 1) + (k : Int) * (-1)).toNat]?) = (List.range xs.size).map fun k => xs.getD (xs.size - 1 - k) .none := by
    exact fm_some _ _ _ e
  rw [e3, List.getElem?_map]
  by_cases hi : i < xs.size
  · have e2 : xs.size - 1 - i < xs.size := by omega
    rw [List.getElem?_range hi, List.getElem?_reverse (by simpa using hi)]
    show some (xs.getD (xs.size - 1 - i) .none) = _
    rw [Array.getD_eq_getD_getElem?, Array.getElem?_eq_getElem e2]
    simp [e2]
  · rw [List.getElem?_eq_none (by simpa using hi), List.getElem?_eq_none (by simpa using hi)]
    rfl
end
end L2
namespace L2
open PySem PySem.Spec PyProof.Rows
/-! ### t + u of two tuples, either may be empty -/
theorem PT.weak {X : Cx} {e : Expr} {t t' : TT} (h : PT X e t) (w : ∀ σ H Q, t' σ H Q → t σ H Q) : PT X e t' := fun pins s σ H Q I q => h pins s σ H Q I (w σ H Q q)
theorem PE.weak {X : Cx} {e : Expr} {t t' : TE} (h : PE X e t) (w : ∀ σ H Q, t' σ H Q → t σ H Q) : PE X e t' := fun pins s σ H Q I q => h pins s σ H Q I (w σ H Q q)
end L2
set_option Elab.async false
set_option linter.all false
namespace Kp
open PySem PyProof.Rows
/-- a thing, as data -/
inductive D where
  | non | bl (b : Bool) | int (i : Int) | str (x : Str) | tup (xs : List D) | lst (xs : List D)

/-! ### names -/
/-! ### seats -/
def keeper : D → Bool
  | .int i => decide (0 ≤ i) && decide (i ≤ 8)
  | _ => false
end Kp
set_option Elab.async false
set_option linter.all false
set_option maxRecDepth 100000
set_option maxHeartbeats 4000000
namespace Kp
open PySem L2

mutual
/-- v is the thing d in the heap H; its texts and rows are of at most B parts -/
inductive Is (B : Nat) (H : Hp) : V → D → Prop
  | non : Is B H .non .non
  | bl (b : Bool) : Is B H (.bl b) (.bl b)
  | int (i : Int) : Is B H (.int i) (.int i)
  | str (x : Str) (h : x.length ≤ B) : Is B H (.str x) (.str x)
  | tup {a : Addr} {vs : List V} {ds : List D} (e : H a = some (.tup vs)) (l : vs.length ≤ B) (r : IsL B H vs ds) : Is B H (.ref a) (.tup ds)
  | lst {a : Addr} {vs : List V} {ds : List D} (e : H a = some (.lst vs)) (l : vs.length ≤ B) (r : IsL B H vs ds) : Is B H (.ref a) (.lst ds)
inductive IsL (B : Nat) (H : Hp) : List V → List D → Prop
  | nil : IsL B H [] []
  | cons {v : V} {d : D} {vs : List V} {ds : List D} (h : Is B H v d) (t : IsL B H vs ds) : IsL B H (v :: vs) (d :: ds)
end
mutual
theorem Is.mono {B B' : Nat} {H H' : Hp} (hB : B ≤ B') (s : Same H H') : ∀ {v d}, Is B H v d → Is B' H' v d
  | _, _, .non => .non
  | _, _, .bl b => .bl b
  | _, _, .int i => .int i
  | _, _, .str x h => .str x (Nat.le_trans h hB)
  | _, _, .tup e l r => .tup (s _ _ e) (Nat.le_trans l hB) (IsL.mono hB s r)
  | _, _, .lst e l r => .lst (s _ _ e) (Nat.le_trans l hB) (IsL.mono hB s r)
theorem IsL.mono {B B' : Nat} {H H' : Hp} (hB : B ≤ B') (s : Same H H') : ∀ {vs ds}, IsL B H vs ds → IsL B' H' vs ds
  | _, _, .nil => .nil
  | _, _, .cons h t => .cons (Is.mono hB s h) (IsL.mono hB s t)
end
theorem Is.same {B : Nat} {H H' : Hp} {v : V} {d : D} (h : Is B H v d) (s : Same H H') : Is B H' v d := h.mono (Nat.le_refl _) s
theorem IsL.same {B : Nat} {H H' : Hp} {v : List V} {d : List D} (h : IsL B H v d) (s : Same H H') : IsL B H' v d := h.mono (Nat.le_refl _) s
theorem IsL.length {B : Nat} {H : Hp} : ∀ {vs ds}, IsL B H vs ds → vs.length = ds.length
  | _, _, .nil => rfl
  | _, _, .cons _ t => by simp [IsL.length t]
theorem IsL.get {B : Nat} {H : Hp} : ∀ {vs ds} {i : Nat} {v : V}, IsL B H vs ds → vs[i]? = some v → ∃ d, ds[i]? = some d ∧ Is B H v d
  | _, _, _, _, .nil, h => by simp at h
  | _, _, 0, _, .cons h _, e => by simp at e; subst e; exact ⟨_, rfl, h⟩
  | _, _, i + 1, v, .cons _ t, e => by
    obtain ⟨d, e', h⟩ := IsL.get (i := i) (v := v) t (by simpa using e)
    exact ⟨d, by simpa using e', h⟩
theorem IsL.append {B : Nat} {H : Hp} : ∀ {vs ds vs' ds'}, IsL B H vs ds → IsL B H vs' ds' → IsL B H (vs ++ vs') (ds ++ ds')
  | _, _, _, _, .nil, h => h
  | _, _, _, _, .cons h t, h' => .cons h (IsL.append t h')
theorem IsL.take {B : Nat} {H : Hp} : ∀ (n : Nat) {vs ds}, IsL B H vs ds → IsL B H (vs.take n) (ds.take n)
  | 0, _, _, _ => .nil
  | _ + 1, _, _, .nil => .nil
  | n + 1, _, _, .cons h t => .cons h (IsL.take n t)
theorem IsL.drop {B : Nat} {H : Hp} : ∀ (n : Nat) {vs ds}, IsL B H vs ds → IsL B H (vs.drop n) (ds.drop n)
  | 0, _, _, h => h
  | _ + 1, _, _, .nil => .nil
  | n + 1, _, _, .cons _ t => IsL.drop n t
theorem IsL.reverse {B : Nat} {H : Hp} {vs ds} (h : IsL B H vs ds) : IsL B H vs.reverse ds.reverse := by
  induction vs generalizing ds with
  | nil => cases h; exact .nil
  | cons v vs ih =>
    cases h with
    | cons h t => rw [List.reverse_cons, List.reverse_cons]; exact (ih t).append (.cons h .nil)
theorem IsL.ints {B : Nat} {H : Hp} : ∀ (ns : List Int), IsL B H (ns.map V.int) (ns.map D.int)
  | [] => .nil
  | n :: r => .cons (.int n) (IsL.ints r)
/-- some thing of at most B parts -/
def Th (B : Nat) (H : Hp) (v : V) : Prop := ∃ d, Is B H v d
def ThL (B : Nat) (H : Hp) (vs : List V) : Prop := ∃ ds, IsL B H vs ds
theorem Th.mono {B B' : Nat} {H H' : Hp} {v : V} (h : Th B H v) (hB : B ≤ B') (s : Same H H') : Th B' H' v := let ⟨d, q⟩ := h; ⟨d, q.mono hB s⟩
theorem ThL.mono {B B' : Nat} {H H' : Hp} {v : List V} (h : ThL B H v) (hB : B ≤ B') (s : Same H H') : ThL B' H' v := let ⟨d, q⟩ := h; ⟨d, q.mono hB s⟩
theorem ThL.nil {B : Nat} {H : Hp} : ThL B H [] := ⟨[], .nil⟩
theorem ThL.cons {B : Nat} {H : Hp} {v : V} {vs : List V} (h : Th B H v) (t : ThL B H vs) : ThL B H (v :: vs) := let ⟨d, q⟩ := h; let ⟨ds, r⟩ := t; ⟨d :: ds, .cons q r⟩
theorem ThL.append {B : Nat} {H : Hp} {vs us : List V} (h : ThL B H vs) (t : ThL B H us) : ThL B H (vs ++ us) := let ⟨_, q⟩ := h; let ⟨_, r⟩ := t; ⟨_, q.append r⟩
theorem ThL.take {B : Nat} {H : Hp} {vs : List V} (n : Nat) (h : ThL B H vs) : ThL B H (vs.take n) := let ⟨_, q⟩ := h; ⟨_, q.take n⟩
theorem ThL.drop {B : Nat} {H : Hp} {vs : List V} (n : Nat) (h : ThL B H vs) : ThL B H (vs.drop n) := let ⟨_, q⟩ := h; ⟨_, q.drop n⟩
theorem ThL.reverse {B : Nat} {H : Hp} {vs : List V} (h : ThL B H vs) : ThL B H vs.reverse := let ⟨_, q⟩ := h; ⟨_, q.reverse⟩
theorem ThL.get {B : Nat} {H : Hp} {vs : List V} {i : Nat} {v : V} (h : ThL B H vs) (e : vs[i]? = some v) : Th B H v := let ⟨_, q⟩ := h; let ⟨d, _, r⟩ := q.get e; ⟨d, r⟩
theorem Th.tup {B : Nat} {H : Hp} {a : Addr} {vs : List V} (e : H a = some (.tup vs)) (l : vs.length ≤ B) (h : ThL B H vs) : Th B H (.ref a) := let ⟨_, q⟩ := h; ⟨_, .tup e l q⟩
theorem Th.lst {B : Nat} {H : Hp} {a : Addr} {vs : List V} (e : H a = some (.lst vs)) (l : vs.length ≤ B) (h : ThL B H vs) : Th B H (.ref a) := let ⟨_, q⟩ := h; ⟨_, .lst e l q⟩
theorem Th.int {B : Nat} {H : Hp} (i : Int) : Th B H (.int i) := ⟨_, .int i⟩
theorem Th.bl {B : Nat} {H : Hp} (i : Bool) : Th B H (.bl i) := ⟨_, .bl i⟩
theorem Th.non {B : Nat} {H : Hp} : Th B H .non := ⟨_, .non⟩
theorem Th.str {B : Nat} {H : Hp} (x : Str) (h : x.length ≤ B) : Th B H (.str x) := ⟨_, .str x h⟩
/-- a new object leaves all as it was -/
theorem same_upd {H : Hp} {p : Addr} {o : HO} (h : H p = none) : Same H (upd H p o) := fun b u e => by rw [upd_ne (ne_of_none e h)]; exact e

/-! ### the kinds -/
def tyN : D → String
  | .non => "NoneType" | .bl _ => "bool" | .int _ => "int" | .str _ => "str" | .tup _ => "tuple" | .lst _ => "list"
theorem Is.ty {B : Nat} {H : Hp} {K : PySem.W.Frag} {v : V} {d : D} (h : Is B H v d) : TyOf K H v (.type (tyN d)) := by
  cases h with
  | non => exact .non
  | bl b => exact .bl b
  | int i => exact .int i
  | str x _ => exact .str x
  | tup e _ _ => exact .tup e
  | lst e _ _ => exact .lst e
def isInt : D → Bool | .int _ => true | .bl _ => true | _ => false
def isBool : D → Bool | .bl _ => true | _ => false
def isTup : D → Bool | .tup _ => true | _ => false
theorem kit_int (K : PySem.W.Frag) : ∀ d : D, PySem.W.kitOne K (.type (tyN d)) (.type "int") = some (isInt d)
  | .non => by with_unfolding_all rfl
  | .bl _ => by with_unfolding_all rfl
  | .int _ => by with_unfolding_all rfl
  | .str _ => by with_unfolding_all rfl
  | .tup _ => by with_unfolding_all rfl
  | .lst _ => by with_unfolding_all rfl
theorem kit_bool (K : PySem.W.Frag) : ∀ d : D, PySem.W.kitOne K (.type (tyN d)) (.type "bool") = some (isBool d)
  | .non => by with_unfolding_all rfl
  | .bl _ => by with_unfolding_all rfl
  | .int _ => by with_unfolding_all rfl
  | .str _ => by with_unfolding_all rfl
  | .tup _ => by with_unfolding_all rfl
  | .lst _ => by with_unfolding_all rfl
theorem kit_tup (K : PySem.W.Frag) : ∀ d : D, PySem.W.kitOne K (.type (tyN d)) (.type "tuple") = some (isTup d)
  | .non => by with_unfolding_all rfl
  | .bl _ => by with_unfolding_all rfl
  | .int _ => by with_unfolding_all rfl
  | .str _ => by with_unfolding_all rfl
  | .tup _ => by with_unfolding_all rfl
  | .lst _ => by with_unfolding_all rfl
theorem boot_isi : bootBuiltins "isinstance" = some (.builtin "isinstance") := by decide +kernel
theorem boot_int : bootBuiltins "int" = some (.type "int") := by decide +kernel
theorem boot_bool : bootBuiltins "bool" = some (.type "bool") := by decide +kernel
theorem boot_tuple : bootBuiltins "tuple" = some (.type "tuple") := by decide +kernel
theorem boot_list : bootBuiltins "list" = some (.type "list") := by decide +kernel
theorem pe_ty {X : Cx} {x : Str} {n : String} {pos : Pos} (hg : Gl X x) (hm : X.mg x = none) (hv : bootBuiltins x = some (.type n)) (hn : x ≠ "__name__" := by decide) (hd : (x == ("__debug__" : Str)) = false := by decide) : PE X (.Name x pos) (tC (.ty n)) := pe_bltn (v := .ty n) hg hm hv rfl hn hd
end Kp
set_option Elab.async false
set_option linter.all false
set_option maxRecDepth 100000
set_option maxHeartbeats 4000000
namespace Kp
open PySem L2

/-! ### rules whose reading names the written part, for a block -/
section
variable {X : Cx} {K : PySem.W.Frag} {pos : Pos}
theorem pe_fn {x : Str} {f : Addr} (hg : Gl X x) (hm : X.mg x = some (.ref f)) (hd : (x == ("__debug__" : Str)) = false := by decide) : PE X (.Name x pos) (tC (.ref f)) := pe_glob (v := .ref f) hg hm rfl hd
end

/-! ### a comprehension's names -/
def compChk (outer scope : Scope) : Bool := scope.kind == .function && scope.names.all fun y => y.2 != .cell && (y.2 != .local || scope.names.lookup y.1 == some .local) && (y.2 != .free || outer.names.lookup y.1 == some .cell)
theorem compOkN {X : Cx} {outer scope : Scope} {NB : List Str} {n : Nat} {fr : List Nat} (hX : X.env.scope = outer) (h : compChk outer scope = true) (hl : NB.length = n + fr.length)
    (ho : ∀ (j k : Nat), fr[j]? = some k → ∃ x, NB[n + j]? = some x ∧ X.N[k]? = some x ∧ scope.names.lookup x = some .free) : CompOk X scope NB n fr := by
  unfold compChk at h
  rw [Bool.and_eq_true, List.all_eq_true] at h
  obtain ⟨h1, h2⟩ := h
  refine ⟨by simpa using h1, fun y hy => ?_, fun y hy hk => ?_, fun y hy hk => ?_, hl, ho⟩
  · have := h2 y hy
    simp only [Bool.and_eq_true, bne_iff_ne, ne_eq] at this
    exact this.1.1
  · have := h2 y hy
    simp only [Bool.and_eq_true, Bool.or_eq_true, bne_iff_ne, ne_eq, beq_iff_eq] at this
    exact this.1.2.resolve_left (fun z => z hk)
  · have := h2 y hy
    simp only [Bool.and_eq_true, Bool.or_eq_true, bne_iff_ne, ne_eq, beq_iff_eq] at this
    refine .inl ?_
    show X.env.scope.names.lookup y.1 = some .cell
    rw [hX]
    exact this.2.resolve_left (fun z => z hk)
theorem compOk0 {X : Cx} {outer scope : Scope} {NB : List Str} {n : Nat} (hX : X.env.scope = outer) (h : compChk outer scope = true) (hl : NB.length = n + 0) : CompOk X scope NB n [] :=
  compOkN hX h hl fun j k e => by simp at e
theorem compOk1 {X : Cx} {outer scope : Scope} {NB : List Str} {n k0 : Nat} {x : Str} (hX : X.env.scope = outer) (h : compChk outer scope = true) (hl : NB.length = n + 1) (h1 : NB[n]? = some x) (h2 : X.N[k0]? = some x) (h3 : scope.names.lookup x = some .free) : CompOk X scope NB n [k0] :=
  compOkN hX h hl fun j k e => by
    cases j with
    | zero => cases e; exact ⟨x, h1, h2, h3⟩
    | succ j => simp at e
/-! ### a comprehension that changes nothing -/
theorem comp_pure {J : It} {H1 : Hp} {n k : Nat} {frs : St} {g : TG} {tt : TT} {te : TE} {Q : VK} (p : Nat → Bool) (f : Nat → V) (hn : n < sizeLine)
    (go : ∀ i H, i < n → Same H1 H → J.go i H) (stop : ∀ H, Same H1 H → J.stop n H)
    (turn : ∀ i H t x H2 (R : St → Hp → Option V → Prop), i < n → Same H1 H → t.length = k → J.yld i H x H2 →
      (∀ t' H', t'.length = k → Same H H' → R (t' ++ frs) H' (if p i = true then some (f i) else none)) →
      g x (t ++ frs) H2 fun σ3 H3 => tt σ3 H3 fun b H4 => if b = true then te σ3 H4 fun v H5 => R σ3 H5 (some v) else R σ3 H4 none)
    (hq : ∀ D H', Same H1 H' → H1 D = none → H' D = some (.lst (((List.range n).filter p).map f)) → Q (.ref D) H') : CompGo (List.replicate k none ++ frs) g tt te Q J H1 := by
  intro D hD
  refine ⟨fun i m ys σ H => i ≤ n ∧ m = n - i ∧ ys = ((List.range i).filter p).map f ∧ Same H1 H ∧ ∃ t, t.length = k ∧ σ = t ++ frs, ⟨n, Nat.zero_le _, rfl, rfl, same_upd hD, _, by simp, rfl⟩, ?_⟩
  rintro i m ys σ H ⟨hi, rfl, rfl, s1, t, ht, rfl⟩ hd
  by_cases hlt : i < n
  · right
    refine ⟨go i H hlt s1, ?_, fun x H2 y => ?_⟩
    · refine Nat.lt_of_le_of_lt ?_ hn
      rw [List.length_map]
      exact Nat.le_trans (List.length_filter_le _ _) (by simpa using hi)
    · have h := turn i H t x H2 (fun σ3 H5 r => match r with
        | some v => H5 D = some (.lst (((List.range i).filter p).map f)) ∧ ∃ m', m' < n - i ∧ (i + 1 ≤ n ∧ m' = n - (i + 1) ∧ ((List.range i).filter p).map f ++ [v] = ((List.range (i + 1)).filter p).map f ∧ Same H1 (upd H5 D (.lst (((List.range i).filter p).map f ++ [v]))) ∧ ∃ t, t.length = k ∧ σ3 = t ++ frs)
        | none => H5 D = some (.lst (((List.range i).filter p).map f)) ∧ ∃ m', m' < n - i ∧ (i + 1 ≤ n ∧ m' = n - (i + 1) ∧ ((List.range i).filter p).map f = ((List.range (i + 1)).filter p).map f ∧ Same H1 H5 ∧ ∃ t, t.length = k ∧ σ3 = t ++ frs)) hlt s1 ht y ?_
      · exact h
      · intro t' H' ht' s2
        cases hp : p i with
        | true =>
          rw [if_pos rfl]
          refine ⟨s2 _ _ hd, n - (i + 1), by omega, by omega, rfl, ?_, fun b o e => ?_, t', ht', rfl⟩
          · rw [List.range_succ, List.filter_append, List.map_append]
            simp [hp]
          · rw [upd_ne (ne_of_none e hD)]; exact s2 _ _ (s1 _ _ e)
        | false =>
          rw [if_neg Bool.false_ne_true]
          refine ⟨s2 _ _ hd, n - (i + 1), by omega, by omega, rfl, ?_, s1.trans s2, t', ht', rfl⟩
          rw [List.range_succ, List.filter_append, List.map_append]
          simp [hp]
  · have e : i = n := by omega
    subst e
    exact .inl ⟨stop H s1, hq D H s1 hD hd⟩

/-! ### promises -/
/-- a teller: of a thing, a truth; nothing is changed -/
def spP (f : D → Bool) : Sp := fun vs H Q _ => ∃ B v d, B ≤ 1000 ∧ vs = [v] ∧ Is B H v d ∧ ∀ H', Same H H' → Q (.bl (f d)) H'
/-- a def of the text that keeps its promise, as a caller sees it -/
structure Cal (P : Program) (w : World) (K : PySem.W.Frag) (mg : Str → Option Value) (base : Heap) (name : Str) (k : Nat) (ps : List Str) (sp : Sp) : Prop where
  ex : ∃ f fd, FnOk P w K mg base CX0 k f fd ps sp ∧ mg name = some (.ref f) ∧ PySem.W.keepIn K (.ref f) = true ∧ Binds K fd ps []
def whole (d : D) : Bool := isInt d && !isBool d
end Kp
set_option Elab.async false
set_option linter.all false
namespace Kp
open PySem L2
section
variable {X : Cx} {es : List Expr} {te : TE} {t : TA} {pos : Pos}
/-! ### argument lists by the first one's form: that it is no star is known once -/
theorem pa_i {c : Const} {k : Nat} (ha : PE X (.Constant c k pos) te) (hr : PA X es t) : PA X (.Constant c k pos :: es) (tCons te t) := pa_cons ha hr rfl
theorem pa_n {x : Str} (ha : PE X (.Name x pos) te) (hr : PA X es t) : PA X (.Name x pos :: es) (tCons te t) := pa_cons ha hr rfl
theorem pa_b {o : Operator} {a b : Expr} (ha : PE X (.BinOp a o b pos) te) (hr : PA X es t) : PA X (.BinOp a o b pos :: es) (tCons te t) := pa_cons ha hr rfl
theorem pa_k {f : Expr} {as : List Expr} {ks : List Keyword} (ha : PE X (.Call f as ks pos) te) (hr : PA X es t) : PA X (.Call f as ks pos :: es) (tCons te t) := pa_cons ha hr rfl
theorem pa_s {a b : Expr} (ha : PE X (.Subscript a b pos) te) (hr : PA X es t) : PA X (.Subscript a b pos :: es) (tCons te t) := pa_cons ha hr rfl
end
end Kp
namespace Kp
open PySem L2
theorem px_b {a b : Expr} {o : Operator} {pos : Pos} : PlainIx (.BinOp a o b pos) := fun _ _ => rfl
theorem px_n {x : Str} {pos : Pos} : PlainIx (.Name x pos) := fun _ _ => rfl
theorem px_i {c : Const} {k : Nat} {pos : Pos} : PlainIx (.Constant c k pos) := fun _ _ => rfl
theorem px_u {o : UnaryOp} {a : Expr} {pos : Pos} : PlainIx (.UnaryOp o a pos) := fun _ _ => rfl
end Kp
namespace Kp
open PySem L2
end Kp
namespace Kp
open PySem L2
/-! ### displays of written things -/
structure QA (X : Cx) (es : List Expr) (t : TA) : Prop where
  h : PA X es t
section
variable {X : Cx} {es l : List Expr} {t u : TA} {p p' : Pos} {j : Nat}
theorem qa_nil : QA X [] tNil := ⟨pa_nil⟩
theorem qa_int {i : Int} (r : QA X es t) : QA X (.Constant (.int i) j p :: es) (tCons (tC (.int i)) t) := ⟨pa_cons pe_int r.h rfl⟩
theorem qa_non (r : QA X es t) : QA X (.Constant .none j p :: es) (tCons (tC .non) t) := ⟨pa_cons pe_non r.h rfl⟩
theorem qa_neg {i : Int} (r : QA X es t) : QA X (.UnaryOp .USub (.Constant (.int i) j p) p' :: es) (tCons (tUn (rU fun i => .int (-i)) (tC (.int i))) t) := ⟨pa_cons (pe_un un_neg pe_int) r.h rfl⟩
theorem qa_tup (a : QA X l u) (r : QA X es t) : QA X (.Tuple l j p :: es) (tCons (tTup u) t) := ⟨pa_cons (pe_tup a.h) r.h rfl⟩
end
end Kp
namespace Kp
open PySem L2
/-! ### judgements in boxes: the elaborator looks into the bare ones, and runs a written display -/
structure QE (X : Cx) (e : Expr) (t : TE) : Prop where
  h : PE X e t
structure QS (X : Cx) (st : Stmt) (t : TS) : Prop where
  h : PS X st t
structure QB (X : Cx) (sts : List Stmt) (t : TS) : Prop where
  h : PSs X sts t
section
variable {X : Cx} {es : List Expr} {t : TA} {p p' pos : Pos} {j : Nat}
theorem qx_lst (a : QA X es t) : QE X (.List es p) (tLst t) := ⟨pe_lst a.h⟩
end
end Kp
set_option Elab.async false
set_option linter.all false
set_option maxRecDepth 100000
set_option maxHeartbeats 4000000
namespace Kp
open PySem L2 PyProof.Rows

/-! ### D.get(word) of a dict of the module -/
/-! ### a teller that is known by its address only -/
structure Tl (P : Program) (w : World) (K : PySem.W.Frag) (mg : Str → Option Value) (base : Heap) (k : Nat) (g : Addr) (p : D → Bool) : Prop where
  ex : ∃ k' fd px, k' ≤ k ∧ FnOk P w K mg base CX0 k' g fd [px] (spP p) ∧ PySem.W.keepIn K (.ref g) = true ∧ Binds K fd [px] []
section
variable {P : Program} {w : World} {K : PySem.W.Frag} {mg : Str → Option Value} {base : Heap}
theorem Tl.mono {k k' : Nat} {g : Addr} {p : D → Bool} (h : Tl P w K mg base k g p) (hk : k ≤ k') : Tl P w K mg base k' g p := let ⟨j, fd, px, a, b⟩ := h.ex; ⟨j, fd, px, Nat.le_trans a hk, b⟩
/-- tellers and what they tell -/
inductive Tls (P : Program) (w : World) (K : PySem.W.Frag) (mg : Str → Option Value) (base : Heap) (k : Nat) : List V → List (D → Bool) → Prop
  | nil : Tls P w K mg base k [] []
  | cons {g : Addr} {p : D → Bool} {gs : List V} {ps : List (D → Bool)} (h : Tl P w K mg base k g p) (t : Tls P w K mg base k gs ps) : Tls P w K mg base k (.ref g :: gs) (p :: ps)
theorem Tls.length {k : Nat} : ∀ {gs ps}, Tls P w K mg base k gs ps → gs.length = ps.length
  | _, _, .nil => rfl
  | _, _, .cons _ t => by simp [Tls.length t]
theorem Tls.get {k : Nat} : ∀ {gs ps} {i : Nat} {v : V}, Tls P w K mg base k gs ps → gs[i]? = some v → ∃ g p, v = .ref g ∧ ps[i]? = some p ∧ Tl P w K mg base k g p
  | _, _, _, _, .nil, e => by simp at e
  | _, _, 0, _, .cons h _, e => by simp at e; subst e; exact ⟨_, _, rfl, rfl, h⟩
  | _, _, i + 1, v, .cons _ t, e => by
    obtain ⟨g, p, a, b, c⟩ := Tls.get (i := i) (v := v) t (by simpa using e)
    exact ⟨g, p, a, by simpa using b, c⟩
theorem Tls.mono {k k' : Nat} (hk : k ≤ k') : ∀ {gs ps}, Tls P w K mg base k gs ps → Tls P w K mg base k' gs ps
  | _, _, .nil => .nil
  | _, _, .cons h t => .cons (h.mono hk) (Tls.mono hk t)

/-! ### a table of tellers by words -/
inductive Tbl (P : Program) (w : World) (K : PySem.W.Frag) (mg : Str → Option Value) (base : Heap) (k : Nat) : List DictEntry → List (Str × List (D → Bool)) → Prop
  | nil : Tbl P w K mg base k [] []
  | cons {x : Str} {tk : Tok} {t : Addr} {gs : List V} {ps : List (D → Bool)} {es : List DictEntry} {tb : List (Str × List (D → Bool))} (hs : ∀ H : Hp, SqT K H t gs) (ht : Tls P w K mg base k gs ps) (r : Tbl P w K mg base k es tb) :
      Tbl P w K mg base k (⟨PyData.keyHash w.params x, .str x tk, .ref t⟩ :: es) ((x, ps) :: tb)
theorem Tbl.keys {k : Nat} : ∀ {es tb}, Tbl P w K mg base k es tb → PySem.W.KeysLit w.params es
  | _, _, .nil => trivial
  | _, _, .cons _ _ r => ⟨⟨_, _, rfl, rfl⟩, Tbl.keys r⟩
theorem Tbl.find {k : Nat} {x : Str} : ∀ {es tb}, Tbl P w K mg base k es tb → ∃ v, RelV v (((es.find? fun e => Value.isStrOf x e.key).map (·.val)).getD .none) ∧
    ((tb.lookup x = none ∧ v = .non) ∨ ∃ ps t gs, tb.lookup x = some ps ∧ v = .ref t ∧ (∀ H : Hp, SqT K H t gs) ∧ Tls P w K mg base k gs ps)
  | _, _, .nil => ⟨.non, rfl, .inl ⟨rfl, rfl⟩⟩
  | _, _, @Tbl.cons _ _ _ _ _ _ y tk t gs ps es tb hs ht r => by
    rw [List.find?_cons, List.lookup_cons]
    have e : Value.isStrOf x (Value.str y tk) = (x == y) := by
      show (y == x) = (x == y)
      rw [Bool.eq_iff_iff, beq_iff_eq, beq_iff_eq]
      exact eq_comm
    dsimp only
    rw [e]
    cases hx : x == y with
    | true => exact ⟨.ref t, rfl, .inr ⟨ps, t, gs, rfl, rfl, hs, ht⟩⟩
    | false => exact Tbl.find r
end
end Kp
set_option Elab.async false
set_option linter.all false
set_option maxRecDepth 100000
set_option maxHeartbeats 4000000
namespace Kp
open PySem

/-! ### tuples by tellers, things by their first word -/
/-! ### the law's -/
def one (p : D → Bool) : List D → Bool
  | [a] => p a
  | _ => false
def two (p q : D → Bool) : List D → Bool
  | [a, b] => p a && q b
  | _ => false
end Kp
set_option Elab.async false
set_option linter.all false
set_option maxRecDepth 100000
set_option maxHeartbeats 4000000
namespace K1
open PySem L2 Kp
def top (i : Nat) : Stmt := PySem.Challenge.pw_keeplog_k52_rooms_made.main.body.getD i (.Pass ⟨0, 0, 0, 0⟩)
abbrev s_begun : Stmt := top 9
abbrev s_end_of : Stmt := top 10
abbrev s_fresh : Stmt := top 12
abbrev s_first_pack : Stmt := top 14
abbrev s_Keeper___init__ : Stmt := inClass (top 16) 0
abbrev s_Keeper_wake : Stmt := inClass (top 16) 1
abbrev s_Keeper_be_plain : Stmt := inClass (top 16) 3
abbrev s_Keeper_know_no_places : Stmt := inClass (top 16) 4
abbrev s_Road___init__ : Stmt := inClass (top 18) 0
abbrev s_Road_waiting : Stmt := inClass (top 18) 4
abbrev s_are_seats_below : Stmt := top 20
abbrev s_Room___init__ : Stmt := inClass (top 21) 0
abbrev s_Room_size : Stmt := inClass (top 21) 1
abbrev s_Room_keeper : Stmt := inClass (top 21) 2
abbrev s_Room_letters : Stmt := inClass (top 21) 3
abbrev s_Room_callers : Stmt := inClass (top 21) 4
abbrev s_Room_answers : Stmt := inClass (top 21) 5
abbrev sCell : Stmt := top 23
abbrev s__law_whole : Stmt := top 24
abbrev sNameBy : Stmt := top 25
abbrev s__law_state_of : Stmt := top 26
abbrev sSeatsBy : Stmt := top 27
abbrev s__law_no_count : Stmt := top 28
abbrev s__law_no_seats : Stmt := top 29
abbrev s__law_refused_room : Stmt := top 30
abbrev s__law_no_keeper : Stmt := top 31
abbrev sLaw : Stmt := top 32
end K1
set_option Elab.async false
set_option linter.all false
set_option maxRecDepth 100000
namespace Kp
open PySem L2
theorem tiny {n : Nat} (h : n ≤ 1000) : n ≤ sizeLine := by rw [sizeLine_eq]; omega
section
variable {X : Cx} {es l : List Expr} {te : TE} {t u : TA} {p p' pos : Pos} {j : Nat}
theorem qa_n {x : Str} (ha : PE X (.Name x p) te) (r : QA X es t) : QA X (.Name x p :: es) (tCons te t) := ⟨pa_n ha r.h⟩
theorem qa_k {f : Expr} {as : List Expr} {ks : List Keyword} (ha : PE X (.Call f as ks p) te) (r : QA X es t) : QA X (.Call f as ks p :: es) (tCons te t) := ⟨pa_k ha r.h⟩
theorem qa_s {a b : Expr} (ha : PE X (.Subscript a b p) te) (r : QA X es t) : QA X (.Subscript a b p :: es) (tCons te t) := ⟨pa_s ha r.h⟩
theorem qa_b {o : Operator} {a b : Expr} (ha : PE X (.BinOp a o b p) te) (r : QA X es t) : QA X (.BinOp a o b p :: es) (tCons te t) := ⟨pa_b ha r.h⟩
theorem qx_tup (a : QA X es t) : QE X (.Tuple es j p) (tTup t) := ⟨pe_tup a.h⟩
theorem qx_ix {a b : Expr} {ta tb : TE} {r : R2} (hx : IxR X r) (ha : QE X a ta) (hb : PE X b tb) (px : PlainIx b) : QE X (.Subscript a b pos) (tOp r ta tb) := ⟨pe_ix hx ha.h hb px⟩
end
end Kp
set_option Elab.async false
set_option linter.all false
set_option maxRecDepth 100000
set_option maxHeartbeats 4000000
namespace Kp
open PySem L2
/-! ### displays of written things, by «things of at most 16 parts» -/
theorem PA.weak {X : Cx} {es : List Expr} {t t' : TA} (h : PA X es t) (w : ∀ σ H Q, t' σ H Q → t σ H Q) : PA X es t' := fun pos pins s σ H Q I q => h pos pins s σ H Q I (w σ H Q q)
def tAnyA (n : Nat) : TA := fun _ H Q => ∀ vs H', ThL 16 H' vs → vs.length = n → Same H H' → Q vs H'
structure DA (X : Cx) (es : List Expr) (n : Nat) : Prop where
  h : PA X es (tAnyA n)
section
variable {X : Cx} {es l : List Expr} {n m : Nat} {p p' : Pos} {j : Nat}
/-- a display of tuples alone -/
def TupV (H : Hp) (v : V) : Prop := ∃ a xs, v = .ref a ∧ H a = some (.tup xs) ∧ xs.length ≤ 16 ∧ ThL 16 H xs
theorem TupV.mono {H H' : Hp} {v : V} (h : TupV H v) (s : Same H H') : TupV H' v := let ⟨a, xs, e, ha, l, t⟩ := h; ⟨a, xs, e, s _ _ ha, l, t.mono (Nat.le_refl _) s⟩
def tTupA (n : Nat) : TA := fun _ H Q => ∀ vs H', (∀ v ∈ vs, TupV H' v) → vs.length = n → Same H H' → Q vs H'
structure DT (X : Cx) (es : List Expr) (n : Nat) : Prop where
  h : PA X es (tTupA n)
end
end Kp
set_option Elab.async false
set_option linter.all false
set_option maxRecDepth 100000
namespace Kp
open PySem L2
section
variable {es l : List Expr} {te : TE} {t u : TA} {p p' pos : Pos} {j : Nat}
/- written with @ and holes for the rest: what is under them is built first, and met with the goal at the end -/
theorem pss_p {X : Cx} {st : Stmt} {rest : List Stmt} {t u : TS} (h1 : PS X st t) (h2 : PSs X rest u) : PSs X (st :: rest) (tSeq t u) := pss_cons h1 h2
theorem pss_o {X : Cx} {st : Stmt} {t : TS} (h1 : PS X st t) : PSs X [st] t := pss_one h1
end
end Kp
set_option Elab.async false
set_option linter.all false
set_option maxRecDepth 100000
set_option maxHeartbeats 4000000
namespace L2
open PySem PySem.Spec PyProof.Rows
/-! ### for k, x in enumerate(list) -/
/-! ### sorted(list of texts), list.count(text) -/
section
variable {X : Cx}
theorem strs_back : ∀ {xs : List Str} {us : List Value}, StrsAre us xs → Vals (xs.map V.str) us
  | [], _, h => by cases h; exact .nil
  | x :: xs, _, h => by
    cases h with
    | cons _ _ t => exact .cons ⟨_, rfl⟩ (strs_back t)
end
end L2
set_option Elab.async false
set_option linter.all false
set_option maxRecDepth 100000
set_option maxHeartbeats 4000000
namespace Kp
open PySem

/-! ### rows by the alphabet -/
/-! ### the law's -/
end Kp
set_option Elab.async false
set_option linter.all false
set_option maxRecDepth 100000
set_option maxHeartbeats 4000000
namespace Kp
open PySem L2
/-! ### a comprehension whose items are known by a property only -/
/-- tuples stay -/
def SameT (H H' : Hp) : Prop := ∀ b xs, H b = some (.tup xs) → H' b = some (.tup xs)
/-- a short text -/
def ShortS (_ : Hp) (v : V) : Prop := ∃ x : Str, v = .str x ∧ x.length ≤ 16
theorem ShortS.list {H : Hp} : ∀ {ys : List V}, (∀ v ∈ ys, ShortS H v) → ∃ ws : List Str, ys = ws.map V.str ∧ ∀ x ∈ ws, x.length ≤ 16
  | [], _ => ⟨[], rfl, fun x hx => (List.not_mem_nil hx).elim⟩
  | y :: ys, h => by
    obtain ⟨x, rfl, hx⟩ := h y List.mem_cons_self
    obtain ⟨ws, rfl, hw⟩ := ShortS.list (fun v hv => h v (List.mem_cons_of_mem _ hv))
    exact ⟨x :: ws, rfl, fun z hz => by
      rcases List.mem_cons.mp hz with rfl | hz
      · exact hx
      · exact hw z hz⟩
theorem one_slot {t : St} (h : t.length = 1) : ∃ t0, t = [t0] := by
  match t, h with
  | [t0], _ => exact ⟨t0, rfl⟩
end Kp
set_option Elab.async false
set_option linter.all false
set_option maxRecDepth 100000
set_option maxHeartbeats 4000000
namespace L2
open PySem PySem.Spec PyProof.Rows
/-! ### lists of pairs as tables -/
section
variable {κ : Type} [DecidableEq κ]
def valV (kvs : List (κ × V)) (k : κ) : Option V := (kvs.find? fun kv => decide (kv.1 = k)).map (·.2)
/-- in its place, or at the end -/
def putK (kvs : List (κ × V)) (k : κ) (v : V) : List (κ × V) :=
  if (kvs.any fun kv => decide (kv.1 = k)) = true then kvs.map (fun kv => if kv.1 = k then (kv.1, v) else kv) else kvs ++ [(k, v)]
def dropK (kvs : List (κ × V)) (k : κ) : List (κ × V) := kvs.filter fun kv => decide (kv.1 ≠ k)

theorem valV_pos {p : κ × V} {r : List (κ × V)} {k : κ} (e : p.1 = k) : valV (p :: r) k = some p.2 := by simp [valV, List.find?_cons, e]
theorem valV_neg {p : κ × V} {r : List (κ × V)} {k : κ} (e : ¬ p.1 = k) : valV (p :: r) k = valV r k := by simp [valV, List.find?_cons, e]
theorem valV_any (k : κ) : ∀ kvs : List (κ × V), (kvs.any fun kv => decide (kv.1 = k)) = (valV kvs k).isSome
  | [] => rfl
  | p :: r => by
    rw [List.any_cons]
    by_cases e : p.1 = k
    · simp only [valV_pos e, decide_eq_true e, Bool.true_or, Option.isSome_some]
    · rw [valV_neg e, decide_eq_false e, Bool.false_or]; exact valV_any k r
theorem RelO.isSome_eq {o : Option V} {u : Option Value} (r : RelO o u) : o.isSome = u.isSome := by
  cases o with
  | none => cases u with
    | none => rfl
    | some _ => exact (show False from r).elim
  | some _ => cases u with
    | none => exact (show False from r).elim
    | some _ => rfl
theorem RelO.getD {o : Option V} {u : Option Value} {d : V} {d' : Value} (r : RelO o u) (rd : RelV d d') : RelV (o.getD d) (u.getD d') := by
  cases o with
  | none => cases u with
    | none => exact rd
    | some _ => exact (show False from r).elim
  | some _ => cases u with
    | none => exact (show False from r).elim
    | some _ => exact r

/-- raw tables of the same keys -/
theorem KV.val {kvs : List (κ × V)} {vs : List (κ × Value)} (r : KV kvs vs) (k : κ) : RelO (valV kvs k) (valueAt vs k) := by
  unfold KV at r
  induction r with
  | nil => exact True.intro
  | @cons p q ps qs h t ih =>
    obtain ⟨h1, h2⟩ := h
    by_cases e : p.1 = k
    · have e' : q.1 = k := h1.symm.trans e
      have b : valueAt (q :: qs) k = some q.2 := by simp [valueAt, List.find?_cons, e']
      rw [valV_pos e, b]; exact h2
    · have e' : ¬ q.1 = k := fun z => e (h1.trans z)
      have b : valueAt (q :: qs) k = valueAt qs k := by simp [valueAt, List.find?_cons, e']
      rw [valV_neg e, b]; exact ih
theorem KV.any {kvs : List (κ × V)} {vs : List (κ × Value)} (r : KV kvs vs) (k : κ) : (kvs.any fun kv => decide (kv.1 = k)) = vs.any fun kv => decide (kv.1 = k) := by
  unfold KV at r
  induction r with
  | nil => rfl
  | cons h t ih => rw [List.any_cons, List.any_cons, ih, h.1]
theorem KV.repl {kvs : List (κ × V)} {vs : List (κ × Value)} (r : KV kvs vs) (k : κ) {y : V} {u : Value} (ry : RelV y u) :
    KV (kvs.map fun kv => if kv.1 = k then (kv.1, y) else kv) (vs.map fun kv => if kv.1 = k then (kv.1, u) else kv) := by
  unfold KV at r ⊢
  induction r with
  | nil => exact .nil
  | @cons p q ps qs h t ih =>
    rw [List.map_cons, List.map_cons]
    refine .cons ?_ ih
    obtain ⟨h1, h2⟩ := h
    by_cases e : p.1 = k
    · rw [if_pos e, if_pos (h1.symm.trans e)]; exact ⟨h1, ry⟩
    · rw [if_neg e, if_neg (fun z => e (h1.trans z))]; exact ⟨h1, h2⟩
theorem KV.put {kvs : List (κ × V)} {vs : List (κ × Value)} (r : KV kvs vs) (k : κ) {y : V} {u : Value} (ry : RelV y u) : KV (putK kvs k y) (stored vs k u) := by
  unfold putK stored
  rw [r.any k]
  by_cases e : (vs.any fun kv => decide (kv.1 = k)) = true
  · rw [if_pos e, if_pos e]; exact r.repl k ry
  · rw [if_neg e, if_neg e]; exact Paired.snoc r ⟨rfl, ry⟩
theorem KV.drop {kvs : List (κ × V)} {vs : List (κ × Value)} (r : KV kvs vs) (k : κ) : KV (dropK kvs k) (without vs k) := by
  unfold KV at r ⊢
  unfold dropK without
  induction r with
  | nil => exact .nil
  | @cons p q ps qs h t ih =>
    obtain ⟨h1, h2⟩ := h
    rw [List.filter_cons, List.filter_cons]
    by_cases e : p.1 = k
    · have a : ¬ decide (p.1 ≠ k) = true := by simp [e]
      have b : ¬ decide (q.1 ≠ k) = true := by simp [h1.symm.trans e]
      rw [if_neg a, if_neg b]; exact ih
    · have e' : ¬ q.1 = k := fun z => e (h1.trans z)
      have a : decide (p.1 ≠ k) = true := by simp [e]
      have b : decide (q.1 ≠ k) = true := by simp [e']
      rw [if_pos a, if_pos b]; exact .cons ⟨h1, h2⟩ ih
theorem KV.keys {kvs : List (κ × V)} {vs : List (κ × Value)} (r : KV kvs vs) : kvs.map (·.1) = vs.map (·.1) := by
  unfold KV at r
  induction r with
  | nil => rfl
  | cons h t ih => rw [List.map_cons, List.map_cons, ih, h.1]
theorem KV.length {kvs : List (κ × V)} {vs : List (κ × Value)} (r : KV kvs vs) : kvs.length = vs.length := Paired.length r
end


/-! ### a tracked dict, its keys ints and texts or tuples of these -/
theorem kV_is {P : Program} {w : World} {k : Key} {u : Value} (r : RelV (kV k) u) : (mixKind P w).is k u = true := by
  cases k with
  | inl i => obtain ⟨t, e⟩ := (show ∃ t, u = Value.int i t from r); subst e; exact mixKind_int P w i t
  | inr x => obtain ⟨t, e⟩ := (show ∃ t, u = Value.str x t from r); subst e; exact mixKind_str P w x t
theorem items_are {P : Program} {w : World} : ∀ {ks : List Key} {us : List Value}, Vals (ks.map kV) us → ItemsAre (mixKind P w) ks us
  | [], _, r => by rw [List.map_nil] at r; cases r; exact .nil
  | k :: ks, _, r => by
    rw [List.map_cons] at r
    cases r with
    | cons h t => exact .cons (kV_is h) (items_are t)

/-- raw entries of a dict with tuple keys -/
abbrev KT (H : Hp) : List (List Key × V) → List (List Key × Addr × Value) → Prop := Paired fun p q => p.1 = q.1 ∧ H q.2.1 = some (.tup (p.1.map kV)) ∧ RelV p.2 q.2.2
theorem KT.val {H : Hp} {kvs : List (List Key × V)} {xs : List (List Key × Addr × Value)} (r : KT H kvs xs) (k : List Key) : RelO (valV kvs k) ((atKey xs k).map (·.2)) := by
  induction r with
  | nil => exact True.intro
  | @cons p q ps qs h t ih =>
    obtain ⟨h1, _, h2⟩ := h
    by_cases e : p.1 = k
    · have e' : q.1 = k := h1.symm.trans e
      have b : atKey (q :: qs) k = some q.2 := by simp [atKey, List.find?_cons, e']
      rw [valV_pos e, b]; exact h2
    · have e' : ¬ q.1 = k := fun z => e (h1.trans z)
      have b : atKey (q :: qs) k = atKey qs k := by simp [atKey, List.find?_cons, e']
      rw [valV_neg e, b]; exact ih
theorem KT.repl {H : Hp} {kvs : List (List Key × V)} {xs : List (List Key × Addr × Value)} (r : KT H kvs xs) (k : List Key) {y : V} {u : Value} (ry : RelV y u) :
    KT H (kvs.map fun kv => if kv.1 = k then (kv.1, y) else kv) (xs.map (putAt k u)) := by
  induction r with
  | nil => exact .nil
  | @cons p q ps qs h t ih =>
    rw [List.map_cons, List.map_cons]
    refine .cons ?_ ih
    obtain ⟨h1, h2, h3⟩ := h
    unfold putAt
    by_cases e : p.1 = k
    · rw [if_pos e, if_pos (h1.symm.trans e)]; exact ⟨h1, h2, ry⟩
    · rw [if_neg e, if_neg (fun z => e (h1.trans z))]; exact ⟨h1, h2, h3⟩
theorem KT.put {H : Hp} {kvs : List (List Key × V)} {xs : List (List Key × Addr × Value)} (r : KT H kvs xs) (k : List Key) {b : Addr} {y : V} {u : Value} (hb : H b = some (.tup (k.map kV))) (ry : RelV y u) :
    KT H (putK kvs k y) (storedH xs k b u) := by
  have e : (kvs.any fun kv => decide (kv.1 = k)) = (atKey xs k).isSome := by
    rw [valV_any, (r.val k).isSome_eq, Option.isSome_map]
  unfold putK storedH
  rw [e]
  by_cases q : (atKey xs k).isSome = true
  · rw [if_pos q, if_pos q]; exact r.repl k ry
  · rw [if_neg q, if_neg q]; exact Paired.snoc r ⟨rfl, hb, ry⟩
theorem KT.keeps {H H' : Hp} {kvs : List (List Key × V)} {xs : List (List Key × Addr × Value)} (r : KT H kvs xs) (ht : ∀ b ys, H b = some (.tup ys) → H' b = some (.tup ys)) : KT H' kvs xs :=
  Paired.mapP r fun _ _ z => ⟨z.1, ht _ _ z.2.1, z.2.2⟩

section
variable {P : Program} {w : World} {H : Hp} {h : Heap} {a : Addr}
theorem rd_of {u : HO} (ok : HOk P w H h) (e : Rd H a u) : ObjOk P w H h a u := e.ok ok
theorem dk_rd {kvs : List (Key × V)} (ok : HOk P w H h) (e : Rd H a (.dK kvs)) : kvs.length ≤ sizeLine ∧ (a == sysModules) = false ∧ ∃ vs, KV kvs vs ∧ h.DictOf (mixKind P w) a vs :=
  show ObjOk P w H h a (.dK kvs) from rd_of ok e
theorem dk_of {kvs : List (Key × V)} (ok : HOk P w H h) (e : H a = some (.dK kvs)) : kvs.length ≤ sizeLine ∧ (a == sysModules) = false ∧ ∃ vs, KV kvs vs ∧ h.DictOf (mixKind P w) a vs := dk_rd ok (.inl e)
/-- a tracked tuple of ints and texts is a key -/
theorem key_of {ks : List Key} (ok : HOk P w H h) (e : H a = some (.tup (ks.map kV))) : (tupleKind (mixKind P w)).is h ks a := by
  obtain ⟨_, its, r, o, h1, h2, n, h3⟩ := (show ObjOk P w H h a (.tup (ks.map kV)) from ok a _ e)
  exact ⟨o, its.toArray, n, h1, h2, h3, by simpa using items_are r⟩
theorem dt_rd {kvs : List (List Key × V)} (ok : HOk P w H h) (e : Rd H a (.dT kvs)) : kvs.length ≤ sizeLine ∧ (a == sysModules) = false ∧
    ∃ xs, KT H kvs xs ∧ h.DictOfH (tupleKind (mixKind P w)) a xs := by
  obtain ⟨z, y, xs, r, o, es, ep, h1, h2, h3, h4, h5⟩ := (show ObjOk P w H h a (.dT kvs) from rd_of ok e)
  refine ⟨z, y, xs, r, o, es, ep, h1, h2, h3, h4, fun x hx => ?_, h5⟩
  have all : ∀ {l : List (List Key × V)} {m : List (List Key × Addr × Value)}, KT H l m → ∀ x ∈ m, (tupleKind (mixKind P w)).is h x.1 x.2.1 := by
    intro l m q
    induction q with
    | nil => intro x hx; exact nomatch hx
    | @cons p q ps qs hq t ih =>
      intro x hx
      rcases List.mem_cons.mp hx with e | hx
      · subst e
        exact key_of ok (by rw [← hq.1]; exact hq.2.1)
      · exact ih x hx
  exact all r x hx
end

/-- what the dict at a holds at the key y -/
def DGet (H : Hp) (a : Addr) (y : V) (r : Option V) : Prop :=
  (∃ kvs k, Rd H a (.dK kvs) ∧ y = kV k ∧ r = valV kvs k) ∨ ∃ kvs k b, Rd H a (.dT kvs) ∧ y = .ref b ∧ H b = some (.tup (k.map kV)) ∧ r = valV kvs k
/-- the heap behind a[y] = v -/
def DPut (H : Hp) (a : Addr) (y v : V) (H' : Hp) : Prop :=
  (∃ kvs k, H a = some (.dK kvs) ∧ y = kV k ∧ kvs.length < sizeLine ∧ H' = upd H a (.dK (putK kvs k v))) ∨
  ∃ kvs k b, H a = some (.dT kvs) ∧ y = .ref b ∧ H b = some (.tup (k.map kV)) ∧ kvs.length < sizeLine ∧ H' = upd H a (.dT (putK kvs k v))
theorem DGet.k {H : Hp} {a : Addr} {kvs : List (Key × V)} {k : Key} (e : H a = some (.dK kvs)) : DGet H a (kV k) (valV kvs k) := .inl ⟨kvs, k, .inl e, rfl, rfl⟩
theorem DGet.t {H : Hp} {a b : Addr} {kvs : List (List Key × V)} {k : List Key} (e : H a = some (.dT kvs)) (eb : H b = some (.tup (k.map kV))) : DGet H a (.ref b) (valV kvs k) := .inr ⟨kvs, k, b, .inl e, rfl, eb, rfl⟩
theorem DPut.k {H : Hp} {a : Addr} {kvs : List (Key × V)} {k : Key} {v : V} (e : H a = some (.dK kvs)) (hl : kvs.length < sizeLine) : DPut H a (kV k) v (upd H a (.dK (putK kvs k v))) := .inl ⟨kvs, k, e, rfl, hl, rfl⟩
theorem DPut.t {H : Hp} {a b : Addr} {kvs : List (List Key × V)} {k : List Key} {v : V} (e : H a = some (.dT kvs)) (eb : H b = some (.tup (k.map kV))) (hl : kvs.length < sizeLine) :
    DPut H a (.ref b) v (upd H a (.dT (putK kvs k v))) := .inr ⟨kvs, k, b, e, rfl, eb, hl, rfl⟩


section
variable {X : Cx} {pins : List (Addr × Obj)} {σ : St} {H : Hp} {s : Shared} {a : Addr} {y v : V} {u r : Value} {o : Option V} {A : Around} {E : Value → Shared → Prop}

theorem Inv.big (I : Inv X pins σ H s) : sysModules < s.heap.objs.size := by
  have h : mainGlobals < s.heap.objs.size := (I.mod.glob.keeps I.bk).lt
  exact Nat.lt_trans (by decide) h

theorem d_notIn {Q : Value → Shared → Prop} (hu : A.units + 1 < cLine) (I : Inv X pins σ H s) (g : DGet H a y o) (ry : RelV y u) (h : ∀ s', Inv X pins σ H s' → Q (.bool (!o.isSome)) s') :
    wpAny (model X.prog X.w) A (compareOp .NotIn u (.ref a)) Q E s := by
  rcases g with ⟨kvs, k, e, ey, l⟩ | ⟨kvs, k, b, e, ey, eb, l⟩
  · subst ey
    obtain ⟨z, hd, vs, rel, dd⟩ := dk_rd I.hok e
    refine wpAny_notIn_of (kV_is ry) hd dd.mapOf ?_
    rw [← (rel.val k).isSome_eq, ← l]
    exact h _ (I.tok _)
  · subst ey
    cases (show u = Value.ref b from ry)
    obtain ⟨z, hd, xs, rel, dd⟩ := dt_rd I.hok e
    refine wpAny_notIn_heap (tupleKind_room_in1 hu) (key_of I.hok eb) hd dd ?_
    have q := (rel.val k).isSome_eq
    rw [Option.isSome_map] at q
    rw [← q, ← l]
    exact h _ (I.tok _)
end

section
variable {X : Cx} {pins : List (Addr × Obj)} {σ : St} {H : Hp} {s : Shared} {a : Addr} {kvs : List (Key × V)} {k : Key} {u : Value} {A : Around} {E : Value → Shared → Prop}
end


/-! ### readings and rules -/
def tDNotIn (ty td : TE) : TE := fun σ H Q => ty σ H fun y H1 => td σ H1 fun x H2 => ∃ a o, x = .ref a ∧ DGet H2 a y o ∧ Q (.bl (!o.isSome)) H2
section
variable {X : Cx} {o i e value : Expr} {pos pos' tpos : Pos} {td ty tv : TE}
theorem pc_dnotin (hu : X.A.units + 1 < cLine) (hi : PE X i ty) (ho : PE X o td) : PC X .NotIn i o (tDNotIn ty td) := by
  intro pins s σ H Q I h
  refine thn (hi pins s σ H _ I h) fun iv s1 ⟨y, H1, I1, ry, q1⟩ => thn (ho pins s1 σ H1 _ I1 q1) fun u s2 ⟨x, H2, I2, rx, a, ov, ex, g, q2⟩ => ?_
  subst ex
  obtain rfl : u = Value.ref a := rx
  exact d_notIn hu I2 g ry fun s3 I3 => ⟨.bl (!ov.isSome), H2, I3, rfl, q2⟩
end


/-! ### displays -/
theorem dk_empty {P : Program} {w : World} {H : Hp} (h : Heap) (hb : sysModules < h.objs.size) : ObjOk P w H (h.push { cls := .type "dict", data := .dict #[] }) h.objs.size (.dK []) :=
  ⟨Nat.zero_le _, beq_eq_false_iff_ne.mpr (Ne.symm (Nat.ne_of_lt hb)), [], .nil, Heap.DictOf.new h⟩
/-- {}, to be a dict of the kind that is wanted -/
def tDNewK : TE := fun _ H Q => ∀ p, H p = none → Q (.ref p) (upd H p (.dK []))
section
variable {X : Cx} {pos : Pos}
theorem pe_dnewK : PE X (.Dict [] [] pos) tDNewK := fun pins s σ H Q I h =>
  wpAny_Dict_empty ⟨.ref s.heap.objs.size, _, I.laid (a := s.heap.objs.size) (o := .dK []) (t' := s.toks) (fun _ _ q => Heap.get?_push_of_some _ q) (Nat.le_refl _) (dk_empty s.heap I.big), rfl, h _ (I.hok.fresh (Nat.le_refl _))⟩
end

end L2
set_option Elab.async false
set_option linter.all false
set_option maxRecDepth 100000
set_option maxHeartbeats 4000000
namespace Kp
open PySem L2 PySem.Spec PyProof.Rows
end Kp
set_option Elab.async false
set_option linter.all false
set_option maxRecDepth 100000
set_option maxHeartbeats 4000000
namespace Kp
open PySem L2
/-! ### things without lists: they stay while tuples stay -/
mutual
inductive ThN (B : Nat) (H : Hp) : V → Prop
  | non : ThN B H .non
  | bl (b : Bool) : ThN B H (.bl b)
  | int (i : Int) : ThN B H (.int i)
  | str (x : Str) (h : x.length ≤ B) : ThN B H (.str x)
  | tup {a : Addr} {vs : List V} (e : H a = some (.tup vs)) (l : vs.length ≤ B) (r : ThNL B H vs) : ThN B H (.ref a)
inductive ThNL (B : Nat) (H : Hp) : List V → Prop
  | nil : ThNL B H []
  | cons {v : V} {vs : List V} (h : ThN B H v) (t : ThNL B H vs) : ThNL B H (v :: vs)
end
mutual
theorem ThN.sameT {B B' : Nat} {H H' : Hp} (hB : B ≤ B') (s : SameT H H') : ∀ {v}, ThN B H v → ThN B' H' v
  | _, .non => .non
  | _, .bl b => .bl b
  | _, .int i => .int i
  | _, .str x h => .str x (Nat.le_trans h hB)
  | _, .tup e l r => .tup (s _ _ e) (Nat.le_trans l hB) (ThNL.sameT hB s r)
theorem ThNL.sameT {B B' : Nat} {H H' : Hp} (hB : B ≤ B') (s : SameT H H') : ∀ {vs}, ThNL B H vs → ThNL B' H' vs
  | _, .nil => .nil
  | _, .cons h t => .cons (ThN.sameT hB s h) (ThNL.sameT hB s t)
end
mutual
theorem ThN.th {B : Nat} {H : Hp} : ∀ {v}, ThN B H v → Th B H v
  | _, .non => Th.non
  | _, .bl b => Th.bl b
  | _, .int i => Th.int i
  | _, .str x h => Th.str x h
  | _, .tup e l r => Th.tup e l (ThNL.th r)
theorem ThNL.th {B : Nat} {H : Hp} : ∀ {vs}, ThNL B H vs → ThL B H vs
  | _, .nil => ThL.nil
  | _, .cons h t => ThL.cons (ThN.th h) (ThNL.th t)
end
theorem sameT_of {H H' : Hp} (s : Same H H') : SameT H H' := fun b xs e => s _ _ e
theorem ThN.mono {B B' : Nat} {H H' : Hp} {v : V} (h : ThN B H v) (hB : B ≤ B') (s : Same H H') : ThN B' H' v := ThN.sameT hB (sameT_of s) h
theorem ThNL.mono {B B' : Nat} {H H' : Hp} {v : List V} (h : ThNL B H v) (hB : B ≤ B') (s : Same H H') : ThNL B' H' v := ThNL.sameT hB (sameT_of s) h
theorem ThNL.ints {B : Nat} {H : Hp} : ∀ (ns : List Int), ThNL B H (ns.map V.int)
  | [] => .nil
  | n :: r => .cons (.int n) (ThNL.ints r)
theorem ThNL.of {B : Nat} {H : Hp} : ∀ {vs : List V}, (∀ v ∈ vs, ThN B H v) → ThNL B H vs
  | [], _ => .nil
  | v :: vs, h => .cons (h v List.mem_cons_self) (ThNL.of fun u hu => h u (List.mem_cons_of_mem _ hu))
end Kp
set_option Elab.async false
set_option linter.all false
set_option maxRecDepth 100000
set_option maxHeartbeats 4000000
namespace HT
open PySem PySem.Spec PyProof.Rows L2
section
variable {prog : Program} {w : World} {A : Around} {E : Value → Shared → Prop} {s : Shared}
end
end HT
namespace L2
open PySem PySem.Spec PyProof.Rows L2
end L2
set_option Elab.async false
set_option linter.all false
set_option maxRecDepth 100000
set_option maxHeartbeats 4000000
namespace Kp
open PySem L2 PySem.Spec PyProof.Rows
/-! ### the same thing twice: == -/
theorem all_true (n : Nat) : ((List.range n).all fun _ => true) = true := by simp
theorem Vals.at {xs : List V} {us : List Value} (r : Vals xs us) {j : Nat} (h : j < us.toArray.size) : ∃ x, xs[j]? = some x ∧ RelV x us.toArray[j] := by
  have h' : j < us.length := by simpa using h
  have hx : j < xs.length := by rw [r.length]; exact h'
  obtain ⟨u, e, rv⟩ := r.get (i := j) (x := xs[j]) (by simp [hx])
  have e2 : us.toArray[j] = u := by
    have := (List.getElem?_eq_some_iff.mp e).2
    simpa using this
  exact ⟨xs[j], by simp [hx], e2 ▸ rv⟩
end Kp
set_option Elab.async false
set_option linter.all false
set_option maxRecDepth 100000
set_option maxHeartbeats 4000000
namespace K1
open PySem L2 Kp
structure Txt (mg : Str → Option Value) : Prop where
  isi : mg "isinstance" = none
  int : mg "int" = none
  bool : mg "bool" = none
  str : mg "str" = none
  tuple : mg "tuple" = none
  list : mg "list" = none
  all : mg "all" = none
  zip : mg "zip" = none
  len : mg "len" = none
  range : mg "range" = none
  max : mg "max" = none
  min : mg "min" = none
  sorted : mg "sorted" = none
  any : mg "any" = none
  sum : mg "sum" = none
section
variable {P : Program} {w : World} {K : PySem.W.Frag} {mg : Str → Option Value} {base : Heap}
theorem SqT.same {H H' : Hp} {a : Addr} {xs : List V} (h : SqT K H a xs) (s : Same H H') : SqT K H' a xs := by
  rcases h with h | h
  · exact .inl (h.elim (fun e => .inl (s _ _ e)) fun ⟨o, e⟩ => .inr ⟨o, s _ _ e⟩)
  · exact .inr h
theorem SqL.same {H H' : Hp} {a : Addr} {xs : List V} (h : SqL K H a xs) (s : Same H H') : SqL K H' a xs := by
  rcases h with h | h
  · exact .inl (h.elim (fun e => .inl (s _ _ e)) fun ⟨o, e⟩ => .inr ⟨o, s _ _ e⟩)
  · exact .inr h
def spCell (K : PySem.W.Frag) : Sp := fun vs H Q _ => ∃ (a : Addr) (ns : List Int) (k : Int), vs = [.ref a, .int k] ∧ SqL K H a (ns.map V.int) ∧ 0 ≤ k ∧ ∀ z, Q (.int z) H
theorem scC : FnScope ["_law_script", "_law_k"] ["_law_script", "_law_k"] (defScope sCell) := ⟨rfl, rfl, rfl, by decide +kernel, rfl, by decide +kernel, by decide +kernel⟩
theorem ok_cell {f : Addr} {fd : FuncData} (F : Fun K "_law_cell_at" "_law_cell_at" sCell f fd) (T : Txt mg) : FnOk P w K mg base CX0 1 f fd ["_law_script", "_law_k"] (spCell K) := by
  refine F.ok scC (fun vs H Q E ⟨_, _, _, e, _⟩ => by subst e; rfl) (fun cdv A outer s H vs Q E hr h => ?_)
  obtain ⟨a, ns, k, rfl, hS, h0, q⟩ := h
  refine ⟨_, pss_cons (ps_if (pt_cmpR op_lt (pv 1) (pe_callB call_len_seq rfl T.len PySem.boot_len (pa_cons (pv 0) pa_nil)) (nomark _)) (pss_one (ps_ret (pe_ix ix_list (pv 0) (pv 1) (fun _ _ => rfl)))) pss_nil) (pss_one (ps_ret pe_int)), ?_⟩
  refine ⟨_, rfl, _, rfl, a, _, rfl, .inl hS, k, _, rfl, rfl, _, rfl, ite2 (fun hlt => ?_) (fun _ => q 0)⟩
  have hlt' : k < ((ns.map V.int).length : Int) := of_decide_eq_true hlt
  obtain ⟨j, rfl⟩ := Int.eq_ofNat_of_zero_le h0
  have hj : j < ns.length := by rw [List.length_map] at hlt'; omega
  exact ⟨_, rfl, _, rfl, a, _, _, .int ns[j], rfl, rfl, hS, atI_nat (by simp [hj]), q _⟩

theorem emod_in (x : Int) {m : Int} (h : 0 < m) : 0 ≤ x % m ∧ x % m < m := ⟨Int.emod_nonneg _ (Int.ne_of_gt h), Int.emod_lt_of_pos _ h⟩
end
end K1
set_option Elab.async false
set_option linter.all false
set_option maxRecDepth 100000
set_option maxHeartbeats 4000000
namespace L2
open PySem PySem.Spec PyProof.Rows
/-! ### rows of ints -/
def isInt (z : Int) : Value → Bool
  | .int i _ => i == z
  | _ => false
end L2
set_option Elab.async false
set_option linter.all false
set_option maxRecDepth 100000
set_option maxHeartbeats 4000000
namespace L2
open PySem PySem.Spec PyProof.Rows
/-! ### a tuple whose methods may be called: it has no dict of its own -/
def TupF (H : Hp) (a : Addr) (ys : List V) : Prop := ∃ o : Obj, H a = some (.frz o (.tup ys)) ∧ o.cls = .type "tuple" ∧ o.dict = none
theorem TupF.sq {K : PySem.W.Frag} {H : Hp} {a : Addr} {ys : List V} (h : TupF H a ys) : SqT K H a ys := by
  obtain ⟨o, e, _⟩ := h
  exact .inl (.inr ⟨o, e⟩)
section
variable {X : Cx}
variable {o e : Expr} {es : List Expr} {to : TE} {t : TA} {name : Str} {apos cpos : Pos} {id : String} {r : V → List V → Hp → VK → Prop}
end
end L2
set_option Elab.async false
set_option linter.all false
set_option maxRecDepth 100000
set_option maxHeartbeats 4000000
namespace L2
open PySem PySem.Spec PyProof.Rows
/-! ### rows of ints: remove, sorted -/
section
variable {X : Cx}
end
end L2
namespace K1
open PySem L2 Kp
theorem PS.weakU {X : Cx} {st : Stmt} {t t' : TS} (h : PS X st t) (w : ∀ D σ H, t' D σ H → t D σ H) : PS X st t' := fun pins s σ H D I q => h pins s σ H D I (w D σ H q)
theorem flat_ints (l : List Int) : (l.map V.int).all flatV = true := by
  rw [List.all_eq_true]
  intro x hx
  obtain ⟨c, _, rfl⟩ := List.mem_map.mp hx
  rfl
theorem in_ints (x : Int) : ∀ l : List Int, inV (V.int x) (l.map V.int) = decide (x ∈ l)
  | [] => rfl
  | y :: l => by
    show (decide ((y : Int) = x) || inV (V.int x) (l.map V.int)) = _
    rw [in_ints x l, Bool.eq_iff_iff]
    simp only [Bool.or_eq_true, decide_eq_true_eq, List.mem_cons]
    exact ⟨fun h => h.imp Eq.symm id, fun h => h.imp Eq.symm id⟩
theorem op_inK {X : Cx} {K : PySem.W.Frag} (hK : X.K = K) : OpR X (compareOp .In) (rIn K false) := by subst hK; exact op_in_seq
end K1
set_option Elab.async false
set_option linter.all false
set_option maxRecDepth 100000
set_option maxHeartbeats 4000000
namespace L2
open PySem PySem.Spec PyProof.Rows
/-! ### two tuples of flat things compared -/
section
variable {X : Cx}
theorem eqVs_min : ∀ {xs ys : List V}, ((List.range (min xs.length ys.length)).all (fun j => eqV (xs.getD j .non) (ys.getD j .non)) && xs.length == ys.length) = eqVs xs ys := fun {xs ys} => by
  by_cases h : xs.length = ys.length
  · rw [h, Nat.min_self, beq_self_eq_true, Bool.and_true, ← h, eqVs_range h]
  · rw [eqVs_len h]
    have : (xs.length == ys.length) = false := by simpa using h
    rw [this, Bool.and_false]
theorem flat_at {pins : List (Addr × Obj)} {σ : St} {H : Hp} {s : Shared} {xs ys : List V} {its jts : List Value} (A : Around) (r1 : Vals xs its) (r2 : Vals ys jts) (f1 : xs.all flatV = true) (f2 : ys.all flatV = true) (j : Nat) (g1 : j < its.toArray.size) (g2 : j < jts.toArray.size) :
    SeqAt.EqAt A s its.toArray[j] jts.toArray[j] (eqV (xs.getD j .non) (ys.getD j .non)) := by
  have j1 : j < xs.length := by rw [r1.length]; simpa using g1
  have j2 : j < ys.length := by rw [r2.length]; simpa using g2
  obtain ⟨u1, e1, ru1⟩ := r1.get (i := j) (x := xs[j]) (by simp [j1])
  obtain ⟨u2, e2, ru2⟩ := r2.get (i := j) (x := ys[j]) (by simp [j2])
  have z1 : its.toArray[j] = u1 := by
    have := (List.getElem?_eq_some_iff.mp e1).2
    simpa using this
  have z2 : jts.toArray[j] = u2 := by
    have := (List.getElem?_eq_some_iff.mp e2).2
    simpa using this
  rw [z1, z2]
  have w1 : xs.getD j .non = xs[j] := by simp [j1]
  have w2 : ys.getD j .non = ys[j] := by simp [j2]
  rw [w1, w2]
  exact eqAt_V ru1 ru2 (List.all_eq_true.mp f1 _ (List.getElem_mem j1)) (List.all_eq_true.mp f2 _ (List.getElem_mem j2))
theorem op_eqU (hu : X.A.units < cLine) : OpR X (compareOp .Eq) (fun x y H Q => ∃ p q xs ys, x = .ref p ∧ y = .ref q ∧ SqT X.K H p xs ∧ SqT X.K H q ys ∧ xs.all flatV = true ∧ ys.all flatV = true ∧ Q (.bl (eqVs xs ys)) H) := by
  intro pins s σ H x y v u Q I rx ry h
  obtain ⟨p, q', xs, ys, rfl, rfl, h1, h2, f1, f2, q⟩ := h
  cases rx
  cases ry
  obtain ⟨its, r1, p1, _⟩ := I.tuple h1
  obtain ⟨jts, r2, p2, _⟩ := I.tuple h2
  refine SeqAt.eq_tupleAt (e := fun j => eqV (xs.getD j .non) (ys.getD j .non)) (show s.heap.IsTuple p its.toArray from p1) (show s.heap.IsTuple q' jts.toArray from p2) hu (flat_at (pins := pins) (σ := σ) (H := H) _ r1 r2 f1 f2) ⟨.bl (eqVs xs ys), H, I, ?_, q⟩
  rw [List.size_toArray, List.size_toArray, ← r1.length, ← r2.length, eqVs_min]; rfl
end
theorem eqVs_ints : ∀ (a b : List Int), eqVs (a.map V.int) (b.map V.int) = decide (a = b)
  | [], [] => rfl
  | [], _ :: _ => rfl
  | _ :: _, [] => rfl
  | x :: xs, y :: ys => by
    show (eqV (V.int x) (V.int y) && eqVs (xs.map V.int) (ys.map V.int)) = _
    rw [eqVs_ints xs ys, Bool.eq_iff_iff]
    simp only [eqV, Bool.and_eq_true, beq_iff_eq, decide_eq_true_eq, List.cons.injEq]
end L2
namespace K1
open PySem L2 Kp
theorem SqT.same' {K : PySem.W.Frag} {H H' : Hp} {a : Addr} {xs : List V} (h : SqT K H a xs) (s : Same H H') : SqT K H' a xs := by
  rcases h with h | h
  · exact .inl (h.elim (fun e => .inl (s _ _ e)) fun ⟨o, e⟩ => .inr ⟨o, s _ _ e⟩)
  · exact .inr h
theorem SqL.same' {K : PySem.W.Frag} {H H' : Hp} {a : Addr} {xs : List V} (h : SqL K H a xs) (s : Same H H') : SqL K H' a xs := by
  rcases h with h | h
  · exact .inl (h.elim (fun e => .inl (s _ _ e)) fun ⟨o, e⟩ => .inr ⟨o, s _ _ e⟩)
  · exact .inr h
end K1
set_option Elab.async false
set_option linter.all false
set_option maxRecDepth 100000
set_option maxHeartbeats 4000000
namespace Kp
open PySem L2 PySem.Spec PyProof.Rows
/-! ### things that are the same at every part, however they are known: == is True -/
inductive Alike (K : PySem.W.Frag) (H : Hp) : Nat → V → V → Prop
  | flat {n : Nat} {v : V} (h : flatV v = true) : Alike K H n v v
  | ref {n : Nat} (a : Addr) : Alike K H n (.ref a) (.ref a)
  | tup {n : Nat} {a b : Addr} {xs ys : List V} (h1 : SqT K H a xs) (h2 : SqT K H b ys) (hl : xs.length = ys.length) (h : ∀ (i : Nat) (x y : V), xs[i]? = some x → ys[i]? = some y → Alike K H n x y) : Alike K H (n + 1) (.ref a) (.ref b)
theorem Alike.self {K : PySem.W.Frag} {H : Hp} {n B : Nat} {v : V} (t : ThN B H v) : Alike K H n v v := by
  cases t with
  | tup e l r => exact .ref _
  | _ => exact .flat rfl
theorem eqV_self {v : V} (h : flatV v = true) : eqV v v = true := by
  cases v with
  | bl b => cases b <;> rfl
  | int i => simp [eqV]
  | str x => simp [eqV]
  | non => rfl
  | _ => cases h
theorem eq_alike {X : Cx} {pins : List (Addr × Obj)} {σ : L2.St} {H : Hp} {s : Shared} (I : Inv X pins σ H s) : ∀ (n : Nat) (v u : V) (uv uu : Value) (A : Around), Alike X.K H n v u → RelV v uv → RelV u uu → A.units + n < cLine → SeqAt.EqAt A s uv uu true := by
  intro n
  induction n with
  | zero =>
    intro v u uv uu A h rv ru hu
    cases h with
    | flat f =>
      have := eqAt_V (A := A) (s := s) rv ru f f
      rw [eqV_self f] at this
      exact this
    | ref a => cases rv; cases ru; exact .same _
  | succ n ih =>
    intro v u uv uu A h rv ru hu
    cases h with
    | flat f =>
      have := eqAt_V (A := A) (s := s) rv ru f f
      rw [eqV_self f] at this
      exact this
    | ref a => cases rv; cases ru; exact .same _
    | @tup _ a b xs ys h1 h2 hl h =>
      cases rv
      cases ru
      by_cases hab : a = b
      · subst hab; exact .same _
      · refine SeqAt.EqAt.of_refs hab ?_
        have hu0 : A.units < cLine := by omega
        obtain ⟨its, q1, p1, _⟩ := I.tuple h1
        obtain ⟨jts, q2, p2, _⟩ := I.tuple h2
        have hl2 : its.toArray.size = jts.toArray.size := by simp [← q1.length, ← q2.length, hl]
        have z := SeqAt.RcAt.tuples (e := fun _ => true) (show s.heap.IsTuple a its.toArray from p1) (show s.heap.IsTuple b jts.toArray from p2) hu0 (fun j g1 g2 => by
          obtain ⟨x, ex, rx⟩ := Vals.at q1 g1
          obtain ⟨y, ey, ry⟩ := Vals.at q2 g2
          exact ih x y _ _ A.in1 (h j x y ex ey) rx ry (by show A.units + 1 + n < cLine; omega))
        rw [all_true, hl2, beq_self_eq_true] at z
        exact z
def rAl (K : PySem.W.Frag) (c : Bool) : R2 := fun x y H Q => ∃ p q xs ys n, x = .ref p ∧ y = .ref q ∧ SqT K H p xs ∧ SqT K H q ys ∧ xs.length = ys.length ∧ (∀ (i : Nat) (x y : V), xs[i]? = some x → ys[i]? = some y → Alike K H n x y) ∧ n ≤ 90 ∧ Q (.bl c) H
def rAlL (K : PySem.W.Frag) (c : Bool) : R2 := fun x y H Q => ∃ p q xs ys n, x = .ref p ∧ y = .ref q ∧ SqL K H p xs ∧ SqL K H q ys ∧ xs.length = ys.length ∧ (∀ (i : Nat) (x y : V), xs[i]? = some x → ys[i]? = some y → Alike K H n x y) ∧ n ≤ 90 ∧ Q (.bl c) H
theorem op_neA {X : Cx} (hu : X.A.units + 100 < cLine) : OpR X (compareOp .NotEq) (rAl X.K false) := by
  intro pins s σ H x y v u Q I rx ry h
  obtain ⟨p, q', xs, ys, n, rfl, rfl, h1, h2, hl, h, hn, q⟩ := h
  cases rx
  cases ry
  obtain ⟨its, q1, p1, _⟩ := I.tuple h1
  obtain ⟨jts, q2, p2, _⟩ := I.tuple h2
  have hl2 : its.toArray.size = jts.toArray.size := by simp [← q1.length, ← q2.length, hl]
  refine SeqAt.RcNeAt.tuples (e := fun _ => true) (show s.heap.IsTuple p its.toArray from p1) (show s.heap.IsTuple q' jts.toArray from p2) (by omega) (fun j g1 g2 => ?_) X.prog X.w X.xe _ ⟨.bl false, H, I, ?_, q⟩
  · obtain ⟨x, ex, rx⟩ := Vals.at q1 g1
    obtain ⟨y, ey, ry⟩ := Vals.at q2 g2
    exact eq_alike I n x y _ _ X.A.in1 (h j x y ex ey) rx ry (by show X.A.units + 1 + n < cLine; omega)
  · rw [all_true, hl2, beq_self_eq_true]; rfl
end Kp
namespace L2
open PySem
theorem Room.units100 {k : Nat} {A : Around} (r : Room k A) : A.units + 100 < cLine := by have := r.un; omega
end L2
set_option Elab.async false
set_option linter.all false
set_option maxRecDepth 100000
set_option maxHeartbeats 4000000
namespace L2
open PySem PySem.Spec PyProof.Rows

/-! ### an exception that leaves a def: it lies in the heap, all untracked things but frames stand in B -/
def CXe (P : Program) (w : World) : CXT := fun outer H s E e s' => ∃ (a : Addr) (cls a0 : Value) (B : Heap) (H1 : Hp), e = .ref a ∧ s'.os = s.os ∧ AllBare s'.gens ∧ Heap.FlyingW B outer a cls a0 s'.heap ∧
  Un (frs outer) [] H H1 s.heap s'.heap ∧ (∀ b o, s.heap.get? b = some o → H b = none → b ∉ frs outer → B.get? b = some o) ∧ (∀ b o, s.heap.get? b = some o → b ∉ frs outer → ∃ o', B.get? b = some o') ∧ HOk P w H1 B ∧ H1 a = none ∧ E cls none H1
theorem ObjOk.there {P : Program} {w : World} {H : Hp} {h : Heap} {a : Addr} {o : HO} (x : ObjOk P w H h a o) : ∃ u, h.get? a = some u := by
  cases o with
  | lst xs => obtain ⟨_, _, _, _, e⟩ := x; exact ⟨_, e⟩
  | tup xs => obtain ⟨_, _, _, o, e, _⟩ := x; exact ⟨_, e⟩
  | dK kvs => obtain ⟨_, _, _, _, o, _, _, e, _⟩ := x; exact ⟨_, e⟩
  | dT kvs => obtain ⟨_, _, _, _, o, _, _, e, _⟩ := x; exact ⟨_, e⟩
  | set S n => obtain ⟨o, _, _, _, e, _⟩ := x; exact ⟨_, e⟩
  | ins C dx fs => obtain ⟨_, _, _, e, _⟩ := x; exact ⟨_, e⟩
  | own y => exact x
  | xd fs => obtain ⟨_, ⟨_, _, _, e, _⟩, _⟩ := x; exact ⟨_, e⟩
  | rng lo hi => obtain ⟨_, _, _, e⟩ := x; exact ⟨_, e⟩
  | frz ob u => obtain ⟨e, _⟩ := x; exact ⟨_, e⟩
  | tbl ps => exact ⟨_, x⟩
  | met f y => exact ⟨_, x⟩
  | ext φ => obtain ⟨_, e, _⟩ := x; exact e
theorem frs_cons {env : Env} {outer : List Env} {L : Addr} (hf : env.frame = some L) : frs (env :: outer) = L :: frs outer := by
  unfold frs; rw [List.filterMap_cons, hf]
section
variable {P : Program} {w : World} {K : PySem.W.Frag} {mg : Str → Option Value} {base : Heap} {N : List Str} {qual : Str} {scope : Scope} {f : Addr} {cd : Value} {A : Around} {outer : List Env} {s : Shared} {H : Hp} {E : XK}
/-- a new exception leaves the def that raises it -/
theorem raiseE {pins : List (Addr × Obj)} {σ : St} {H1 : Hp} {s1 : Shared} {h2 : Heap} {a : Addr} {cls : Value} {args : List Value}
    (I : Inv (cxOf (CXe P w) P w K mg base N qual scope f cd A outer s H E) pins σ H1 s1) (hx : Heap.MadeExcOf s1.heap h2 a cls args) (q : E cls none H1) :
    (cxOf (CXe P w) P w K mg base N qual scope f cd A outer s H E).xe (.ref a) { s1 with heap := h2 } := by
  have hf : (envOfC qual scope s.heap.objs.size f cd).frame = some s.heap.objs.size := rfl
  have hfr : frs ((envOfC qual scope s.heap.objs.size f cd) :: outer) = s.heap.objs.size :: frs outer := frs_cons hf
  have bs : Un (frs outer) [] H H1 s.heap s1.heap := I.base
  have stk : s1.heap.FunFrames base ((envOfC qual scope s.heap.objs.size f cd) :: outer) := I.stack
  have fre : ∀ b ∈ frs ((envOfC qual scope s.heap.objs.size f cd) :: outer), H1 b = none := I.stkFree
  have ne : ∀ {b : Addr} {o : Obj}, s.heap.get? b = some o → b ∉ frs outer → b ∉ frs ((envOfC qual scope s.heap.objs.size f cd) :: outer) := fun {b o} e hb z => by
    rw [hfr] at z
    rcases List.mem_cons.mp z with z | z
    · exact absurd (Heap.lt_size e) (by rw [z]; exact Nat.lt_irrefl _)
    · exact hb z
  have inn : ∀ {b : Addr}, b ∈ frs outer → b ∈ frs ((envOfC qual scope s.heap.objs.size f cd) :: outer) := fun {b} hb => by rw [hfr]; exact List.mem_cons_of_mem _ hb
  have nx : ∀ b : Addr, b ∉ ([] : List Addr) := fun b z => absurd z (by simp)
  have hin : ∀ env ∈ ((envOfC qual scope s.heap.objs.size f cd) :: outer), ∀ b, env.frame = some b → b ∈ frs ((envOfC qual scope s.heap.objs.size f cd) :: outer) := fun env he b hb => List.mem_filterMap.mpr ⟨env, he, hb⟩
  show wpAny (model P w) (A.deeper (envOfC qual scope s.heap.objs.size f cd)) (leaving (envOfC qual scope s.heap.objs.size f cd) (.ref a)) _ _ { s1 with heap := h2 }
  refine wpAny_leaves_madeW (base := PySem.W.hideAll s1.heap (frs ((envOfC qual scope s.heap.objs.size f cd) :: outer))) (h := s1.heap) I.ok.frames hf (fun b o e => PySem.W.of_hideAll _ e) (PySem.W.funFrames_hide stk hin) hx fun h' t fl _ _ ups => ?_
  have ups1 : s1.heap.UpToSlots h' := (Heap.UpToSlots.of_keeps hx.keeps).trans ups
  have covS : ∀ b o, s.heap.get? b = some o → H b = none → b ∉ frs outer → (PySem.W.hideAll s1.heap (frs ((envOfC qual scope s.heap.objs.size f cd) :: outer))).get? b = some o := fun b o e n hb => PySem.W.hideAll_get _ (bs.keep b o e n hb (nx b)) (ne e hb)
  have cov2S : ∀ b o, s.heap.get? b = some o → b ∉ frs outer → ∃ o', (PySem.W.hideAll s1.heap (frs ((envOfC qual scope s.heap.objs.size f cd) :: outer))).get? b = some o' := fun b o e hb => by
    obtain ⟨o1, e1⟩ := bs.there b o e (nx b)
    exact ⟨o1, PySem.W.hideAll_get _ e1 (ne e hb)⟩
  have tr : ∀ b o, H1 b = some o → b ∉ frs ((envOfC qual scope s.heap.objs.size f cd) :: outer) := fun b o e z => by rw [fre b z] at e; cases e
  have hok : HOk P w H1 (PySem.W.hideAll s1.heap (frs ((envOfC qual scope s.heap.objs.size f cd) :: outer))) := fun b o e => by
    refine (I.hok b o e).stay (fun c u hc g => PySem.W.hideAll_get _ g ?_) (fun _ q => q) fun _ _ q => q
    rcases hc with rfl | hc
    · exact tr _ _ e
    · exact tr _ _ hc
  have ha : H1 a = none := by
    cases e : H1 a with
    | none => rfl
    | some o =>
      obtain ⟨u, hu⟩ := (I.hok a o e).there
      rw [hx.new] at hu
      cases hu
  refine ⟨a, cls, .ref t, _, H1, rfl, I.os, I.bare, fl, ⟨fun b o e n hb _ => fl.1 _ _ (covS b o e n hb), fun b o e n hb _ => ?_, bs.free, fun b o e _ => ?_, bs.tups, bs.frzs, bs.tbls⟩, covS, cov2S, hok, ha, q⟩
  · obtain ⟨sl1, e1⟩ := bs.slot b o e n hb (nx b)
    obtain ⟨_, o3, e3, nf⟩ := stk.mem (inn hb)
    rw [e1] at e3
    cases e3
    obtain ⟨sl4, e4⟩ := ups1 b _ e1 nf
    exact ⟨sl4, e4⟩
  · by_cases hb : b ∈ frs outer
    · obtain ⟨_, o3, e3, nf⟩ := stk.mem (inn hb)
      obtain ⟨sl4, e4⟩ := ups1 b _ e3 nf
      exact ⟨_, e4⟩
    · obtain ⟨o', e'⟩ := cov2S b o e hb
      exact ⟨o', fl.1 _ _ e'⟩
end

/-! ### the module's own classes of exceptions -/
theorem own_in {K : PySem.W.Frag} {h₀ : Heap} {mg : Str → Option Value} {x : Str} {C : Addr} {bmB : List Value} {newId : String} (X : K.In h₀) (hm : mg x = some (.ref C)) (q : PySem.W.excIn K C bmB newId = true) : OwnCls x C bmB newId mg h₀ := by
  refine ⟨hm, ?_⟩
  unfold PySem.W.excIn at q
  split at q
  · rename_i dd cd sl ho
    split at q
    · rename_i C' bm k0 k1 k2 k3 n k5 hm hs
      simp only [Bool.and_eq_true, beq_iff_eq, Bool.not_eq_true'] at q
      obtain ⟨⟨⟨⟨⟨rfl, rfl⟩, hdel⟩, ht⟩, hok⟩, hni⟩ := q
      obtain ⟨nm, bs, mro, ns, qn, hd, sn, sub, ab, col, del⟩ := cd
      dsimp only at hm hdel hok hni
      subst hm hdel
      have hsl : sl = #[k0, k1, k2, k3, some (.builtin n), k5] := by
        obtain ⟨l⟩ := sl
        simp only at hs
        rw [hs]
      subst hsl
      exact ⟨bm, ns, nm, qn, bs, hd, sn, sub, ab, col, dd, k0, k1, k2, k3, k5, _, X _ _ ho, .of_isNs (PySem.W.isNs_of_in X hok), PySem.W.nsMap_none_of_in X hok hni, PySem.W.tail_of_in X ht⟩
    · cases q
  · cases q
abbrev mroV : List Value := [.type "ValueError", .type "Exception", .type "BaseException", .type "object"]
/-- a context whose exceptions, once made, are wanted as E says -/
def Raises (X : Cx) (E : XK) : Prop := ∀ (pins : List (Addr × Obj)) (σ : St) (H : Hp) (s : Shared) (h' : Heap) (a : Addr) (cls : Value) (args : List Value), Inv X pins σ H s → Heap.MadeExcOf s.heap h' a cls args → E cls none H → X.xe (.ref a) { s with heap := h' }
theorem raises_of {P : Program} {w : World} {K : PySem.W.Frag} {mg : Str → Option Value} {base : Heap} {N : List Str} {qual : Str} {scope : Scope} {f : Addr} {cd : Value} {A : Around} {outer : List Env} {s : Shared} {H : Hp} {E : XK} :
    Raises (cxOf (CXe P w) P w K mg base N qual scope f cd A outer s H E) E := fun _ _ _ _ _ _ _ _ I hx q => raiseE I hx q
def tRaise (C : Addr) (E : XK) (ta : TA) : TS := fun _ σ H => ta σ H fun vs H1 => vs.length ≤ 1000 ∧ E (.ref C) none H1
/-- raise C(..), C a class of the module below ValueError -/
theorem ps_raise {X : Cx} {E : XK} {x : Str} {C : Addr} {np cpos pos : Pos} {e₀ : Expr} {rest : List Expr} {ta : TA} (R : Raises X E) (hc : X.calm = true) (hg : Gl X x) (hm : X.mg x = some (.ref C)) (q : PySem.W.excIn X.K C mroV "ValueError.__new__" = true) (ha : PA X (e₀ :: rest) ta)
    (he : starEach (e₀ :: rest) X.env = (false, eval e₀ X.env) :: starEach rest X.env := by rfl) (hplain : (backTo cpos (starEach rest X.env)).any (·.1) = false := by rfl) (hd : (x == ("__debug__" : Str)) = false := by decide) :
    PS X (.Raise (some (.Call (.Name x np) (e₀ :: rest) [] cpos)) none pos) (tRaise C E ta) := by
  intro pins s σ H D I h
  obtain ⟨tl, N, nm, qn, bs, hdct, sn, sub, ab, col, dd, k0, k1, k2, k3, k5, mN, hC, hN, hni, T⟩ := (own_in (x := x) I.ok.mod.kin hm q).obj
  refine wpAny_Raise_call_subT (C := C) (nm := nm) (q := qn) (N := N) (bs := bs) (bm := tl) (hdct := hdct) (sn := sn) (sub := sub) (ab := ab) (col := col) (dd := dd) (k0 := k0) (k1 := k1) (k2 := k2) (k3 := k3) (k5 := k5)
    PySem.F.excBase_ValueError (mN := mN) (T.hasType PySem.F.excBase_ValueError.hasBase) (I.ok.hd hc) (by rw [he]; show (false || (backTo cpos (starEach rest X.env)).any (·.1)) = false; rw [hplain]; rfl) hni (ld_glob I hg hm ⟨rfl, ?_⟩ hd)
  have h' := ha cpos pins s σ H _ I h
  rw [he] at h' ⊢
  refine Calls.evalArgs_plain (wpAny_mono h' (fun us s₂ ⟨vs, H1, I1, r, hl, qe⟩ => ?_) fun _ _ y => y)
  refine ⟨rfl, ?_, I1.bk _ _ hC, hN.keeps I1.bk, T.keeps I1.bk, fun h2 a hx => R pins σ H1 s₂ h2 a (.ref C) us I1 hx qe⟩
  rw [← r.length]
  have : (1000 : Nat) ≤ sizeLine := by rw [sizeLine_eq]; decide
  exact Nat.le_trans hl this
/-- a def that may raise: the rule for its body -/
theorem _root_.L2.Fun.okE {P : Program} {w : World} {K : PySem.W.Frag} {mg : Str → Option Value} {base : Heap} {x qual : Str} {st : Stmt} {f : Addr} {fd : FuncData} {N ps : List Str} {k : Nat} {sp : Sp} (F : Fun K x qual st f fd) (S : FnScope N ps (defScope st)) (len : ∀ vs H Q E, sp vs H Q E → vs.length = ps.length)
    (hbody : ∀ (cdv : Value) (A : Around) (outer : List Env) (s : Shared) (H : Hp) (vs : List V) (Q : VK) (E : XK), Room k (A.deeper (envOfC qual (defScope st) s.heap.objs.size f cdv)) → sp vs H Q E →
      ∃ t, PSs (cxOf (CXe P w) P w K mg base N qual (defScope st) f cdv A outer s H E) (defBody st) t ∧ t { nx := fun _ H' => Q .non H', rt := Q } (start N vs) H) : FnOk P w K mg base (CXe P w) (k + 1) f fd ps sp := by
  obtain ⟨oc, od, kV, doc, pm, an, cdv, ct, osl, rfl, lk, hcd⟩ := F.ex
  exact fn_of lk hcd S len fun A outer s H vs Q E hr hsp => hbody cdv A outer s H vs Q E hr hsp
end L2
set_option Elab.async false
set_option linter.all false
set_option maxRecDepth 100000
set_option maxHeartbeats 4000000
namespace L2
open PySem PySem.Spec PyProof.Rows

/-- the object at a is an exception of the class cls -/
def clsIs (a : Addr) (cls : Value) : HO := .ext fun h => ∃ o, h.get? a = some o ∧ o.cls = cls
section
variable {X : Cx} {pins : List (Addr × Obj)} {σ : St} {H : Hp} {s : Shared}
theorem land {E : XK} {e : Value} {s' : Shared} (I : Inv X pins σ H s) (h : CXe X.prog X.w X.stack H s E e s') :
    ∃ a cls a0 B H1, e = .ref a ∧ Heap.FlyingW B X.stack a cls a0 s'.heap ∧ H1 a = none ∧ E cls none H1 ∧
      ∀ h', Heap.FlyingW B X.stack a cls a0 h' → s'.heap.UpToSlots h' → Inv X pins σ (upd H1 a (clsIs a cls)) { s' with heap := h' } := by
  obtain ⟨a, cls, a0, B, H1, rfl, os, bare, fl, un, cov, cov2, hok, ha, q⟩ := h
  refine ⟨a, cls, a0, B, H1, rfl, fl, ha, q, fun h' fl2 ups => ?_⟩
  have nx : ∀ b : Addr, b ∉ ([] : List Addr) := fun b z => absurd z (by simp)
  have fmem := fl.2.2.1
  have ne : ∀ {b : Addr} {o : HO}, H1 b = some o → b ≠ a := fun {b o} e z => by rw [z, ha] at e; cases e
  obtain ⟨oe, vs, hoe, hoec, hoed, _⟩ := fl2.first
  have notF : a ∉ frs X.stack := fun z => by
    obtain ⟨_, o3, e3, nf⟩ := fl2.2.2.1.mem z
    rw [hoe] at e3
    cases e3
    exact nf vs hoed
  have hok1 : HOk X.prog X.w H1 h' := fun b o e => (hok b o e).stay (fun c u _ g => fl2.1 _ _ g) (fun _ q => q) fun _ _ q => q
  refine I.call' (s' := { s' with heap := h' }) (ch := []) os ⟨fun b o e n hb _ => fl2.1 _ _ (cov b o e n hb), fun b o e n hb _ => ?_, fun b o e n _ => ?_, fun b o e _ => ?_, fun b xs q => ?_, fun b o u q => ?_, fun b ps q => ?_⟩ (fun b o e => ?_) bare fun b z => absurd z (nx b)
  · obtain ⟨sl2, e2⟩ := un.slot b o e n hb (nx b)
    obtain ⟨_, o3, e3, nf⟩ := fmem.mem hb
    rw [e2] at e3
    cases e3
    obtain ⟨sl4, e4⟩ := ups b _ e2 nf
    exact ⟨sl4, e4⟩
  · by_cases z : b = a
    · subst z
      have := cov b o e n notF
      rw [fl2.2.1] at this
      cases this
    · rw [upd_ne z]
      exact un.free b o e n (nx b)
  · by_cases hb : b ∈ frs X.stack
    · obtain ⟨_, o3, e3, nf⟩ := fmem.mem hb
      obtain ⟨sl4, e4⟩ := ups b _ e3 nf
      exact ⟨_, e4⟩
    · obtain ⟨o', e'⟩ := cov2 b o e hb
      exact ⟨o', fl2.1 _ _ e'⟩
  · have := un.tups b xs q
    rw [upd_ne (ne this)]; exact this
  · have := un.frzs b o u q
    rw [upd_ne (ne this)]; exact this
  · obtain ⟨m, h2⟩ := un.tbls b ps q
    exact ⟨m, by rw [upd_ne (ne h2)]; exact h2⟩
  · by_cases z : b = a
    · subst z
      rw [upd_same] at e
      cases e
      refine ⟨⟨oe, hoe, hoec⟩, ⟨oe, hoe⟩, fun h1 h2 ⟨o, e1, e2⟩ k => ⟨o, k o e1, e2⟩⟩
    · rw [upd_ne z] at e
      exact (hok1 b o e).stay (fun c u _ g => g) (fun c q => by rw [upd_ne (ne q)]; exact q) fun c xs q => by rw [upd_ne (ne q)]; exact q

/-- an except suite -/
abbrev Cx.suite (X : Cx) (a : Addr) : Cx := { X with A := X.A.mark (some (.ref a)), calm := false, xe := fun _ _ => False }
theorem Cx.Ok.suite {X : Cx} (ok : X.Ok) (a : Addr) : (X.suite a).Ok :=
  ⟨ok.mod, ok.kind, ok.glob, ok.blt, ok.above, ok.inj, ok.has, ok.cab, (fun z => by cases z), ok.frames, ok.stk, ok.exf, ok.bs, ok.bsz, ok.noex, ok.exfs, ok.funs, ok.frf⟩
theorem Inv.suite (I : Inv X pins σ H s) (a : Addr) : Inv (X.suite a) pins σ H s := ⟨I.ok.suite a, I.os, I.bare, I.base, I.loc, I.cell, I.free, I.freeC, I.pin, I.hok, I.len⟩
theorem Inv.unsuite {a : Addr} (ok : X.Ok) (I : Inv (X.suite a) pins σ H s) : Inv X pins σ H s := ⟨ok, I.os, I.bare, I.base, I.loc, I.cell, I.free, I.freeC, I.pin, I.hok, I.len⟩
theorem SP.unsuite {a : Addr} (ok : X.Ok) {D : Ends} {f : Flow} {s' : Shared} (h : SP (X.suite a) pins D f s') : SP X pins D f s' := by
  cases f with
  | next => obtain ⟨σ', H', I, q⟩ := h; exact ⟨σ', H', I.unsuite ok, q⟩
  | brk => obtain ⟨σ', H', I, q⟩ := h; exact ⟨σ', H', I.unsuite ok, q⟩
  | cont => obtain ⟨σ', H', I, q⟩ := h; exact ⟨σ', H', I.unsuite ok, q⟩
  | ret u => obtain ⟨v, σ', H', I, r, q⟩ := h; exact ⟨v, σ', H', I.unsuite ok, r, q⟩
/-- what is wanted of an exception that a clause «except C» takes -/
def EHnd (K : PySem.W.Frag) (C : Addr) (R : Addr → Hp → Prop) : XK := fun cls _ H => PySem.W.exmOne K cls (.ref C) = some true ∧ ∀ a, H a = none → R a (upd H a (clsIs a cls))
/-- the locals are forgotten (a name of theirs went) -/
theorem Inv.lost {h' : Heap} {m' : Str → Option Value} {tk : Nat} (I : Inv X pins σ H s) (hn : h'.Ns X.env.locals m') (sb : Heap.SameBut X.env.locals s.heap h') : Inv X pins (List.replicate X.N.length none) H { s with heap := h', toks := tk } := by
  have low : ∀ {b : Addr} {o : Obj}, X.s₀.heap.get? b = some o → b ≠ X.env.locals := fun {b o} e => Nat.ne_of_lt (Nat.lt_of_lt_of_le (Heap.lt_size e) I.ok.above)
  refine ⟨I.ok, I.os, I.bare, ⟨fun b o e n hb hx => sb.extBut b o (low e) (I.base.keep b o e n hb hx), fun b o e n hb hx => ?_, I.base.free, fun b o e hx => ?_, I.base.tups, I.base.frzs, I.base.tbls⟩, ⟨m', hn, fun i x v _ e2 _ => ?_⟩, fun x c e => ?_, I.free, I.freeC, fun p hp => ?_, ?_, by simp⟩
  · obtain ⟨sl, e1⟩ := I.base.slot b o e n hb hx
    exact ⟨sl, sb.extBut b _ (low e) e1⟩
  · obtain ⟨o', e1⟩ := I.base.there b o e hx
    exact ⟨o', sb.extBut b _ (low e) e1⟩
  · rw [List.getElem?_replicate] at e2
    split at e2 <;> cases e2
  · obtain ⟨v, z⟩ := I.cell x c e
    exact ⟨v, z.sameBut sb (I.cne x c e)⟩
  · obtain ⟨e, n, ne, nf, d⟩ := I.pin p hp
    exact ⟨sb.extBut _ _ ne e, n, ne, nf, d⟩
  · exact HOk.but I.hok I.free fun b o hb e => sb.extBut b o hb e
/-- behind a suite whose name went -/
def Ends.lost (D : Ends) (n : Nat) : Ends := { D with nx := fun _ H => D.nx (List.replicate n none) H, bk := fun _ H => D.bk (List.replicate n none) H, ct := fun _ H => D.ct (List.replicate n none) H }
/-- the clause takes it, with a name -/
theorem caughtAs {x n : Str} {i : Nat} {C : Addr} {np hp : Pos} {b₀ : Stmt} {suite : List Stmt} {rest : List ExceptHandler} {ts : TS} {D : Ends} {e : Value} {s' : Shared} (hst : X.stack = X.env :: X.outer) (hf : X.env.frame = some X.env.locals) (hg : Gl X x) (hm : X.mg x = some (.ref C)) (hN : X.N.Nodup) (hi : X.N[i]? = some n) (hl : X.env.scope.names.lookup n = some .local)
    (hs : ∀ a, PSs (X.suite a) (b₀ :: suite) ts)
    (I : Inv X pins σ H s) (h : CXe X.prog X.w X.stack H s (EHnd X.K C fun a H2 => ts (D.lost X.N.length) (σ.set i (some (.ref a))) H2) e s') (hd : (x == ("__debug__" : Str)) = false := by decide) :
    wpAny (model X.prog X.w) X.A (noteFrame e X.env) (fun _ s₂ => wpAny (model X.prog X.w) X.A (setFlight e none) (fun _ s₃ =>
      wpAny (model X.prog X.w) X.A (handleBy e X.env (.ExceptHandler (some (.Name x np)) (some n) (b₀ :: suite) hp :: rest)) (SP X pins D) X.xe s₃) X.xe s₂) X.xe s' := by
  obtain ⟨a, cls, a0, B, H1, rfl, fl, ha, ⟨hx, q⟩, inv⟩ := land I h
  rw [hst] at fl inv
  have hfr : X.A.frames = some (X.env :: X.outer) := by rw [← hst]; exact I.ok.frames
  refine wpAny_looks_onW hfr hf fl fun h₄ held u4 => ?_
  refine wpAny_landsW held fun h₅ fl5 u5 => ?_
  have J := (inv h₅ fl5 (u4.trans u5)).suite a
  refine wpAny_handleBy_cons (codeAny_handlers_test (ld_glob (X := X.suite a) J hg hm ?_ hd)) (by intro q; cases q)
  obtain ⟨ob, hob, hobc⟩ := fl5.there
  refine PySem.W.exm_one (M := model X.prog X.w) J.kIn (hobc ▸ (PySem.W.Looks.ld hob).andThen .now) hx _ _ _ _ (fun _ _ e => e) (codeAny_handlers_suite_as ?_)
  refine lands_againW fl5 fun h₆ fl6 u6 => ?_
  have J6 := (inv h₆ fl6 ((u4.trans u5).trans u6)).suite a
  refine store_ok (X := X.suite a) (v := .ref a) J6 hN hi (.inl hl) rfl (fun s2 J7 => ?_) (.inr hl)
  refine wpAny_mono (hs a pins _ _ _ (D.lost X.N.length) J7 (q a ha)) (fun f s3 h3 => ?_) fun _ _ z => False.elim z
  have h3' := h3.unsuite I.ok
  have hp' : (X.env.scope.kind == .class || (X.env.scope.kind == .module && X.env.locals != X.env.globals)) = false := by rw [I.ok.kind]; rfl
  have go : ∀ {σ' : St} {H' : Hp}, Inv X pins σ' H' s3 → (∀ h' m' tk, h'.Ns X.env.locals m' → Heap.SameBut X.env.locals s3.heap h' → Inv X pins (List.replicate X.N.length none) H' { s3 with heap := h', toks := tk } → SP X pins D f { s3 with heap := h', toks := tk }) →
      wpAny (model X.prog X.w) X.A (do bindName X.env n .none; unbindBehindTheSuite X.env n hp) (fun _ s₅ => SP X pins D f s₅) X.xe s3 := fun {σ' H'} I3 k => by
    obtain ⟨m, hn, _⟩ := I3.loc
    exact wpAny_nameGoes hl hn hp' fun h' m' hn' sb => k h' m' _ hn' sb (I3.lost hn' sb)
  cases f with
  | next => obtain ⟨σ', H', I3, q3⟩ := h3'; exact go I3 fun h' m' tk _ _ I4 => ⟨_, H', I4, q3⟩
  | brk => obtain ⟨σ', H', I3, q3⟩ := h3'; exact go I3 fun h' m' tk _ _ I4 => ⟨_, H', I4, q3⟩
  | cont => obtain ⟨σ', H', I3, q3⟩ := h3'; exact go I3 fun h' m' tk _ _ I4 => ⟨_, H', I4, q3⟩
  | ret u => obtain ⟨v, σ', H', I3, r3, q3⟩ := h3'; exact go I3 fun h' m' tk _ _ I4 => ⟨v, _, H', I4, r3, q3⟩

end

/-! ### try: return f(..) / x = f(..), with one clause -/
section
variable {X : Cx} {k : Nat} {f C : Addr} {fd : FuncData} {ps : List Str} {sp : Sp} {x y n : Str} {i j : Nat} {p pos rp tp np hp py : Pos} {e : Expr} {es : List Expr} {t : TA} {b₀ : Stmt} {suite : List Stmt} {ts : TS}
end
end L2
set_option Elab.async false
set_option linter.all false
set_option maxRecDepth 100000
set_option maxHeartbeats 4000000
namespace L2
open PySem PySem.Spec PyProof.Rows PySem.W PySem.Builtin PySem.Builtin.ObjectAttr PySem.Builtin.Getset_descriptor
section
variable {prog : Program} {w : World} {A : Around} {E : Value → Shared → Prop} {s : Shared} {K : Frag} {x C : Addr} {R : Result → Shared → Prop} {h : Heap} {g : Array GenState} {d : Drawn} {t : Nat} {os : OsState} {o : Obj} {name : Str}
theorem looks_find_data {M : Model} {a gg : Value} (X : K.In h) (ha : findIn K (.ref C) name = some (some a)) (hg : specialIn K a "__get__" = some (some gg)) (ht : takesIn K a = some true) : Looks M h (find (.ref x) (.ref C) name) (.bind gg a) :=
  (looks_findIn X ha).andThen ((looks_specialIn X hg).andThen ((show Looks M h (dataDescriptor? (some a) (some gg)) (some (gg, a)) from (looks_takesIn X ht).andThen .now).andThen (Looks.tag .now)))
theorem class_getX {tp : Value} (X : K.In s.heap) (L0 : Looks (model prog w) s.heap (typeOf (.ref x)) (.ref C)) (hm : mroIn K C (.type "object") = some true)
    (h : R (.ok (.ret (.ref C))) s) : codeAny (model prog w) A (.call (.builtin "getset_descriptor.__get__") ⟨[.builtin "object.__class__", .ref x, tp], []⟩) R s := by
  obtain ⟨hh, g, dr, t, os⟩ := s
  have L1 := looks_mroIn (M := model prog w) X hm
  refine codeAny_call_builtin KF.slot_gs.plain KF.entry_gs (KF.slot_gs.check _ _ _ _ _ _ _ _ KF.type_class (KF.args_gs _ _ _) ?_)
  unfold Builtin.«getset_descriptor.__get__» descrGet
  rw [dga_obj]
  refine wpAny_bind (wpAny_pure ?_)
  unfold descrGetter descrCheckInstance descrNameAndClass isInstance
  simp only [KF.owner_class]
  repeat lk
  refine ⟨Code.quiet_builtin _ (by decide +kernel), codeAny_builtin KF.entry_class ?_⟩
  unfold Builtin.«object.__class__» shownTypeOf
  repeat lk
  exact h
structure ExcK (K : Frag) (C : Addr) : Prop where
  ga : findIn K (.ref C) "__getattribute__" = some (some (.builtin "BaseException.__getattribute__"))
  gn : findIn K (.ref C) "__getattr__" = some none
  cl : findIn K (.ref C) "__class__" = some (some (.builtin "object.__class__"))
  gt : specialIn K (.builtin "object.__class__") "__get__" = some (some (.builtin "getset_descriptor.__get__"))
  tk : takesIn K (.builtin "object.__class__") = some true
  mo : mroIn K C (.type "object") = some true
  mb : mroIn K C (.type "BaseException") = some true
theorem check_gaX {M : Model} {nameV : Value} {Q : Unit → Shared → Prop} (X : K.In h) (FX : ExcK K C) (L0 : Looks M h (typeOf (.ref x)) (.ref C)) (hq : Q () ⟨h, g, d, t, os⟩) : wpAny M A (checkBuiltinCall "BaseException.__getattribute__" ⟨[.ref x, nameV], []⟩) Q E ⟨h, g, d, t, os⟩ := by
  have hk : builtinKind "BaseException.__getattribute__" = some .slot := by decide +kernel
  have hsplit : splitId "BaseException.__getattribute__" = some ("BaseException", "__getattribute__") := by decide +kernel
  have ha := PySem.F.args_bexc_ga (.ref x) nameV
  have L1 := looks_mroIn (M := M) X FX.mb
  simp only [checkBuiltinCall, hk, hsplit]
  refine wpAny_bind ?_
  unfold isInstance
  repeat (first | lk | wp_step)
  exact hq
theorem class_entryX {tk : Tok} {Q : Fin → Shared → Prop} (X : K.In h) (FX : ExcK K C) (L0 : Looks (model prog w) h (typeOf (.ref x)) (.ref C)) (hq : Q (.done (.ret (.ref C))) ⟨h, g, d, t, os⟩) :
    wpAny (model prog w) A (Builtin.«object.__getattribute__» ⟨[.ref x, .str "__class__" tk], []⟩) Q E ⟨h, g, d, t, os⟩ := by
  have L1 := looks_find_data (M := model prog w) (x := x) X FX.cl FX.gt FX.tk
  unfold Builtin.«object.__getattribute__»
  refine wpAny_bind (wpAny_pure ?_)
  dsimp only
  refine wpAny_bind (wpAny_pure (wpAny_bind (L0.at (wpAny_bind (L1.at ?_)))))
  dsimp only
  unfold bindTo
  refine wpAny_bind ?_
  try refine wpAny_holding ?_
  refine wpAny_call (class_getX (s := ⟨h, g, d, t, os⟩) X L0 FX.mo ?_)
  exact wpAny_pure hq
theorem class_callX {tk : Tok} {R : Result → Shared → Prop} (X : K.In h) (FX : ExcK K C) (L0 : Looks (model prog w) h (typeOf (.ref x)) (.ref C)) (hq : R (.ok (.ret (.ref C))) ⟨h, g, d, t, os⟩) :
    codeAny (model prog w) A (.call (.builtin "BaseException.__getattribute__") ⟨[.ref x, .str "__class__" tk], []⟩) R ⟨h, g, d, t, os⟩ :=
  codeAny_call_builtin PySem.F.excAttr_ValueError.ga.plain PySem.F.entry_bexc_ga (check_gaX X FX L0 (class_entryX X FX L0 hq))
theorem class_byX {tk : Tok} {Q : Value → Shared → Prop} (X : K.In h) (FX : ExcK K C) (hx : h.get? x = some o) (hc : o.cls = .ref C) (hq : Q (.ref C) ⟨h, g, d, t, os⟩) :
    wpAny (model prog w) A (getAttrBy (.ref x) (.str "__class__" tk) false) Q E ⟨h, g, d, t, os⟩ := by
  have L0 : Looks (model prog w) h (typeOf (.ref x)) (.ref C) := hc ▸ (Looks.ld hx).andThen .now
  have L1 := looks_findIn (M := model prog w) X FX.ga
  have L2 := looks_findIn (M := model prog w) X FX.gn
  have f3 := PySem.F.excAttr_ValueError.ga.bind (.ref x)
  have hx2 : (Value.builtin "BaseException.__getattribute__" == Value.builtin "object.__getattribute__") = false := by decide +kernel
  have hx1 : (onTheHeap (Value.ref C) && Value.builtin "BaseException.__getattribute__" == Value.builtin "object.__getattribute__") = false := by rw [hx2]; rfl
  repeat (any_goals (first | assumption | (with_reducible refine Looks.at L0 ?_) | (with_reducible refine Looks.at L1 ?_) | (with_reducible refine Looks.at L2 ?_) | (with_reducible refine wpAny_loadPart_at hx ?_; rw [hc]) | wp_step))
  refine class_callX X FX L0 ?_
  repeat (any_goals (first | assumption | wp_step))
theorem class_attrX {Q : Option Value → Shared → Prop} (X : K.In h) (FX : ExcK K C) (hx : h.get? x = some o) (hc : o.cls = .ref C) (hq : Q (some (.ref C)) ⟨h, g, d, t + 1, os⟩) : wpAny (model prog w) A (getAttr? (.ref x) "__class__") Q E ⟨h, g, d, t, os⟩ := by
  unfold getAttr? getAttrBy?
  repeat (any_goals (first | assumption | with_reducible apply class_byX X FX hx hc | wp_step))
end
theorem kitx_exc {K : Frag} {a C : Addr} (FX : ExcK K C) (hk : (clsIn K C).isSome = true) : KitX K (.ref a) (.ref C) (fun h => ∃ o, h.get? a = some o ∧ o.cls = .ref C) where
  ty := fun M h X ⟨o, hx, hc⟩ => hc ▸ (Looks.ld hx).andThen .now
  it := fun _ _ X _ => by
    obtain ⟨cdD, hcD⟩ := Option.isSome_iff_exists.mp hk
    unfold clsIn at hcD
    split at hcD
    · rename_i c' d' cd' sl' ho
      intro A' Q' E' s' k q
      unfold isType loadHead
      exact wpAny_bind (wpAny_loadPart (k _ _ (X _ _ ho)) (wpAny_pure q))
    · cases hcD
  ne := fun h tp dd its n sl X htp => by
    obtain ⟨cdD, hcD⟩ := Option.isSome_iff_exists.mp hk
    refine Bool.eq_false_iff.mpr fun q => ?_
    have e : C = tp := Value.ref.inj (beq_iff_eq.mp q)
    subst e
    unfold clsIn at hcD
    split at hcD
    · rename_i c' d' cd' sl' ho
      have z := (X _ _ ho).symm.trans htp
      cases z
    · cases hcD
  ca := fun {_ _ _ _ _ s} X ⟨o, hx, hc⟩ k => by
    obtain ⟨h, g, d, t, os⟩ := s
    exact class_attrX X FX hx hc k
theorem vals_refs {X : List Addr} : ∀ {us : List Value}, Vals (X.map V.ref) us → us = X.map Value.ref := by
  induction X with
  | nil => intro us r; cases r; rfl
  | cons a r ih =>
    intro us z
    cases z with
    | cons h t =>
      have e : _ = Value.ref a := h
      rw [e, ih t]; rfl
/-- isinstance(e, C), isinstance(e, T), isinstance(e, (C1, .., Cn)) of an exception e -/
def rIsiX (K : Frag) : List V → Hp → VK → Prop := fun xs H Q => ∃ a C b, H a = some (clsIs a (.ref C)) ∧ ExcK K C ∧ (clsIn K C).isSome = true ∧
  ((∃ c, xs = [.ref a, .ref c] ∧ kitOne K (.ref C) (.ref c) = some b) ∨ (∃ T, xs = [.ref a, .ty T] ∧ kitOne K (.ref C) (.type T) = some b) ∨ ∃ (tp : Addr) (cs : List Addr), xs = [.ref a, .ref tp] ∧ H tp = some (.tup (cs.map V.ref)) ∧ kitAny K (.ref C) (cs.map Value.ref) = some b) ∧ Q (.bl b) H
theorem call_isiX {X : Cx} : CallR X (.builtin "isinstance") (rIsiX X.K) := by
  intro pins s σ H xs us Q I r h
  obtain ⟨a, C, b, ha, FX, hk, hc, q⟩ := h
  obtain ⟨hφ, _, _⟩ := (show ObjOk X.prog X.w H s.heap a (clsIs a (.ref C)) from I.hok a _ ha)
  rcases hc with ⟨c, rfl, e⟩ | ⟨T, rfl, e⟩ | ⟨tp, cs, rfl, htp, e⟩
  · obtain ⟨u, u', rfl, rx, rc⟩ := vals2 r
    cases rx
    cases rc
    exact kia_one (kitx_exc FX hk) I.kIn hφ e (fun z => nomatch z) fun tk => ⟨.bl b, H, I.tok tk, rfl, q⟩
  · obtain ⟨u, u', rfl, rx, rc⟩ := vals2 r
    cases rx
    cases rc
    exact kia_one (kitx_exc FX hk) I.kIn hφ e (fun z => nomatch z) fun tk => ⟨.bl b, H, I.tok tk, rfl, q⟩
  · obtain ⟨u, u', rfl, rx, rc⟩ := vals2 r
    cases rx
    cases rc
    obtain ⟨_, its, rv, p⟩ := (show ObjOk X.prog X.w H s.heap tp (.tup (cs.map V.ref)) from I.hok tp _ htp)
    have e2 := vals_refs rv
    subst e2
    obtain ⟨o, h1, h2, n, h3⟩ := p
    obtain ⟨oc, od, odt, osl⟩ := o
    cases h2
    cases h3
    exact kia_tup (kitx_exc FX hk) I.kIn hφ h1 e (fun z => nomatch z) fun tk => ⟨.bl b, H, I.tok tk, rfl, q⟩
end L2
set_option Elab.async false
set_option linter.all false
set_option maxRecDepth 100000
set_option maxHeartbeats 4000000
namespace L2
open PySem PySem.Spec PyProof.Rows
/-! ### defs that are called within an except suite -/
structure RoomH (k : Nat) (A : Around) : Prop where
  dp : A.depth + 3 * k + 5 < recursionLimit
  un : A.units + 16 * k + 200 < cLine
theorem Room.h {k : Nat} {A : Around} (r : Room k A) : RoomH k A := ⟨r.dp, r.un⟩
theorem RoomH.mono {j k : Nat} {A : Around} (r : RoomH k A) (h : j ≤ k) : RoomH j A := ⟨by have := r.dp; omega, by have := r.un; omega⟩
theorem RoomH.deeper {k : Nat} {A : Around} (r : RoomH (k + 1) A) (env : Env) : RoomH k (A.deeper env) :=
  ⟨by have := r.dp; show A.depth + 1 + 3 * k + 5 < _; omega, by have := r.un; show A.units + 3 + 16 * k + 200 < _; omega⟩
theorem RoomH.depth {k : Nat} {A : Around} (r : RoomH k A) : A.depth < recursionLimit := by have := r.dp; omega
theorem RoomH.units0 {k : Nat} {A : Around} (r : RoomH k A) : A.units < cLine := by have := r.un; omega
theorem RoomH.suite {k : Nat} {X : Cx} {a : Addr} (r : RoomH k X.A) : RoomH k (X.suite a).A := ⟨r.dp, r.un⟩
structure FnH (P : Program) (w : World) (K : PySem.W.Frag) (mg : Str → Option Value) (base : Heap) (k : Nat) (f : Addr) (fd : FuncData) (ps : List Str) (sp : Sp) : Prop where
  len : ∀ vs H Q, sp vs H Q E0 → vs.length = ps.length
  run : ∀ (A : Around) (outer : List Env) (s : Shared) (H : Hp) (args : Args) (us : List Value) (vs : List V) (Q : VK), RoomH k A → Env0 P w K mg base A outer s H → BindsTo s fd args (ps.zip us) → Vals vs us → sp vs H Q E0 →
    codeAny (model P w) A (.call (.ref f) args) (CR CX0 outer P w H s Q E0) s
section
variable {P : Program} {w : World} {K : PySem.W.Frag} {mg : Str → Option Value} {base : Heap}
end
section
variable {X : Cx} {k : Nat} {f : Addr} {fd : FuncData} {ps : List Str} {sp : Sp} {x : Str} {p pos : Pos} {e : Expr} {es : List Expr} {t : TA}
end
end L2
set_option Elab.async false
set_option linter.all false
set_option maxRecDepth 100000
set_option maxHeartbeats 4000000
namespace L2
open PySem PySem.Spec PyProof.Rows
/-! ### t + u of two tuples, however they are known -/
end L2
namespace K1
open PySem L2 Kp
/-! ### rows: a base, a last term, entries with their terms -/
inductive Ents (H : Hp) : List V → List Int → Prop
  | nil : Ents H [] []
  | cons {p : Addr} {x : V} {t : Int} {vs : List V} {ts : List Int} : H p = some (.tup [.int t, x]) → ThN 16 H x → Ents H vs ts → Ents H (.ref p :: vs) (t :: ts)
theorem Ents.same {H H' : Hp} (s : Same H H') : ∀ {vs ts}, Ents H vs ts → Ents H' vs ts
  | _, _, .nil => .nil
  | _, _, .cons e t r => .cons (s _ _ e) (t.mono (Nat.le_refl _) s) (Ents.same s r)
theorem Ents.refs {H : Hp} : ∀ {vs : List V} {ts : List Int}, Ents H vs ts → ∀ x ∈ vs, ∃ a, x = .ref a
  | _, _, .nil, x, hx => absurd hx List.not_mem_nil
  | _, _, .cons _ _ r, x, hx => by
    rcases List.mem_cons.mp hx with e | e
    · exact ⟨_, e⟩
    · exact Ents.refs r x e
theorem Ents.length {H : Hp} : ∀ {vs ts}, Ents H vs ts → vs.length = ts.length
  | _, _, .nil => rfl
  | _, _, .cons _ _ r => by rw [List.length_cons, List.length_cons, Ents.length r]
theorem Ents.append {H : Hp} : ∀ {vs ts us rs}, Ents H vs ts → Ents H us rs → Ents H (vs ++ us) (ts ++ rs)
  | _, _, _, _, .nil, r => r
  | _, _, _, _, .cons e t r, q => .cons e t (Ents.append r q)
theorem Ents.get {H : Hp} : ∀ {vs : List V} {ts : List Int} {i : Nat} (h : i < ts.length), Ents H vs ts → ∃ p x, vs[i]? = some (.ref p) ∧ H p = some (.tup [.int ts[i], x]) ∧ ThN 16 H x
  | _, _, _, h, .nil => absurd h (Nat.not_lt_zero _)
  | _, _, 0, _, .cons e t _ => ⟨_, _, rfl, e, t⟩
  | _, _, i + 1, h, .cons _ _ r => Ents.get (i := i) (by simpa using h) r
theorem Ents.take {H : Hp} : ∀ {vs : List V} {ts : List Int} (n : Nat), Ents H vs ts → Ents H (vs.take n) (ts.take n)
  | _, _, 0, _ => by rw [List.take_zero, List.take_zero]; exact .nil
  | _, _, _ + 1, .nil => .nil
  | _, _, n + 1, .cons e t r => .cons e t (Ents.take n r)
theorem Ents.drop {H : Hp} : ∀ {vs : List V} {ts : List Int} (n : Nat), Ents H vs ts → Ents H (vs.drop n) (ts.drop n)
  | _, _, 0, r => r
  | _, _, _ + 1, .nil => .nil
  | _, _, n + 1, .cons _ _ r => Ents.drop n r
structure RowX (K : PySem.W.Frag) (H : Hp) (v : V) (b l : Int) (es : List V) (ts : List Int) : Prop where
  ex : ∃ rb c, v = .ref rb ∧ H rb = some (.tup [.int b, .int l, .ref c]) ∧ H c = some (.tup es)
  ents : Ents H es ts
  few : ts.length ≤ 900
theorem RowX.same {K : PySem.W.Frag} {H H' : Hp} {v : V} {b l : Int} {es : List V} {ts : List Int} (r : RowX K H v b l es ts) (s : Same H H') : RowX K H' v b l es ts :=
  let ⟨rb, c, e, h1, h2⟩ := r.ex
  ⟨⟨rb, c, e, s _ _ h1, s _ _ h2⟩, r.ents.same s, r.few⟩
def RowV (K : PySem.W.Frag) (H : Hp) (v : V) (b l : Int) (ts : List Int) : Prop := ∃ es, RowX K H v b l es ts
theorem RowV.same {K : PySem.W.Frag} {H H' : Hp} {v : V} {b l : Int} {ts : List Int} (r : RowV K H v b l ts) (s : Same H H') : RowV K H' v b l ts :=
  let ⟨es, x⟩ := r
  ⟨es, x.same s⟩
theorem ndec {p : Prop} [Decidable p] (h : ¬ decide p = true) : ¬ p := fun g => h (decide_eq_true g)
end K1
set_option Elab.async false
set_option linter.all false
set_option maxRecDepth 100000
set_option maxHeartbeats 4000000
namespace Kp
open PySem L2
/-- a def that may raise -/
structure CalE (P : Program) (w : World) (K : PySem.W.Frag) (mg : Str → Option Value) (base : Heap) (name : Str) (k : Nat) (ps : List Str) (sp : Sp) : Prop where
  ex : ∃ f fd, FnOk P w K mg base (CXe P w) k f fd ps sp ∧ mg name = some (.ref f) ∧ PySem.W.keepIn K (.ref f) = true ∧ Binds K fd ps []
/-- a def that an except suite calls -/
structure CalH (P : Program) (w : World) (K : PySem.W.Frag) (mg : Str → Option Value) (base : Heap) (name : Str) (k : Nat) (ps : List Str) (sp : Sp) : Prop where
  ex : ∃ f fd, FnH P w K mg base k f fd ps sp ∧ mg name = some (.ref f) ∧ PySem.W.keepIn K (.ref f) = true ∧ Binds K fd ps []
theorem CalE.mono {P : Program} {w : World} {K : PySem.W.Frag} {mg : Str → Option Value} {base : Heap} {x : Str} {k k' : Nat} {ps : List Str} {sp : Sp} (C : CalE P w K mg base x k ps sp) (h : k ≤ k') : CalE P w K mg base x k' ps sp :=
  let ⟨f, fd, F, a, b, c⟩ := C.ex
  ⟨⟨f, fd, F.mono h, a, b, c⟩⟩
/-- the classes of refusals, as the module has them -/
structure ExcF (K : PySem.W.Frag) (mg : Str → Option Value) (cP cL c1 c2 c3 c4 : Addr) : Prop where
  mP : mg "NoPlace" = some (.ref cP)
  mL : mg "LogError" = some (.ref cL)
  m1 : mg "NoLetter" = some (.ref c1)
  m2 : mg "NoKeeper" = some (.ref c2)
  m3 : mg "NoRoom" = some (.ref c3)
  m4 : mg "NoSchedule" = some (.ref c4)
  mV : mg "ValueError" = none
  xP : PySem.W.excIn K cP mroV "ValueError.__new__" = true
  ex : PySem.W.exmOne K (.ref cP) (.ref cL) = some true
  ek : ExcK K cP
  ci : (PySem.W.clsIn K cP).isSome = true
  k1 : PySem.W.kitOne K (.ref cP) (.ref cP) = some true
  k2 : PySem.W.kitOne K (.ref cP) (.type "ValueError") = some true
  k3 : PySem.W.kitAny K (.ref cP) ([c1, c2, c3, c4].map Value.ref) = some false
theorem boot_VE : bootBuiltins "ValueError" = some (.type "ValueError") := by decide +kernel
end Kp
namespace K1
open PySem L2 Kp
end K1
set_option Elab.async false
set_option linter.all false
set_option maxRecDepth 100000
set_option maxHeartbeats 4000000
namespace L2
open PySem PySem.Spec PyProof.Rows
/-- an expression whose exceptions are taken here -/
def PEx (X : Cx) (e : Expr) (te : XK → TE) : Prop := ∀ (pins : List (Addr × Obj)) (s : Shared) (σ : St) (H : Hp) (Q : VK) (E : XK) (W : Value → Shared → Prop), Inv X pins σ H s → te E σ H Q →
  (∀ H1 s1 ev s', Inv X pins σ H1 s1 → CXe X.prog X.w X.stack H1 s1 E ev s' → W ev s') → wpAny (model X.prog X.w) X.A (eval e X.env) (EP X pins σ Q) W s
section
variable {X : Cx} {k : Nat} {f C : Addr} {fd : FuncData} {ps : List Str} {sp : Sp} {x m : Str} {p pos apos : Pos} {e o : Expr} {es : List Expr} {ta : TE} {t : TA}
theorem px_meth {pl : Sem Bool} (he : ∀ W, PE (X.wish W) o ta) (c : Cls X.K C) (hm : Meth X.K C m f) (F : FnOk X.prog X.w X.K X.mg X.base (CXe X.prog X.w) k f fd ps sp) (hr : Room k X.A) (hb : Binds X.K fd ps []) (ha : ∀ W, PA (X.wish W) (e :: es) t)
    (hst : starEach (e :: es) X.env = (false, eval e X.env) :: starEach es X.env := by rfl) (hpl : (backTo pos (starEach es X.env)).any (·.1) = false := by rfl)
    (ht : eval (.Call (.Attribute o m apos) (e :: es) [] pos) X.env = (do
      let ov ← eval o X.env
      standAt apos.atName
      let (f, first) ← holding [ov] (getMethod ov m pl)
      callWith pos f first (backTo pos (starEach (e :: es) X.env)) (backToKw pos (keywordEach [] X.env))) := by rfl) :
    PEx X (.Call (.Attribute o m apos) (e :: es) [] pos) (fun E => tMeth C m sp [] E ta t) := by
  intro pins s σ H Q E W I h hW
  refine PySem.W.methodCall_KW (pl := pl) (thn (he W pins s σ H _ (I.wish W) h) fun u s1 ⟨x, H1, I1, rx, a, dx, fs, ex, ea, l, q⟩ => ?_) ht
  subst ex
  obtain rfl : u = Value.ref a := rx
  refine getmeth_ok I1.unwish ea c hm l ?_
  refine PySem.W.callWith_K (first := [.ref a]) (h₀ := X.base) I.ok.mod.kin hm.kp (thn (ha W pos pins s1 σ H1 _ I1 q) fun us s2 ⟨vs, H2, I2, r, q2⟩ => ⟨I2.kIn, ?_⟩) hst hpl
  have I2' : Inv X pins σ H2 s2 := I2.unwish
  have r2 : Vals (V.ref a :: (vs ++ [])) (Value.ref a :: us ++ []) := .cons rfl (r.append .nil)
  have hl : (Value.ref a :: us ++ []).length = ps.length := by rw [← r2.length]; exact F.len _ _ _ _ q2
  refine wpAny_call (codeAny_mono (F.run X.A X.stack s2 H2 ⟨.ref a :: us, []⟩ (.ref a :: us ++ []) (.ref a :: (vs ++ [])) Q E hr I2'.env0 (hb s2 (.ref a :: us) I2'.kIn hl) r2 q2) fun r s' hq => ?_)
  cases r with
  | error e => exact hW H2 s2 e s' I2' hq
  | ok fl =>
    cases fl with
    | ret u => exact I2'.after hq
    | next => exact False.elim hq
    | brk => exact False.elim hq
    | cont => exact False.elim hq
end
/-! ### try: if c: return a; return b, with one clause that has a name -/
section
variable {X : Cx} {C : Addr} {y n : Str} {j : Nat} {ip r1 r2 tp np hp : Pos} {c e1 e2 : Expr} {tc : TT} {t1 t2 : XK → TE} {b₀ : Stmt} {suite : List Stmt} {ts : TS}
end
end L2
set_option Elab.async false
set_option linter.all false
set_option maxRecDepth 100000
set_option maxHeartbeats 4000000
namespace Kp
open PySem L2 PySem.Spec PyProof.Rows
/-! ### a sort of fewer than 64 things whose keys are all unlike, by any kind of comparing -/
abbrev Ord := PyProof.Rows.KeyKind
section
variable {prog : Program} {w : World} {A : Around} {E : Value → Shared → Prop} {s : Shared} {a0 : Array Keyed} {κ : Ord} {kd : SortKind} {st : SortSt}
structure TB (κ : Ord) (kd : SortKind) (a0 : Array Keyed) (st : SortSt) : Prop where
  pm : (arrOf st).Perm a0
  kn : kindOf st = kd
  fl : failedOf st = none
  pe : pendingOf st = #[]
  un : ∀ i j, i < a0.size → j < a0.size → KK κ (arrOf st) i = KK κ (arrOf st) j → i = j
def Up (κ : Ord) (xs : Array Keyed) (k : Nat) : Prop := ∀ i j, i < j → j < k → κ.blt (KK κ xs i) (KK κ xs j) = true
def Dn (κ : Ord) (xs : Array Keyed) (k : Nat) : Prop := ∀ i j, i < j → j < k → κ.blt (KK κ xs j) (KK κ xs i) = true
theorem TB.sz (B : TB κ kd a0 st) : (arrOf st).size = a0.size := B.pm.size_eq
theorem TB.lt (B : TB κ kd a0 st) {i j : Nat} (hi : i < a0.size) (hj : j < a0.size) (hne : i ≠ j) (h : κ.blt (KK κ (arrOf st) i) (KK κ (arrOf st) j) = false) : κ.blt (KK κ (arrOf st) j) (KK κ (arrOf st) i) = true := by
  cases e : κ.blt (KK κ (arrOf st) j) (KK κ (arrOf st) i) with
  | true => rfl
  | false => exact absurd (B.un i j hi hj (κ.total _ _ h e)) hne
theorem Up.more (B : TB κ kd a0 st) {x : Nat} (h1 : 1 ≤ x) (hx : x < a0.size) (u : Up κ (arrOf st) x) (h : κ.blt (KK κ (arrOf st) x) (KK κ (arrOf st) (x - 1)) = false) : Up κ (arrOf st) (x + 1) := by
  intro i j hij hj
  by_cases hjx : j < x
  · exact u i j hij hjx
  · obtain rfl : j = x := by omega
    have t := B.lt hx (by omega) (by omega) h
    by_cases hi : i = j - 1
    · subst hi; exact t
    · exact κ.trans _ _ _ (u i (j - 1) (by omega) (by omega)) t
theorem Dn.more {x : Nat} {xs : Array Keyed} (h1 : 1 ≤ x) (u : Dn κ xs x) (h : κ.blt (KK κ xs x) (KK κ xs (x - 1)) = true) : Dn κ xs (x + 1) := by
  intro i j hij hj
  by_cases hjx : j < x
  · exact u i j hij hjx
  · obtain rfl : j = x := by omega
    by_cases hi : i = j - 1
    · subst hi; exact h
    · exact κ.trans _ _ _ h (u i (j - 1) (by omega) (by omega))
def TD (κ : Ord) (a0 : Array Keyed) (st : SortSt) : Prop := (arrOf st).Perm a0 ∧ failedOf st = none ∧ pendingOf st = #[(0, a0.size, 0)] ∧ Up κ (arrOf st) a0.size
theorem TB.td (B : TB κ kd a0 st) (u : Up κ (arrOf st) a0.size) : TD κ a0 (setPending st ((pendingOf st).push (0, a0.size, 0))) :=
  ⟨B.pm, B.fl, by show (pendingOf st).push _ = _; rw [B.pe]; rfl, u⟩
end
end Kp
set_option Elab.async false
set_option linter.all false
set_option maxRecDepth 100000
set_option maxHeartbeats 4000000
namespace Kp
open PySem L2 PySem.Spec PyProof.Rows
/-! ### sorted(list of tuples that begin with unlike texts) -/
def TupS (h : Heap) (v : Value) (k : Str) : Prop := ∃ (p : Addr) (t : Tok) (xs : List Value), v = .ref p ∧ h.IsTuple p (Value.str k t :: xs).toArray
theorem TupS.kept {h h' : Heap} {v : Value} {k : Str} (x : TupS h v k) (o : ∀ b u, h.get? b = some u → h'.get? b = some u) : TupS h' v k := by
  obtain ⟨p, t, xs, rfl, u, hu, e⟩ := x
  exact ⟨p, t, xs, rfl, u, o _ _ hu, e⟩
section
variable {prog : Program} {w : World} {A : Around} {E : Value → Shared → Prop} {s : Shared}
end
end Kp
set_option Elab.async false
set_option linter.all false
set_option maxRecDepth 100000
set_option maxHeartbeats 4000000
namespace Kp
open PySem L2 PySem.Spec PyProof.Rows
/-- the key of a tuple: its first text, in a heap -/
def headOf (h : Heap) : Value → Option (List Nat)
  | .ref p => match h.get? p with
    | some ⟨_, _, .seq xs _, _⟩ => match (xs[0]? : Option Value) with
      | some (.str k _) => some k.cps.toList
      | _ => none
    | _ => none
  | _ => none
theorem TupS.key {h : Heap} {v : Value} {k : Str} (x : TupS h v k) : headOf h v = some k.cps.toList := by
  obtain ⟨p, t, xs, rfl, ⟨cls, dd, data, sl⟩, ho, hc, n, hd⟩ := x
  simp only at hd
  subst hd
  unfold headOf
  simp only [ho]
  rfl
section
variable {prog : Program} {w : World} {A : Around} {E : Value → Shared → Prop} {s : Shared}
end
end Kp
set_option Elab.async false
set_option linter.all false
set_option maxRecDepth 100000
set_option maxHeartbeats 4000000
namespace Kp
open PySem L2 PySem.Spec PyProof.Rows
/-- a text before another by the alphabet -/
def before (a b : Str) : Prop := a.cps.toList < b.cps.toList
section
variable {X : Cx}
end
end Kp
set_option Elab.async false
set_option linter.all false
set_option maxRecDepth 100000
set_option maxHeartbeats 4000000
namespace Kp
open PySem L2 PySem.Spec PyProof.Rows
/-! ### sorted(dict of texts), sorted(list of texts): rising -/
section
variable {X : Cx}
theorem strs_of_keys {P : Program} {w : World} : ∀ {us : List Value} {ns : List Str}, us.length = ns.length → (∀ (j : Nat) (u : Value), us[j]? = some u → ∃ n, ns[j]? = some n ∧ (mixKind P w).is (Sum.inr n) u = true) → StrsAre us ns
  | [], [], _, _ => .nil
  | [], _ :: _, h, _ => by simp at h
  | _ :: _, [], h, _ => by simp at h
  | u :: us, n :: ns, hl, h => by
    obtain ⟨m, e, hm⟩ := h 0 u rfl
    cases e
    rcases keyIs_shape (show keyIs (Sum.inr n) u = true from hm) with ⟨i, t, a, _⟩ | ⟨x, t, a, rfl⟩
    · cases a
    · cases a
      refine .cons _ _ (strs_of_keys (P := P) (w := w) (by simpa using hl) fun j v hv => h (j + 1) v hv)
end
end Kp
set_option Elab.async false
set_option linter.all false
set_option maxRecDepth 100000
set_option maxHeartbeats 1000000
namespace L2
open PySem PySem.Spec PyProof.Rows
/-! ### max of a list of ints; min of one, with a default -/
section
variable {prog : Program} {w : World} {A : Around} {R : Result → Shared → Prop} {it : Addr} {fp wr : List Addr} {n : Nat} {Pv : Nat → Value → Prop} {St : Nat → Heap → Prop} {dv : Value}
end
section
variable {X : Cx}
end
end L2
namespace K1
open PySem L2 Kp
theorem map_at (ms : List Int) (p : Int → Bool) (f : Int → V) : (((List.range (ms.map V.int).length).filter fun i => p (ms.getD i 0)).map fun i => f (ms.getD i 0)) = (ms.filter p).map f := by
  have e0 : ms = (List.range ms.length).map fun i => ms.getD i 0 := by
    apply List.ext_getElem?
    intro i
    by_cases hi : i < ms.length
    · simp [hi]
    · rw [List.getElem?_eq_none (by omega), List.getElem?_eq_none (by simp; omega)]
  rw [List.length_map]
  conv => rhs; rw [e0]
  rw [List.filter_map, List.map_map]
  rfl
/-- [f x for x in a tuple of ints if p x] -/
theorem comp_fmT {K : PySem.W.Frag} {a : Addr} {ms : List Int} {H1 : Hp} {frs : St} {g : TG} {tt : TT} {te : TE} {Q : VK} (hS : SqT K H1 a (ms.map V.int)) (hn : ms.length ≤ 1000) (p : Int → Bool) (f : Int → V)
    (turn : ∀ (i : Nat) (hi : i < ms.length) t H2 (R : St → Hp → Option V → Prop), Same H1 H2 → t.length = 1 → (∀ t' H', t'.length = 1 → Same H2 H' → R (t' ++ frs) H' (if p ms[i] = true then some (f ms[i]) else none)) →
      g (.int ms[i]) (t ++ frs) H2 fun σ3 H3 => tt σ3 H3 fun b H4 => if b = true then te σ3 H4 fun v H5 => R σ3 H5 (some v) else R σ3 H4 none)
    (hq : ∀ D H', Same H1 H' → H1 D = none → H' D = some (.lst ((ms.filter p).map f)) → Q (.ref D) H') : CompGo (List.replicate 1 none ++ frs) g tt te Q (Itt K a) H1 := by
  refine comp_pure (J := Itt K a) (k := 1) (n := (ms.map V.int).length) (fun i => p (ms.getD i 0)) (fun i => f (ms.getD i 0)) (by rw [List.length_map, sizeLine_eq]; omega) (fun i H3 hi s4 => ⟨_, .int (ms.getD i 0), SqT.same' hS s4, ?_⟩) (fun H3 s4 => ⟨_, SqT.same' hS s4, Nat.le_refl _⟩) ?_ ?_
  · rw [List.length_map] at hi
    simp [hi]
  · intro i H3 t v H4 R hi s4 ht y hR
    obtain ⟨rfl, hy⟩ := y
    have hi' : i < ms.length := by simpa using hi
    have hv := hy _ (SqT.same' hS s4)
    rw [List.getElem?_map, List.getElem?_eq_getElem hi'] at hv
    cases hv
    have eg : ms.getD i 0 = ms[i] := by simp [hi']
    rw [eg] at hR
    exact turn i hi' t H4 R s4 ht hR
  · intro D1 H3 s4 hD hd
    rw [map_at] at hd
    exact hq D1 H3 s4 hD hd
end K1
namespace Kp
open PySem L2
theorem Cal.mono {P : Program} {w : World} {K : PySem.W.Frag} {mg : Str → Option Value} {base : Heap} {x : Str} {k k' : Nat} {ps : List Str} {sp : Sp} (C : Cal P w K mg base x k ps sp) (h : k ≤ k') : Cal P w K mg base x k' ps sp :=
  let ⟨f, fd, F, a, b, c⟩ := C.ex
  ⟨⟨f, fd, F.mono h, a, b, c⟩⟩
end Kp
set_option Elab.async false
set_option linter.all false
set_option maxRecDepth 100000
set_option maxHeartbeats 4000000
namespace Kp
open PySem L2
end Kp
namespace K1
open PySem L2 Kp
/-! ### rows of a store: a name and whole numbers -/
abbrev Rw := Str × List Int
instance (a b : Str) : Decidable (before a b) := inferInstanceAs (Decidable (a.cps.toList < b.cps.toList))
theorem before_irrefl (a : Str) : ¬ before a a := List.lt_irrefl _
theorem before_ne {a b : Str} (h : before a b) : a ≠ b := fun e => before_irrefl _ (e ▸ h)
structure RwOk (W : List Str) (n : Nat) (rs : List Rw) : Prop where
  up : rs.Pairwise fun a b => before a.1 b.1
  inW : ∀ r ∈ rs, r.1 ∈ W
  sz : ∀ r ∈ rs, r.2.length = n
theorem nodup_len : ∀ (l W : List Str), l.Nodup → (∀ x ∈ l, x ∈ W) → l.length ≤ W.length
  | [], _, _, _ => Nat.zero_le _
  | x :: l, W, hn, h => by
    have hx := h x List.mem_cons_self
    rw [List.nodup_cons] at hn
    have := nodup_len l (W.erase x) hn.2 fun y hy => (List.mem_erase_of_ne (fun e : y = x => hn.1 (by rw [← e]; exact hy))).mpr (h y (List.mem_cons_of_mem _ hy))
    rw [List.length_erase_of_mem hx] at this
    have := List.length_pos_of_mem hx
    rw [List.length_cons]
    omega
theorem RwOk.nodup {W : List Str} {n : Nat} {rs : List Rw} (h : RwOk W n rs) : (rs.map (·.1)).Nodup := by
  unfold List.Nodup
  rw [List.pairwise_map]
  exact h.up.imp fun h => before_ne h
theorem RwOk.len {W : List Str} {n : Nat} {rs : List Rw} (h : RwOk W n rs) : rs.length ≤ W.length := by
  have := nodup_len _ W h.nodup fun x hx => by
    obtain ⟨r, hr, rfl⟩ := List.mem_map.mp hx
    exact h.inW r hr
  rwa [List.length_map] at this
/-- a row put at its place by the alphabet -/
def putF (rs : List Rw) (r : Rw) : List Rw := rs.filter (fun x => decide (before x.1 r.1)) ++ r :: rs.filter fun x => decide (before r.1 x.1)
/-- the value that stands at a name -/
def valF (rs : List Rw) (n : Str) : Int := match rs.filter fun r => decide (r.1 = n) with
  | [] => 0
  | r :: _ => r.2.headD 0
inductive Deed | get (n : Str) | set (n : Str) (x : Int) | add (n : Str) (x : Int)
def Deed.nm : Deed → Str
  | .get n => n
  | .set n _ => n
  | .add n _ => n
abbrev Sto := List Rw × List Rw
def doneF (S : Sto) : Deed → Sto × Int
  | .get n => (S, valF S.1 n)
  | .add n x => ((putF S.1 (n, [valF S.1 n + x]), S.2), valF S.1 n + x)
  | .set n x => ((putF S.1 (n, [x]), S.2), valF S.1 n)
structure StoOk (W C : List Str) (S : Sto) : Prop where
  ns : RwOk W 1 S.1
  cs : RwOk C 2 S.2
  ge : ∀ r ∈ S.2, 1 ≤ r.2.headD 0
/-! ### in the heap -/
inductive Rws (H : Hp) : List V → List Rw → Prop
  | nil : Rws H [] []
  | cons {p : Addr} {n : Str} {is : List Int} {vs : List V} {rs : List Rw} : H p = some (.tup (.str n :: is.map V.int)) → Rws H vs rs → Rws H (.ref p :: vs) ((n, is) :: rs)
theorem Rws.sameT {H H' : Hp} (s : SameT H H') : ∀ {vs rs}, Rws H vs rs → Rws H' vs rs
  | _, _, .nil => .nil
  | _, _, .cons e r => .cons (s _ _ e) (Rws.sameT s r)
theorem Rws.same {H H' : Hp} {vs : List V} {rs : List Rw} (h : Rws H vs rs) (s : Same H H') : Rws H' vs rs := h.sameT (sameT_of s)
theorem Rws.length {H : Hp} : ∀ {vs rs}, Rws H vs rs → vs.length = rs.length
  | _, _, .nil => rfl
  | _, _, .cons _ r => by rw [List.length_cons, List.length_cons, Rws.length r]
theorem Rws.get {H : Hp} : ∀ {vs : List V} {rs : List Rw} {i : Nat} (h : i < rs.length), Rws H vs rs → ∃ p, vs[i]? = some (.ref p) ∧ H p = some (.tup (.str (rs[i]).1 :: (rs[i]).2.map V.int))
  | _, _, _, h, .nil => absurd h (Nat.not_lt_zero _)
  | _, _, 0, _, .cons e _ => ⟨_, rfl, e⟩
  | _, _, i + 1, h, .cons _ r => Rws.get (i := i) (by simpa using h) r
theorem Rws.append {H : Hp} : ∀ {vs rs us qs}, Rws H vs rs → Rws H us qs → Rws H (vs ++ us) (rs ++ qs)
  | _, _, _, _, .nil, r => r
  | _, _, _, _, .cons e r, q => .cons e (Rws.append r q)
def RwT (H : Hp) (a : Addr) (rs : List Rw) : Prop := ∃ vs, H a = some (.tup vs) ∧ Rws H vs rs
theorem RwT.same {H H' : Hp} {a : Addr} {rs : List Rw} (h : RwT H a rs) (s : Same H H') : RwT H' a rs := let ⟨vs, e, r⟩ := h; ⟨vs, s _ _ e, r.same s⟩
def StV (H : Hp) (v : V) (S : Sto) : Prop := ∃ s a c, v = .ref s ∧ H s = some (.tup [.ref a, .ref c]) ∧ RwT H a S.1 ∧ RwT H c S.2
theorem StV.same {H H' : Hp} {v : V} {S : Sto} (h : StV H v S) (s : Same H H') : StV H' v S := let ⟨p, a, c, e, h1, h2, h3⟩ := h; ⟨p, a, c, e, s _ _ h1, h2.same s, h3.same s⟩
theorem RwT.alike {K : PySem.W.Frag} {H : Hp} {a c : Addr} {rs : List Rw} (h : RwT H a rs) (h' : RwT H c rs) : Alike K H 2 (.ref a) (.ref c) := by
  obtain ⟨vs, e, r⟩ := h
  obtain ⟨us, e', r'⟩ := h'
  refine .tup (SqT.of e) (SqT.of e') (by rw [r.length, r'.length]) fun i x y hx hy => ?_
  have hi : i < rs.length := by rw [← r.length]; exact (List.getElem?_eq_some_iff.mp hx).1
  obtain ⟨p, g, hp⟩ := r.get hi
  obtain ⟨q, g', hq⟩ := r'.get hi
  rw [g] at hx
  rw [g'] at hy
  cases hx
  cases hy
  refine .tup (SqT.of hp) (SqT.of hq) rfl fun j x y hx hy => ?_
  rw [hx] at hy
  cases hy
  cases j with
  | zero => cases hx; exact .flat rfl
  | succ j =>
    rw [List.getElem?_cons_succ, List.getElem?_map] at hx
    cases e2 : (rs[i]).2[j]? with
    | none => rw [e2] at hx; cases hx
    | some z => rw [e2] at hx; cases hx; exact .flat rfl
def DeedV (H : Hp) (v : V) : Deed → Prop
  | .get n => ∃ p, v = .ref p ∧ H p = some (.tup [.str "get", .str n])
  | .set n x => ∃ p, v = .ref p ∧ H p = some (.tup [.str "set", .str n, .int x])
  | .add n x => ∃ p, v = .ref p ∧ H p = some (.tup [.str "add", .str n, .int x])
theorem DeedV.same {H H' : Hp} {v : V} {d : Deed} (h : DeedV H v d) (s : Same H H') : DeedV H' v d := by
  cases d <;> (obtain ⟨p, e, hp⟩ := h; exact ⟨p, e, s _ _ hp⟩)
end K1
set_option Elab.async false
set_option linter.all false
set_option maxRecDepth 100000
set_option maxHeartbeats 4000000
namespace Kp
open PySem L2 PySem.Spec PyProof.Rows
/-- two lists whose items are alike -/
theorem op_eqAL {X : Cx} (hu : X.A.units + 100 < cLine) : OpR X (compareOp .Eq) (rAlL X.K true) := by
  intro pins s σ H x y v u Q I rx ry h
  obtain ⟨p, q', xs, ys, n, rfl, rfl, h1, h2, hl, h, hn, q⟩ := h
  cases rx
  cases ry
  obtain ⟨its, q1, p1, _⟩ := I.list h1
  obtain ⟨jts, q2, p2, _⟩ := I.list h2
  refine SeqAt.eq_listAt (e := fun _ => true) p1.isList p2.isList (by simp [← q1.length, ← q2.length, hl]) (by omega) (fun j g1 g2 => ?_) ⟨.bl true, H, I, ?_, q⟩
  · obtain ⟨x, ex, rx⟩ := Vals.at q1 g1
    obtain ⟨y, ey, ry⟩ := Vals.at q2 g2
    exact eq_alike I n x y _ _ X.A.in1 (h j x y ex ey) rx ry (by show X.A.units + 1 + n < cLine; omega)
  · rw [all_true]; rfl
/-- a list != [], whatever it holds -/
theorem op_neE {X : Cx} (hu : X.A.units < cLine) : OpR X (compareOp .NotEq) (fun x y H Q => ∃ p q xs, x = .ref p ∧ y = .ref q ∧ SqL X.K H p xs ∧ SqL X.K H q [] ∧ Q (.bl (!xs.isEmpty)) H) := by
  intro pins s σ H x y v u Q I rx ry h
  obtain ⟨p, q', xs, rfl, rfl, h1, h2, q⟩ := h
  cases xs with
  | nil => exact op_neL hu pins s σ H _ _ _ _ Q I rx ry ⟨p, q', [], [], rfl, rfl, h1, h2, rfl, rfl, q⟩
  | cons a r =>
    cases rx
    cases ry
    obtain ⟨its, r1, pl1, _⟩ := I.list h1
    obtain ⟨jts, r2, pl2, _⟩ := I.list h2
    exact SeqAt.RcNeAt.lists_lengths pl1.isList pl2.isList (by simp [← r1.length, ← r2.length]) hu _ _ _ _ ⟨.bl true, H, I, rfl, q⟩
theorem kit_lst (K : PySem.W.Frag) : PySem.W.kitOne K (.type "list") (.type "list") = some true := by with_unfolding_all rfl
end Kp
namespace K1
open PySem L2 Kp
/-! ### a road: what it holds, and the addresses that are its own -/
abbrev Rd := Hp → Addr → (Addr → Prop) → List V → Prop
/-- all but what is owned stays -/
def Keeps (O : Addr → Prop) (H H' : Hp) : Prop := ∀ b o, ¬ O b → H b = some o → H' b = some o
/-- what is owned behind was owned ahead, or is new -/
def Grows (O O' : Addr → Prop) (H : Hp) : Prop := ∀ b, O' b → O b ∨ H b = none
structure RdL (R : Rd) (C : Addr) : Prop where
  frame : ∀ {H H' : Hp} {a : Addr} {O : Addr → Prop} {xs : List V}, R H a O xs → SameT H H' → (∀ b o, O b → H b = some o → H' b = some o) → R H' a O xs
  dom : ∀ {H : Hp} {a : Addr} {O : Addr → Prop} {xs : List V}, R H a O xs → ∀ b, O b → ∃ o, H b = some o
  notT : ∀ {H : Hp} {a : Addr} {O : Addr → Prop} {xs : List V}, R H a O xs → ∀ b vs, O b → H b = some (.tup vs) → False
  ins : ∀ {H : Hp} {a : Addr} {O : Addr → Prop} {xs : List V}, R H a O xs → ∃ dx fs, H a = some (.ins C dx fs) ∧ fs.lookup ("put" : Str) = none ∧ fs.lookup ("look" : Str) = none ∧ fs.lookup ("take" : Str) = none ∧ fs.lookup ("waiting" : Str) = none
theorem RdL.same {R : Rd} {C : Addr} (L : RdL R C) {H H' : Hp} {a : Addr} {O : Addr → Prop} {xs : List V} (r : R H a O xs) (s : Same H H') : R H' a O xs := L.frame r (sameT_of s) fun b o _ e => s _ _ e
theorem RdL.fresh {R : Rd} {C : Addr} (L : RdL R C) {H : Hp} {a b : Addr} {O : Addr → Prop} {xs : List V} (r : R H a O xs) (hb : H b = none) : ¬ O b := fun z => by
  obtain ⟨o, e⟩ := L.dom r b z
  rw [hb] at e
  cases e
def LtOk (H : Hp) (xs : List V) : Prop := ∀ x ∈ xs, ∃ p vs, x = .ref p ∧ H p = some (.tup vs)
theorem LtOk.sameT {H H' : Hp} {xs : List V} (h : LtOk H xs) (s : SameT H H') : LtOk H' xs := fun x hx => let ⟨p, vs, e, hp⟩ := h x hx; ⟨p, vs, e, s _ _ hp⟩
theorem LtOk.same {H H' : Hp} {xs : List V} (h : LtOk H xs) (s : Same H H') : LtOk H' xs := h.sameT (sameT_of s)
theorem LtOk.alike {K : PySem.W.Frag} {H : Hp} {xs : List V} (h : LtOk H xs) : ∀ (i : Nat) (x y : V), xs[i]? = some x → xs[i]? = some y → Alike K H 0 x y := fun i x y e1 e2 => by
  rw [e1] at e2
  cases e2
  obtain ⟨p, vs, rfl, _⟩ := h x (List.mem_of_getElem? e1)
  exact .ref p
def spRInit (R : Rd) (C : Addr) : Sp := fun vs H Q _ => ∃ x dx : Addr, vs = [.ref x] ∧ H x = some (.ins C dx []) ∧ ∀ (O : Addr → Prop) (H' : Hp), R H' x O [] → (∀ b, O b → b = x ∨ H b = none) → (∀ b o, b ≠ x → H b = some o → H' b = some o) → Q .non H'
def spRPut (R : Rd) : Sp := fun vs H Q _ => ∃ (a l : Addr) (O : Addr → Prop) (xs ys : List V), vs = [.ref a, .ref l] ∧ R H a O xs ∧ H l = some (.lst ys) ∧ ¬ O l ∧ LtOk H ys ∧ xs.length + ys.length ≤ 3000 ∧ ∀ (O' : Addr → Prop) (H' : Hp), R H' a O' (xs ++ ys) → Grows O O' H → Keeps O H H' → Q .non H'
def spRLook (R : Rd) (cP : Addr) : Sp := fun vs H Q E => ∃ (a : Addr) (O : Addr → Prop) (xs : List V) (i : Int), vs = [.ref a, .int i] ∧ R H a O xs ∧ LtOk H xs ∧ xs.length ≤ 3000 ∧ (∀ (j : Nat) (x : V), i = (j : Int) → xs[j]? = some x → ∀ H', Same H H' → Q x H') ∧ ((i < 0 ∨ (xs.length : Int) ≤ i) → ∀ H', Same H H' → E (.ref cP) none H')
def spRTake (R : Rd) (cP : Addr) : Sp := fun vs H Q E => ∃ (a : Addr) (O : Addr → Prop) (xs : List V) (i : Int), vs = [.ref a, .int i] ∧ R H a O xs ∧ LtOk H xs ∧ xs.length ≤ 3000 ∧ (∀ (j : Nat) (x : V), i = (j : Int) → xs[j]? = some x → ∀ (O' : Addr → Prop) (H' : Hp), R H' a O' (xs.take j ++ xs.drop (j + 1)) → Grows O O' H → Keeps O H H' → Q x H') ∧ ((i < 0 ∨ (xs.length : Int) ≤ i) → ∀ H', Same H H' → E (.ref cP) none H')
def spRWait (R : Rd) : Sp := fun vs H Q _ => ∃ (a : Addr) (O : Addr → Prop) (xs : List V), vs = [.ref a] ∧ R H a O xs ∧ LtOk H xs ∧ xs.length ≤ 3000 ∧ ∀ (l : Addr) (H' : Hp), H' l = some (.lst xs) → H l = none → Same H H' → Q (.ref l) H'
/-- a class of roads: its methods -/
structure RdM (P : Program) (w : World) (K : PySem.W.Frag) (mg : Str → Option Value) (base : Heap) (R : Rd) (C cP : Addr) (kR : Nat) : Prop where
  cl : Cls K C
  gl : mg "Road" = some (.ref C)
  init : ∃ f fd, Mk K C f ∧ FnOk P w K mg base CX0 kR f fd ["self"] (spRInit R C) ∧ Binds K fd ["self"] []
  put : ∃ f fd p, Meth K C "put" f ∧ FnOk P w K mg base CX0 kR f fd ["self", p] (spRPut R) ∧ Binds K fd ["self", p] []
  look : ∃ f fd p, Meth K C "look" f ∧ FnOk P w K mg base (CXe P w) kR f fd ["self", p] (spRLook R cP) ∧ Binds K fd ["self", p] []
  take : ∃ f fd p, Meth K C "take" f ∧ FnOk P w K mg base (CXe P w) kR f fd ["self", p] (spRTake R cP) ∧ Binds K fd ["self", p] []
  waiting : ∃ f fd, Meth K C "waiting" f ∧ FnOk P w K mg base CX0 kR f fd ["self"] (spRWait R) ∧ Binds K fd ["self"] []
end K1
set_option Elab.async false
set_option linter.all false
set_option maxRecDepth 100000
set_option maxHeartbeats 4000000
namespace HT
open PySem PySem.Spec PyProof.Rows L2
section
variable {prog : Program} {w : World} {A : Around} {E : Value → Shared → Prop} {s : Shared}
theorem adjust_rev (n : Nat) : Builtin.Slice.sliceAdjust none none (-1) (n : Int) = ((n : Int) - 1, -1) := by
  unfold Builtin.Slice.sliceAdjust
  simp
theorem places_rev (n : Nat) : Builtin.Slice.slicePlaces ((n : Int) - 1) (-1) (-1) = n := by
  unfold Builtin.Slice.slicePlaces
  simp
  omega
/-- t[::-1] applied: n places, downwards -/
theorem sliceApplied_rev {sl : Addr} {vk : Value} {n : Nat} {Q : Int × Int × Nat → Shared → Prop} (hs : s.heap.IsSliceOf sl .none .none vk) (pk : IsPart vk (some (-1)))
    (h : Q ((n : Int) - 1, -1, n) s) : wpAny (model prog w) A (Builtin.Slice.sliceApplied (.ref sl) (pure (n : Int))) Q E s := by
  obtain ⟨os, hos, hcs, hds⟩ := id hs
  unfold Builtin.Slice.sliceApplied Builtin.Slice.sliceFields
  refine wpAny_bind (wpAny_bind (wpAny_field hos hds (x := .none) rfl (wpAny_bind (wpAny_field hos hds (x := .none) rfl (wpAny_bind (wpAny_field hos hds (x := vk) rfl (wpAny_pure ?_)))))))
  refine wpAny_bind (slicePart_ pk ?_)
  show wpAny _ _ (if ((-1 : Int) == 0) = true then _ else _) _ _ s
  rw [if_neg (by decide)]
  refine wpAny_bind (slicePart_none (wpAny_bind (slicePart_none (wpAny_bind (wpAny_pure ?_)))))
  show wpAny _ _ (match Builtin.Slice.sliceAdjust none none (-1) (n : Int) with | (lo, hi) => pure (lo, (-1 : Int), Builtin.Slice.slicePlaces lo hi (-1))) _ _ s
  rw [adjust_rev n]
  show wpAny _ _ (pure ((n : Int) - 1, (-1 : Int), Builtin.Slice.slicePlaces ((n : Int) - 1) (-1) (-1))) _ _ s
  rw [places_rev]
  exact wpAny_pure h
theorem fm_congr {α β : Type} {f g : α → Option β} : ∀ {l : List α}, (∀ x ∈ l, f x = g x) → l.filterMap f = l.filterMap g
  | [], _ => rfl
  | x :: l, h => by
    rw [List.filterMap_cons, List.filterMap_cons, h x (List.mem_cons_self ..), fm_congr fun y hy => h y (List.mem_cons_of_mem _ hy)]
theorem pick_rev (xs : Array Value) : ((List.range xs.size).filterMap fun (k : Nat) => xs[(((xs.size : Int) - 1) + (k : Int) * (-1)).toNat]?).toArray = xs.toList.reverse.toArray := by
  have e1 : (List.range xs.size).filterMap (fun (k : Nat) => xs[(((xs.size : Int) - 1) + (k : Int) * (-1)).toNat]?) = (List.range xs.size).filterMap ((fun k => xs[k]?) ∘ fun k => xs.size - 1 - k) := by
    refine fm_congr fun k hk => ?_
    have := List.mem_range.mp hk
    show xs[(((xs.size : Int) - 1) + (k : Int) * (-1)).toNat]? = xs[xs.size - 1 - k]?
    rw [show (((xs.size : Int) - 1) + (k : Int) * (-1)).toNat = xs.size - 1 - k by omega]
  rw [e1, ← List.filterMap_map, PySem.W.krv_range, List.filterMap_reverse, PySem.W.krv_all]
theorem getItem_tuple_rev {t sl : Addr} {items : Array Value} {vk : Value} {Q : Value → Shared → Prop} (ht : IsTup s.heap t items) (hs : s.heap.IsSliceOf sl .none .none vk) (pk : IsPart vk (some (-1)))
    (h : Q (.ref s.heap.objs.size) { s with heap := s.heap.push { cls := .type "tuple", data := .seq items.toList.reverse.toArray } })
    (hsz : items.size ≤ sizeLine) : wpAny (model prog w) A (getItem (.ref t) (.ref sl)) Q E s := by
  have htake : sizeOk (.seq items.toList.reverse.toArray) := by
    show items.toList.reverse.toArray.size ≤ sizeLine
    simpa using hsz
  obtain ⟨os, hos, hcs, hds⟩ := id hs
  have hTs : s.TypeIs (.ref sl) "slice" := ⟨os, hos, hcs⟩
  unfold getItem
  try with_reducible refine wpAny_holding ?_
  first | refine wpAny_bind (wpAny_pure ?_) | skip
  refine wpAny_bind (wpAny_sequenceKey ht.typeIs (by decide) ?_)
  refine wpAny_bind (wpAny_callSpecial?_slot (name := Str.ofString "__getitem__") ht.typeIs PyProof.Rows.slot_tuple_getitem
    (wpAny_call_entry PyProof.Rows.slot_tuple_getitem ht.typeIs entry_tuple_getitem ?_ (args_tuple_getitem _ _)))
  show wpAny _ _ (Builtin.Tuple.tupleItemsOf (.ref t) >>= _) _ _ s
  refine wpAny_bind (tupleItemsOf_ ht ?_)
  refine wpAny_bind (wpAny_typeOf hTs ?_)
  rw [if_pos (by decide)]
  refine wpAny_bind (sliceApplied_rev hs pk ?_)
  have hno : ¬ ((((items.size : Int) - 1) == 0 && (-1 : Int) == 1 && items.size == items.size) = true) := by
    intro q
    rw [Bool.and_eq_true, Bool.and_eq_true] at q
    exact absurd q.1.2 (by decide)
  show wpAny _ _ (if (((items.size : Int) - 1) == 0 && (-1 : Int) == 1 && items.size == items.size) = true then _ else _) _ _ s
  rw [if_neg hno, pick_rev]
  first
    | exact wpAny_bind (m := Builtin.Tuple.tupleExact _) (wpAny_newObj_type (wpAny_pure ⟨_, rfl, wpAny_pure h⟩) htake)
    | exact wpAny_bind (m := Builtin.Tuple.tupleExact _) (wpAny_newObj_type (wpAny_bind (wpAny_pure (wpAny_pure ⟨_, rfl, wpAny_pure h⟩))) htake)
    | exact wpAny_bind (wpAny_bind (m := Builtin.Tuple.tupleExact _) (wpAny_newObj_type (wpAny_pure (wpAny_pure ⟨_, rfl, wpAny_pure h⟩)) htake))
    | exact wpAny_bind (wpAny_bind (m := Builtin.Tuple.tupleExact _) (wpAny_newObj_type (wpAny_pure ⟨_, rfl, wpAny_pure h⟩) htake))
end
end HT
namespace L2
open PySem PySem.Spec PyProof.Rows
/-- t[::-1] of a tuple -/
theorem pe_revT {X : Cx} {e st : Expr} {te : TE} {tk : TO} {p2 pos : Pos} (he : PE X e te) (hk : PO X (some st) tk) : PE X (.Subscript e (.Slice none none (some st) p2) pos) (fun σ H Q => te σ H fun x H1 => tk σ H1 fun o H2 => o = some (-1) ∧ ∃ a xs, x = .ref a ∧ SqT X.K H2 a xs ∧ ∀ p, H2 p = none → Q (.ref p) (upd H2 p (.tup xs.reverse))) := by
  intro pins s σ H Q I h
  refine Subscript_ (thn (he pins s σ H _ I h) fun v s1 ⟨x, H1, I1, r1, q1⟩ => ?_)
  refine wpAny_Slice ?_
  rw [evalPart_none]
  refine wpAny_pure ?_
  refine wpAny_pure ?_
  refine thn (hk pins s1 σ H1 _ I1 q1) fun vk s3 ⟨o, H3, I3, pk, eo, a, xs, ex, hx, q⟩ => ?_
  subst eo ex
  cases r1
  have I4 : Inv X pins σ H3 { s3 with heap := s3.heap.push { cls := .type "slice", data := .fields #[.none, .none, vk] } } := I3.kept (t' := s3.toks) fun b ob q => Heap.get?_push_of_some _ q
  obtain ⟨its, r, ht, hz⟩ := I4.tuple hx
  have hlen : its.toArray.size = xs.length := by rw [List.size_toArray]; exact r.length.symm
  have hg : wpAny (model X.prog X.w) X.A (getItem (.ref a) (.ref s3.heap.objs.size)) (EP X pins σ Q) X.xe { s3 with heap := s3.heap.push { cls := .type "slice", data := .fields #[.none, .none, vk] } } := by
    refine HT.getItem_tuple_rev ht (Heap.IsSliceOf.new ..) pk ?_ (by rw [hlen]; exact hz)
    refine ⟨.ref _, _, I4.laid (o := .tup xs.reverse) (fun b ob q => Heap.get?_push_of_some _ q) (Nat.le_refl _) ?_, rfl, q _ (I4.hok.fresh (Nat.le_refl _))⟩
    exact ⟨by rw [List.length_reverse]; exact hz, _, r.reverse, IsTup.new _ _⟩
  show wpAny (model X.prog X.w) X.A (subscriptTail e (.Slice none none (some st) p2) (.ref a) (.ref s3.heap.objs.size)) (EP X pins σ Q) X.xe { s3 with heap := s3.heap.push { cls := .type "slice", data := .fields #[.none, .none, vk] } }
  exact tail_any (ops := [.ref a, .ref s3.heap.objs.size]) ht.typeIs PyProof.Rows.slot_tuple_getitem.lookup hg (by with_unfolding_all rfl)
end L2
set_option Elab.async false
set_option linter.all false
set_option maxRecDepth 100000
set_option maxHeartbeats 4000000
namespace L2
open PySem PySem.Spec PyProof.Rows
/-- t + u of two tuples that are tracked -/
theorem op_catV {X : Cx} : OpR X (binaryOp .Add) (fun x y H Q => ∃ a b xs ys, x = .ref a ∧ y = .ref b ∧ H a = some (.tup xs) ∧ H b = some (.tup ys) ∧ xs.length + ys.length ≤ sizeLine ∧ ∀ p H', H' p = some (.tup (xs ++ ys)) → Same H H' → Q (.ref p) H') := by
  intro pins s σ H x y v u Q I rx ry h
  obtain ⟨a, b, xs, ys, rfl, rfl, ha, hb, hz, q⟩ := h
  by_cases hx : xs = []
  · subst hx
    cases rx
    cases ry
    obtain ⟨its, r1, p1, _⟩ := I.tuple (SqT.of ha)
    obtain ⟨its2, r2, p2, _⟩ := I.tuple (SqT.of hb)
    have e1 : its = [] := r1.nil_iff.mpr rfl
    obtain ⟨⟨cls, dd, data, sl⟩, ho, hc, n, hd⟩ := id p1
    obtain ⟨⟨cls2, dd2, data2, sl2⟩, ho2, hc2, n2, hd2⟩ := id p2
    simp only at hc hd hc2 hd2
    subst hc hd hc2 hd2
    exact concat_meets ⟨_, ho, rfl⟩ ⟨_, ho2, rfl⟩ noFill_tuple_add seq_tuple_add PySem.F.slot_tuple_add PySem.F.entry_tuple_add (PySem.F.args_tuple_add_2 _ _)
      (tuple_addW0 a b its.toArray its2.toArray n n2 dd dd2 sl sl2 (by simp [e1])) ⟨ho, ho2, ⟨.ref b, H, I, rfl, q b H (by simpa using hb) (Same.refl _)⟩⟩
  · refine op_catT pins s σ H (.ref a) (.ref b) v u Q I rx ry ⟨a, b, xs, ys, rfl, rfl, SqT.of ha, SqT.of hb, hx, hz, fun e => ?_, fun _ p hp => ?_⟩
    · subst e
      exact q a H (by simpa using ha) (Same.refl _)
    · exact q p _ upd_same fun c o e => by rw [upd_ne (ne_of_none e hp)]; exact e
end L2
namespace Kp
open PySem L2 PySem.Spec PyProof.Rows
/-- a tuple == () -/
theorem op_eqTE {X : Cx} (hu : X.A.units + 100 < cLine) : OpR X (compareOp .Eq) (fun x y H Q => ∃ p q xs, x = .ref p ∧ y = .ref q ∧ SqT X.K H p xs ∧ SqT X.K H q [] ∧ Q (.bl xs.isEmpty) H) := by
  intro pins s σ H x y v u Q I rx ry h
  obtain ⟨p, q', xs, rfl, rfl, h1, h2, q⟩ := h
  cases rx
  cases ry
  obtain ⟨its, q1, p1, _⟩ := I.tuple h1
  obtain ⟨jts, q2, p2, _⟩ := I.tuple h2
  have e2 : jts = [] := q2.nil_iff.mpr rfl
  subst e2
  refine SeqAt.eq_tupleAt (e := fun _ => true) (show s.heap.IsTuple p its.toArray from p1) (show s.heap.IsTuple q' ([] : List Value).toArray from p2) (by omega) (fun j g1 g2 => absurd g2 (by simp)) ⟨.bl xs.isEmpty, H, I, ?_, q⟩
  have hl := q1.length
  cases xs with
  | nil => cases q1; rfl
  | cons x r => cases q1; rfl
end Kp
namespace K1
open PySem L2 Kp
section
variable {P : Program} {w : World} {K : PySem.W.Frag} {mg : Str → Option Value} {base : Heap}
theorem atI_mem5 {α : Type} {xs : List α} {i : Int} (h0 : 0 ≤ i) (h1 : i < xs.length) : ∃ v, atI xs i = some v ∧ v ∈ xs := by
  obtain ⟨j, rfl⟩ := Int.eq_ofNat_of_zero_le h0
  have hj : j < xs.length := by omega
  exact ⟨xs[j], atI_nat (by simp [hj]), List.getElem_mem hj⟩
def tSy : TS := fun D σ H => ∃ (c m : Int) (p : Addr) (ms : List Int) (i : Int), σ = [some (.int c), some (.int m), some (.ref p), some (.int i)] ∧ H p = some (.tup (ms.map V.int)) ∧ ms.length ≤ 20 ∧ ∀ (p' : Addr) (ms' : List Int) (H' : Hp), H' p' = some (.tup (ms'.map V.int)) → (ms' = ms ∨ ms' = ms ++ [i]) → Same H H' → D.nx [some (.int c), some (.int m), some (.ref p'), some (.int i)] H'
def spSy : Sp := fun vs H Q _ => ∃ (c : Int) (m : Nat), vs = [.int c, .int m] ∧ 1 ≤ m ∧ m ≤ 9 ∧ ∀ (p : Addr) (ms : List Int) (H' : Hp), H' p = some (.tup (ms.map V.int)) → ms.Pairwise (· < ·) → (∀ x ∈ ms, 0 ≤ x ∧ x < (m : Int)) → ms ≠ [] → ms.length ≤ m → Same H H' → Q (.ref p) H'
theorem scSy : FnScope ["_law_cell", "_law_many", "_law_found", "_law_number"] ["_law_cell", "_law_many"] (defScope sSeatsBy) := ⟨rfl, rfl, rfl, by decide +kernel, rfl, by decide +kernel, by decide +kernel⟩
theorem ok_sy {f : Addr} {fd : FuncData} (F : Fun K "_law_seats_by" "_law_seats_by" sSeatsBy f fd) (T : Txt mg) : FnOk P w K mg base CX0 1 f fd ["_law_cell", "_law_many"] spSy := by
  refine F.ok scSy (fun vs H Q E ⟨_, _, e, _⟩ => by subst e; rfl) (fun cdv A outer s H vs Q E hr h => ?_)
  obtain ⟨c, m, rfl, m1, m9, q⟩ := h
  refine ⟨_, @pss_p _ _ _ _ _ (ps_set (i := 2) scSy.nd (by rfl) (by exact Or.inl rfl) (QE.h (qx_tup qa_nil)))
    (@pss_p _ _ _ _ _ (ps_for PassesOwn.never (by rfl) (pi_range1 (by rfl) T.range (pa_n (pv 1) pa_nil)) (pg_name (i := 3) scSy.nd (by rfl) (by exact Or.inl rfl)) (@pss_p _ _ _ _ _ (PS.weakU (t' := tSy) (ps_if (pt_cmpR op_eq (pe_op op_mod (pv 0) (pe_int)) pe_int (nomark _)) (@pss_o _ _ _ (ps_set (i := 2) scSy.nd (by rfl) (by exact Or.inl rfl) (pe_op op_catV (pv 2) (QE.h (qx_tup (qa_n (pv 3) qa_nil)))))) pss_nil) ?w1)
    (@pss_o _ _ _ (ps_set (i := 0) scSy.nd (by rfl) (by exact Or.inl rfl) (pe_op op_fdiv (pv 0) (pe_int))))))
    (@pss_p _ _ _ _ _ (ps_if (pt_cmpR (op_eqTE hr.units100) (pv 2) (QE.h (qx_tup qa_nil)) (nomark _)) (@pss_o _ _ _ (ps_ret (QE.h (qx_tup (qa_b (pe_op op_sub (pv 1) (pe_int)) qa_nil))))) pss_nil)
    (@pss_o _ _ _ (ps_ret (pv 2))))), ?_⟩
  case w1 =>
    rintro D σ H ⟨c, m, p, ms, i, rfl, hp, hl, q⟩
    refine ⟨_, rfl, _, _, rfl, rfl, (by show (0 : Int) < 2; decide), rfl, _, rfl, ite2 (fun _ => ?_) (fun _ => q p ms H hp (.inl rfl) (Same.refl _))⟩
    refine ⟨_, rfl, _, rfl, tiny (by show 1 ≤ 1000; decide), fun t ht => ?_⟩
    have s1 := same_upd (o := HO.tup [V.int i]) ht
    refine ⟨p, t, _, _, rfl, rfl, s1 _ _ hp, upd_same, by rw [sizeLine_eq, List.length_map]; show _ + 1 ≤ _; omega, fun r H2 hr2 s2 => ?_⟩
    exact q r (ms ++ [i]) H2 (by rw [hr2, List.map_append]; rfl) (.inr rfl) (s1.trans s2)
  refine ⟨tiny (by show 0 ≤ 1000; decide), fun p0 hp0 => ?_⟩
  have s0 := same_upd (o := HO.tup []) hp0
  refine ⟨_, rfl, (m : Int), rfl, by omega, by omega, for_range (n := m) (fun i σ H' => ∃ (c' : Int) (p : Addr) (ms : List Int) (t : Option V), σ = [some (.int c'), some (.int m), some (.ref p), t] ∧ H' p = some (.tup (ms.map V.int)) ∧ ms.Pairwise (· < ·) ∧ (∀ x ∈ ms, 0 ≤ x ∧ x < (i : Int)) ∧ ms.length ≤ i ∧ Same H H')
    ⟨c, p0, [], none, rfl, upd_same, .nil, fun x h => absurd h List.not_mem_nil, Nat.le_refl _, s0⟩ ?_ ?_⟩
  · rintro i σ H' hi ⟨c', p, ms, t, rfl, hp, pw, lo, len, s1⟩
    refine ⟨c', m, p, ms, 0 + (i : Int), rfl, hp, by omega, fun p' ms' H2 hp' hms s2 => ?_⟩
    refine ⟨_, rfl, _, _, rfl, rfl, ⟨by decide, by decide⟩, _, p', ms', _, rfl, hp', ?_, ?_, ?_, s1.trans s2⟩
    · rcases hms with rfl | rfl
      · exact pw
      · refine List.pairwise_append.mpr ⟨pw, List.pairwise_singleton .., fun x hx y hy => ?_⟩
        rw [List.mem_singleton.mp hy]
        have := lo x hx
        omega
    · intro x hx
      rcases hms with rfl | rfl
      · have := lo x hx; omega
      · rcases List.mem_append.mp hx with h | h
        · have := lo x h; omega
        · rw [List.mem_singleton.mp h]; omega
    · rcases hms with rfl | rfl
      · omega
      · rw [List.length_append]; show _ + 1 ≤ _; omega
  · rintro σ H' ⟨c', p, ms, t, rfl, hp, pw, lo, len, s1⟩
    refine ⟨_, rfl, tiny (by show 0 ≤ 1000; decide), fun t2 ht2 => ?_⟩
    have s2 := same_upd (o := HO.tup []) ht2
    refine ⟨p, t2, _, rfl, rfl, SqT.of (s2 _ _ hp), SqT.of upd_same, _, rfl, ?_⟩
    cases ms with
    | nil =>
      refine iteT ⟨_, rfl, _, _, rfl, rfl, tiny (by show 1 ≤ 1000; decide), fun t3 ht3 => ?_⟩
      have s3 := same_upd (o := HO.tup [V.int ((m : Int) - 1)]) ht3
      exact q t3 [(m : Int) - 1] _ upd_same (List.pairwise_singleton ..) (fun x hx => by rw [List.mem_singleton.mp hx]; omega) (by simp) (by show 1 ≤ m; omega) ((s1.trans s2).trans s3)
    | cons x r => exact iteF ⟨_, rfl, q p (x :: r) _ (s2 _ _ hp) pw lo (by simp) len (s1.trans s2)⟩
def spNc : Sp := fun vs H Q _ => ∃ c : Int, vs = [.int c] ∧ ∀ (z : Int) (H' : Hp), (z < 1 ∨ 9 < z) → Same H H' → Q (.int z) H'
theorem scNc : FnScope ["_law_cell", "_law_far"] ["_law_cell"] (defScope s__law_no_count) := ⟨rfl, rfl, rfl, by decide +kernel, rfl, by decide +kernel, by decide +kernel⟩
theorem ok_nc {f : Addr} {fd : FuncData} (F : Fun K "_law_no_count" "_law_no_count" s__law_no_count f fd) : FnOk P w K mg base CX0 1 f fd ["_law_cell"] spNc := by
  refine F.ok scNc (fun vs H Q E ⟨_, e, _⟩ => by subst e; rfl) (fun cdv A outer s H vs Q E hr h => ?_)
  obtain ⟨c, rfl, q⟩ := h
  refine ⟨_, @pss_p _ _ _ _ _ (ps_set (i := 1) scNc.nd (by rfl) (by exact Or.inl rfl) (pe_op op_mod (pe_op op_fdiv (pv 0) (pe_int)) (pe_op op_pow pe_int pe_int)))
    (@pss_o _ _ _ (ps_ret (QE.h (qx_ix ix_list (qx_lst (qa_int (qa_neg (qa_int (qa_b (pe_op op_add (pe_int) (pv 1)) (qa_b (pe_op op_sub (pe_un un_neg pe_int) (pv 1)) qa_nil)))))) (pe_op op_mod (pv 0) (pe_int)) px_b)))), ?_⟩
  refine ⟨_, rfl, _, _, rfl, rfl, ⟨by decide, by decide⟩, _, _, rfl, rfl, ⟨by decide, by decide, by decide⟩, _, _, rfl, rfl, (by show (0 : Int) < 10 ^ (12 : Int).toNat; decide), ?_⟩
  obtain ⟨f0, f1⟩ := emod_in (c / 8) (m := 10 ^ (12 : Int).toNat) (by decide)
  show gName 1 (V.int (c / 8 % 10 ^ (12 : Int).toNat)) _ _ _
  generalize c / 8 % 10 ^ (12 : Int).toNat = fa at f0 f1
  refine ⟨_, rfl, _, rfl, _, _, rfl, rfl, _, rfl, _, rfl, _, _, rfl, rfl, tiny (by show 5 ≤ 1000; decide), fun l hl => ?_⟩
  obtain ⟨e0, e1⟩ := emod_in c (m := 5) (by decide)
  obtain ⟨v, hv, hm⟩ := atI_mem5 (xs := [V.int 0, V.int (-1), V.int 10, V.int (10 + fa), V.int (-1 - fa)]) e0 (by simpa using e1)
  obtain ⟨z, rfl, hz⟩ : ∃ z : Int, v = .int z ∧ (z < 1 ∨ 9 < z) := by
    simp only [List.mem_cons, List.not_mem_nil, or_false] at hm
    rcases hm with rfl | rfl | rfl | rfl | rfl
    · exact ⟨_, rfl, by omega⟩
    · exact ⟨_, rfl, by omega⟩
    · exact ⟨_, rfl, by omega⟩
    · exact ⟨_, rfl, by omega⟩
    · exact ⟨_, rfl, by omega⟩
  exact ⟨_, rfl, _, _, rfl, rfl, (by show (0 : Int) < 5; decide), l, _, _, .int z, rfl, rfl, SqL.of upd_same, hv, q z _ hz (same_upd hl)⟩
end
end K1
set_option Elab.async false
set_option linter.all false
set_option maxRecDepth 100000
set_option maxHeartbeats 4000000
namespace K1
open PySem L2 Kp
/-! ### what an entry holds, and what it does to a store -/
inductive What | opn | seats (ms : List Int) | wish (c : Str) (n : Int) (d : Deed)
def WhatV (H : Hp) (v : V) : What → Prop
  | .opn => ∃ p, v = .ref p ∧ H p = some (.tup [.str "open"])
  | .seats ms => ∃ p q, v = .ref p ∧ H p = some (.tup [.str "seats", .ref q]) ∧ H q = some (.tup (ms.map V.int))
  | .wish c n d => ∃ p u, v = .ref p ∧ H p = some (.tup [.str "wish", .str c, .int n, u]) ∧ DeedV H u d
theorem WhatV.same {H H' : Hp} {v : V} {x : What} (h : WhatV H v x) (s : Same H H') : WhatV H' v x := by
  cases x with
  | opn => obtain ⟨p, e, hp⟩ := h; exact ⟨p, e, s _ _ hp⟩
  | seats ms => obtain ⟨p, q, e, hp, hq⟩ := h; exact ⟨p, q, e, s _ _ hp, s _ _ hq⟩
  | wish c n d => obtain ⟨p, u, e, hp, hd⟩ := h; exact ⟨p, u, e, s _ _ hp, hd.same s⟩
/-- the number and the answer that stand with a caller -/
def standF (rs : List Rw) (c : Str) : Int × Int := match rs.find? fun r => decide (r.1 = c) with
  | some r => (r.2.headD 0, r.2.getD 1 0)
  | none => (0, 0)
def applyF (S : Sto) : What → Sto
  | .wish c n d => if n ≤ (standF S.2 c).1 then S else ((doneF S d).1.1, putF S.2 (c, [n, (doneF S d).2]))
  | _ => S
/-- a wish that was applied stands: applied once more it does nothing -/
def Knows (S : Sto) : What → Prop
  | .wish c n _ => n ≤ (standF S.2 c).1
  | _ => True
theorem Knows.id {S : Sto} {x : What} (h : Knows S x) : applyF S x = S := by
  cases x with
  | wish c n d => unfold applyF; exact if_pos h
  | opn => rfl
  | seats ms => rfl
end K1
set_option Elab.async false
set_option linter.all false
set_option maxRecDepth 100000
set_option maxHeartbeats 4000000
namespace K1
open PySem L2 Kp
/-! ### wishes done twice over change nothing more -/
/-! ### entries with what they hold -/
inductive EW (H : Hp) : List V → List What → Prop
  | nil : EW H [] []
  | cons {p : Addr} {t : Int} {u : V} {x : What} {vs : List V} {xs : List What} : H p = some (.tup [.int t, u]) → WhatV H u x → EW H vs xs → EW H (.ref p :: vs) (x :: xs)
theorem EW.same {H H' : Hp} (s : Same H H') : ∀ {vs xs}, EW H vs xs → EW H' vs xs
  | _, _, .nil => .nil
  | _, _, .cons e w r => .cons (s _ _ e) (w.same s) (EW.same s r)
theorem EW.length {H : Hp} : ∀ {vs xs}, EW H vs xs → vs.length = xs.length
  | _, _, .nil => rfl
  | _, _, .cons _ _ r => by rw [List.length_cons, List.length_cons, EW.length r]
theorem EW.get {H : Hp} : ∀ {vs : List V} {xs : List What} {i : Nat} (h : i < xs.length), EW H vs xs → ∃ p t u, vs[i]? = some (.ref p) ∧ H p = some (.tup [.int t, u]) ∧ WhatV H u xs[i]
  | _, _, _, h, .nil => absurd h (Nat.not_lt_zero _)
  | _, _, 0, _, .cons e w _ => ⟨_, _, _, rfl, e, w⟩
  | _, _, i + 1, h, .cons _ _ r => EW.get (i := i) (by simpa using h) r
theorem EW.append {H : Hp} : ∀ {vs xs us ys}, EW H vs xs → EW H us ys → EW H (vs ++ us) (xs ++ ys)
  | _, _, _, _, .nil, r => r
  | _, _, _, _, .cons e w r, q => .cons e w (EW.append r q)
theorem EW.take {H : Hp} : ∀ {vs : List V} {xs : List What} (n : Nat), EW H vs xs → EW H (vs.take n) (xs.take n)
  | _, _, 0, _ => by rw [List.take_zero, List.take_zero]; exact .nil
  | _, _, _ + 1, .nil => .nil
  | _, _, n + 1, .cons e w r => .cons e w (EW.take n r)
theorem EW.drop {H : Hp} : ∀ {vs : List V} {xs : List What} (n : Nat), EW H vs xs → EW H (vs.drop n) (xs.drop n)
  | _, _, 0, r => r
  | _, _, _ + 1, .nil => .nil
  | _, _, n + 1, .cons _ _ r => EW.drop n r
end K1
set_option Elab.async false
set_option linter.all false
set_option maxRecDepth 100000
set_option maxHeartbeats 4000000
namespace K1
open PySem L2 Kp
/-! ### packs, and the entries that come behind them -/
abbrev En := Int × What
inductive ET (H : Hp) : List V → List En → Prop
  | nil : ET H [] []
  | cons {p : Addr} {t : Int} {u : V} {x : What} {vs : List V} {es : List En} : H p = some (.tup [.int t, u]) → WhatV H u x → ET H vs es → ET H (.ref p :: vs) ((t, x) :: es)
theorem ET.same {H H' : Hp} (s : Same H H') : ∀ {vs es}, ET H vs es → ET H' vs es
  | _, _, .nil => .nil
  | _, _, .cons e w r => .cons (s _ _ e) (w.same s) (ET.same s r)
theorem ET.length {H : Hp} : ∀ {vs es}, ET H vs es → vs.length = es.length
  | _, _, .nil => rfl
  | _, _, .cons _ _ r => by rw [List.length_cons, List.length_cons, ET.length r]
theorem ET.get {H : Hp} : ∀ {vs : List V} {es : List En} {i : Nat} (h : i < es.length), ET H vs es → ∃ p u, vs[i]? = some (.ref p) ∧ H p = some (.tup [.int (es[i]).1, u]) ∧ WhatV H u (es[i]).2
  | _, _, _, h, .nil => absurd h (Nat.not_lt_zero _)
  | _, _, 0, _, .cons e w _ => ⟨_, _, rfl, e, w⟩
  | _, _, i + 1, h, .cons _ _ r => ET.get (i := i) (by simpa using h) r
theorem ET.append {H : Hp} : ∀ {vs es us fs}, ET H vs es → ET H us fs → ET H (vs ++ us) (es ++ fs)
  | _, _, _, _, .nil, r => r
  | _, _, _, _, .cons e w r, q => .cons e w (ET.append r q)
theorem ET.take {H : Hp} : ∀ {vs : List V} {es : List En} (n : Nat), ET H vs es → ET H (vs.take n) (es.take n)
  | _, _, 0, _ => by rw [List.take_zero, List.take_zero]; exact .nil
  | _, _, _ + 1, .nil => .nil
  | _, _, n + 1, .cons e w r => .cons e w (ET.take n r)
theorem ET.drop {H : Hp} : ∀ {vs : List V} {es : List En} (n : Nat), ET H vs es → ET H (vs.drop n) (es.drop n)
  | _, _, 0, r => r
  | _, _, _ + 1, .nil => .nil
  | _, _, n + 1, .cons _ _ r => ET.drop n r
theorem ET.ew {H : Hp} : ∀ {vs es}, ET H vs es → EW H vs (es.map (·.2))
  | _, _, .nil => .nil
  | _, _, .cons e w r => .cons e w (ET.ew r)
structure Pk where
  pl : Int
  tm : Int
  st : List Int
  so : Sto
def PkV (H : Hp) (v : V) (P : Pk) : Prop := ∃ p q u, v = .ref p ∧ H p = some (.tup [.int P.pl, .int P.tm, .ref q, u]) ∧ H q = some (.tup (P.st.map V.int)) ∧ StV H u P.so
theorem PkV.same {H H' : Hp} {v : V} {P : Pk} (h : PkV H v P) (s : Same H H') : PkV H' v P := let ⟨p, q, u, e, h1, h2, h3⟩ := h; ⟨p, q, u, e, s _ _ h1, s _ _ h2, h3.same s⟩
def RwP (H : Hp) (v : V) (b l : Int) (es : List En) : Prop := ∃ r c us, v = .ref r ∧ H r = some (.tup [.int b, .int l, .ref c]) ∧ H c = some (.tup us) ∧ ET H us es
theorem RwP.same {H H' : Hp} {v : V} {b l : Int} {es : List En} (h : RwP H v b l es) (s : Same H H') : RwP H' v b l es := let ⟨p, q, u, e, h1, h2, h3⟩ := h; ⟨p, q, u, e, s _ _ h1, s _ _ h2, h3.same s⟩
theorem StV.alike {K : PySem.W.Frag} {H : Hp} {v u : V} {S : Sto} (h : StV H v S) (h' : StV H u S) : Alike K H 3 v u := by
  obtain ⟨sa, a, c, rfl, hs, ha, hc⟩ := h
  obtain ⟨sb, a2, c2, rfl, hs2, ha2, hc2⟩ := h'
  refine .tup (SqT.of hs) (SqT.of hs2) rfl fun i x y e1 e2 => ?_
  match i, e1, e2 with
  | 0, e1, e2 => cases e1; cases e2; exact ha.alike ha2
  | 1, e1, e2 => cases e1; cases e2; exact hc.alike hc2
theorem ints_alike {K : PySem.W.Frag} {H : Hp} {p q : Addr} {ms : List Int} {n : Nat} (h : H p = some (.tup (ms.map V.int))) (h' : H q = some (.tup (ms.map V.int))) : Alike K H (n + 1) (.ref p) (.ref q) := by
  refine .tup (SqT.of h) (SqT.of h') rfl fun i x y e1 e2 => ?_
  rw [e1] at e2
  cases e2
  obtain ⟨z, _, rfl⟩ := List.mem_map.mp (List.mem_of_getElem? e1)
  exact .flat rfl
end K1
set_option Elab.async false
set_option linter.all false
set_option maxRecDepth 100000
set_option maxHeartbeats 4000000
namespace L2
open PySem PySem.Spec PyProof.Rows
/-! ### t * n of a tuple with parts, 2 ≤ n -/
theorem noFill_tuple_mul : fillsNumberSlot (.type "tuple") "mul" = pure false :=
  PySem.fillsNumberSlot_seq (id := "tuple.__mul__") (r := some (.builtin "tuple.__rmul__")) F.slot_tuple_mul.lookup (by decide +kernel) F.slot_tuple_rmul.lookup (by decide +kernel)
theorem repeat_tuple : seqRepeat? (.type "tuple") = pure (some (.builtin "tuple.__mul__")) := by
  unfold seqRepeat?
  rw [PySem.seqSlot_of (T := "tuple") (name := "__mul__") (id := "tuple.__mul__") F.slot_tuple_mul.lookup (by decide +kernel), PySem.seqSlot_of (T := "tuple") (name := "__rmul__") (id := "tuple.__rmul__") F.slot_tuple_rmul.lookup (by decide +kernel)]
  rfl
theorem int_rmul_tuple (a : Int) (t : Tok) (l : Addr) (items : Array Value) (n : Nat) (dd : Option Addr) (sl : Array (Option Value)) :
    Meets (Builtin.«int.__rmul__» ⟨[.int a t, .ref l], []⟩) (fun _ R s => s.heap.get? l = some { cls := .type "tuple", dict := dd, data := .seq items n, slots := sl } ∧ R (.ok (.ret Value.notImplemented)) s) :=
  .of_wp fun prog w A R s h => by obtain ⟨hp, g, d, tk, os⟩ := s; obtain ⟨hl, h⟩ := h; wp_walk; exact ⟨_, rfl, h⟩
theorem tuple_mulW (l : Addr) (items : Array Value) (n : Nat) (dd : Option Addr) (sl : Array (Option Value)) (x : Int) (u : Tok) (hc0 : ¬(decide (x < -(2 ^ 63)) || decide (x ≥ 2 ^ 63)) = true) (hc1 : ¬(items.isEmpty || x == 1) = true) (hc2 : ¬(decide (x ≤ 0) || items.isEmpty) = true) (hc3 : ¬((items.size : Int) * x > (2 ^ 63 - 1) / 8)) (hc4 : ¬Builtin.Tuple.tupleTooMany ((items.size : Int) * x) = true) (hsz : ((List.replicate x.toNat items).foldl (· ++ ·) #[]).size ≤ sizeLine) :
    Meets (Builtin.«tuple.__mul__» ⟨[.ref l, .int x u], []⟩) (fun _ R s => s.heap.get? l = some { cls := .type "tuple", dict := dd, data := .seq items n, slots := sl } ∧ R (.ok (.ret (Value.ref s.heap.objs.size))) { s with heap := s.heap.push { cls := Value.type "tuple", data := Data.seq ((List.replicate x.toNat items).foldl (· ++ ·) #[]) }, toks := s.toks }) :=
  .of_wp fun prog w A R s h => by
    obtain ⟨hp, g, d, tk, os⟩ := s; obtain ⟨hl, h⟩ := h; have f1 := AutoSeq1.idx_int
    wp_walk using wpAny_loadPart' hl
    refine wpAny_ite_false (decide_eq_false hc0) ?_
    wp_walk using wpAny_loadPart' hl
    refine wpAny_ite_false (decide_eq_false hc3) ?_
    wp_walk using wpAny_loadPart' hl
    exact ⟨_, rfl, h⟩
/-- the same tuple n times over -/
def rRepT : R2 := fun x y H Q => ∃ a k xs, x = .ref a ∧ y = .int k ∧ H a = some (.tup xs) ∧ xs ≠ [] ∧ 2 ≤ k ∧ k < 1000 ∧ xs.length ≤ 1000 ∧ ∀ p, H p = none → Q (.ref p) (upd H p (.tup (List.replicate k.toNat xs).flatten))
theorem op_repT {X : Cx} : OpR X (binaryOp .Mult) rRepT := by
  intro pins s σ H x y v u Q I rx ry h
  obtain ⟨a, k, xs, rfl, rfl, hH, hne, h1, h2, hx, q⟩ := h
  cases rx
  obtain ⟨t, rfl⟩ := ry
  obtain ⟨its, r, p1, _⟩ := I.tuple (SqT.of hH)
  obtain ⟨⟨cls, dd, data, sl⟩, ho, hc, n, hd⟩ := id p1
  simp only at hc hd
  subst hc hd
  have hl := r.length
  have hpos : 0 < its.length := by rw [← hl]; exact List.length_pos_iff.mpr hne
  have hemp : its.toArray.isEmpty = false := by cases its with
    | nil => simp at hpos
    | cons _ _ => rfl
  have hk : ((k.toNat : Nat) : Int) = k := Int.toNat_of_nonneg (by omega)
  have hnew : List.foldl (fun x1 x2 => x1 ++ x2) #[] (List.replicate k.toNat its.toArray) = (List.replicate k.toNat its).flatten.toArray := by
    have := foldl_rep its k.toNat []
    rw [List.nil_append] at this
    exact this
  have hlen : (List.replicate k.toNat xs).flatten.length ≤ 1000000 := by
    rw [len_rep]
    have hkn : k.toNat ≤ 1000 := by omega
    exact Nat.le_trans (Nat.mul_le_mul hkn hx) (by decide)
  have hz : (List.replicate k.toNat xs).flatten.length ≤ sizeLine := by rw [sizeLine_eq]; omega
  have hprod : ((its.toArray.size : Int) * k) ≤ 1000000 := by
    rw [len_rep, hl] at hlen
    rw [List.size_toArray, ← hk, Int.mul_comm]
    have e2 : ((k.toNat * its.length : Nat) : Int) = (k.toNat : Int) * (its.length : Int) := Int.natCast_mul _ _
    rw [← e2]
    omega
  have hmany : ¬ Builtin.Tuple.tupleTooMany ((its.toArray.size : Int) * k) = true := fun g => by
    have g2 : (its.toArray.size : Int) * k > (sizeLine : Int) := of_decide_eq_true g
    rw [sizeLine_eq] at g2
    omega
  have hv := r.rep k.toNat
  refine wpAny_binaryOp_repeat_ref (T := "tuple") (U := "int") (by decide) ⟨_, ho, rfl⟩ (fun s' => typeIs_int s' k t) noFill_tuple_mul F.fills_int_mul F.slot_int_rmul repeat_tuple F.slot_int_index.lookup
    (call_meets F.slot_int_rmul (typeIs_int s k t) F.entry_int_rmul (F.args_int_rmul_2 _ _) (int_rmul_tuple k t a its.toArray n dd sl)
      ⟨ho, rfl, ⟨_, ho, rfl⟩, call_meets F.slot_tuple_mul ⟨_, ho, rfl⟩ F.entry_tuple_mul (F.args_tuple_mul_2 _ _) (tuple_mulW a its.toArray n dd sl k t (by simp; omega) (by simp [hemp]; omega) (by simp [hemp]; omega) (by omega) hmany (by rw [hnew, List.size_toArray, ← hv.length]; exact hz)) ⟨ho, ?_⟩⟩)
  rw [hnew]
  have hf : H s.heap.objs.size = none := I.hok.fresh (Nat.le_refl _)
  refine ⟨.ref s.heap.objs.size, upd H s.heap.objs.size (.tup (List.replicate k.toNat xs).flatten), I.laid (t' := s.toks) (fun b u e => Heap.get?_push_of_some _ e) (Nat.le_refl _) ?_, rfl, q _ hf⟩
  exact ⟨hz, _, hv, ⟨_, Heap.get?_push_size _ rfl, rfl, _, rfl⟩⟩
end L2
set_option Elab.async false
set_option linter.all false
set_option maxRecDepth 100000
set_option maxHeartbeats 4000000
namespace K1
open PySem L2 Kp
/-! ### an object's values, by their names -/
theorem lk_ne {f g : Str} {v : V} {fs : List (Str × V)} {x : Option V} (h : ¬ g = f) (e : fs.lookup g = x) : (L2.putF f v fs).lookup g = x := by rw [L2.lookup_putF, if_neg h]; exact e
theorem lk_eq {f : Str} {v : V} {fs : List (Str × V)} : (L2.putF f v fs).lookup f = some v := by rw [L2.lookup_putF, if_pos rfl]
def kpN : List Str := ["number", "term", "voice", "pack", "row", "way", "voices", "head", "waits", "nexts", "held", "agreed", "store"]
structure FsOk (fs : List (Str × V)) : Prop where
  nd : (fs.map (·.1)).Nodup
  inN : ∀ x ∈ fs.map (·.1), x ∈ kpN
theorem keys_put {f : Str} {v : V} : ∀ {fs : List (Str × V)} {x : Str}, x ∈ (L2.putF f v fs).map (·.1) → x ∈ fs.map (·.1) ∨ x = f
  | [], x, h => .inr (List.mem_singleton.mp h)
  | (g, y) :: r, x, h => by
    unfold L2.putF at h
    by_cases e : g = f
    · rw [if_pos e] at h
      exact .inl h
    · rw [if_neg e, List.map_cons] at h
      rcases List.mem_cons.mp h with h | h
      · exact .inl (List.mem_cons.mpr (.inl h))
      · rcases keys_put h with h | h
        · exact .inl (List.mem_cons.mpr (.inr h))
        · exact .inr h
theorem nd_put {f : Str} {v : V} : ∀ {fs : List (Str × V)}, (fs.map (·.1)).Nodup → ((L2.putF f v fs).map (·.1)).Nodup
  | [], _ => List.nodup_cons.mpr ⟨List.not_mem_nil, List.nodup_nil⟩
  | (g, y) :: r, h => by
    unfold L2.putF
    by_cases e : g = f
    · rw [if_pos e]
      exact h
    · rw [if_neg e, List.map_cons, List.nodup_cons]
      rw [List.map_cons, List.nodup_cons] at h
      refine ⟨fun hm => ?_, nd_put h.2⟩
      rcases keys_put hm with hm | hm
      · exact h.1 hm
      · exact e hm
theorem FsOk.nil : FsOk [] := ⟨List.nodup_nil, fun x h => absurd h List.not_mem_nil⟩
theorem FsOk.put {f : Str} {v : V} {fs : List (Str × V)} (h : FsOk fs) (hf : f ∈ kpN) : FsOk (L2.putF f v fs) := ⟨nd_put h.nd, fun x hx => by
  rcases keys_put hx with hx | rfl
  · exact h.inN x hx
  · exact hf⟩
theorem FsOk.len {fs : List (Str × V)} (h : FsOk fs) : fs.length < 1000 := by
  have := nodup_len _ kpN h.nd h.inN
  rw [List.length_map] at this
  have e : kpN.length = 13 := rfl
  omega
theorem lk_none : ∀ {fs : List (Str × V)} {g : Str}, ¬ g ∈ fs.map (·.1) → fs.lookup g = none
  | [], _, _ => rfl
  | (k, y) :: r, g, h => by
    rw [List.map_cons, List.mem_cons] at h
    have hb : (g == k) = false := beq_eq_false_iff_ne.mpr fun e => h (.inl e)
    simp only [List.lookup, hb]
    exact lk_none fun hm => h (.inr hm)
theorem FsOk.no {fs : List (Str × V)} {g : Str} (h : FsOk fs) (hg : ¬ g ∈ kpN) : fs.lookup g = none := lk_none fun hm => hg (h.inN _ hm)
end K1
set_option Elab.async false
set_option linter.all false
set_option maxRecDepth 100000
set_option maxHeartbeats 4000000
namespace K1
open PySem L2 Kp
section
variable {P : Program} {w : World} {K : PySem.W.Frag} {mg : Str → Option Value} {base : Heap}
theorem qa_at {X : Cx} {o : Expr} {f : Str} {es : List Expr} {p : Pos} {te : TE} {t : TA} (ha : PE X (.Attribute o f p) te) (r : QA X es t) : QA X (.Attribute o f p :: es) (tCons te t) := ⟨pa_cons ha r.h rfl⟩
structure KpC (K : PySem.W.Frag) (C : Addr) : Prop where
  cl : Cls K C
  n_number : NoAttr K C "number"
  n_term : NoAttr K C "term"
  n_voice : NoAttr K C "voice"
  n_head : NoAttr K C "head"
  n_way : NoAttr K C "way"
  n_pack : NoAttr K C "pack"
  n_row : NoAttr K C "row"
  n_store : NoAttr K C "store"
  n_nexts : NoAttr K C "nexts"
  n_held : NoAttr K C "held"
  n_agreed : NoAttr K C "agreed"
  n_voices : NoAttr K C "voices"
  n_waits : NoAttr K C "waits"
/-- a keeper as it was made, but for its term -/
def KpV (H : Hp) (a C : Addr) (num tm : Int) (ms : List Int) : Prop := ∃ (dx : Addr) (fs : List (Str × V)) (vp vr vs : V) (an ah av aw : Addr), H a = some (.ins C dx fs) ∧ fs.lookup ("number" : Str) = some (.int num) ∧ fs.lookup ("term" : Str) = some (.int tm) ∧ fs.lookup ("voice" : Str) = some (.non) ∧ fs.lookup ("head" : Str) = some (.non) ∧ fs.lookup ("way" : Str) = some (.str "plain") ∧ fs.lookup ("pack" : Str) = some (vp) ∧ fs.lookup ("row" : Str) = some (vr) ∧ fs.lookup ("store" : Str) = some (vs) ∧ fs.lookup ("nexts" : Str) = some (.ref an) ∧ fs.lookup ("held" : Str) = some (.ref ah) ∧ fs.lookup ("agreed" : Str) = some (.int 0) ∧ fs.lookup ("voices" : Str) = some (.ref av) ∧ fs.lookup ("waits" : Str) = some (.ref aw) ∧ FsOk fs ∧
  PkV H vp ⟨0, 0, ms, ([], [])⟩ ∧ RwP H vr 0 0 [] ∧ StV H vs ([], []) ∧ H an = some (.tup (List.replicate 9 (V.int 1))) ∧ H ah = some (.tup (List.replicate 9 (V.int 0))) ∧ H av = some (.tup []) ∧ H aw = some (.tup [])
theorem KpV.same {H H' : Hp} {a C : Addr} {num tm : Int} {ms : List Int} (h : KpV H a C num tm ms) (s : Same H H') : KpV H' a C num tm ms := by
  obtain ⟨dx, fs, vp, vr, vs, an, ah, av, aw, ha, l_number, l_term, l_voice, l_head, l_way, l_pack, l_row, l_store, l_nexts, l_held, l_agreed, l_voices, l_waits, l_ok, hp, hr, hs, hn, hh, hv, hw⟩ := h
  exact ⟨dx, fs, vp, vr, vs, an, ah, av, aw, s _ _ ha, l_number, l_term, l_voice, l_head, l_way, l_pack, l_row, l_store, l_nexts, l_held, l_agreed, l_voices, l_waits, l_ok, hp.same s, hr.same s, hs.same s, s _ _ hn, s _ _ hh, s _ _ hv, s _ _ hw⟩
/-- a keeper's values, as a tuple -/
def StateV (H : Hp) (v : V) (num : Int) (ms : List Int) : Prop := ∃ (p : Addr) (vp vr vs : V) (an ah av aw : Addr), v = .ref p ∧ H p = some (.tup [V.int num, V.int 0, V.non, vp, vr, V.str "plain", V.ref av, V.ref an, V.ref ah, V.int 0, vs, V.non, V.ref aw]) ∧ PkV H vp ⟨0, 0, ms, ([], [])⟩ ∧ RwP H vr 0 0 [] ∧ StV H vs ([], []) ∧ H an = some (.tup (List.replicate 9 (V.int 1))) ∧ H ah = some (.tup (List.replicate 9 (V.int 0))) ∧ H av = some (.tup []) ∧ H aw = some (.tup [])
theorem StateV.same {H H' : Hp} {v : V} {num : Int} {ms : List Int} (h : StateV H v num ms) (s : Same H H') : StateV H' v num ms := by
  obtain ⟨p, vp, vr, vs, an, ah, av, aw, e, hp, h1, h2, h3, h4, h5, h6, h7⟩ := h
  exact ⟨p, vp, vr, vs, an, ah, av, aw, e, s _ _ hp, h1.same s, h2.same s, h3.same s, s _ _ h4, s _ _ h5, s _ _ h6, s _ _ h7⟩
theorem tupF_alike {K : PySem.W.Frag} {H : Hp} {p q : Addr} {xs : List V} {n : Nat} (h : H p = some (.tup xs)) (h' : H q = some (.tup xs)) (hf : ∀ x ∈ xs, flatV x = true) : Alike K H (n + 1) (.ref p) (.ref q) :=
  .tup (SqT.of h) (SqT.of h') rfl fun i x y e1 e2 => by
    rw [e1] at e2
    cases e2
    exact .flat (hf x (List.mem_of_getElem? e1))
theorem PkV.alike0 {K : PySem.W.Frag} {H : Hp} {v u : V} {ms : List Int} (h : PkV H v ⟨0, 0, ms, ([], [])⟩) (h' : PkV H u ⟨0, 0, ms, ([], [])⟩) : Alike K H 4 v u := by
  obtain ⟨p, q, w, rfl, h1, h2, h3⟩ := h
  obtain ⟨p', q', w', rfl, h1', h2', h3'⟩ := h'
  refine .tup (SqT.of h1) (SqT.of h1') rfl fun i x y e1 e2 => ?_
  match i, e1, e2 with
  | 0, e1, e2 => cases e1; cases e2; exact .flat rfl
  | 1, e1, e2 => cases e1; cases e2; exact .flat rfl
  | 2, e1, e2 => cases e1; cases e2; exact ints_alike h2 h2'
  | 3, e1, e2 => cases e1; cases e2; exact h3.alike h3'
  | i + 4, e1, _ => simp at e1
theorem RwP.alike0 {K : PySem.W.Frag} {H : Hp} {v u : V} (h : RwP H v 0 0 []) (h' : RwP H u 0 0 []) : Alike K H 4 v u := by
  obtain ⟨r, c, us, rfl, h1, h2, h3⟩ := h
  obtain ⟨r', c', us', rfl, h1', h2', h3'⟩ := h'
  cases h3
  cases h3'
  refine .tup (SqT.of h1) (SqT.of h1') rfl fun i x y e1 e2 => ?_
  match i, e1, e2 with
  | 0, e1, e2 => cases e1; cases e2; exact .flat rfl
  | 1, e1, e2 => cases e1; cases e2; exact .flat rfl
  | 2, e1, e2 => cases e1; cases e2; exact tupF_alike h2 h2' fun x h => absurd h List.not_mem_nil
  | i + 3, e1, _ => simp at e1
theorem alike_up {K : PySem.W.Frag} {H : Hp} {n : Nat} {x y : V} (h : Alike K H n x y) : Alike K H (n + 1) x y := by
  induction h with
  | flat h => exact .flat h
  | ref a => exact .ref a
  | tup h1 h2 hl _ ih => exact .tup h1 h2 hl ih
theorem StateV.alike {K : PySem.W.Frag} {H : Hp} {v u : V} {num : Int} {ms : List Int} (h : StateV H v num ms) (h' : StateV H u num ms) {c : Bool} {Q : VK} (q : Q (.bl c) H) : rAl K c v u H Q := by
  obtain ⟨p, vp, vr, vs, an, ah, av, aw, rfl, hp, h1, h2, h3, h4, h5, h6, h7⟩ := h
  obtain ⟨p', vp', vr', vs', an', ah', av', aw', rfl, hp', h1', h2', h3', h4', h5', h6', h7'⟩ := h'
  have fr : ∀ z : Int, ∀ x ∈ List.replicate 9 (V.int z), flatV x = true := fun z x hx => by rw [List.eq_of_mem_replicate hx]; rfl
  refine ⟨p, p', _, _, 4, rfl, rfl, SqT.of hp, SqT.of hp', rfl, fun i x y e1 e2 => ?_, by decide, q⟩
  match i, e1, e2 with
  | 0, e1, e2 => cases e1; cases e2; exact .flat rfl
  | 1, e1, e2 => cases e1; cases e2; exact .flat rfl
  | 2, e1, e2 => cases e1; cases e2; exact .flat rfl
  | 3, e1, e2 => cases e1; cases e2; exact h1.alike0 h1'
  | 4, e1, e2 => cases e1; cases e2; exact h2.alike0 h2'
  | 5, e1, e2 => cases e1; cases e2; exact .flat rfl
  | 6, e1, e2 => cases e1; cases e2; exact tupF_alike h6 h6' fun x h => absurd h List.not_mem_nil
  | 7, e1, e2 => cases e1; cases e2; exact tupF_alike h4 h4' (fr 1)
  | 8, e1, e2 => cases e1; cases e2; exact tupF_alike h5 h5' (fr 0)
  | 9, e1, e2 => cases e1; cases e2; exact .flat rfl
  | 10, e1, e2 => cases e1; cases e2; exact alike_up (h3.alike h3')
  | 11, e1, e2 => cases e1; cases e2; exact .flat rfl
  | 12, e1, e2 => cases e1; cases e2; exact tupF_alike h7 h7' fun x h => absurd h List.not_mem_nil
  | i + 13, e1, _ => simp at e1
def spSo5 (C : Addr) : Sp := fun vs H Q _ => ∃ (a : Addr) (num : Int) (ms : List Int), vs = [.ref a] ∧ KpV H a C num 0 ms ∧ ∀ (v : V) (H' : Hp), StateV H' v num ms → Same H H' → Q v H'
theorem scSo : FnScope ["_law_keeper", "_law_first", "_law_second"] ["_law_keeper"] (defScope s__law_state_of) := ⟨rfl, rfl, rfl, by decide +kernel, rfl, by decide +kernel, by decide +kernel⟩
theorem ok_so5 {f : Addr} {fd : FuncData} {C : Addr} (Y : KpC K C) (F : Fun K "_law_state_of" "_law_state_of" s__law_state_of f fd) : FnOk P w K mg base CX0 1 f fd ["_law_keeper"] (spSo5 C) := by
  refine F.ok scSo (fun vs H Q E ⟨_, _, _, e, _⟩ => by subst e; rfl) (fun cdv A outer s H vs Q E hr h => ?_)
  obtain ⟨a, num, ms, rfl, hk, q⟩ := h
  refine ⟨_, @pss_p _ _ _ _ _ (ps_set (i := 1) scSo.nd (by rfl) (by exact Or.inl rfl) (QE.h (qx_tup (qa_at (pe_fld (pv 0) (by rfl)) (qa_at (pe_fld (pv 0) (by rfl)) (qa_at (pe_fld (pv 0) (by rfl)) (qa_at (pe_fld (pv 0) (by rfl)) (qa_at (pe_fld (pv 0) (by rfl)) (qa_nil)))))))))
    (@pss_p _ _ _ _ _ (ps_set (i := 2) scSo.nd (by rfl) (by exact Or.inl rfl) (QE.h (qx_tup (qa_at (pe_fld (pv 0) (by rfl)) (qa_at (pe_fld (pv 0) (by rfl)) (qa_at (pe_fld (pv 0) (by rfl)) (qa_at (pe_fld (pv 0) (by rfl)) (qa_nil))))))))
    (@pss_o _ _ _ (ps_ret (pe_op op_catV (pe_op op_catV (pv 1) (pv 2)) (QE.h (qx_tup (qa_at (pe_fld (pv 0) (by rfl)) (qa_at (pe_fld (pv 0) (by rfl)) (qa_at (pe_fld (pv 0) (by rfl)) (qa_at (pe_fld (pv 0) (by rfl)) (qa_nil))))))))))), ?_⟩
  obtain ⟨dx, fs, vp, vr, vs, an, ah, av, aw, ha, l_number, l_term, l_voice, l_head, l_way, l_pack, l_row, l_store, l_nexts, l_held, l_agreed, l_voices, l_waits, l_ok, hp, hrw, hs, hn, hh, hv, hw⟩ := hk
  refine ⟨_, rfl, a, C, dx, fs, _, rfl, ha, Y.cl, Y.n_number, l_number, _, rfl, a, C, dx, fs, _, rfl, ha, Y.cl, Y.n_term, l_term, _, rfl, a, C, dx, fs, _, rfl, ha, Y.cl, Y.n_voice, l_voice, _, rfl, a, C, dx, fs, _, rfl, ha, Y.cl, Y.n_pack, l_pack, _, rfl, a, C, dx, fs, _, rfl, ha, Y.cl, Y.n_row, l_row, tiny (by show 5 ≤ 1000; decide), fun t1 ht1 => ?_⟩
  have s1 := same_upd (o := HO.tup [V.int num, V.int 0, V.non, vp, vr]) ht1
  refine ⟨_, rfl, a, C, dx, fs, _, rfl, (s1 _ _ ha), Y.cl, Y.n_way, l_way, _, rfl, a, C, dx, fs, _, rfl, (s1 _ _ ha), Y.cl, Y.n_voices, l_voices, _, rfl, a, C, dx, fs, _, rfl, (s1 _ _ ha), Y.cl, Y.n_nexts, l_nexts, _, rfl, a, C, dx, fs, _, rfl, (s1 _ _ ha), Y.cl, Y.n_held, l_held, tiny (by show 4 ≤ 1000; decide), fun t2 ht2 => ?_⟩
  have s2 := same_upd (o := HO.tup [V.str "plain", V.ref av, V.ref an, V.ref ah]) ht2
  have s12 := s1.trans s2
  refine ⟨_, rfl, _, rfl, t1, t2, _, _, rfl, rfl, s2 _ _ upd_same, upd_same, by rw [sizeLine_eq]; exact Nat.le_of_ble_eq_true rfl, fun t3 H3 ht3 s3 => ?_⟩
  have s13 := s12.trans s3
  refine ⟨_, rfl, a, C, dx, fs, _, rfl, (s13 _ _ ha), Y.cl, Y.n_agreed, l_agreed, _, rfl, a, C, dx, fs, _, rfl, (s13 _ _ ha), Y.cl, Y.n_store, l_store, _, rfl, a, C, dx, fs, _, rfl, (s13 _ _ ha), Y.cl, Y.n_head, l_head, _, rfl, a, C, dx, fs, _, rfl, (s13 _ _ ha), Y.cl, Y.n_waits, l_waits, tiny (by show 4 ≤ 1000; decide), fun t4 ht4 => ?_⟩
  have s4 := same_upd (o := HO.tup [V.int 0, vs, V.non, V.ref aw]) ht4
  refine ⟨t3, t4, _, _, rfl, rfl, s4 _ _ ht3, upd_same, by rw [sizeLine_eq]; exact Nat.le_of_ble_eq_true rfl, fun t5 H5 ht5 s5 => ?_⟩
  have s15 := (s13.trans s4).trans s5
  exact q _ H5 ⟨t5, vp, vr, vs, an, ah, av, aw, rfl, ht5, hp.same s15, hrw.same s15, hs.same s15, s15 _ _ hn, s15 _ _ hh, s15 _ _ hv, s15 _ _ hw⟩ s15
end
end K1
set_option Elab.async false
set_option linter.all false
set_option maxRecDepth 100000
set_option maxHeartbeats 4000000
namespace K1
open PySem L2 Kp
section
variable {P : Program} {w : World} {K : PySem.W.Frag} {mg : Str → Option Value} {base : Heap}
def dI (ns : List Int) : D := .tup (ns.map D.int)
theorem isI {H : Hp} {p : Addr} {ns : List Int} (h : H p = some (.tup (ns.map V.int))) (hl : ns.length ≤ 16) : Is 16 H (.ref p) (dI ns) := by
  refine .tup h (by rw [List.length_map]; exact hl) ?_
  clear h hl
  induction ns with
  | nil => exact .nil
  | cons n ns ih => exact .cons (.int n) ih
theorem isLI {H : Hp} : ∀ ns : List Int, IsL 16 H (ns.map V.int) (ns.map D.int)
  | [] => .nil
  | n :: ns => .cons (.int n) (isLI ns)
/-- it is no seats of a room of m keepers -/
def Bad (m : Int) (d : D) : Prop := isTup d = false ∨ ∃ ns, d = dI ns ∧ ((∀ x ∈ ns, 0 ≤ x ∧ x ≤ 8) → ns.Pairwise (· < ·) → 1 ≤ ns.length → ∃ x ∈ ns, m ≤ x)
theorem bad_of {m : Int} {ns : List Int} (h : (∀ x ∈ ns, 0 ≤ x ∧ x ≤ 8) → ns.Pairwise (· < ·) → 1 ≤ ns.length → ∃ x ∈ ns, m ≤ x) : Bad m (dI ns) := .inr ⟨ns, rfl, h⟩
theorem atI_last {α : Type} (xs : List α) (v : α) : atI (xs ++ [v]) (-1) = some v := by
  unfold atI ixN
  rw [if_neg (by decide), if_pos (by rw [List.length_append]; show -((xs.length + 1 : Nat) : Int) ≤ -1; omega)]
  have e : (-1 + ((xs ++ [v]).length : Int)).toNat = xs.length := by rw [List.length_append]; show (-1 + (((xs.length + 1 : Nat)) : Int)).toNat = _; omega
  show (xs ++ [v])[_]? = some v
  rw [e, List.getElem?_append_right (Nat.le_refl _), Nat.sub_self]
  rfl
def tNs : TS := fun En σ H => ∃ (p : Addr) (ms : List Int) (m c : Int) (v : V), σ = [some (.ref p), some (.int m), some (.int c), some v, none] ∧ H p = some (.tup (ms.map V.int)) ∧ ms.Pairwise (· < ·) ∧ ms ≠ [] ∧ Is 16 H v (dI ms.reverse) ∧ ∀ (v' : V) (d : D) (H' : Hp), Is 16 H' v' d → Bad m d → Same H H' → En.nx [some (.ref p), some (.int m), some (.int c), some v', none] H'
def spNs : Sp := fun vs H Q _ => ∃ (p : Addr) (ms : List Int) (m : Nat) (c : Int), vs = [.ref p, .int m, .int c] ∧ H p = some (.tup (ms.map V.int)) ∧ ms.Pairwise (· < ·) ∧ ms ≠ [] ∧ ms.length ≤ 9 ∧ ∀ (v : V) (d : D) (H' : Hp), Is 16 H' v d → Bad (m : Int) d → Same H H' → Q v H'
theorem scNs : FnScope ["_law_seats", "_law_count", "_law_cell", "_law_turned", "_law_some"] ["_law_seats", "_law_count", "_law_cell"] (defScope s__law_no_seats) := ⟨rfl, rfl, rfl, by decide +kernel, rfl, by decide +kernel, by decide +kernel⟩
theorem ok_ns {f : Addr} {fd : FuncData} (F : Fun K "_law_no_seats" "_law_no_seats" s__law_no_seats f fd) (T : Txt mg) : FnOk P w K mg base CX0 1 f fd ["_law_seats", "_law_count", "_law_cell"] spNs := by
  refine F.ok scNs (fun vs H Q E ⟨_, _, _, _, e, _⟩ => by subst e; rfl) (fun cdv A outer s H vs Q E hr h => ?_)
  obtain ⟨p, ms, m, c, rfl, hp, pw, ne, l9, q⟩ := h
  refine ⟨_, @pss_p _ _ _ _ _ (ps_set (i := 3) scNs.nd (by rfl) (by exact Or.inl rfl) (pe_revT (pv 0) (po_some (pe_un un_neg pe_int))))
    (@pss_p _ _ _ _ _ (PS.weakU (t' := tNs) (ps_if (pt_cmpR op_eq (pe_callB call_len_seq (by rfl) T.len PySem.boot_len (pa_n (pv 0) pa_nil)) pe_int (nomark _)) (@pss_o _ _ _ (ps_set (i := 3) scNs.nd (by rfl) (by exact Or.inl rfl) (QE.h (qx_tup (qa_int (qa_int qa_nil)))))) pss_nil) ?w1)
    (@pss_p _ _ _ _ _ (ps_set (i := 4) scNs.nd (by rfl) (by exact Or.inl rfl) (QE.h (qx_lst (qa_n (pv 3) (qa_tup qa_nil (qa_b (pe_op op_catV (pv 0) (QE.h (qx_tup (qa_s (pe_ix ix_tup (pv 0) (pe_un un_neg pe_int) px_u) qa_nil)))) (qa_b (pe_op op_catV (pv 0) (QE.h (qx_tup (qa_s (pe_ix ix_tup (pv 0) pe_int px_i) qa_nil)))) (qa_b (pe_op op_catV (pv 0) (QE.h (qx_tup (qa_n (pv 1) qa_nil)))) (qa_tup (qa_b (pe_op op_add (pv 1) (pe_int)) qa_nil) qa_nil)))))))))
    (@pss_o _ _ _ (ps_ret (pe_ix ix_list (pe_op op_cat (pv 4) (QE.h (qx_lst (qa_b (pe_op op_catV (QE.h (qx_tup (qa_neg qa_nil))) (pv 0)) (qa_b (pe_op op_catV (pv 0) (QE.h (qx_tup (qa_int qa_nil)))) (qa_tup (qa_s (pe_ix ix_tup (pv 0) (pe_un un_neg pe_int) px_u) (qa_neg qa_nil)) (qa_n (pv 3) (qa_k (pe_callTy call_list_of (by rfl) T.list boot_list (pa_n (pv 0) pa_nil)) (qa_non qa_nil))))))))) (pe_op op_mod (pv 2) (pe_int)) px_b))))), ?_⟩
  case w1 =>
    rintro Dn σ H ⟨p, ms, m, c, v, rfl, hp, pw, ne, hv, q⟩
    refine ⟨_, rfl, p, _, rfl, .inr (SqT.of hp), rfl, _, rfl, ?_⟩
    by_cases h1 : ms.length = 1
    · rw [decide_eq_true (by rw [List.length_map, h1]; rfl)]
      refine iteT ⟨tiny (by show 2 ≤ 1000; decide), fun t ht => ?_⟩
      exact q _ (dI [1, 0]) _ (isI (ns := [1, 0]) upd_same (by decide)) (bad_of fun _ h _ => absurd h (by decide)) (same_upd ht)
    · rw [decide_eq_false (fun e : V.int ((ms.map V.int).length : Int) = V.int 1 => h1 (by injection e with e; rw [List.length_map] at e; omega))]
      refine iteF (q v _ H hv (bad_of fun _ h2 _ => ?_) (Same.refl _))
      exfalso
      match ms, ne, h1, pw, h2 with
      | a :: b :: r, _, _, pw, h2 =>
        have hab := (List.pairwise_cons.mp pw).1 b (List.mem_cons_self ..)
        have h3 := List.pairwise_reverse.mp h2
        have := (List.pairwise_cons.mp h3).1 b (List.mem_cons_self ..)
        omega
      | [_], _, h1, _, _ => exact h1 rfl
      | [], ne, _, _, _ => exact ne rfl
  refine ⟨_, rfl, _, rfl, _, rfl, rfl, p, _, rfl, SqT.of hp, fun t ht => ?_⟩
  have s1 := same_upd (o := HO.tup (ms.map V.int).reverse) ht
  refine ⟨p, ms, m, c, _, rfl, s1 _ _ hp, pw, ne, isI (by rw [upd_same, List.map_reverse]) (by rw [List.length_reverse]; omega), fun v d H2 hv hb s2 => ?_⟩
  have s12 := s1.trans s2
  have hp2 := s12 _ _ hp
  clear s1 s2
  obtain ⟨x0, hx0, a0⟩ : ∃ x, x ∈ ms ∧ atI (ms.map V.int) 0 = some (.int x) := by
    cases ms with
    | nil => exact absurd rfl ne
    | cons x r => exact ⟨x, List.mem_cons_self .., atI_nat (j := 0) rfl⟩
  obtain ⟨xl, hxl, al⟩ : ∃ x, x ∈ ms ∧ atI (ms.map V.int) (-1) = some (.int x) := by
    rcases List.eq_nil_or_concat ms with h | ⟨r, x, h⟩
    · exact absurd h ne
    · rw [h]
      refine ⟨x, by simp, ?_⟩
      rw [List.concat_eq_append, List.map_append]
      exact atI_last ..
  have sz : ∀ k : Nat, k ≤ 20 → (ms.map V.int).length + k ≤ sizeLine := fun k hk => by rw [sizeLine_eq, List.length_map]; omega
  have sz' : ∀ k : Nat, k ≤ 20 → k + (ms.map V.int).length ≤ sizeLine := fun k hk => by rw [sizeLine_eq, List.length_map]; omega
  -- the first list
  refine ⟨_, rfl, tiny (by show 0 ≤ 1000; decide), fun t1 ht1 => ?_⟩
  have g1 := same_upd (o := HO.tup []) ht1
  have b1 : Is 16 (upd H2 t1 (.tup [])) (.ref t1) (dI []) := isI (ns := []) upd_same (by decide)
  have v1 := hv.same g1
  have hq1 := g1 _ _ hp2
  have k1 := s12.trans g1
  generalize upd H2 t1 (HO.tup []) = K1 at g1 b1 v1 hq1 k1
  refine ⟨_, rfl, _, rfl, _, rfl, p, _, _, .int xl, rfl, rfl, SqT.of hq1, al, tiny (by show 1 ≤ 1000; decide), fun u2 hu2 => ?_⟩
  have g2 := same_upd (o := HO.tup [V.int xl]) hu2
  refine ⟨p, u2, _, _, rfl, rfl, g2 _ _ hq1, upd_same, sz 1 (by decide), fun t2 K2 ht2 g2' => ?_⟩
  have g22 := g2.trans g2'
  have b2 : Is 16 K2 (.ref t2) (dI (ms ++ [xl])) := isI (by rw [ht2, List.map_append]; rfl) (by rw [List.length_append]; show _ + 1 ≤ 16; omega)
  have c1 := b1.same g22
  have v2 := v1.same g22
  have hq2 := g22 _ _ hq1
  have k2 := k1.trans g22
  clear g2 g2' g22 hu2 ht2 b1 v1 hq1 k1
  refine ⟨_, rfl, _, rfl, p, _, _, .int x0, rfl, rfl, SqT.of hq2, a0, tiny (by show 1 ≤ 1000; decide), fun u3 hu3 => ?_⟩
  have g3 := same_upd (o := HO.tup [V.int x0]) hu3
  refine ⟨p, u3, _, _, rfl, rfl, g3 _ _ hq2, upd_same, sz 1 (by decide), fun t3 K3 ht3 g3' => ?_⟩
  have g33 := g3.trans g3'
  have b3 : Is 16 K3 (.ref t3) (dI (ms ++ [x0])) := isI (by rw [ht3, List.map_append]; rfl) (by rw [List.length_append]; show _ + 1 ≤ 16; omega)
  have c2 := b2.same g33
  have c1 := c1.same g33
  have v3 := v2.same g33
  have hq3 := g33 _ _ hq2
  have k3 := k2.trans g33
  clear g3 g3' g33 hu3 ht3 b2 v2 hq2 k2
  refine ⟨_, rfl, _, rfl, tiny (by show 1 ≤ 1000; decide), fun u4 hu4 => ?_⟩
  have g4 := same_upd (o := HO.tup [V.int (m : Int)]) hu4
  refine ⟨p, u4, _, _, rfl, rfl, g4 _ _ hq3, upd_same, sz 1 (by decide), fun t4 K4 ht4 g4' => ?_⟩
  have g44 := g4.trans g4'
  have b4 : Is 16 K4 (.ref t4) (dI (ms ++ [(m : Int)])) := isI (by rw [ht4, List.map_append]; rfl) (by rw [List.length_append]; show _ + 1 ≤ 16; omega)
  have c3 := b3.same g44
  have c2 := c2.same g44
  have c1 := c1.same g44
  have v4 := v3.same g44
  have hq4 := g44 _ _ hq3
  have k4 := k3.trans g44
  clear g4 g4' g44 hu4 ht4 b3 v3 hq3 k3
  refine ⟨_, rfl, _, _, rfl, rfl, tiny (by show 1 ≤ 1000; decide), fun t5 ht5 => ⟨tiny (by show 6 ≤ 1000; decide), fun l1 hl1 => ?_⟩⟩
  have g5 := same_upd (o := HO.tup [V.int ((m : Int) + 5)]) ht5
  have g6 := same_upd (o := HO.lst [v, V.ref t1, V.ref t2, V.ref t3, V.ref t4, V.ref t5]) hl1
  have g56 := g5.trans g6
  have b5 := (isI (ns := [(m : Int) + 5]) (upd_same (H := K4) (a := t5) (o := HO.tup [V.int ((m : Int) + 5)])) (by show 1 ≤ 16; decide)).same g6
  have c4 := b4.same g56
  have c3 := c3.same g56
  have c2 := c2.same g56
  have c1 := c1.same g56
  have v5 := v4.same g56
  have hq5 := g56 _ _ hq4
  have k5 := k4.trans g56
  have hL1 : upd (upd K4 t5 (.tup [V.int ((m : Int) + 5)])) l1 (.lst [v, V.ref t1, V.ref t2, V.ref t3, V.ref t4, V.ref t5]) l1 = some (.lst [v, V.ref t1, V.ref t2, V.ref t3, V.ref t4, V.ref t5]) := upd_same
  generalize upd (upd K4 t5 (HO.tup [V.int ((m : Int) + 5)])) l1 (HO.lst [v, V.ref t1, V.ref t2, V.ref t3, V.ref t4, V.ref t5]) = K5 at *
  clear g5 g6 g56 ht5 hl1 b4 v4 hq4 k4
  -- the second list
  refine ⟨_, rfl, _, rfl, tiny (by show 1 ≤ 1000; decide), fun u6 hu6 => ?_⟩
  have g6 := same_upd (o := HO.tup [V.int (-1)]) hu6
  refine ⟨_, rfl, u6, p, _, _, rfl, rfl, upd_same, g6 _ _ hq5, sz' 1 (by decide), fun t6 K6 ht6 g6' => ?_⟩
  have g66 := g6.trans g6'
  have b6 : Is 16 K6 (.ref t6) (dI (-1 :: ms)) := isI ht6 (by show _ + 1 ≤ 16; omega)
  have c5 := b5.same g66
  have c4 := c4.same g66
  have c3 := c3.same g66
  have c2 := c2.same g66
  have c1 := c1.same g66
  have v6 := v5.same g66
  have hq6 := g66 _ _ hq5
  have k6 := k5.trans g66
  have hL6 := g66 _ _ hL1
  clear g6 g6' g66 hu6 ht6 b5 v5 hq5 k5 hL1
  refine ⟨_, rfl, tiny (by show 1 ≤ 1000; decide), fun u7 hu7 => ?_⟩
  have g7 := same_upd (o := HO.tup [V.int 9]) hu7
  refine ⟨p, u7, _, _, rfl, rfl, g7 _ _ hq6, upd_same, sz 1 (by decide), fun t7 K7 ht7 g7' => ?_⟩
  have g77 := g7.trans g7'
  have b7 : Is 16 K7 (.ref t7) (dI (ms ++ [9])) := isI (by rw [ht7, List.map_append]; rfl) (by rw [List.length_append]; show _ + 1 ≤ 16; omega)
  have c6 := b6.same g77
  have c5 := c5.same g77
  have c4 := c4.same g77
  have c3 := c3.same g77
  have c2 := c2.same g77
  have c1 := c1.same g77
  have v7 := v6.same g77
  have hq7 := g77 _ _ hq6
  have k7 := k6.trans g77
  have hL7 := g77 _ _ hL6
  clear g7 g7' g77 hu7 ht7 b6 v6 hq6 k6 hL6
  refine ⟨_, rfl, _, rfl, p, _, _, .int xl, rfl, rfl, SqT.of hq7, al, _, rfl, tiny (by show 2 ≤ 1000; decide), fun t8 ht8 => ?_⟩
  have g8 := same_upd (o := HO.tup [V.int xl, V.int (-1)]) ht8
  refine ⟨_, rfl, _, rfl, p, _, rfl, .inr (SqT.of (g8 _ _ hq7)), fun t10 ht10 => ⟨tiny (by show 6 ≤ 1000; decide), fun l2 hl2 => ?_⟩⟩
  have g10 := same_upd (o := HO.lst (ms.map V.int)) ht10
  have g11 := same_upd (o := HO.lst [V.ref t6, V.ref t7, V.ref t8, v, V.ref t10, V.non]) hl2
  have gA := (g8.trans g10).trans g11
  refine ⟨l1, l2, _, _, rfl, rfl, gA _ _ hL7, upd_same, by rw [sizeLine_eq]; exact Nat.le_of_ble_eq_true rfl, fun l3 hl3 => ?_⟩
  have g12 := same_upd (o := HO.lst ([v, V.ref t1, V.ref t2, V.ref t3, V.ref t4, V.ref t5] ++ [V.ref t6, V.ref t7, V.ref t8, v, V.ref t10, V.non])) hl3
  have gB := gA.trans g12
  obtain ⟨e0, e1⟩ := emod_in c (m := 12) (by decide)
  obtain ⟨u, hu, hm⟩ := atI_mem5 (xs := [v, V.ref t1, V.ref t2, V.ref t3, V.ref t4, V.ref t5] ++ [V.ref t6, V.ref t7, V.ref t8, v, V.ref t10, V.non]) e0 (by simpa using e1)
  have b8 := (isI (ns := [xl, -1]) (upd_same (H := K7) (a := t8) (o := HO.tup [V.int xl, V.int (-1)])) (by show 2 ≤ 16; decide)).same ((g10.trans g11).trans g12)
  have b10 : Is 16 _ (.ref t10) (.lst (ms.map D.int)) := Is.same (.lst (upd_same (H := upd K7 t8 (.tup [V.int xl, V.int (-1)])) (a := t10) (o := HO.lst (ms.map V.int))) (by rw [List.length_map]; omega) (isLI ms)) (g11.trans g12)
  have fin : ∃ d, Is 16 (upd (upd (upd (upd K7 t8 (HO.tup [V.int xl, V.int (-1)])) t10 (HO.lst (ms.map V.int))) l2 (HO.lst [V.ref t6, V.ref t7, V.ref t8, v, V.ref t10, V.non])) l3 (HO.lst ([v, V.ref t1, V.ref t2, V.ref t3, V.ref t4, V.ref t5] ++ [V.ref t6, V.ref t7, V.ref t8, v, V.ref t10, V.non]))) u d ∧ Bad (m : Int) d := by
    have hm' : u = v ∨ u = .ref t1 ∨ u = .ref t2 ∨ u = .ref t3 ∨ u = .ref t4 ∨ u = .ref t5 ∨ u = .ref t6 ∨ u = .ref t7 ∨ u = .ref t8 ∨ u = v ∨ u = .ref t10 ∨ u = .non := by simpa using hm
    rcases hm' with rfl | rfl | rfl | rfl | rfl | rfl | rfl | rfl | rfl | rfl | rfl | rfl
    · exact ⟨d, v7.same gB, hb⟩
    · exact ⟨_, c1.same gB, bad_of fun _ _ h => absurd h (by decide)⟩
    · exact ⟨_, c2.same gB, bad_of fun _ h _ => by
        have := (List.pairwise_append.mp h).2.2 xl hxl xl (List.mem_singleton.mpr rfl)
        omega⟩
    · exact ⟨_, c3.same gB, bad_of fun _ h _ => by
        have := (List.pairwise_append.mp h).2.2 x0 hx0 x0 (List.mem_singleton.mpr rfl)
        omega⟩
    · exact ⟨_, c4.same gB, bad_of fun _ _ _ => ⟨m, by simp, Int.le_refl _⟩⟩
    · exact ⟨_, c5.same gB, bad_of fun _ _ _ => ⟨(m : Int) + 5, by simp, by omega⟩⟩
    · exact ⟨_, c6.same gB, bad_of fun h _ _ => by
        have := h (-1) (List.mem_cons_self ..)
        omega⟩
    · exact ⟨_, b7.same gB, bad_of fun h _ _ => by
        have := h 9 (by simp)
        omega⟩
    · exact ⟨_, b8, bad_of fun h _ _ => by
        have := h (-1) (by simp)
        omega⟩
    · exact ⟨d, v7.same gB, hb⟩
    · exact ⟨_, b10, .inl rfl⟩
    · exact ⟨_, .non, .inl rfl⟩
  obtain ⟨d', hd', hbd'⟩ := fin
  exact ⟨_, rfl, _, _, rfl, rfl, (by show (0 : Int) < 12; decide), l3, _, _, u, rfl, rfl, SqL.of upd_same, hu, q u d' _ hd' hbd' (k7.trans gB)⟩
end
end K1
set_option Elab.async false
set_option linter.all false
set_option maxRecDepth 100000
set_option maxHeartbeats 4000000
namespace L2
open PySem PySem.Spec PyProof.Rows
section
variable {X : Cx} {k : Nat} {f C : Addr} {fd : FuncData} {ps : List Str} {sp : Sp} {x m : Str} {p pos apos : Pos} {e o : Expr} {es : List Expr} {ta : TE} {t : TA}
/-- C(..), whose __init__ may raise -/
theorem px_make (M : Mk X.K C f) (F : FnOk X.prog X.w X.K X.mg X.base (CXe X.prog X.w) k f fd ps sp) (hr : Room (k + 1) X.A) (hg : Gl X x) (hm : X.mg x = some (.ref C)) (hb : Binds X.K fd ps []) (ha : ∀ W, PA (X.wish W) (e :: es) t)
    (hdb : (x == ("__debug__" : Str)) = false := by decide) (he : starEach (e :: es) X.env = (false, eval e X.env) :: starEach es X.env := by rfl) (hpl : (backTo pos (starEach es X.env)).any (·.1) = false := by rfl) :
    PEx X (.Call (.Name x p) (e :: es) [] pos) (fun E => tMake C sp [] E t) := by
  intro pins s σ H Q E W I h hW
  refine wpAny_Call_Name_kw (ld_glob (X := X.wish W) (I.wish W) hg hm ?_ hdb)
  refine PySem.W.callWith_K (h₀ := X.base) I.ok.mod.kin M.kp (thn (ha W pos pins s σ H _ (I.wish W) h) fun us s1 ⟨vs, H1, I1, r, q⟩ => ⟨I1.kIn, ?_⟩) he hpl
  have I1' : Inv X pins σ H1 s1 := I1.unwish
  have hq := q (s1.heap.objs.size + 1) s1.heap.objs.size (I1'.hok.fresh (Nat.le_succ _)) (I1'.hok.fresh (Nat.le_refl _)) (Nat.ne_of_lt (Nat.lt_succ_self _))
  have I2 := Inv.made (C := C) I1'
  have r2 : Vals (V.ref (s1.heap.objs.size + 1) :: (vs ++ [])) (Value.ref (s1.heap.objs.size + 1) :: us ++ []) := .cons rfl (r.append .nil)
  have hl : (Value.ref (s1.heap.objs.size + 1) :: us ++ []).length = ps.length := by
    have e := r2.length
    rw [F.len _ _ _ _ hq] at e
    exact e.symm
  refine wpAny_call (make_map (f := f) I1'.kIn M.makes M.init (beq_iff_eq.mp M.fn) (codeAny_mono (F.run _ X.stack _ _ ⟨Value.ref (s1.heap.objs.size + 1) :: us, []⟩ (Value.ref (s1.heap.objs.size + 1) :: us ++ []) _ _ E (hr.make C us [])
    (I2.env0.make C us []) (hb _ (Value.ref (s1.heap.objs.size + 1) :: us) I2.kIn hl) r2 hq) fun r s' hq' => ?_))
  cases r with
  | error e => exact hW _ _ e s' I2 hq'
  | ok fl =>
    cases fl with
    | ret u =>
      obtain ⟨v, H', I3, rv, ev, q3⟩ := I2.after hq'
      subst ev
      exact ⟨rv, ⟨V.ref (s1.heap.objs.size + 1), H', I3, rfl, q3⟩⟩
    | next => exact False.elim hq'
    | brk => exact False.elim hq'
    | cont => exact False.elim hq'
end
/-! ### try: e, with one clause that has a name -/
section
variable {X : Cx} {C : Addr} {y n : Str} {j : Nat} {xp tp np hp : Pos} {e : Expr} {te : XK → TE} {b₀ : Stmt} {suite : List Stmt} {ts : TS}
def tTryE (K : PySem.W.Frag) (C : Addr) (N j : Nat) (te : XK → TE) (ts : TS) : TS := fun D σ H => te (EHnd K C fun a H2 => ts (D.lost N) (σ.set j (some (.ref a))) H2) σ H fun _ H1 => D.nx σ H1
theorem ps_tryE (hst : X.stack = X.env :: X.outer) (hf : X.env.frame = some X.env.locals) (h1 : PEx X e te) (hN : X.N.Nodup)
    (hgC : Gl X y) (hmC : X.mg y = some (.ref C)) (hj : X.N[j]? = some n) (hl : X.env.scope.names.lookup n = some .local) (hs : ∀ a, PSs (X.suite a) (b₀ :: suite) ts) (hdc : (y == ("__debug__" : Str)) = false := by decide) (hsw : swapsWith e none xp.line X.env = pure false := by rfl) :
    PS X (.Try [.Expr e xp] [.ExceptHandler (some (.Name y np)) (some n) (b₀ :: suite) hp] [] [] tp) (tTryE X.K C X.N.length j te ts) := by
  intro pins s σ H D I h
  refine wpAny_Try_except (wpAny_execs_cons (wpAny_Expr_any (thn (h1 pins s σ H (fun _ H1 => D.nx σ H1) _ _ I h fun H1 s1 ev s' I1 hx => caughtAs hst hf hgC hmC hN hj hl hs I1 hx hdc) fun v s2 ⟨z, H2, I2, rz, q2⟩ => ?_) I.quiet hsw))
  exact wpAny_execs_nil (wpAny_execs_nil ⟨σ, H2, I2, q2⟩)
end
end L2
set_option Elab.async false
set_option linter.all false
set_option maxRecDepth 100000
set_option maxHeartbeats 4000000
namespace K1
open PySem L2 Kp
section
variable {P : Program} {w : World} {K : PySem.W.Frag} {mg : Str → Option Value} {base : Heap}
/-- a class of refusals: what isinstance tells of it -/
structure ExcR (K : PySem.W.Frag) (mg : Str → Option Value) (nR n1 n2 n3 n4 : Str) (cR cL c1 c2 c3 c4 : Addr) : Prop where
  mR : mg nR = some (.ref cR)
  mL : mg "LogError" = some (.ref cL)
  m1 : mg n1 = some (.ref c1)
  m2 : mg n2 = some (.ref c2)
  m3 : mg n3 = some (.ref c3)
  m4 : mg n4 = some (.ref c4)
  mV : mg "ValueError" = none
  ex : PySem.W.exmOne K (.ref cR) (.ref cL) = some true
  ek : ExcK K cR
  ci : (PySem.W.clsIn K cR).isSome = true
  k1 : PySem.W.kitOne K (.ref cR) (.ref cR) = some true
  k2 : PySem.W.kitOne K (.ref cR) (.type "ValueError") = some true
  k4 : PySem.W.kitAny K (.ref cR) ([c1, c2, c3, c4].map Value.ref) = some false
theorem call_isiXK5 {X : Cx} {K' : PySem.W.Frag} (h : X.K = K') : CallR X (.builtin "isinstance") (rIsiX K') := h ▸ call_isiX
def spRoomBad (C cR : Addr) : Sp := fun vs H Q E => ∃ (x dx : Addr) (c : Int) (v : V) (d : D), vs = [.ref x, .int c, v] ∧ H x = some (.ins C dx []) ∧ Is 16 H v d ∧ (c < 1 ∨ 9 < c ∨ Bad c d) ∧ ∀ H', (∀ b o, b ≠ x → H b = some o → H' b = some o) → E (.ref cR) none H'
def spRef5 : Sp := fun vs H Q _ => ∃ (c : Int) (v : V) (d : D), vs = [.int c, v] ∧ Is 16 H v d ∧ (c < 1 ∨ 9 < c ∨ Bad c d) ∧ ∀ H', Same H H' → Q (.bl true) H'
theorem scRr : FnScope ["_law_count", "_law_seats", "e"] ["_law_count", "_law_seats"] (defScope s__law_refused_room) := ⟨rfl, rfl, rfl, by decide +kernel, rfl, by decide +kernel, by decide +kernel⟩
theorem ok_ref5 {f fI : Addr} {fd dI : FuncData} {kI : Nat} {C cR cL c1 c2 c3 c4 : Addr} {p1 p2 : Str} (Z : ExcR K mg "NoRoom" "NoLetter" "NoKeeper" "NoPlace" "NoSchedule" cR cL c1 c2 c3 c4) (F : Fun K "_law_refused_room" "_law_refused_room" s__law_refused_room f fd) (T : Txt mg) (hRo : mg "Room" = some (.ref C)) (MI : Mk K C fI) (FI : FnOk P w K mg base (CXe P w) kI fI dI ["self", p1, p2] (spRoomBad C cR)) (bI : Binds K dI ["self", p1, p2] []) : FnOk P w K mg base CX0 (kI + 2) f fd ["_law_count", "_law_seats"] spRef5 := by
  refine F.ok scRr (fun vs H Q E ⟨_, _, _, e, _⟩ => by subst e; rfl) (fun cdv A outer s H vs Q E hr h => ?_)
  obtain ⟨c, v, d, rfl, hv, hb, q⟩ := h
  have rI : Room (kI + 1) _ := hr
  refine ⟨_, @pss_p _ _ _ _ _ (ps_tryE (j := 2) (by rfl) (by rfl) (px_make MI FI rI (by rfl) hRo bI (fun _ => pa_n (pv 0) (pa_n (pv 1) pa_nil))) scRr.nd (by rfl) Z.mL (by rfl) (by rfl) (fun _ => @pss_p _ _ _ _ _ (ps_if (pt_val (pe_callB (call_isiXK5 (K' := K) (by rfl)) (by rfl) T.isi boot_isi (pa_n (pv 2) (pa_cons (QE.h (qx_tup (qa_n (pe_fn (by rfl) Z.m1) (qa_n (pe_fn (by rfl) Z.m2) (qa_n (pe_fn (by rfl) Z.m3) (qa_n (pe_fn (by rfl) Z.m4) qa_nil)))))) pa_nil)))) (@pss_o _ _ _ (ps_ret pe_bl)) pss_nil)
    (@pss_o _ _ _ (ps_ret (pe_and (pe_callB (call_isiXK5 (K' := K) (by rfl)) (by rfl) T.isi boot_isi (pa_n (pv 2) (pa_n (pe_fn (by rfl) Z.mR) pa_nil))) (pe_one (pe_callB (call_isiXK5 (K' := K) (by rfl)) (by rfl) T.isi boot_isi (pa_n (pv 2) (pa_n (pe_ty (by rfl) Z.mV boot_VE) pa_nil)))))))))
    (@pss_o _ _ _ (ps_ret (pe_bl))), ?_⟩
  refine ⟨_, rfl, _, rfl, fun x dx hx hdx hne => ?_⟩
  have g : Same H (upd (upd H dx (.own x)) x (.ins C dx [])) := (same_upd hdx).trans (same_upd (by rw [upd_ne (fun z => hne z.symm)]; exact hx))
  refine ⟨x, dx, c, v, d, rfl, upd_same, hv.same g, hb, fun H1 k1 => ?_⟩
  have s1 : Same H H1 := fun b o e => k1 b o (fun z => by rw [z, hx] at e; cases e) (g _ _ e)
  refine ⟨Z.ex, fun a ha => ?_⟩
  have ha1 : (upd H1 a (clsIs a (.ref cR))) a = some (clsIs a (.ref cR)) := upd_same
  refine ⟨_, rfl, tiny (by show 4 ≤ 1000; decide), fun tp htp => ?_⟩
  have s3 := same_upd (o := HO.tup [V.ref c1, V.ref c2, V.ref c3, V.ref c4]) htp
  refine ⟨a, cR, false, s3 _ _ ha1, Z.ek, Z.ci, .inr (.inr ⟨tp, [c1, c2, c3, c4], rfl, upd_same, Z.k4⟩), _, rfl, iteF ?_⟩
  refine ⟨_, rfl, a, cR, true, s3 _ _ ha1, Z.ek, Z.ci, .inl ⟨cR, rfl, Z.k1⟩, _, rfl, iteT ?_⟩
  refine ⟨_, rfl, a, cR, true, s3 _ _ ha1, Z.ek, Z.ci, .inr (.inl ⟨_, rfl, Z.k2⟩), ?_⟩
  exact q _ (s1.trans ((same_upd ha).trans s3))
/-- a room: its state by count and seats -/
abbrev Rm := Hp → Addr → (Addr → Prop) → Nat → List Int → Prop
def spKeepBad (RV : Rm) (cR : Addr) : Sp := fun vs H Q E => ∃ (a : Addr) (O : Addr → Prop) (k : Int) (n : Nat) (ms : List Int), vs = [.ref a, .int k] ∧ RV H a O n ms ∧ (k < 0 ∨ (n : Int) ≤ k) ∧ ∀ H', Same H H' → E (.ref cR) none H'
def spNk5 (RV : Rm) : Sp := fun vs H Q _ => ∃ (a : Addr) (O : Addr → Prop) (k : Int) (n : Nat) (ms : List Int), vs = [.ref a, .int k] ∧ RV H a O n ms ∧ (k < 0 ∨ (n : Int) ≤ k) ∧ ∀ H', Same H H' → Q (.bl true) H'
structure RmL (RV : Rm) (C : Addr) : Prop where
  frame : ∀ {H H' : Hp} {a : Addr} {O : Addr → Prop} {n : Nat} {ms : List Int}, RV H a O n ms → SameT H H' → (∀ b o, O b → H b = some o → H' b = some o) → RV H' a O n ms
  ins : ∀ {H : Hp} {a : Addr} {O : Addr → Prop} {n : Nat} {ms : List Int}, RV H a O n ms → ∃ dx fs, H a = some (.ins C dx fs) ∧ fs.lookup ("size" : Str) = none ∧ fs.lookup ("keeper" : Str) = none ∧ fs.lookup ("letters" : Str) = none ∧ fs.lookup ("callers" : Str) = none ∧ fs.lookup ("answers" : Str) = none
theorem scNk : FnScope ["_law_room", "_law_k", "e"] ["_law_room", "_law_k"] (defScope s__law_no_keeper) := ⟨rfl, rfl, rfl, by decide +kernel, rfl, by decide +kernel, by decide +kernel⟩
theorem ok_nk5 {f fK : Addr} {fd dK : FuncData} {kK : Nat} {RV : Rm} {C cR cL c1 c2 c3 c4 : Addr} {p1 : Str} (L : RmL RV C) (Z : ExcR K mg "NoKeeper" "NoLetter" "NoRoom" "NoPlace" "NoSchedule" cR cL c1 c2 c3 c4) (F : Fun K "_law_no_keeper" "_law_no_keeper" s__law_no_keeper f fd) (T : Txt mg) (cl : Cls K C) (MK : Meth K C "keeper" fK) (FK : FnOk P w K mg base (CXe P w) kK fK dK ["self", p1] (spKeepBad RV cR)) (bK : Binds K dK ["self", p1] []) : FnOk P w K mg base CX0 (kK + 1) f fd ["_law_room", "_law_k"] (spNk5 RV) := by
  refine F.ok scNk (fun vs H Q E ⟨_, _, _, _, _, e, _⟩ => by subst e; rfl) (fun cdv A outer s H vs Q E hr h => ?_)
  obtain ⟨x, O, k, n, ms, rfl, hR, hb, q⟩ := h
  have rK := hr
  refine ⟨_, @pss_p _ _ _ _ _ (ps_tryE (j := 2) (by rfl) (by rfl) (px_meth (fun _ => pv 0) cl MK FK rK bK (fun _ => pa_n (pv 1) pa_nil)) scNk.nd (by rfl) Z.mL (by rfl) (by rfl) (fun _ => @pss_p _ _ _ _ _ (ps_if (pt_val (pe_callB (call_isiXK5 (K' := K) (by rfl)) (by rfl) T.isi boot_isi (pa_n (pv 2) (pa_cons (QE.h (qx_tup (qa_n (pe_fn (by rfl) Z.m1) (qa_n (pe_fn (by rfl) Z.m2) (qa_n (pe_fn (by rfl) Z.m3) (qa_n (pe_fn (by rfl) Z.m4) qa_nil)))))) pa_nil)))) (@pss_o _ _ _ (ps_ret pe_bl)) pss_nil)
    (@pss_o _ _ _ (ps_ret (pe_and (pe_callB (call_isiXK5 (K' := K) (by rfl)) (by rfl) T.isi boot_isi (pa_n (pv 2) (pa_n (pe_fn (by rfl) Z.mR) pa_nil))) (pe_one (pe_callB (call_isiXK5 (K' := K) (by rfl)) (by rfl) T.isi boot_isi (pa_n (pv 2) (pa_n (pe_ty (by rfl) Z.mV boot_VE) pa_nil)))))))))
    (@pss_o _ _ _ (ps_ret (pe_bl))), ?_⟩
  obtain ⟨dx, fs, hx, _, lk, _⟩ := L.ins hR
  refine ⟨_, rfl, x, dx, fs, rfl, hx, lk, _, rfl, x, O, k, n, ms, rfl, hR, hb, fun H1 s1 => ?_⟩
  refine ⟨Z.ex, fun a ha => ?_⟩
  have ha1 : (upd H1 a (clsIs a (.ref cR))) a = some (clsIs a (.ref cR)) := upd_same
  refine ⟨_, rfl, tiny (by show 4 ≤ 1000; decide), fun tp htp => ?_⟩
  have s3 := same_upd (o := HO.tup [V.ref c1, V.ref c2, V.ref c3, V.ref c4]) htp
  refine ⟨a, cR, false, s3 _ _ ha1, Z.ek, Z.ci, .inr (.inr ⟨tp, [c1, c2, c3, c4], rfl, upd_same, Z.k4⟩), _, rfl, iteF ?_⟩
  refine ⟨_, rfl, a, cR, true, s3 _ _ ha1, Z.ek, Z.ci, .inl ⟨cR, rfl, Z.k1⟩, _, rfl, iteT ?_⟩
  refine ⟨_, rfl, a, cR, true, s3 _ _ ha1, Z.ek, Z.ci, .inr (.inl ⟨_, rfl, Z.k2⟩), ?_⟩
  exact q _ (s1.trans ((same_upd ha).trans s3))
end
end K1
set_option Elab.async false
set_option linter.all false
set_option maxRecDepth 100000
set_option maxHeartbeats 4000000
namespace K1
open PySem L2 Kp
section
variable {P : Program} {w : World} {K : PySem.W.Frag} {mg : Str → Option Value} {base : Heap}
/-! ### a whole number -/
def spWholeI : Sp := fun vs H Q _ => ∃ z : Int, vs = [.int z] ∧ Q (.bl true) H
theorem scWh : FnScope ["_law_found"] ["_law_found"] (defScope s__law_whole) := ⟨rfl, rfl, rfl, by decide +kernel, rfl, by decide +kernel, by decide +kernel⟩
theorem ok_wholeI {f : Addr} {fd : FuncData} (F : Fun K "_law_whole" "_law_whole" s__law_whole f fd) (T : Txt mg) : FnOk P w K mg base CX0 1 f fd ["_law_found"] spWholeI := by
  refine F.ok scWh (fun vs H Q E ⟨_, e, _⟩ => by subst e; rfl) (fun cdv A outer s H vs Q E hr h => ?_)
  obtain ⟨z, rfl, q⟩ := h
  refine ⟨_, @pss_o _ _ _ (ps_ret (pe_and (pe_callB call_isi (by rfl) T.isi boot_isi (pa_n (pv 0) (pa_n (pe_ty (by rfl) T.int boot_int) pa_nil))) (pe_one (pe_not (pe_callB call_isi (by rfl) T.isi boot_isi (pa_n (pv 0) (pa_n (pe_ty (by rfl) T.bool boot_bool) pa_nil))))))), ?_⟩
  exact ⟨_, rfl, _, _, _, _, rfl, .int _, kit_int K (.int z), _, rfl, iteT ⟨_, rfl, _, _, _, _, rfl, .int _, kit_bool K (.int z), _, rfl, q⟩⟩
end
end K1
set_option Elab.async false
set_option linter.all false
set_option maxRecDepth 100000
set_option maxHeartbeats 4000000
namespace K1
open PySem L2 Kp
section
variable {P : Program} {w : World} {K : PySem.W.Frag} {mg : Str → Option Value} {base : Heap}
def Off (a : Addr) (H H' : Hp) : Prop := ∀ b o, b ≠ a → H b = some o → H' b = some o
def spInit5 (C : Addr) : Sp := fun vs H Q _ => ∃ (x q dx : Addr) (num : Int) (ms : List Int), vs = [.ref x, .int num, .ref q] ∧ H x = some (.ins C dx []) ∧ H q = some (.tup (ms.map V.int)) ∧ 0 ≤ num ∧ num ≤ 8 ∧ ms.length ≤ 9 ∧ ∀ H', KpV H' x C num 0 ms → Off x H H' → Q .non H'
structure KpM5 (P : Program) (w : World) (K : PySem.W.Frag) (mg : Str → Option Value) (base : Heap) (C : Addr) (kI : Nat) : Prop where
  gl : mg "Keeper" = some (.ref C)
  init : ∃ f fd p q, Mk K C f ∧ FnOk P w K mg base CX0 kI f fd ["self", p, q] (spInit5 C) ∧ Binds K fd ["self", p, q] []
def spRmI (RV : Rm) (C : Addr) : Sp := fun vs H Q _ => ∃ (x q dx : Addr) (n : Nat) (ms : List Int), vs = [.ref x, .int (n : Int), .ref q] ∧ H x = some (.ins C dx []) ∧ H q = some (.tup (ms.map V.int)) ∧ 1 ≤ n ∧ n ≤ 9 ∧ ms.Pairwise (· < ·) ∧ (∀ m ∈ ms, 0 ≤ m ∧ m < (n : Int)) ∧ ms ≠ [] ∧ ms.length ≤ 9 ∧ ∀ (O : Addr → Prop) (H' : Hp), RV H' x O n ms → (∀ b, O b → b = x ∨ H b = none) → Off x H H' → Q .non H'
def spRmN (RV : Rm) : Sp := fun vs H Q _ => ∃ (a : Addr) (O : Addr → Prop) (n : Nat) (ms : List Int), vs = [.ref a] ∧ RV H a O n ms ∧ ∀ H', Same H H' → Q (.int (n : Int)) H'
def spRmE (RV : Rm) : Sp := fun vs H Q _ => ∃ (a : Addr) (O : Addr → Prop) (n : Nat) (ms : List Int), vs = [.ref a] ∧ RV H a O n ms ∧ ∀ (l : Addr) (H' : Hp), H' l = some (.lst []) → Same H H' → Q (.ref l) H'
def spRmA (RV : Rm) : Sp := fun vs H Q _ => ∃ (a : Addr) (O : Addr → Prop) (n : Nat) (ms : List Int) (x : Str), vs = [.ref a, .str x] ∧ RV H a O n ms ∧ ∀ (l : Addr) (H' : Hp), H' l = some (.lst []) → Same H H' → Q (.ref l) H'
def spRmK (RV : Rm) (CK : Addr) : Sp := fun vs H Q _ => ∃ (a : Addr) (O : Addr → Prop) (n : Nat) (ms : List Int) (k : Nat), vs = [.ref a, .int (k : Int)] ∧ RV H a O n ms ∧ k < n ∧ ∀ (p : Addr) (H' : Hp), KpV H' p CK (k : Int) 0 ms → Same H H' → Q (.ref p) H'
structure RmM (P : Program) (w : World) (K : PySem.W.Frag) (mg : Str → Option Value) (base : Heap) (RV : Rm) (C CK : Addr) (kR : Nat) : Prop where
  cl : Cls K C
  gl : mg "Room" = some (.ref C)
  init : ∃ f fd p q, Mk K C f ∧ FnOk P w K mg base CX0 kR f fd ["self", p, q] (spRmI RV C) ∧ Binds K fd ["self", p, q] []
  size : ∃ f fd, Meth K C "size" f ∧ FnOk P w K mg base CX0 kR f fd ["self"] (spRmN RV) ∧ Binds K fd ["self"] []
  keeper : ∃ f fd p, Meth K C "keeper" f ∧ FnOk P w K mg base CX0 kR f fd ["self", p] (spRmK RV CK) ∧ Binds K fd ["self", p] []
  letters : ∃ f fd, Meth K C "letters" f ∧ FnOk P w K mg base CX0 kR f fd ["self"] (spRmE RV) ∧ Binds K fd ["self"] []
  callers : ∃ f fd, Meth K C "callers" f ∧ FnOk P w K mg base CX0 kR f fd ["self"] (spRmE RV) ∧ Binds K fd ["self"] []
  answers : ∃ f fd p, Meth K C "answers" f ∧ FnOk P w K mg base CX0 kR f fd ["self", p] (spRmA RV) ∧ Binds K fd ["self", p] []
def spNx5 : Sp := fun vs H Q _ => ∃ n : Int, vs = [.int n] ∧ ∀ x : Str, Q (.str x) H
theorem RmL.same {RV : Rm} {C : Addr} (L : RmL RV C) {H H' : Hp} {a : Addr} {O : Addr → Prop} {n : Nat} {ms : List Int} (h : RV H a O n ms) (s : Same H H') : RV H' a O n ms := L.frame h (sameT_of s) fun b o _ e => s _ _ e
def spLaw (K : PySem.W.Frag) : Sp := fun vs H Q _ => ∃ (a : Addr) (ns : List Int), vs = [.ref a] ∧ SqL K H a (ns.map V.int) ∧ ns.length ≤ 63 ∧ ∀ H', Q (.bl true) H'
theorem scL52 : FnScope ["_law_script", "_law_count", "_law_seats", "_law_room", "_law_k", "_law_far"] ["_law_script"] (defScope sLaw) := ⟨rfl, rfl, rfl, by decide +kernel, rfl, by decide +kernel, by decide +kernel⟩
theorem ok_law {f : Addr} {fd : FuncData} {RV : Rm} {C CK : Addr} {jR jI jF jQ LV : Nat} (hL : 1 ≤ LV ∧ jR + 1 ≤ LV ∧ jI + 1 ≤ LV ∧ jF ≤ LV ∧ jQ ≤ LV) (L : RmL RV C) (M : RmM P w K mg base RV C CK jR) (MK0 : KpM5 P w K mg base CK jI) (F : Fun K "law" "law" sLaw f fd) (T : Txt mg) (CC : Cal P w K mg base "_law_cell_at" 1 ["_law_script", "_law_k"] (spCell K)) (CS : Cal P w K mg base "_law_seats_by" 1 ["_law_cell", "_law_many"] spSy) (CR : Cal P w K mg base "_law_refused_room" jF ["_law_count", "_law_seats"] spRef5) (CN : Cal P w K mg base "_law_no_count" 1 ["_law_cell"] spNc) (CB : Cal P w K mg base "_law_no_seats" 1 ["_law_seats", "_law_count", "_law_cell"] spNs) (CW : Cal P w K mg base "_law_whole" 1 ["_law_found"] spWholeI) (CO : Cal P w K mg base "_law_state_of" 1 ["_law_keeper"] (spSo5 CK)) (CQ : Cal P w K mg base "_law_no_keeper" jQ ["_law_room", "_law_k"] (spNk5 RV)) (CX : Cal P w K mg base "_law_name_by" 1 ["_law_cell"] spNx5) : FnOk P w K mg base CX0 (LV + 1) f fd ["_law_script"] (spLaw K) := by
  refine F.ok scL52 (fun vs H Q E ⟨_, _, e, _⟩ => by subst e; rfl) (fun cdv A outer s H vs Q E hr h => ?_)
  obtain ⟨a, ns, rfl, hS, hlen, q⟩ := h
  obtain ⟨gC, dC, GC, mC, kC, bC⟩ := CC.ex
  obtain ⟨gS, dS, GS, mS, kS, bS⟩ := CS.ex
  obtain ⟨gR, dR, GR, mR, kR, bR⟩ := CR.ex
  obtain ⟨gN, dN, GN, mN, kN, bN⟩ := CN.ex
  obtain ⟨gB, dB, GB, mB, kB, bB⟩ := CB.ex
  obtain ⟨gW, dW, GW, mW, kW, bW⟩ := CW.ex
  obtain ⟨gO, dO, GO, mO, kO, bO⟩ := CO.ex
  obtain ⟨gQ, dQ, GQ, mQ, kQ, bQ⟩ := CQ.ex
  obtain ⟨gX, dX, GX, mX, kX, bX⟩ := CX.ex
  obtain ⟨fI, dI0, p1, p2, MI, FI, bI⟩ := M.init
  obtain ⟨fZ, dZ, MZ, FZ, bZ⟩ := M.size
  obtain ⟨fK, dK, p3, MK, FK, bK⟩ := M.keeper
  obtain ⟨fL, dL, ML, FL, bL⟩ := M.letters
  obtain ⟨fA, dA, MA, FA, bA⟩ := M.callers
  obtain ⟨fW, dW, p4, MW, FW, bW0⟩ := M.answers
  obtain ⟨fJ, dJ, p5, p6, MJ, FJ, bJ⟩ := MK0.init
  have r1 := hr.mono hL.1
  have rM := hr.mono (show jR ≤ LV by omega)
  have rI := hr.mono hL.2.1
  have rJ := hr.mono hL.2.2.1
  have rR := hr.mono hL.2.2.2.1
  have rQ := hr.mono hL.2.2.2.2
  have hU : (A.deeper (PyProof.Rows.envOfC "law" (defScope sLaw) s.heap.objs.size f cdv)).units < cLine := by have := hr.units100; omega
  refine ⟨_, @pss_p _ _ _ _ _ (ps_set (i := 1) scL52.nd (by rfl) (by exact Or.inl rfl) (pe_op op_add (pe_int) (pe_op op_mod (pe_call GC r1 (by rfl) mC kC bC .nil pass0 (pa_n (pv 0) (pa_i pe_int pa_nil))) (pe_int))))
    (@pss_p _ _ _ _ _ (ps_set (i := 2) scL52.nd (by rfl) (by exact Or.inl rfl) (pe_call GS r1 (by rfl) mS kS bS .nil pass0 (pa_k (pe_call GC r1 (by rfl) mC kC bC .nil pass0 (pa_n (pv 0) (pa_i pe_int pa_nil))) (pa_n (pv 1) pa_nil))))
    (@pss_p _ _ _ _ _ (ps_if (pt_cmpR op_eq (pe_op op_mod (pe_call GC r1 (by rfl) mC kC bC .nil pass0 (pa_n (pv 0) (pa_i pe_int pa_nil))) (pe_int)) pe_int (nomark _)) (@pss_o _ _ _ (ps_ret (pe_call GR rR (by rfl) mR kR bR .nil pass0 (pa_k (pe_call GN r1 (by rfl) mN kN bN .nil pass0 (pa_k (pe_call GC r1 (by rfl) mC kC bC .nil pass0 (pa_n (pv 0) (pa_i pe_int pa_nil))) pa_nil)) (pa_n (pv 2) pa_nil))))) pss_nil)
    (@pss_p _ _ _ _ _ (ps_if (pt_cmpR op_eq (pe_op op_mod (pe_call GC r1 (by rfl) mC kC bC .nil pass0 (pa_n (pv 0) (pa_i pe_int pa_nil))) (pe_int)) pe_int (nomark _)) (@pss_o _ _ _ (ps_ret (pe_call GR rR (by rfl) mR kR bR .nil pass0 (pa_n (pv 1) (pa_k (pe_call GB r1 (by rfl) mB kB bB .nil pass0 (pa_n (pv 2) (pa_n (pv 1) (pa_k (pe_call GC r1 (by rfl) mC kC bC .nil pass0 (pa_n (pv 0) (pa_i pe_int pa_nil))) pa_nil)))) pa_nil))))) pss_nil)
    (@pss_p _ _ _ _ _ (ps_set (i := 3) scL52.nd (by rfl) (by exact Or.inl rfl) (pe_make MI FI rI (by rfl) M.gl bI .nil pass0 (pa_n (pv 1) (pa_n (pv 2) pa_nil))))
    (@pss_p _ _ _ _ _ (ps_if (PW.pt (pw_or (pt_not (pt_val (pe_call GW r1 (by rfl) mW kW bW .nil pass0 (pa_k (pe_meth0 (pv 3) M.cl MZ FZ rM bZ .nil pass0) pa_nil)))) (pw_or (pt_cmpR op_ne (pe_meth0 (pv 3) M.cl MZ FZ rM bZ .nil pass0) (pv 1) (nomark _)) (pw_or (pt_cmpR (op_neE hU) (pe_meth0 (pv 3) M.cl ML FL rM bL .nil pass0) (QE.h (qx_lst qa_nil)) (nomark _)) (pw_or1 (pt_cmpR (op_neE hU) (pe_meth0 (pv 3) M.cl MA FA rM bA .nil pass0) (QE.h (qx_lst qa_nil)) (nomark _))))))) (@pss_o _ _ _ (ps_ret pe_bl)) pss_nil)
    (@pss_p _ _ _ _ _ (ps_for PassesOwn.never (by rfl) (pi_range1 (by rfl) T.range (pa_n (pv 1) pa_nil)) (pg_name (i := 4) scL52.nd (by rfl) (by exact Or.inl rfl)) (@pss_o _ _ _ (ps_if (pt_cmpR (op_neA hr.units100) (pe_call GO r1 (by rfl) mO kO bO .nil pass0 (pa_k (pe_meth (pv 3) M.cl MK FK rM bK .nil pass0 (pa_n (pv 4) pa_nil)) pa_nil)) (pe_call GO r1 (by rfl) mO kO bO .nil pass0 (pa_k (pe_make MJ FJ rJ (by rfl) MK0.gl bJ .nil pass0 (pa_n (pv 4) (pa_n (pv 2) pa_nil))) pa_nil)) (nomark _)) (@pss_o _ _ _ (ps_ret pe_bl)) pss_nil)))
    (@pss_p _ _ _ _ _ (ps_set (i := 5) scL52.nd (by rfl) (by exact Or.inl rfl) (pe_op op_mod (pe_call GC r1 (by rfl) mC kC bC .nil pass0 (pa_n (pv 0) (pa_i pe_int pa_nil))) (pe_op op_pow pe_int pe_int)))
    (@pss_p _ _ _ _ _ (ps_for PassesOwn.never (by rfl) (pi_list (QE.h (qx_lst (qa_n (pv 1) (qa_b (pe_op op_add (pv 1) (pv 5)) (qa_neg (qa_b (pe_op op_sub (pe_un un_neg pe_int) (pv 5)) qa_nil))))))) (pg_name (i := 4) scL52.nd (by rfl) (by exact Or.inl rfl)) (@pss_o _ _ _ (ps_if (pt_not (pt_val (pe_call GQ rQ (by rfl) mQ kQ bQ .nil pass0 (pa_n (pv 3) (pa_n (pv 4) pa_nil))))) (@pss_o _ _ _ (ps_ret pe_bl)) pss_nil)))
    (@pss_o _ _ _ (ps_ret (pe_and (pe_cmpR (op_eqAL hr.units100) (pe_meth (pv 3) M.cl MW FW rM bW0 .nil pass0 (pa_k (pe_call GX r1 (by rfl) mX kX bX .nil pass0 (pa_n (pv 5) pa_nil)) pa_nil)) (QE.h (qx_lst qa_nil)) (nomark _)) (pe_and (pe_cmpR (op_eqAL hr.units100) (pe_meth0 (pv 3) M.cl MA FA rM bA .nil pass0) (QE.h (qx_lst qa_nil)) (nomark _)) (pe_one (pe_callB call_isi (by rfl) T.isi boot_isi (pa_k (pe_meth0 (pv 3) M.cl ML FL rM bL .nil pass0) (pa_n (pe_ty (by rfl) T.list boot_list) pa_nil)))))))))))))))), ?_⟩
  refine ⟨_, rfl, a, ns, 0, rfl, hS, by decide, fun z0 => ⟨_, _, rfl, rfl, (by show (0 : Int) < 9; decide), _, _, rfl, rfl, ?_⟩⟩
  obtain ⟨e0, e1⟩ := emod_in z0 (m := 9) (by decide)
  obtain ⟨n, en⟩ := Int.eq_ofNat_of_zero_le (show 0 ≤ 1 + z0 % 9 by omega)
  show gName 1 (V.int (1 + z0 % 9)) _ _ _
  rw [en]
  have n1 : 1 ≤ n := by omega
  have n9 : n ≤ 9 := by omega
  refine ⟨_, rfl, a, ns, 1, rfl, hS, by decide, fun z1 => ⟨_, rfl, z1, n, rfl, n1, n9, fun p ms H1 hp pw lo ne len s1 => ?_⟩⟩
  have hS1 := SqL.same hS s1
  have l9 : ms.length ≤ 9 := by omega
  refine ⟨_, rfl, a, ns, 2, rfl, hS1, by decide, fun z2 => ⟨_, _, rfl, rfl, (by show (0 : Int) < 3; decide), rfl, _, rfl, ite2 (fun _ => ?_) (fun _ => ?_)⟩⟩
  · exact ⟨_, rfl, a, ns, 3, rfl, hS1, by decide, fun z3 => ⟨z3, rfl, fun z H2 hz s2 => ⟨_, rfl, z, .ref p, dI ms, rfl, (isI hp (by omega)).same s2, hz.elim .inl (fun h => .inr (.inl h)), fun H3 s3 => q H3⟩⟩⟩
  refine ⟨_, rfl, a, ns, 2, rfl, hS1, by decide, fun z4 => ⟨_, _, rfl, rfl, (by show (0 : Int) < 3; decide), rfl, _, rfl, ite2 (fun _ => ?_) (fun _ => ?_)⟩⟩
  · exact ⟨_, rfl, _, rfl, _, rfl, _, rfl, a, ns, 3, rfl, hS1, by decide, fun z3 => ⟨p, ms, n, z3, rfl, hp, pw, ne, l9, fun v d H2 hv hb s2 => ⟨(n : Int), v, d, rfl, hv, .inr (.inr hb), fun H3 s3 => q H3⟩⟩⟩
  refine ⟨_, rfl, _, rfl, fun x dx hx hdx hne => ?_⟩
  have g : Same H1 (upd (upd H1 dx (.own x)) x (.ins C dx [])) := (same_upd hdx).trans (same_upd (by rw [upd_ne (fun z => hne z.symm)]; exact hx))
  refine ⟨x, p, dx, n, ms, rfl, upd_same, g _ _ hp, n1, n9, pw, lo, ne, l9, fun O H2 hR hO off => ⟨rfl, ?_⟩⟩
  have s2 : Same H1 H2 := fun b o e => off b o (fun z => by rw [z, hx] at e; cases e) (g _ _ e)
  have hS2 := SqL.same hS1 s2
  have hp2 := s2 _ _ hp
  clear g off hO hS hS1 hp s1 s2 hx hdx
  obtain ⟨dx2, fs2, hx2, k1, k2, k3, k4, k5⟩ := L.ins hR
  refine ⟨_, rfl, x, dx2, fs2, rfl, hx2, k1, x, O, n, ms, rfl, hR, fun H3 s3 => ⟨_, rfl, _, rfl, iteF ?_⟩⟩
  refine ⟨_, rfl, x, dx2, fs2, rfl, s3 _ _ hx2, k1, x, O, n, ms, rfl, L.same hR s3, fun H4 s4 => ⟨_, rfl, rfl, _, rfl, ?_⟩⟩
  rw [decide_eq_true (rfl : V.int (n : Int) = V.int (n : Int))]
  have s34 := s3.trans s4
  refine iteF ⟨_, rfl, x, dx2, fs2, rfl, s34 _ _ hx2, k3, x, O, n, ms, rfl, L.same hR s34, fun l5 H5 hl5 s5 => ⟨tiny (by show 0 ≤ 1000; decide), fun u5 hu5 => ?_⟩⟩
  have g5 := same_upd (o := HO.lst []) hu5
  have s35 := (s34.trans s5).trans g5
  refine ⟨l5, u5, [], rfl, rfl, SqL.of (g5 _ _ hl5), SqL.of upd_same, _, rfl, iteF ?_⟩
  refine ⟨_, rfl, x, dx2, fs2, rfl, s35 _ _ hx2, k4, x, O, n, ms, rfl, L.same hR s35, fun l6 H6 hl6 s6 => ⟨tiny (by show 0 ≤ 1000; decide), fun u6 hu6 => ?_⟩⟩
  have g6 := same_upd (o := HO.lst []) hu6
  have s36 := (s35.trans s6).trans g6
  refine ⟨l6, u6, [], rfl, rfl, SqL.of (g6 _ _ hl6), SqL.of upd_same, _, rfl, iteF ?_⟩
  have hR6 := L.same hR s36
  have hS6 := SqL.same hS2 s36
  have hp6 := s36 _ _ hp2
  have hx6 := s36 _ _ hx2
  generalize upd H6 u6 (HO.lst []) = H7 at hR6 hS6 hp6 hx6
  clear s3 s4 s34 s5 g5 s35 s6 g6 s36 hl5 hl6 hu5 hu6 hR hS2 hp2 hx2
  refine ⟨_, rfl, (n : Int), rfl, by omega, by omega, for_range (n := n) (fun i σ H' => ∃ t : Option V, σ = [some (.ref a), some (.int n), some (.ref p), some (.ref x), t, none] ∧ Same H7 H') ⟨none, rfl, Same.refl _⟩ ?_ ?_⟩
  · rintro i σ H8 hi ⟨t, rfl, s8⟩
    have ei : (0 : Int) + (i : Int) = (i : Int) := by omega
    refine ⟨_, rfl, x, dx2, fs2, rfl, s8 _ _ hx6, k2, _, rfl, x, O, n, ms, i, congrArg (fun z => [V.ref x, V.int z]) ei, L.same hR6 s8, hi, fun b H9 hb s9 => ?_⟩
    refine ⟨b, (i : Int), ms, rfl, hb, fun v1 H10 hv1 s10 => ?_⟩
    have s810 := (s8.trans s9).trans s10
    refine ⟨_, rfl, _, rfl, fun y dy hy hdy hny => ?_⟩
    have g : Same H10 (upd (upd H10 dy (.own y)) y (.ins CK dy [])) := (same_upd hdy).trans (same_upd (by rw [upd_ne (fun z => hny z.symm)]; exact hy))
    refine ⟨y, p, dy, (i : Int), ms, congrArg (fun z => [V.ref y, V.int z, V.ref p]) ei, upd_same, g _ _ (s810 _ _ hp6), by omega, by omega, l9, fun H11 hk11 o11 => ⟨rfl, ?_⟩⟩
    have s11 : Same H10 H11 := fun b o e => o11 b o (fun z => by rw [z, hy] at e; cases e) (g _ _ e)
    refine ⟨y, (i : Int), ms, rfl, hk11, fun v2 H12 hv2 s12 => ?_⟩
    refine (hv1.same (s11.trans s12)).alike hv2 ⟨_, rfl, iteF ⟨_, rfl, ?_⟩⟩
    exact s810.trans (s11.trans s12)
  rintro σ H8 ⟨t, rfl, s8⟩
  refine ⟨_, rfl, a, ns, 3, rfl, SqL.same hS6 s8, by decide, fun z3 => ⟨_, _, rfl, rfl, ⟨by decide, by decide, by decide⟩, _, _, rfl, rfl, (by show (0 : Int) < 10 ^ (9 : Int).toNat; decide), ?_⟩⟩
  obtain ⟨f0, f1⟩ := emod_in z3 (m := 10 ^ (9 : Int).toNat) (by decide)
  show gName 5 (V.int (z3 % 10 ^ (9 : Int).toNat)) _ _ _
  generalize z3 % 10 ^ (9 : Int).toNat = fa at f0 f1
  refine ⟨_, rfl, _, rfl, _, rfl, _, _, rfl, rfl, _, rfl, _, rfl, _, rfl, _, _, rfl, rfl, tiny (by show 4 ≤ 1000; decide), fun l hl => ?_⟩
  have g9 := same_upd (o := HO.lst [V.int (n : Int), V.int ((n : Int) + fa), V.int (-1), V.int (-1 - fa)]) hl
  have hl9 : upd H8 l (HO.lst [V.int (n : Int), V.int ((n : Int) + fa), V.int (-1), V.int (-1 - fa)]) l = some (.lst [V.int (n : Int), V.int ((n : Int) + fa), V.int (-1), V.int (-1 - fa)]) := upd_same
  have s9 := s8.trans g9
  refine ⟨l, rfl, ⟨_, SqL.of hl9⟩, for_list (K := K) (a := l) (xs := [V.int (n : Int), V.int ((n : Int) + fa), V.int (-1), V.int (-1 - fa)]) (fun i σ H' => ∃ t : Option V, σ = [some (.ref a), some (.int n), some (.ref p), some (.ref x), t, some (.int fa)] ∧ Same (upd H8 l (HO.lst [V.int (n : Int), V.int ((n : Int) + fa), V.int (-1), V.int (-1 - fa)])) H') ⟨t, rfl, Same.refl _⟩ (fun i σ H' _ ⟨_, _, s⟩ => SqL.of (s _ _ hl9)) ?_ ?_⟩
  · rintro i y σ H' hy ⟨t, rfl, s10⟩
    obtain ⟨z, rfl, hz⟩ : ∃ z : Int, y = .int z ∧ (z < 0 ∨ (n : Int) ≤ z) := by
      match i, hy with
      | 0, hy => cases hy; exact ⟨_, rfl, by omega⟩
      | 1, hy => cases hy; exact ⟨_, rfl, by omega⟩
      | 2, hy => cases hy; exact ⟨_, rfl, by omega⟩
      | 3, hy => cases hy; exact ⟨_, rfl, by omega⟩
      | i + 4, hy => simp at hy
    exact ⟨_, rfl, _, rfl, x, O, z, n, ms, rfl, L.same hR6 (s9.trans s10), hz, fun H11 s11 => ⟨_, rfl, iteF ⟨_, rfl, s10.trans s11⟩⟩⟩
  rintro σ H' ⟨t, rfl, s10⟩
  have sA := s9.trans s10
  refine ⟨_, rfl, x, dx2, fs2, rfl, sA _ _ hx6, k5, _, rfl, fa, rfl, fun nm => ⟨x, O, n, ms, nm, rfl, L.same hR6 sA, fun l11 H11 hl11 s11 => ⟨tiny (by show 0 ≤ 1000; decide), fun u11 hu11 => ?_⟩⟩⟩
  have g11 := same_upd (o := HO.lst []) hu11
  have sB := (sA.trans s11).trans g11
  refine ⟨l11, u11, [], [], 0, rfl, rfl, SqL.of (g11 _ _ hl11), SqL.of upd_same, rfl, fun i x y e => by simp at e, by decide, _, rfl, iteT ?_⟩
  refine ⟨_, rfl, x, dx2, fs2, rfl, sB _ _ hx6, k4, x, O, n, ms, rfl, L.same hR6 sB, fun l12 H12 hl12 s12 => ⟨tiny (by show 0 ≤ 1000; decide), fun u12 hu12 => ?_⟩⟩
  have g12 := same_upd (o := HO.lst []) hu12
  have sC := (sB.trans s12).trans g12
  refine ⟨l12, u12, [], [], 0, rfl, rfl, SqL.of (g12 _ _ hl12), SqL.of upd_same, rfl, fun i x y e => by simp at e, by decide, _, rfl, iteT ?_⟩
  refine ⟨_, rfl, x, dx2, fs2, rfl, sC _ _ hx6, k3, x, O, n, ms, rfl, L.same hR6 sC, fun l13 H13 hl13 s13 => ?_⟩
  exact ⟨_, _, _, _, rfl, .lst hl13, kit_lst K, q _⟩
end
end K1
set_option Elab.async false
set_option linter.all false
set_option maxRecDepth 100000
set_option maxHeartbeats 4000000
namespace K1
open PySem L2 Kp
/-! ### what stores and packs promise, whatever law asks -/
def spFreshP (K : PySem.W.Frag) : Sp := fun vs H Q _ => vs = [] ∧ ∀ (v : V) (H' : Hp), StV H' v ([], []) → Same H H' → Q v H'
def spFp : Sp := fun vs H Q _ => ∃ (q : Addr) (ms : List Int), vs = [.ref q] ∧ H q = some (.tup (ms.map V.int)) ∧ ∀ (r : V) (H' : Hp), PkV H' r ⟨0, 0, ms, ([], [])⟩ → Same H H' → Q r H'
def spBegP : Sp := fun vs H Q _ => vs = [] ∧ ∀ (v : V) (H' : Hp), RwP H' v 0 0 [] → Same H H' → Q v H'
def spEndP : Sp := fun vs H Q _ => ∃ (v : V) (b l : Int) (es : List En), vs = [v] ∧ RwP H v b l es ∧ Q (.int (b + (es.length : Int))) H
end K1
set_option Elab.async false
set_option linter.all false
set_option maxRecDepth 100000
set_option maxHeartbeats 4000000
namespace K1
open PySem L2 Kp
section
variable {P : Program} {w : World} {K : PySem.W.Frag} {mg : Str → Option Value} {base : Heap}
theorem Off.tups {a C dx : Addr} {fs : List (Str × V)} {H H' : Hp} (o : Off a H H') (ha : H a = some (.ins C dx fs)) : SameT H H' := fun b xs e => o b _ (fun z => by rw [z, ha] at e; cases e) e
theorem RwT.nilT {H H' : Hp} {a : Addr} (h : RwT H a []) (s : SameT H H') : RwT H' a [] := by
  obtain ⟨vs, e, r⟩ := h
  cases r
  exact ⟨[], s _ _ e, .nil⟩
theorem Off.refl {a : Addr} {H : Hp} : Off a H H := fun b o _ e => e
theorem Off.trans {a : Addr} {H H' H2 : Hp} (h : Off a H H') (h' : Off a H' H2) : Off a H H2 := fun b o n e => h' b o n (h b o n e)
theorem off_upd {a : Addr} {H : Hp} {o : HO} : Off a H (upd H a o) := fun b u n e => by rw [upd_ne n]; exact e
theorem off_same {a : Addr} {H H' : Hp} (s : Same H H') : Off a H H' := fun b u _ e => s _ _ e
theorem off_new {a p : Addr} {H : Hp} {o : HO} (hp : H p = none) : Off a H (upd H p o) := off_same (same_upd hp)
theorem PkV.offT {H H' : Hp} {v : V} {ms : List Int} (h : PkV H v ⟨0, 0, ms, ([], [])⟩) (s : SameT H H') : PkV H' v ⟨0, 0, ms, ([], [])⟩ := by
  obtain ⟨p, q, u, e, h1, h2, ⟨s1, a1, c1, e1, g1, g2, g3⟩⟩ := h
  exact ⟨p, q, u, e, s _ _ h1, s _ _ h2, ⟨s1, a1, c1, e1, s _ _ g1, g2.nilT s, g3.nilT s⟩⟩
theorem RwP.offT {H H' : Hp} {v : V} (h : RwP H v 0 0 []) (s : SameT H H') : RwP H' v 0 0 [] := by
  obtain ⟨r, c, us, e2, k1, k2, k3⟩ := h
  cases k3
  exact ⟨r, c, [], e2, s _ _ k1, s _ _ k2, .nil⟩
/-- plain, no voices, no head, nothing waits; the other values as they were -/
structure Plain (C a dx : Addr) (fs fs' : List (Str × V)) (av aw : Addr) (H H' : Hp) : Prop where
  at_ : H' a = some (.ins C dx fs')
  ok : FsOk fs'
  way : fs'.lookup ("way" : Str) = some (.str "plain")
  voices : fs'.lookup ("voices" : Str) = some (.ref av)
  head : fs'.lookup ("head" : Str) = some .non
  waits : fs'.lookup ("waits" : Str) = some (.ref aw)
  hv : H' av = some (.tup [])
  hw : H' aw = some (.tup [])
  kept : ∀ g : Str, ¬ g ∈ (["way", "voices", "head", "waits"] : List Str) → fs'.lookup g = fs.lookup g
  off : Off a H H'
def spPlainK (C : Addr) : Sp := fun vs H Q _ => ∃ (a dx : Addr) (fs : List (Str × V)), vs = [.ref a] ∧ H a = some (.ins C dx fs) ∧ FsOk fs ∧ ∀ (fs' : List (Str × V)) (av aw : Addr) (H' : Hp), Plain C a dx fs fs' av aw H H' → Q .non H'
theorem scBp : FnScope ["self"] ["self"] (defScope s_Keeper_be_plain) := ⟨rfl, rfl, rfl, by decide +kernel, rfl, by decide +kernel, by decide +kernel⟩
theorem ok_be_plain {f : Addr} {fd : FuncData} {C : Addr} (Y : KpC K C) (F : Fun K "be_plain" "Keeper.be_plain" s_Keeper_be_plain f fd) : FnOk P w K mg base CX0 1 f fd ["self"] (spPlainK C) := by
  refine F.ok scBp (fun vs H Q E ⟨_, _, _, e, _⟩ => by subst e; rfl) (fun cdv A outer s H vs Q E hr h => ?_)
  obtain ⟨a, dx, fs, rfl, ha, ok, q⟩ := h
  refine ⟨_, @pss_p _ _ _ _ _ (ps_fld (pv 0) (pe_str) (by rfl))
    (@pss_p _ _ _ _ _ (ps_fld (pv 0) (QE.h (qx_tup (qa_nil))) (by rfl))
    (@pss_p _ _ _ _ _ (ps_fld (pv 0) (pe_non) (by rfl))
    (@pss_o _ _ _ (ps_fld (pv 0) (QE.h (qx_tup (qa_nil))) (by rfl))))), ?_⟩
  have k1 : FsOk (L2.putF "way" (.str "plain") fs) := ok.put (by decide +kernel)
  refine ⟨_, rfl, a, C, dx, fs, rfl, ha, Y.cl, Y.n_way, ok.len, ?_⟩
  refine ⟨tiny (by show 0 ≤ 1000; decide), fun av hav => ?_⟩
  have na : a ≠ av := fun z => by rw [← z, upd_same] at hav; cases hav
  refine ⟨_, rfl, a, C, dx, _, rfl, (by rw [upd_ne na]; exact upd_same), Y.cl, Y.n_voices, k1.len, ?_⟩
  have k2 := k1.put (f := "voices") (v := .ref av) (by decide +kernel)
  refine ⟨_, rfl, a, C, dx, _, rfl, upd_same, Y.cl, Y.n_head, k2.len, ?_⟩
  have k3 := k2.put (f := "head") (v := .non) (by decide +kernel)
  refine ⟨tiny (by show 0 ≤ 1000; decide), fun aw haw => ?_⟩
  have nw : a ≠ aw := fun z => by rw [← z, upd_same] at haw; cases haw
  have o5 := off_new (a := a) (o := HO.tup []) haw
  refine ⟨_, rfl, a, C, dx, _, rfl, (by rw [upd_ne nw]; exact upd_same), Y.cl, Y.n_waits, k3.len, ?_⟩
  have k4 := k3.put (f := "waits") (v := .ref aw) (by decide +kernel)
  refine q _ av aw _ ⟨upd_same, k4, lk_ne (by decide +kernel) (lk_ne (by decide +kernel) (lk_ne (by decide +kernel) (lk_eq))), lk_ne (by decide +kernel) (lk_ne (by decide +kernel) (lk_eq)), lk_ne (by decide +kernel) (lk_eq), lk_eq, ?_, ?_, fun g hg => ?_, ?_⟩
  · exact off_upd _ _ na.symm (o5 _ _ na.symm (off_upd _ _ na.symm (off_upd _ _ na.symm upd_same)))
  · rw [upd_ne nw.symm]; exact upd_same
  · simp only [List.mem_cons, List.not_mem_nil, or_false, not_or] at hg
    obtain ⟨g1, g2, g3, g4⟩ := hg
    exact lk_ne g4 (lk_ne g3 (lk_ne g2 (lk_ne g1 rfl)))
  · exact off_upd.trans ((off_new hav).trans (off_upd.trans (off_upd.trans (o5.trans off_upd))))
/-- next places and held places anew; the other values as they were -/
structure Knp (C a dx : Addr) (fs fs' : List (Str × V)) (tk tn : Addr) (z : Int) (H H' : Hp) : Prop where
  at_ : H' a = some (.ins C dx fs')
  ok : FsOk fs'
  nexts : fs'.lookup ("nexts" : Str) = some (.ref tk)
  held : fs'.lookup ("held" : Str) = some (.ref tn)
  hn : H' tk = some (.tup (List.replicate 9 (V.int z)))
  hh : H' tn = some (.tup (List.replicate 9 (V.int 0)))
  kept : ∀ g : Str, ¬ g ∈ (["nexts", "held"] : List Str) → fs'.lookup g = fs.lookup g
  off : Off a H H'
def spKnp (C : Addr) : Sp := fun vs H Q _ => ∃ (a dx : Addr) (fs : List (Str × V)) (vr : V) (b l : Int) (es : List En), vs = [.ref a] ∧ H a = some (.ins C dx fs) ∧ FsOk fs ∧ fs.lookup ("row" : Str) = some vr ∧ RwP H vr b l es ∧ ∀ (fs' : List (Str × V)) (tk tn : Addr) (H' : Hp), Knp C a dx fs fs' tk tn (b + (es.length : Int) + 1) H H' → Q .non H'
theorem scKn : FnScope ["self"] ["self"] (defScope s_Keeper_know_no_places) := ⟨rfl, rfl, rfl, by decide +kernel, rfl, by decide +kernel, by decide +kernel⟩
theorem ok_knp {f : Addr} {fd : FuncData} {C : Addr} (Y : KpC K C) (F : Fun K "know_no_places" "Keeper.know_no_places" s_Keeper_know_no_places f fd) (CE : Cal P w K mg base "end_of" 1 ["row"] spEndP) : FnOk P w K mg base CX0 2 f fd ["self"] (spKnp C) := by
  refine F.ok scKn (fun vs H Q E ⟨_, _, _, _, _, _, _, e, _⟩ => by subst e; rfl) (fun cdv A outer s H vs Q E hr h => ?_)
  obtain ⟨a, dx, fs, vr, b, l, es, rfl, ha, ok, lr, hrw, q⟩ := h
  obtain ⟨gE, dE, GE, mE, kE, bE⟩ := CE.ex
  refine ⟨_, @pss_p _ _ _ _ _ (ps_fld (pv 0) (pe_op op_repT (QE.h (qx_tup (qa_b (pe_op op_add (pe_call GE hr (by rfl) mE kE bE .nil pass0 (pa_cons (pe_fld (pv 0) (by rfl)) pa_nil)) (pe_int)) qa_nil))) pe_int) (by rfl))
    (@pss_o _ _ _ (ps_fld (pv 0) (pe_op op_repT (QE.h (qx_tup (qa_int qa_nil))) pe_int) (by rfl))), ?_⟩
  refine ⟨_, rfl, a, C, dx, fs, vr, rfl, ha, Y.cl, Y.n_row, lr, vr, b, l, es, rfl, hrw, _, _, rfl, rfl, tiny (by show 1 ≤ 1000; decide), fun tj htj => ?_⟩
  refine ⟨tj, 9, [V.int (b + (es.length : Int) + 1)], rfl, rfl, upd_same, by simp, by first | decide | (show 1 ≤ 1000; decide), by first | decide | (show 1 ≤ 1000; decide), by first | decide | (show 1 ≤ 1000; decide), fun tk htk => ?_⟩
  have s2 := same_upd (o := HO.tup [V.int (b + (es.length : Int) + 1)]) htj
  have s3 := same_upd (o := HO.tup (List.replicate (9 : Int).toNat [V.int (b + (es.length : Int) + 1)]).flatten) htk
  refine ⟨_, rfl, a, C, dx, fs, rfl, (s2.trans s3) _ _ ha, Y.cl, Y.n_nexts, ok.len, ?_⟩
  have na : tk ≠ a := fun z => by
    have := s2 _ _ ha
    rw [← z] at this
    exact absurd (htk.symm.trans this) (by intro e; cases e)
  have k2 := ok.put (f := "nexts") (v := .ref tk) (by decide +kernel)
  refine ⟨tiny (by show 1 ≤ 1000; decide), fun tl htl => ?_⟩
  refine ⟨tl, 9, [V.int 0], rfl, rfl, upd_same, by simp, by decide, by decide, by decide, fun tn htn => ?_⟩
  have s4 := same_upd (o := HO.tup [V.int 0]) htl
  have s5 := same_upd (o := HO.tup (List.replicate (9 : Int).toNat [V.int 0]).flatten) htn
  have nb : tn ≠ a := fun z => by
    subst z
    exact absurd (htn.symm.trans (s4 tn _ upd_same)) (by intro e; cases e)
  refine ⟨_, rfl, a, C, dx, _, rfl, (s4.trans s5) _ _ upd_same, Y.cl, Y.n_held, k2.len, ?_⟩
  have k3 := k2.put (f := "held") (v := .ref tn) (by decide +kernel)
  refine q _ tk tn _ ⟨upd_same, k3, lk_ne (by decide +kernel) lk_eq, lk_eq, ?_, ?_, fun g hg => ?_, ?_⟩
  · exact off_upd _ _ na ((s4.trans s5) _ _ (off_upd _ _ na upd_same))
  · exact off_upd _ _ nb upd_same
  · simp only [List.mem_cons, List.not_mem_nil, or_false, not_or] at hg
    exact lk_ne hg.2 (lk_ne hg.1 rfl)
  · exact (off_same (s2.trans s3)).trans (off_upd.trans ((off_same (s4.trans s5)).trans off_upd))
def spWakeR (C : Addr) : Sp := fun vs H Q _ => ∃ (a dx : Addr) (fs : List (Str × V)) (vp vr : V) (num tm : Int) (ms : List Int), vs = [.ref a] ∧ H a = some (.ins C dx fs) ∧ FsOk fs ∧ fs.lookup ("number" : Str) = some (.int num) ∧ fs.lookup ("term" : Str) = some (.int tm) ∧ fs.lookup ("voice" : Str) = some .non ∧ fs.lookup ("pack" : Str) = some vp ∧ fs.lookup ("row" : Str) = some vr ∧ PkV H vp ⟨0, 0, ms, ([], [])⟩ ∧ RwP H vr 0 0 [] ∧ ∀ H', KpV H' a C num tm ms → Off a H H' → Q .non H'
theorem scWk : FnScope ["self"] ["self"] (defScope s_Keeper_wake) := ⟨rfl, rfl, rfl, by decide +kernel, rfl, by decide +kernel, by decide +kernel⟩
theorem ok_wakeR {f fB fN : Addr} {fd dB dN : FuncData} {C : Addr} (Y : KpC K C) (F : Fun K "wake" "Keeper.wake" s_Keeper_wake f fd) (MB : Meth K C "be_plain" fB) (FB : FnOk P w K mg base CX0 1 fB dB ["self"] (spPlainK C)) (bB : Binds K dB ["self"] []) (MN : Meth K C "know_no_places" fN) (FN : FnOk P w K mg base CX0 2 fN dN ["self"] (spKnp C)) (bN : Binds K dN ["self"] []) : FnOk P w K mg base CX0 3 f fd ["self"] (spWakeR C) := by
  refine F.ok scWk (fun vs H Q E ⟨_, _, _, _, _, _, _, _, e, _⟩ => by subst e; rfl) (fun cdv A outer s H vs Q E hr h => ?_)
  obtain ⟨a, dx, fs, vp, vr, num, tm, ms, rfl, ha, ok, l1, l2, l3, l4, l5, hp, hrw, q⟩ := h
  have r1 := hr.mono (show 1 ≤ 2 by omega)
  refine ⟨_, @pss_p _ _ _ _ _ (ps_expr (pe_meth0 (pv 0) Y.cl MB FB r1 bB .nil pass0))
    (@pss_p _ _ _ _ _ (ps_expr (pe_meth0 (pv 0) Y.cl MN FN hr bN .nil pass0))
    (@pss_p _ _ _ _ _ (ps_fld (pv 0) (pe_ix ix_tup (pe_fld (pv 0) (by rfl)) pe_int px_i) (by rfl))
    (@pss_o _ _ _ (ps_fld (pv 0) (pe_ix ix_tup (pe_fld (pv 0) (by rfl)) pe_int px_i) (by rfl))))), ?_⟩
  refine ⟨_, rfl, a, dx, fs, rfl, ha, ok.no (by decide +kernel), a, dx, fs, rfl, ha, ok, fun fs1 av aw H1 pl => ?_⟩
  have l1' := (pl.kept "number" (by decide +kernel)).trans l1
  have l2' := (pl.kept "term" (by decide +kernel)).trans l2
  have l3' := (pl.kept "voice" (by decide +kernel)).trans l3
  have l4' := (pl.kept "pack" (by decide +kernel)).trans l4
  have l5' := (pl.kept "row" (by decide +kernel)).trans l5
  have sT := pl.off.tups ha
  have hp1 := hp.offT sT
  have hrw1 := hrw.offT sT
  refine ⟨_, rfl, a, dx, fs1, rfl, pl.at_, pl.ok.no (by decide +kernel), a, dx, fs1, vr, 0, 0, [], rfl, pl.at_, pl.ok, l5', hrw1, fun fs2 tk tn H2 kn => ?_⟩
  have hp2 := hp1.offT (kn.off.tups pl.at_)
  have hp2' := hp2
  obtain ⟨pp, pq, pu, rfl, hpp, hpq, hpu⟩ := hp2'
  have l4b := (kn.kept "pack" (by decide +kernel)).trans l4'
  refine ⟨_, rfl, a, C, dx, _, .ref pp, rfl, kn.at_, Y.cl, Y.n_pack, l4b, pp, _, _, .int 0, rfl, rfl, SqT.of hpp, atI_nat (j := 0) rfl, _, rfl, a, C, dx, _, rfl, kn.at_, Y.cl, Y.n_agreed, kn.ok.len, ?_⟩
  have k4 := kn.ok.put (f := "agreed") (v := .int 0) (by decide +kernel)
  have np : pp ≠ a := fun z => by rw [z, kn.at_] at hpp; cases hpp
  refine ⟨_, rfl, a, C, dx, _, .ref pp, rfl, upd_same, Y.cl, Y.n_pack, lk_ne (by decide +kernel) l4b, pp, _, _, pu, rfl, rfl, SqT.of (off_upd _ _ np hpp), atI_nat (j := 3) rfl, _, rfl, a, C, dx, _, rfl, upd_same, Y.cl, Y.n_store, k4.len, ?_⟩
  have k5 := k4.put (f := "store") (v := pu) (by decide +kernel)
  have oC : Off a H2 _ := (off_upd (o := HO.ins C dx (L2.putF "agreed" (.int 0) fs2))).trans (off_upd (o := HO.ins C dx (L2.putF "store" pu (L2.putF "agreed" (.int 0) fs2))))
  have sC := oC.tups kn.at_
  have oD := kn.off.trans oC
  have sD := oD.tups pl.at_
  obtain ⟨s1, a1, c1, e1, g1, g2, g3⟩ := hpu
  have hst : StV _ pu ([], []) := ⟨s1, a1, c1, e1, sC _ _ g1, g2.nilT sC, g3.nilT sC⟩
  have hn1 : H2 tk = some (.tup (List.replicate 9 (V.int 1))) := kn.hn
  refine q _ ⟨dx, _, .ref pp, vr, pu, tk, tn, av, aw, upd_same, lk_ne (by decide +kernel) (lk_ne (by decide +kernel) ((kn.kept "number" (by decide +kernel)).trans l1')), lk_ne (by decide +kernel) (lk_ne (by decide +kernel) ((kn.kept "term" (by decide +kernel)).trans l2')), lk_ne (by decide +kernel) (lk_ne (by decide +kernel) ((kn.kept "voice" (by decide +kernel)).trans l3')), lk_ne (by decide +kernel) (lk_ne (by decide +kernel) ((kn.kept "head" (by decide +kernel)).trans pl.head)), lk_ne (by decide +kernel) (lk_ne (by decide +kernel) ((kn.kept "way" (by decide +kernel)).trans pl.way)), lk_ne (by decide +kernel) (lk_ne (by decide +kernel) ((kn.kept "pack" (by decide +kernel)).trans l4')), lk_ne (by decide +kernel) (lk_ne (by decide +kernel) ((kn.kept "row" (by decide +kernel)).trans l5')), lk_eq, lk_ne (by decide +kernel) (lk_ne (by decide +kernel) (kn.nexts)), lk_ne (by decide +kernel) (lk_ne (by decide +kernel) (kn.held)), lk_ne (by decide +kernel) (lk_eq), lk_ne (by decide +kernel) (lk_ne (by decide +kernel) ((kn.kept "voices" (by decide +kernel)).trans pl.voices)), lk_ne (by decide +kernel) (lk_ne (by decide +kernel) ((kn.kept "waits" (by decide +kernel)).trans pl.waits)), k5, hp2.offT sC, hrw1.offT sD, hst, sC _ _ hn1, sC _ _ kn.hh, sD _ _ pl.hv, sD _ _ pl.hw⟩ (pl.off.trans oD)
theorem scIn : FnScope ["self", "number", "seats"] ["self", "number", "seats"] (defScope s_Keeper___init__) := ⟨rfl, rfl, rfl, by decide +kernel, rfl, by decide +kernel, by decide +kernel⟩
theorem ok_init {f fW : Addr} {fd dW : FuncData} {C : Addr} (Y : KpC K C) (F : Fun K "__init__" "Keeper.__init__" s_Keeper___init__ f fd) (MW : Meth K C "wake" fW) (FW : FnOk P w K mg base CX0 3 fW dW ["self"] (spWakeR C)) (bW : Binds K dW ["self"] []) (CF : Cal P w K mg base "first_pack" 2 ["seats"] spFp) (CR : Cal P w K mg base "begun" 1 [] spBegP) : FnOk P w K mg base CX0 4 f fd ["self", "number", "seats"] (spInit5 C) := by
  refine F.ok scIn (fun vs H Q E ⟨_, _, _, _, _, e, _⟩ => by subst e; rfl) (fun cdv A outer s H vs Q E hr h => ?_)
  obtain ⟨x, q0, dx, num, ms, rfl, hx, hq, h0, h8, hm, q⟩ := h
  obtain ⟨gF, dF, GF, mF, kF, bF⟩ := CF.ex
  obtain ⟨gR, dR, GR, mR, kR, bR⟩ := CR.ex
  have r1 := hr.mono (show 1 ≤ 3 by omega)
  have r2 := hr.mono (show 2 ≤ 3 by omega)
  refine ⟨_, @pss_p _ _ _ _ _ (ps_fld (pv 0) (pv 1) (by rfl))
    (@pss_p _ _ _ _ _ (ps_fld (pv 0) (pe_int) (by rfl))
    (@pss_p _ _ _ _ _ (ps_fld (pv 0) (pe_non) (by rfl))
    (@pss_p _ _ _ _ _ (ps_fld (pv 0) (pe_call GF r2 (by rfl) mF kF bF .nil pass0 (pa_n (pv 2) pa_nil)) (by rfl))
    (@pss_p _ _ _ _ _ (ps_fld (pv 0) (pe_call0 GR r1 (by rfl) mR kR bR .nil pass0) (by rfl))
    (@pss_o _ _ _ (ps_expr (pe_meth0 (pv 0) Y.cl MW FW hr bW .nil pass0))))))), ?_⟩
  have k0 := FsOk.nil
  have k1 := k0.put (f := "number") (v := .int num) (by decide +kernel)
  have k2 := k1.put (f := "term") (v := .int 0) (by decide +kernel)
  have k3 := k2.put (f := "voice") (v := .non) (by decide +kernel)
  refine ⟨_, rfl, _, rfl, x, C, dx, _, rfl, hx, Y.cl, Y.n_number, k0.len, ?_⟩
  refine ⟨_, rfl, x, C, dx, _, rfl, upd_same, Y.cl, Y.n_term, k1.len, ?_⟩
  refine ⟨_, rfl, x, C, dx, _, rfl, upd_same, Y.cl, Y.n_voice, k2.len, ?_⟩
  have o3 : Off x H _ := (off_upd (o := HO.ins C dx (L2.putF "number" (.int num) []))).trans ((off_upd (o := HO.ins C dx (L2.putF "term" (.int 0) (L2.putF "number" (.int num) [])))).trans (off_upd (o := HO.ins C dx (L2.putF "voice" .non (L2.putF "term" (.int 0) (L2.putF "number" (.int num) []))))))
  refine ⟨_, rfl, q0, ms, rfl, (o3.tups hx) _ _ hq, fun vp H1 hp s1 => ?_⟩
  have k4 := k3.put (f := "pack") (v := vp) (by decide +kernel)
  refine ⟨_, rfl, x, C, dx, _, rfl, s1 _ _ upd_same, Y.cl, Y.n_pack, k3.len, ?_⟩
  refine ⟨rfl, fun vr H2 hrw s2 => ?_⟩
  have k5 := k4.put (f := "row") (v := vr) (by decide +kernel)
  refine ⟨_, rfl, x, C, dx, _, rfl, s2 _ _ upd_same, Y.cl, Y.n_row, k4.len, ?_⟩
  have o5 : Off x H1 _ := (off_upd (o := HO.ins C dx (L2.putF "pack" vp (L2.putF "voice" .non (L2.putF "term" (.int 0) (L2.putF "number" (.int num) [])))))).trans ((off_same s2).trans (off_upd (o := HO.ins C dx (L2.putF "row" vr (L2.putF "pack" vp (L2.putF "voice" .non (L2.putF "term" (.int 0) (L2.putF "number" (.int num) []))))))))
  refine ⟨_, rfl, x, dx, _, rfl, upd_same, k5.no (by decide +kernel), x, dx, _, vp, vr, num, 0, ms, rfl, upd_same, k5, lk_ne (by decide +kernel) (lk_ne (by decide +kernel) (lk_ne (by decide +kernel) (lk_ne (by decide +kernel) (lk_eq)))), lk_ne (by decide +kernel) (lk_ne (by decide +kernel) (lk_ne (by decide +kernel) (lk_eq))), lk_ne (by decide +kernel) (lk_ne (by decide +kernel) (lk_eq)), lk_ne (by decide +kernel) (lk_eq), lk_eq, hp.offT (o5.tups (s1 _ _ upd_same)), hrw.offT (off_upd.tups (s2 _ _ upd_same)), fun H' hk off => q H' hk (o3.trans ((off_same s1).trans (o5.trans off)))⟩
end
end K1
set_option Elab.async false
set_option linter.all false
set_option maxRecDepth 100000
set_option maxHeartbeats 4000000
namespace Kp
open PySem L2 PySem.Spec PyProof.Rows
section
variable {X : Cx}
/-! ### list(dict of texts): its names in their order -/
theorem call_listD (hc : X.calm = true) : CallR X (.type "list") (fun xs H Q => ∃ (p : Addr) (kvs : List (Key × V)) (ns : List Str), xs = [.ref p] ∧ H p = some (.dK kvs) ∧ kvs.map (·.1) = ns.map Sum.inr ∧
    ∀ l, H l = none → Q (.ref l) (upd H l (.lst (ns.map V.str)))) := by
  intro pins s σ H xs us Q I r h
  obtain ⟨p, kvs, ns, rfl, hp, hks, q⟩ := h
  obtain ⟨u, rfl, rx⟩ := vals1 r
  cases rx
  obtain ⟨hz, hsm, vs, rel, dd⟩ := dk_of I.hok hp
  obtain ⟨ep, hat⟩ := dd.dictAt
  have hkn : kvs.length = ns.length := by
    have := congrArg List.length hks
    rw [List.length_map, List.length_map] at this
    exact this
  have hvl : vs.length = ns.length := by rw [← rel.length]; exact hkn
  have hh := I.ok.hd hc
  refine PySem.W.kdl_call (PySem.W.kdl_dict (knd := mixKind X.prog X.w) (kvs := vs) (ep := ep) hsm) hh hat (by rw [hvl, ← hkn]; exact hz) fun h' tk acc c' hk hD hacc => ?_
  have hlen : acc.toList.length = ns.length := by rw [Array.length_toList, hacc.1, hvl]
  have hS : StrsAre acc.toList ns := strs_of_keys (P := X.prog) (w := X.w) hlen fun j v hv => by
    obtain ⟨k, x, e, hi⟩ := hacc.2 j v (by rw [← Array.getElem?_toList]; exact hv)
    have e2 := congrArg (fun l => l[j]?) (rel.keys.symm.trans hks)
    simp only [List.getElem?_map, e] at e2
    cases en : ns[j]? with
    | none => rw [en] at e2; cases e2
    | some n =>
      rw [en] at e2
      cases e2
      exact ⟨n, rfl, hi⟩
  exact ⟨.ref s.heap.objs.size, _, I.laid (t' := tk) (o := .lst (ns.map V.str)) hk (Nat.le_refl _) ⟨by rw [List.length_map, ← hkn]; exact hz, acc.toList, c', strs_back hS, by rw [Array.toArray_toList]; exact hD⟩, rfl, q _ (I.hok.fresh (Nat.le_refl _))⟩
/-! ### any(list of truths) -/
theorem call_anyL (hc : X.calm = true) : CallR X (.builtin "any") (fun xs H Q => ∃ p, ∃ bs : List Bool, xs = [.ref p] ∧ SqL X.K H p (bs.map V.bl) ∧ Q (.bl (bs.any id)) H) := by
  intro pins s σ H xs us Q I r h
  obtain ⟨p, bs, rfl, hq, q⟩ := h
  obtain ⟨u, rfl, rx⟩ := vals1 r
  cases rx
  obtain ⟨its, rv, pl, hz⟩ := I.list hq
  have hl := pl.isList
  have hlt : p < s.heap.objs.size := by obtain ⟨_, e, _⟩ := hl; exact Heap.lt_size e
  have hlen : bs.length = its.length := by rw [← rv.length, List.length_map]
  refine call_any_walk (wpAny_pyIter_list hl ?_)
  refine ⟨s.heap.objs.size, [s.heap.objs.size, p], [s.heap.objs.size], its.toArray.size, _, _, fun i => (bs[i]?).getD false, rfl, Walks.list (A := X.A.in1) (I.ok.hd hc) _ p (Nat.ne_of_lt hlt) its.toArray,
    ⟨⟨_, Heap.get?_push_size _ rfl, rfl, rfl⟩, hl.push _⟩, fun i v s' Q' E' hP hQ => ?_, fun h' tk hk => ?_⟩
  · have hP' : its[i]? = some v := by simpa using hP
    have hi : i < bs.length := by rw [hlen]; exact (List.getElem?_eq_some_iff.mp hP').1
    obtain ⟨u', e', r'⟩ := rv.get (i := i) (x := V.bl bs[i]) (by simp [hi])
    rw [hP'] at e'
    cases e'
    cases r'
    have e2 : (bs[i]?).getD false = bs[i] := by simp [hi]
    have hQ2 : Q' ((bs[i]?).getD false) s' := hQ
    rw [e2] at hQ2
    exact wpAny_truthy_bool hQ2
  · have e : ((List.range its.toArray.size).any fun i => (bs[i]?).getD false) = bs.any id := by
      rw [List.size_toArray, ← hlen]
      rw [Bool.eq_iff_iff]
      simp only [List.any_eq_true, List.mem_range, id]
      constructor
      · rintro ⟨i, hi, h⟩
        exact ⟨bs[i], List.getElem_mem hi, by simpa [hi] using h⟩
      · rintro ⟨x, hx, h⟩
        obtain ⟨i, hi, rfl⟩ := List.mem_iff_getElem.mp hx
        exact ⟨i, hi, by simpa [hi] using h⟩
    rw [e]
    refine ⟨.bl (bs.any id), H, I.kept (t' := tk) fun b x e => ?_, rfl, q⟩
    exact hk b x (fun hm => by rw [List.mem_singleton.mp hm] at e; exact Nat.lt_irrefl _ (Heap.lt_size e)) (Heap.get?_push_of_some _ e)
theorem boot_anyB : bootBuiltins "any" = some (.builtin "any") := by decide +kernel
end
end Kp
namespace Kp
open PySem L2
/-- all that is no list stands -/
def SameN (H H' : Hp) : Prop := ∀ b o, (∀ xs, o ≠ .lst xs) → H b = some o → H' b = some o
theorem SameN.of {H H' : Hp} (s : Same H H') : SameN H H' := fun b o _ e => s b o e
theorem SameN.trans {H H' H2 : Hp} (s : SameN H H') (s' : SameN H' H2) : SameN H H2 := fun b o n e => s' b o n (s b o n e)
theorem SameN.tups {H H' : Hp} (s : SameN H H') : SameT H H' := fun b xs e => s b _ (fun _ z => by cases z) e
/-- a comprehension without a condition whose items are known by their places, objects too -/
theorem comp_idxN {J : It} {H1 : Hp} {n k : Nat} {frs : St} {g : TG} {tt : TT} {te : TE} {Q : VK} (R : Nat → Hp → V → Prop) (mono : ∀ i H H' v, SameN H H' → R i H v → R i H' v) (hn : n < sizeLine)
    (go : ∀ i H, i < n → Same H1 H → J.go i H) (stop : ∀ H, Same H1 H → J.stop n H)
    (turn : ∀ i H t x H2 (S : St → Hp → Option V → Prop), i < n → Same H1 H → t.length = k → J.yld i H x H2 →
      (∀ t' H' v, t'.length = k → Same H H' → R i H' v → S (t' ++ frs) H' (some v)) →
      g x (t ++ frs) H2 fun σ3 H3 => tt σ3 H3 fun b H4 => if b = true then te σ3 H4 fun v H5 => S σ3 H5 (some v) else S σ3 H4 none)
    (hq : ∀ D H' ys, Same H1 H' → H1 D = none → H' D = some (.lst ys) → ys.length = n → (∀ i v, ys[i]? = some v → R i H' v) → Q (.ref D) H') : CompGo (List.replicate k none ++ frs) g tt te Q J H1 := by
  intro D hD
  refine ⟨fun i m ys σ H => i ≤ n ∧ m = n - i ∧ ys.length = i ∧ (∀ j v, ys[j]? = some v → R j H v) ∧ Same H1 H ∧ ∃ t, t.length = k ∧ σ = t ++ frs, ⟨n, Nat.zero_le _, rfl, rfl, fun j v hv => by simp at hv, same_upd hD, _, by simp, rfl⟩, ?_⟩
  rintro i m ys σ H ⟨hi, rfl, hl, hR, s1, t, ht, rfl⟩ hd
  by_cases hlt : i < n
  · right
    refine ⟨go i H hlt s1, by omega, fun x H2 y => ?_⟩
    have keep : ∀ (H5 : Hp) (zs : List V), H5 D = some (.lst ys) → SameN H5 (upd H5 D (.lst zs)) := fun H5 zs h5 b o n e => by
      rw [upd_ne (fun q => by rw [q, h5] at e; exact n _ (Option.some.inj e).symm)]; exact e
    refine turn i H t x H2 (fun σ3 H5 r => match r with
      | some v => H5 D = some (.lst ys) ∧ ∃ m', m' < n - i ∧ (i + 1 ≤ n ∧ m' = n - (i + 1) ∧ (ys ++ [v]).length = i + 1 ∧ (∀ j u, (ys ++ [v])[j]? = some u → R j (upd H5 D (.lst (ys ++ [v]))) u) ∧ Same H1 (upd H5 D (.lst (ys ++ [v]))) ∧ ∃ t, t.length = k ∧ σ3 = t ++ frs)
      | none => H5 D = some (.lst ys) ∧ ∃ m', m' < n - i ∧ (i + 1 ≤ n ∧ m' = n - (i + 1) ∧ ys.length = i + 1 ∧ (∀ j u, ys[j]? = some u → R j H5 u) ∧ Same H1 H5 ∧ ∃ t, t.length = k ∧ σ3 = t ++ frs)) hlt s1 ht y ?_
    intro t' H' v ht' s2 rv
    have h5 := s2 _ _ hd
    refine ⟨h5, n - (i + 1), by omega, by omega, rfl, by rw [List.length_append, hl]; rfl, fun j u hu => ?_, fun b o e => ?_, t', ht', rfl⟩
    · by_cases hj : j < ys.length
      · rw [List.getElem?_append_left hj] at hu
        exact mono _ _ _ _ (keep H' _ h5) (mono _ _ _ _ (SameN.of s2) (hR j u hu))
      · rw [List.getElem?_append_right (by omega)] at hu
        have e0 : j - ys.length = 0 := by
          cases e : j - ys.length with
          | zero => rfl
          | succ m => rw [e] at hu; simp at hu
        rw [e0] at hu
        cases hu
        obtain rfl : j = i := by omega
        exact mono _ _ _ _ (keep H' _ h5) rv
    · rw [upd_ne (ne_of_none e hD)]; exact s2 _ _ (s1 _ _ e)
  · have e : i = n := by omega
    subst e
    exact .inl ⟨stop H s1, hq D H ys s1 hD hd hl hR⟩
end Kp
set_option Elab.async false
set_option linter.all false
set_option maxRecDepth 100000
set_option maxHeartbeats 4000000
namespace K1
open PySem L2 Kp
section
variable {P : Program} {w : World} {K : PySem.W.Frag} {mg : Str → Option Value} {base : Heap}
/-! ### seats below a count -/
def upto (c : Nat) (ns : List Int) : List Int := ((List.range c).filter fun i : Nat => decide ((i : Int) ∈ ns)).map fun i : Nat => (i : Int)
def belowB (c : Nat) (ns : List Int) : Bool := if decide ((1 : Int) ≤ (ns.length : Int)) = true then decide (ns = upto c ns) else false
theorem upto_mem {c : Nat} {ns : List Int} {x : Int} : x ∈ upto c ns ↔ (0 ≤ x ∧ x < (c : Int)) ∧ x ∈ ns := by
  unfold upto
  rw [List.mem_map]
  constructor
  · rintro ⟨i, hi, rfl⟩
    obtain ⟨h1, h2⟩ := List.mem_filter.mp hi
    have := List.mem_range.mp h1
    exact ⟨by omega, of_decide_eq_true h2⟩
  · rintro ⟨⟨h0, h1⟩, h2⟩
    obtain ⟨i, rfl⟩ := Int.eq_ofNat_of_zero_le h0
    exact ⟨i, List.mem_filter.mpr ⟨List.mem_range.mpr (by omega), decide_eq_true h2⟩, rfl⟩
theorem upto_up (c : Nat) (ns : List Int) : (upto c ns).Pairwise (· < ·) := by
  unfold upto
  rw [List.pairwise_map]
  exact (List.Pairwise.filter _ (List.pairwise_lt_range (n := c))).imp fun {a b : Nat} (h : a < b) => show (a : Int) < (b : Int) by omega
theorem up_ext : ∀ {a b : List Int}, a.Pairwise (· < ·) → b.Pairwise (· < ·) → (∀ x, x ∈ a ↔ x ∈ b) → a = b
  | [], [], _, _, _ => rfl
  | [], y :: b, _, _, h => absurd ((h y).mpr List.mem_cons_self) (by simp)
  | x :: a, [], _, _, h => absurd ((h x).mp List.mem_cons_self) (by simp)
  | x :: a, y :: b, ha, hb, h => by
    obtain ⟨ha1, ha2⟩ := List.pairwise_cons.mp ha
    obtain ⟨hb1, hb2⟩ := List.pairwise_cons.mp hb
    have e : x = y := by
      rcases List.mem_cons.mp ((h x).mp List.mem_cons_self) with e | e
      · exact e
      · rcases List.mem_cons.mp ((h y).mpr List.mem_cons_self) with e2 | e2
        · exact e2.symm
        · have := ha1 y e2
          have := hb1 x e
          omega
    subst e
    rw [up_ext ha2 hb2 fun z => ?_]
    constructor
    · intro hz
      rcases List.mem_cons.mp ((h z).mp (List.mem_cons_of_mem _ hz)) with e | e
      · have := ha1 z hz
        omega
      · exact e
    · intro hz
      rcases List.mem_cons.mp ((h z).mpr (List.mem_cons_of_mem _ hz)) with e | e
      · have := hb1 z hz
        omega
      · exact e
theorem below_good {c : Nat} {ns : List Int} (pw : ns.Pairwise (· < ·)) (lo : ∀ m ∈ ns, 0 ≤ m ∧ m < (c : Int)) (ne : ns ≠ []) : belowB c ns = true := by
  unfold belowB
  have h1 : 1 ≤ ns.length := by
    cases ns with
    | nil => exact absurd rfl ne
    | cons a l => simp
  rw [if_pos (decide_eq_true (by omega))]
  exact decide_eq_true (up_ext pw (upto_up c ns) fun x => ⟨fun h => upto_mem.mpr ⟨lo x h, h⟩, fun h => (upto_mem.mp h).2⟩)
theorem below_bad {c : Nat} {ns : List Int} (hc : c ≤ 9) (h : (∀ x ∈ ns, 0 ≤ x ∧ x ≤ 8) → ns.Pairwise (· < ·) → 1 ≤ ns.length → ∃ x ∈ ns, (c : Int) ≤ x) : belowB c ns = false := by
  cases e : belowB c ns with
  | false => rfl
  | true =>
    unfold belowB at e
    split at e
    · rename_i h1
      have e2 := of_decide_eq_true e
      have hm : ∀ x ∈ ns, 0 ≤ x ∧ x < (c : Int) := fun x hx => by
        rw [e2] at hx
        exact (upto_mem.mp hx).1
      obtain ⟨x, hx, h2⟩ := h (fun x hx => by have := hm x hx; omega) (by rw [e2]; exact upto_up c ns) (by have := of_decide_eq_true h1; omega)
      have := hm x hx
      omega
    · cases e
def spBelow : Sp := fun vs H Q _ => ∃ (v : V) (d : D) (c : Nat), vs = [v, .int (c : Int)] ∧ Is 16 H v d ∧ c ≤ 9 ∧ ((isTup d = false ∧ ∀ H', Same H H' → Q (.bl false) H') ∨ ∃ ns, d = dI ns ∧ ∀ H', Same H H' → Q (.bl (belowB c ns)) H')
theorem isI_inv {H : Hp} {v : V} {ns : List Int} (h : Is 16 H v (dI ns)) : ∃ p, v = .ref p ∧ H p = some (.tup (ns.map V.int)) ∧ ns.length ≤ 16 := by
  unfold dI at h
  cases h with
  | @tup a vs _ e l r =>
    have ev : ∀ {vs : List V} {ns : List Int}, IsL 16 H vs (ns.map D.int) → vs = ns.map V.int := fun {vs} => by
      induction vs with
      | nil => intro ns r; cases ns with
        | nil => rfl
        | cons => cases r
      | cons v vs ih => intro ns r; cases ns with
        | nil => cases r
        | cons n ns =>
          cases r with
          | cons h t =>
            cases h
            rw [ih t]
            rfl
    have e2 := ev r
    subst e2
    exact ⟨a, rfl, e, by simpa using l⟩
theorem call_isiK5 {X : Cx} {K' : PySem.W.Frag} (h : X.K = K') : CallR X (.builtin "isinstance") (rIsi K') := h ▸ call_isi
theorem scBl : FnScope ["seats", "count"] ["seats", "count"] (defScope s_are_seats_below) := ⟨rfl, rfl, rfl, by decide +kernel, rfl, by decide +kernel, by decide +kernel⟩
theorem ok_below {f : Addr} {fd : FuncData} (F : Fun K "are_seats_below" "are_seats_below" s_are_seats_below f fd) (T : Txt mg) (hA : mg "any" = none) : FnOk P w K mg base CX0 1 f fd ["seats", "count"] spBelow := by
  refine F.ok scBl (fun vs H Q E ⟨_, _, _, e, _⟩ => by subst e; rfl) (fun cdv A outer s H vs Q E hr h => ?_)
  obtain ⟨v, d, c, rfl, hv, hc, q⟩ := h
  refine ⟨_, @pss_p _ _ _ _ _ (ps_if (PW.pt (pw_or (pt_not (pt_val (pe_callB call_isi (by rfl) T.isi boot_isi (pa_n (pv 0) (pa_n (pe_ty (by rfl) T.tuple boot_tuple) pa_nil))))) (pw_or1 (pt_val (pe_callB (call_anyL (by rfl)) (by rfl) hA boot_anyB (pa_cons (pe_comp (NB := ["seat"]) (n := 1) (fr := []) (compOk0 (outer := defScope s_are_seats_below) (by rfl) (by decide +kernel) (by rfl)) (by rfl) (pi_tup (pv 0))
        (fun _ _ _ _ _ => pg_name (i := 0) (show (["seat"] : List Str).Nodup by decide +kernel) (by rfl) (by exact Or.inl rfl)) (fun _ _ _ _ _ => pifs_nil) (fun _ _ _ _ _ => pe_callB (call_isiK5 (K' := K) (by rfl)) (by rfl) T.isi boot_isi (pa_n (pv 0) (pa_n (pe_ty (by rfl) T.bool boot_bool) pa_nil)))) pa_nil)))))) (@pss_o _ _ _ (ps_ret pe_bl)) pss_nil)
    (@pss_o _ _ _ (ps_ret (pe_and (pe_cmpR op_ge (pe_callB call_len_seq (by rfl) T.len PySem.boot_len (pa_n (pv 0) pa_nil)) pe_int (nomark _)) (pe_one (pe_cmpR (op_eqU hr.units0) (pv 0) (pe_callTy call_tuple_of (by rfl) T.tuple boot_tuple (pa_cons (pe_comp (NB := ["number", "seats"]) (n := 1) (fr := [0]) (compOk1 (outer := defScope s_are_seats_below) (x := "seats") (by rfl) (by decide +kernel) (by rfl) (by rfl) (by rfl) (by rfl)) (by rfl) (pi_range1 (by rfl) T.range (pa_n (pv 1) pa_nil))
        (fun _ _ _ _ _ => pg_name (i := 0) (show (["number", "seats"] : List Str).Nodup by decide +kernel) (by rfl) (by exact Or.inl rfl)) (fun _ _ _ _ _ => pifs_one (pt_cmpR (op_inK (K := K) (by rfl)) (pv 0) (pv 1) (by rfl))) (fun _ _ _ _ _ => pv 0)) pa_nil)) (nomark _)))))), ?_⟩
  refine ⟨_, rfl, _, _, _, _, rfl, hv.ty, kit_tup K d, _, rfl, ?_⟩
  rcases q with ⟨ht, q⟩ | ⟨ns, rfl, q⟩
  · rw [ht]
    exact iteT (iteT (q H (Same.refl _)))
  obtain ⟨p, rfl, hp, hl⟩ := isI_inv hv
  have hT := SqT.of (K := K) hp
  refine iteF ⟨_, rfl, p, rfl, ⟨_, hT⟩, comp_fmT (K := K) (ms := ns) hT (by omega) (fun _ => true) (fun _ => V.bl false) ?_ ?_⟩
  · intro i hi t H4 R s4 ht hR
    obtain ⟨t0, rfl⟩ := one_slot ht
    have hR' := hR [some (.int ns[i])] H4 rfl (Same.refl _)
    rw [if_pos rfl] at hR'
    exact ⟨_, rfl, _, _, _, _, rfl, (Is.int (B := 16) ns[i]).ty, kit_bool K (.int ns[i]), hR'⟩
  · intro D1 H3 s4 hD hd
    have eb : ((ns.filter fun _ => true).map fun _ => V.bl false) = (ns.map fun _ => false).map V.bl := by rw [List.filter_eq_self.mpr (fun _ _ => rfl), List.map_map]; rfl
    rw [eb] at hd
    refine ⟨D1, _, rfl, SqL.of hd, _, rfl, ?_⟩
    have ef : (ns.map fun _ => false).any id = false := by rw [List.any_map]; simp
    rw [ef]
    refine iteF ⟨_, rfl, p, _, rfl, .inr (SqT.of (s4 _ _ hp)), _, _, rfl, rfl, _, rfl, ?_⟩
    rw [List.length_map]
    have qb : ∀ H', Same H H' → Q (.bl (if decide ((1 : Int) ≤ (ns.length : Int)) = true then decide (ns = upto c ns) else false)) H' := q
    cases e1 : decide ((1 : Int) ≤ (ns.length : Int)) with
    | false =>
      rw [e1, if_neg Bool.false_ne_true] at qb
      exact iteF (qb H3 s4)
    | true =>
      rw [e1, if_pos rfl] at qb
      refine iteT ⟨_, rfl, _, rfl, (c : Int), rfl, by omega, by omega, ?_⟩
      refine comp_pure (J := Itr 0 c) (k := 1) (n := c) (fun i => decide ((i : Int) ∈ ns)) (fun i => V.int (i : Int)) (by rw [sizeLine_eq]; omega) (fun i H5 hi s5 => hi) (fun H5 s5 => Nat.le_refl _) ?_ ?_
      · intro i H5 t x H6 R hi s5 ht y hR
        obtain ⟨t0, rfl⟩ := one_slot ht
        obtain ⟨rfl, rfl⟩ := y
        rw [Int.zero_add]
        have hR' := hR [some (.int (i : Int))] H6 rfl (Same.refl _)
        refine ⟨_, rfl, _, rfl, p, _, rfl, .inr (SqT.of ((s4.trans s5) _ _ hp)), rfl, flat_ints _, _, rfl, ?_⟩
        show if (inV (V.int (i : Int)) (ns.map V.int)) = true then _ else _
        rw [in_ints]
        cases hd2 : decide ((i : Int) ∈ ns) with
        | true => rw [hd2] at hR'; exact iteT ⟨_, rfl, hR'⟩
        | false => rw [hd2] at hR'; exact iteF hR'
      · intro D2 H5 s5 hD2 hd2
        refine ⟨D2, _, rfl, .inl ⟨SqL.of hd2, fun t ht => ?_⟩⟩
        have s6 := s5.trans (same_upd (o := HO.tup (((List.range c).filter fun i : Nat => decide ((i : Int) ∈ ns)).map fun i : Nat => V.int (i : Int))) ht)
        have e2 : (((List.range c).filter fun i : Nat => decide ((i : Int) ∈ ns)).map fun i : Nat => V.int (i : Int)) = (upto c ns).map V.int := by unfold upto; rw [List.map_map]; rfl
        refine ⟨p, t, ns.map V.int, (upto c ns).map V.int, rfl, rfl, SqT.of ((s4.trans s6) _ _ hp), ?_, flat_ints _, flat_ints _, ?_⟩
        · rw [← e2]
          exact SqT.of upd_same
        · rw [eqVs_ints]
          exact qb _ (s4.trans s6)
end
end K1
set_option Elab.async false
set_option linter.all false
set_option maxRecDepth 100000
set_option maxHeartbeats 4000000
namespace K1
open PySem L2 Kp
section
variable {P : Program} {w : World} {K : PySem.W.Frag} {mg : Str → Option Value} {base : Heap}
theorem KpV.frame {H H' : Hp} {a C : Addr} {num tm : Int} {ms : List Int} (h : KpV H a C num tm ms) (s : SameT H H') (k : ∀ o, H a = some o → H' a = some o) : KpV H' a C num tm ms := by
  obtain ⟨dx, fs, vp, vr, vs, an, ah, av, aw, ha, l_number, l_term, l_voice, l_head, l_way, l_pack, l_row, l_store, l_nexts, l_held, l_agreed, l_voices, l_waits, l_ok, hp, hr, ⟨s1, a1, c1, e1, g1, g2, g3⟩, hn, hh, hv, hw⟩ := h
  exact ⟨dx, fs, vp, vr, vs, an, ah, av, aw, k _ ha, l_number, l_term, l_voice, l_head, l_way, l_pack, l_row, l_store, l_nexts, l_held, l_agreed, l_voices, l_waits, l_ok, hp.offT s, hr.offT s, ⟨s1, a1, c1, e1, s _ _ g1, g2.nilT s, g3.nilT s⟩, s _ _ hn, s _ _ hh, s _ _ hv, s _ _ hw⟩
theorem KpV.at {H : Hp} {a C : Addr} {num tm : Int} {ms : List Int} (h : KpV H a C num tm ms) : ∃ dx fs, H a = some (.ins C dx fs) := by
  obtain ⟨dx, fs, vp, vr, vs, an, ah, av, aw, ha, _⟩ := h
  exact ⟨dx, fs, ha⟩
theorem KpV.sameN {H H' : Hp} {a C : Addr} {num tm : Int} {ms : List Int} (h : KpV H a C num tm ms) (s : SameN H H') : KpV H' a C num tm ms := by
  obtain ⟨dx, fs, ha⟩ := h.at
  refine h.frame s.tups fun o e => s _ _ (fun xs z => ?_) e
  rw [ha] at e
  cases e
  cases z
structure RoC5 (K : PySem.W.Frag) (C : Addr) : Prop where
  cl : Cls K C
  n_under_way : NoAttr K C "under_way"
structure RmC (K : PySem.W.Frag) (C : Addr) : Prop where
  cl : Cls K C
  n_keepers : NoAttr K C "keepers"
  n_road : NoAttr K C "road"
  n_named : NoAttr K C "named"
/-- a road with nothing on it -/
def Rd0 (H : Hp) (O : Addr → Prop) (CR rd : Addr) : Prop := ∃ (dr t : Addr), H rd = some (.ins CR dr [("under_way", .ref t)]) ∧ H t = some (.lst []) ∧ O rd ∧ O t
/-- a room as it was made -/
def RVm (C CK CR : Addr) : Rm := fun H a O n ms => ∃ (dx lk rd nd : Addr) (fs : List (Str × V)) (ks : List V), H a = some (.ins C dx fs) ∧ fs.lookup ("keepers" : Str) = some (.ref lk) ∧ fs.lookup ("road" : Str) = some (.ref rd) ∧ fs.lookup ("named" : Str) = some (.ref nd) ∧
  (fs.lookup ("size" : Str) = none ∧ fs.lookup ("keeper" : Str) = none ∧ fs.lookup ("letters" : Str) = none ∧ fs.lookup ("callers" : Str) = none ∧ fs.lookup ("answers" : Str) = none) ∧
  H lk = some (.lst ks) ∧ ks.length = n ∧ n ≤ 9 ∧ (∀ (i : Nat) (v : V), ks[i]? = some v → ∃ p, v = .ref p ∧ O p ∧ KpV H p CK (i : Int) 0 ms) ∧ Rd0 H O CR rd ∧ H nd = some (.dK []) ∧ O a ∧ O lk ∧ O nd
theorem rmL (C CK CR : Addr) : RmL (RVm C CK CR) C := by
  refine ⟨fun {H H' a O n ms} h s k => ?_, fun {H a O n ms} h => ?_⟩
  · obtain ⟨dx, lk, rd, nd, fs, ks, ha, l1, l2, l3, l4, hlk, hn, h9, hk, ⟨dr, t, hr, ht, or, ot⟩, hd, oa, ol, on⟩ := h
    exact ⟨dx, lk, rd, nd, fs, ks, k _ _ oa ha, l1, l2, l3, l4, k _ _ ol hlk, hn, h9, fun i v e => by
      obtain ⟨p, e1, op, hp⟩ := hk i v e
      exact ⟨p, e1, op, hp.frame s fun o e => k _ _ op e⟩, ⟨dr, t, k _ _ or hr, k _ _ ot ht, or, ot⟩, k _ _ on hd, oa, ol, on⟩
  · obtain ⟨dx, lk, rd, nd, fs, ks, ha, l1, l2, l3, l4, _⟩ := h
    exact ⟨dx, fs, ha, l4⟩
/-! ### the road -/
def spRd0 (CR : Addr) : Sp := fun vs H Q _ => ∃ (x dx : Addr), vs = [.ref x] ∧ H x = some (.ins CR dx []) ∧ ∀ (t : Addr) (H' : Hp), H' x = some (.ins CR dx [("under_way", .ref t)]) → H' t = some (.lst []) → H t = none → Off x H H' → Q .non H'
def spRw0 (CR : Addr) : Sp := fun vs H Q _ => ∃ (x dx t : Addr), vs = [.ref x] ∧ H x = some (.ins CR dx [("under_way", .ref t)]) ∧ H t = some (.lst []) ∧ ∀ (l : Addr) (H' : Hp), H' l = some (.lst []) → Same H H' → Q (.ref l) H'
theorem lk15 {f : Str} {v : V} : ([(f, v)] : List (Str × V)).lookup f = some v := by simp [List.lookup]
theorem lk15_no {f g : Str} {v : V} (h : ¬ g = f) : ([(f, v)] : List (Str × V)).lookup g = none := by
  have hb : (g == f) = false := beq_eq_false_iff_ne.mpr h
  simp [List.lookup, hb]
theorem scRi : FnScope ["self"] ["self"] (defScope s_Road___init__) := ⟨rfl, rfl, rfl, by decide +kernel, rfl, by decide +kernel, by decide +kernel⟩
theorem ok_rinit {f : Addr} {fd : FuncData} {C : Addr} (Y : RoC5 K C) (F : Fun K "__init__" "Road.__init__" s_Road___init__ f fd) : FnOk P w K mg base CX0 1 f fd ["self"] (spRd0 C) := by
  refine F.ok scRi (fun vs H Q E ⟨_, _, e, _⟩ => by subst e; rfl) (fun cdv A outer s H vs Q E hr h => ?_)
  obtain ⟨x, dx, rfl, hx, q⟩ := h
  refine ⟨_, @pss_o _ _ _ (ps_fld (pv 0) (pe_lst pa_nil) (by rfl)), ?_⟩
  refine ⟨tiny (by show 0 ≤ 1000; decide), fun t ht => ?_⟩
  have nx : x ≠ t := fun z => by rw [z, ht] at hx; cases hx
  refine ⟨_, rfl, x, C, dx, [], rfl, (by rw [upd_ne nx]; exact hx), Y.cl, Y.n_under_way, by decide, ?_⟩
  refine q t _ upd_same (by rw [upd_ne nx.symm]; exact upd_same) ht fun b o hb e => ?_
  rw [upd_ne hb, upd_ne (fun z => by rw [z, ht] at e; cases e)]
  exact e
theorem scRw : FnScope ["self"] ["self"] (defScope s_Road_waiting) := ⟨rfl, rfl, rfl, by decide +kernel, rfl, by decide +kernel, by decide +kernel⟩
theorem ok_rwait {f : Addr} {fd : FuncData} {C : Addr} (Y : RoC5 K C) (F : Fun K "waiting" "Road.waiting" s_Road_waiting f fd) (T : Txt mg) : FnOk P w K mg base CX0 1 f fd ["self"] (spRw0 C) := by
  refine F.ok scRw (fun vs H Q E ⟨_, _, _, e, _⟩ => by subst e; rfl) (fun cdv A outer s H vs Q E hr h => ?_)
  obtain ⟨x, dx, t, rfl, hx, ht, q⟩ := h
  refine ⟨_, @pss_o _ _ _ (ps_ret (pe_callTy call_list_of (by rfl) T.list boot_list (pa_cons (pe_fld (pv 0) (by rfl)) pa_nil))), ?_⟩
  exact ⟨_, rfl, x, C, dx, _, _, rfl, hx, Y.cl, Y.n_under_way, lk15, t, _, rfl, .inl (SqL.of ht), fun l hl => q l _ upd_same (same_upd hl)⟩
/-! ### the room -/
theorem scSz : FnScope ["self"] ["self"] (defScope s_Room_size) := ⟨rfl, rfl, rfl, by decide +kernel, rfl, by decide +kernel, by decide +kernel⟩
theorem ok_size {f : Addr} {fd : FuncData} {C CK CR : Addr} (Y : RmC K C) (F : Fun K "size" "Room.size" s_Room_size f fd) (T : Txt mg) : FnOk P w K mg base CX0 1 f fd ["self"] (spRmN (RVm C CK CR)) := by
  refine F.ok scSz (fun vs H Q E ⟨_, _, _, _, e, _⟩ => by subst e; rfl) (fun cdv A outer s H vs Q E hr h => ?_)
  obtain ⟨a, O, n, ms, rfl, hR, q⟩ := h
  refine ⟨_, @pss_o _ _ _ (ps_ret (pe_callB call_len_seq (by rfl) T.len PySem.boot_len (pa_cons (pe_fld (pv 0) (by rfl)) pa_nil))), ?_⟩
  obtain ⟨dx, lk, rd, nd, fs, ks, ha, l1, l2, l3, l4, hlk, hn, h9, hk, _⟩ := hR
  refine ⟨_, rfl, a, C, dx, _, _, rfl, ha, Y.cl, Y.n_keepers, l1, lk, ks, rfl, .inl (SqL.of hlk), ?_⟩
  rw [hn]
  exact q H (Same.refl _)
theorem scKe : FnScope ["self", "k"] ["self", "k"] (defScope s_Room_keeper) := ⟨rfl, rfl, rfl, by decide +kernel, rfl, by decide +kernel, by decide +kernel⟩
theorem ok_keeper {f : Addr} {fd : FuncData} {C CK CR : Addr} (Y : RmC K C) (F : Fun K "keeper" "Room.keeper" s_Room_keeper f fd) (T : Txt mg) : FnOk P w K mg base CX0 1 f fd ["self", "k"] (spRmK (RVm C CK CR) CK) := by
  refine F.ok scKe (fun vs H Q E ⟨_, _, _, _, _, e, _⟩ => by subst e; rfl) (fun cdv A outer s H vs Q E hr h => ?_)
  obtain ⟨a, O, n, ms, k, rfl, hR, hkn, q⟩ := h
  refine ⟨_, @pss_p _ _ _ _ _ (ps_if (PW.pt (pw_or (pt_cmpR op_lt (pv 1) pe_int (nomark _)) (pw_or1 (pt_cmpR op_ge (pv 1) (pe_callB call_len_seq (by rfl) T.len PySem.boot_len (pa_cons (pe_fld (pv 0) (by rfl)) pa_nil)) (nomark _))))) pss_never pss_nil)
    (@pss_o _ _ _ (ps_ret (pe_ix ix_list (pe_fld (pv 0) (by rfl)) (pv 1) px_n))), ?_⟩
  obtain ⟨dx, lk, rd, nd, fs, ks, ha, l1, l2, l3, l4, hlk, hn, h9, hk, _⟩ := hR
  refine ⟨_, rfl, _, _, rfl, rfl, _, rfl, ite2 (fun h => absurd (of_decide_eq_true h) (by omega)) (fun h => ?_)⟩
  refine ⟨_, rfl, _, rfl, a, C, dx, _, _, rfl, ha, Y.cl, Y.n_keepers, l1, lk, ks, rfl, .inl (SqL.of hlk), _, _, rfl, rfl, _, rfl, ite2 (fun h2 => absurd (of_decide_eq_true h2) (by omega)) (fun h2 => ?_)⟩
  have hj : k < ks.length := by omega
  obtain ⟨p, ep, op, hp⟩ := hk k ks[k] (by simp [hj])
  exact ⟨_, rfl, a, C, dx, _, _, rfl, ha, Y.cl, Y.n_keepers, l1, _, rfl, lk, ks, _, ks[k], rfl, rfl, SqL.of hlk, atI_nat (by simp [hj]), by rw [ep]; exact q p H hp (Same.refl _)⟩
theorem ok_keeperE {f : Addr} {fd : FuncData} {C CK CR cR cL c1 c2 c3 c4 : Addr} (Z : ExcR K mg "NoKeeper" "NoLetter" "NoRoom" "NoPlace" "NoSchedule" cR cL c1 c2 c3 c4) (xR : PySem.W.excIn K cR mroV "ValueError.__new__" = true) (Y : RmC K C) (F : Fun K "keeper" "Room.keeper" s_Room_keeper f fd) (T : Txt mg) : FnOk P w K mg base (CXe P w) 1 f fd ["self", "k"] (spKeepBad (RVm C CK CR) cR) := by
  refine F.okE scKe (fun vs H Q E ⟨_, _, _, _, _, e, _⟩ => by subst e; rfl) (fun cdv A outer s H vs Q E hr h => ?_)
  obtain ⟨a, O, k, n, ms, rfl, hR, hb, q⟩ := h
  refine ⟨_, @pss_p _ _ _ _ _ (ps_if (PW.pt (pw_or (pt_cmpR op_lt (pv 1) pe_int (nomark _)) (pw_or1 (pt_cmpR op_ge (pv 1) (pe_callB call_len_seq (by rfl) T.len PySem.boot_len (pa_cons (pe_fld (pv 0) (by rfl)) pa_nil)) (nomark _))))) (@pss_o _ _ _ (ps_raise raises_of (by rfl) (by rfl) Z.mR xR (pa_i pe_str pa_nil))) pss_nil)
    pss_never, ?_⟩
  obtain ⟨dx, lk, rd, nd, fs, ks, ha, l1, l2, l3, l4, hlk, hn, h9, hk, _⟩ := hR
  refine ⟨_, rfl, _, _, rfl, rfl, _, rfl, ite2 (fun h => iteT ⟨by decide, q H (Same.refl _)⟩) (fun h => ?_)⟩
  refine ⟨_, rfl, _, rfl, a, C, dx, _, _, rfl, ha, Y.cl, Y.n_keepers, l1, lk, ks, rfl, .inl (SqL.of hlk), _, _, rfl, rfl, _, rfl, ite2 (fun h2 => ⟨by decide, q H (Same.refl _)⟩) (fun h2 => ?_)⟩
  have g1 := ndec h
  have g2 := ndec h2
  exact absurd hb (by omega)
theorem scLe : FnScope ["self"] ["self"] (defScope s_Room_letters) := ⟨rfl, rfl, rfl, by decide +kernel, rfl, by decide +kernel, by decide +kernel⟩
theorem ok_letters {f fW : Addr} {fd dW : FuncData} {C CK CR : Addr} (Y : RmC K C) (cR : Cls K CR) (F : Fun K "letters" "Room.letters" s_Room_letters f fd) (MW : Meth K CR "waiting" fW) (FW : FnOk P w K mg base CX0 1 fW dW ["self"] (spRw0 CR)) (bW : Binds K dW ["self"] []) : FnOk P w K mg base CX0 2 f fd ["self"] (spRmE (RVm C CK CR)) := by
  refine F.ok scLe (fun vs H Q E ⟨_, _, _, _, e, _⟩ => by subst e; rfl) (fun cdv A outer s H vs Q E hr h => ?_)
  obtain ⟨a, O, n, ms, rfl, hR, q⟩ := h
  refine ⟨_, @pss_o _ _ _ (ps_ret (pe_meth0 (pe_fld (pv 0) (by rfl)) cR MW FW hr bW .nil pass0)), ?_⟩
  obtain ⟨dx, lk, rd, nd, fs, ks, ha, l1, l2, l3, l4, hlk, hn, h9, hk, ⟨dr, t, hrd, ht, or, ot⟩, _⟩ := hR
  exact ⟨_, rfl, a, C, dx, _, _, rfl, ha, Y.cl, Y.n_road, l2, rd, dr, _, rfl, hrd, lk15_no (by decide +kernel), rd, dr, t, rfl, hrd, ht, q⟩
theorem scCa : FnScope ["self"] ["self"] (defScope s_Room_callers) := ⟨rfl, rfl, rfl, by decide +kernel, rfl, by decide +kernel, by decide +kernel⟩
theorem ok_callers {f : Addr} {fd : FuncData} {C CK CR : Addr} (Y : RmC K C) (F : Fun K "callers" "Room.callers" s_Room_callers f fd) (T : Txt mg) : FnOk P w K mg base CX0 1 f fd ["self"] (spRmE (RVm C CK CR)) := by
  refine F.ok scCa (fun vs H Q E ⟨_, _, _, _, e, _⟩ => by subst e; rfl) (fun cdv A outer s H vs Q E hr h => ?_)
  obtain ⟨a, O, n, ms, rfl, hR, q⟩ := h
  refine ⟨_, @pss_o _ _ _ (ps_ret (pe_callTy (call_listD (by rfl)) (by rfl) T.list boot_list (pa_cons (pe_fld (pv 0) (by rfl)) pa_nil))), ?_⟩
  obtain ⟨dx, lk, rd, nd, fs, ks, ha, l1, l2, l3, l4, hlk, hn, h9, hk, hrd, hd, _⟩ := hR
  exact ⟨_, rfl, a, C, dx, _, _, rfl, ha, Y.cl, Y.n_named, l3, nd, [], [], rfl, hd, rfl, fun l hl => q l _ upd_same (same_upd hl)⟩
theorem scAn : FnScope ["self", "caller"] ["self", "caller"] (defScope s_Room_answers) := ⟨rfl, rfl, rfl, by decide +kernel, rfl, by decide +kernel, by decide +kernel⟩
theorem ok_answers {f : Addr} {fd : FuncData} {C CK CR : Addr} (Y : RmC K C) (F : Fun K "answers" "Room.answers" s_Room_answers f fd) (T : Txt mg) : FnOk P w K mg base CX0 1 f fd ["self", "caller"] (spRmA (RVm C CK CR)) := by
  refine F.ok scAn (fun vs H Q E ⟨_, _, _, _, _, e, _⟩ => by subst e; rfl) (fun cdv A outer s H vs Q E hr h => ?_)
  obtain ⟨a, O, n, ms, x, rfl, hR, q⟩ := h
  have hu : (A.deeper (PyProof.Rows.envOfC "Room.answers" (defScope s_Room_answers) s.heap.objs.size f cdv)).units + 1 < cLine := by have := hr.units; omega
  refine ⟨_, @pss_p _ _ _ _ _ (ps_if (pt_cmp (pc_dnotin hu (pv 1) (pe_fld (pv 0) (by rfl)))) (@pss_o _ _ _ (ps_ret (pe_lst pa_nil))) pss_nil) pss_never, ?_⟩
  obtain ⟨dx, lk, rd, nd, fs, ks, ha, l1, l2, l3, l4, hlk, hn, h9, hk, hrd, hd, _⟩ := hR
  refine ⟨_, rfl, _, rfl, a, C, dx, _, _, rfl, ha, Y.cl, Y.n_named, l3, nd, none, rfl, DGet.k (k := Sum.inr x) hd, _, rfl, ?_⟩
  exact ⟨tiny (by show 0 ≤ 1000; decide), fun l hl => q l _ upd_same (same_upd hl)⟩
end
end K1
set_option Elab.async false
set_option linter.all false
set_option maxRecDepth 100000
set_option maxHeartbeats 4000000
namespace K1
open PySem L2 Kp
section
variable {P : Program} {w : World} {K : PySem.W.Frag} {mg : Str → Option Value} {base : Heap}
theorem scIm : FnScope ["self", "count", "seats"] ["self", "count", "seats"] (defScope s_Room___init__) := ⟨rfl, rfl, rfl, by decide +kernel, rfl, by decide +kernel, by decide +kernel⟩
theorem ok_rminit {f fJ fO : Addr} {fd dJ dO : FuncData} {C CK CR : Addr} {p5 p6 : Str} {jI : Nat} {LV : Nat} (hL : 1 ≤ LV ∧ jI + 1 ≤ LV ∧ 2 ≤ LV) (Y : RmC K C) (F : Fun K "__init__" "Room.__init__" s_Room___init__ f fd) (T : Txt mg) (CB : Cal P w K mg base "are_seats_below" 1 ["seats", "count"] spBelow)
    (glK : mg "Keeper" = some (.ref CK)) (MJ : Mk K CK fJ) (FJ : FnOk P w K mg base CX0 jI fJ dJ ["self", p5, p6] (spInit5 CK)) (bJ : Binds K dJ ["self", p5, p6] [])
    (glR : mg "Road" = some (.ref CR)) (MO : Mk K CR fO) (FO : FnOk P w K mg base CX0 1 fO dO ["self"] (spRd0 CR)) (bO : Binds K dO ["self"] []) : FnOk P w K mg base CX0 (LV + 1) f fd ["self", "count", "seats"] (spRmI (RVm C CK CR) C) := by
  refine F.ok scIm (fun vs H Q E ⟨_, _, _, _, _, e, _⟩ => by subst e; rfl) (fun cdv A outer s H vs Q E hr h => ?_)
  obtain ⟨x, q0, dx, n, ms, rfl, hx, hq, n1, n9, pw, lo, ne, l9, q⟩ := h
  obtain ⟨gB, dB, GB, mB, kB, bB⟩ := CB.ex
  have r1 := hr.mono hL.1
  have rJ := hr.mono hL.2.1
  have rO := hr.mono (show 1 + 1 ≤ LV from hL.2.2)
  refine ⟨_, @pss_p _ _ _ _ _ (ps_if (PW.pt (pw_or (pt_cmpR op_lt (pv 1) pe_int (nomark _)) (pw_or1 (pt_cmpR op_gt (pv 1) pe_int (nomark _))))) pss_never pss_nil)
    (@pss_p _ _ _ _ _ (ps_if (pt_not (pt_val (pe_call GB r1 (by rfl) mB kB bB .nil pass0 (pa_n (pv 2) (pa_n (pv 1) pa_nil))))) pss_never pss_nil)
    (@pss_p _ _ _ _ _ (ps_fld (pv 0) (pe_comp (NB := ["number", "seats"]) (n := 1) (fr := [2]) (compOk1 (outer := defScope s_Room___init__) (x := "seats") (by rfl) (by decide +kernel) (by rfl) (by rfl) (by rfl) (by rfl)) (by rfl) (pi_range1 (by rfl) T.range (pa_n (pv 1) pa_nil))
        (fun _ _ _ _ _ => pg_name (i := 0) (show (["number", "seats"] : List Str).Nodup by decide +kernel) (by rfl) (by exact Or.inl rfl)) (fun _ _ _ _ _ => pifs_nil) (fun _ _ _ _ _ => pe_make MJ FJ rJ (by rfl) glK bJ .nil pass0 (pa_n (pv 0) (pa_n (pv 1) pa_nil)))) (by rfl))
    (@pss_p _ _ _ _ _ (ps_fld (pv 0) (pe_make0 MO FO rO (by rfl) glR bO .nil pass0) (by rfl))
    (@pss_o _ _ _ (ps_fld (pv 0) pe_dnewK (by rfl)))))), ?_⟩
  refine ⟨_, rfl, _, _, rfl, rfl, _, rfl, ite2 (fun h => absurd (of_decide_eq_true h) (by omega)) (fun h => ?_)⟩
  refine ⟨_, rfl, _, _, rfl, rfl, _, rfl, ite2 (fun h => absurd (of_decide_eq_true h) (by omega)) (fun h => ?_)⟩
  refine ⟨_, rfl, _, rfl, _, dI ms, n, rfl, isI hq (by omega), n9, .inr ⟨ms, rfl, fun H1 s1 => ?_⟩⟩
  rw [below_good pw lo ne]
  refine ⟨_, rfl, iteF ?_⟩
  refine ⟨_, rfl, (n : Int), rfl, by omega, by omega, ?_⟩
  refine comp_idxN (J := Itr 0 n) (k := 1) (n := n) (fun i H' v => ∃ p, v = .ref p ∧ H1 p = none ∧ KpV H' p CK (i : Int) 0 ms) (fun i H2 H3 v sn ⟨p, e, hn, hk⟩ => ⟨p, e, hn, hk.sameN sn⟩) (by rw [sizeLine_eq]; omega) (fun i H5 hi s5 => hi) (fun H5 s5 => Nat.le_refl _) ?_ ?_
  · intro i H5 t v H6 R hi s5 ht y hR
    obtain ⟨t0, rfl⟩ := one_slot ht
    obtain ⟨rfl, rfl⟩ := y
    rw [Int.zero_add]
    refine ⟨_, rfl, _, rfl, fun p dp hp hdp hne => ?_⟩
    have g : Same H6 (upd (upd H6 dp (.own p)) p (.ins CK dp [])) := (same_upd hdp).trans (same_upd (by rw [upd_ne (fun z => hne z.symm)]; exact hp))
    refine ⟨p, q0, dp, (i : Int), ms, rfl, upd_same, g _ _ (s5 _ _ (s1 _ _ hq)), by omega, by omega, l9, fun H7 hk off => ⟨rfl, ?_⟩⟩
    have s7 : Same H6 H7 := fun b o e => off b o (fun z => by rw [z, hp] at e; cases e) (g _ _ e)
    have np : H1 p = none := by
      cases e : H1 p with
      | none => rfl
      | some o => rw [s5 _ _ e] at hp; cases hp
    exact hR [some (.int (i : Int))] H7 (.ref p) rfl s7 ⟨p, rfl, np, hk⟩
  · intro lk H3 ks s3 hlk0 hlk hlen hks
    have sH3 := s1.trans s3
    have none1 : ∀ {p}, H1 p = none → H p = none := fun {p} hp => by
      cases e : H p with
      | none => rfl
      | some o => rw [s1 _ _ e] at hp; cases hp
    have nlk := none1 hlk0
    have xlk : lk ≠ x := fun z => by rw [z, hx] at nlk; cases nlk
    refine ⟨_, rfl, x, C, dx, [], rfl, sH3 _ _ hx, Y.cl, Y.n_keepers, by decide, fun rd dr hrd hdr hne => ?_⟩
    generalize hfs1 : L2.putF "keepers" (V.ref lk) [] = fs1 at hrd hdr ⊢
    have u1 : Off x H3 (upd H3 x (.ins C dx fs1)) := off_upd
    have g2 : Same (upd H3 x (.ins C dx fs1)) (upd (upd (upd H3 x (.ins C dx fs1)) dr (.own rd)) rd (.ins CR dr [])) := (same_upd hdr).trans (same_upd (by rw [upd_ne (fun z => hne z.symm)]; exact hrd))
    have xrd : rd ≠ x := fun z => by rw [z, upd_same] at hrd; cases hrd
    have nrd : H rd = none := by
      cases e : H rd with
      | none => rfl
      | some o => rw [u1 _ _ xrd (sH3 _ _ e)] at hrd; cases hrd
    refine ⟨rd, dr, rfl, upd_same, fun t H4 hr4 ht4 nt4 off4 => ⟨rfl, ?_⟩⟩
    have hx4 : H4 x = some (.ins C dx fs1) := off4 _ _ (fun z => xrd z.symm) (g2 _ _ upd_same)
    have nt : H t = none := by
      cases e : H t with
      | none => rfl
      | some o =>
        have tx : t ≠ x := fun z => by
          rw [z, g2 _ _ upd_same] at nt4
          cases nt4
        rw [g2 _ _ (u1 _ _ tx (sH3 _ _ e))] at nt4
        cases nt4
    have o4 : Off x H3 H4 := fun b o hb e => off4 b o (fun z => by have e2 := u1 _ _ hb e; rw [z, hrd] at e2; cases e2) (g2 _ _ (u1 _ _ hb e))
    refine ⟨_, rfl, x, C, dx, fs1, rfl, hx4, Y.cl, Y.n_road, (by rw [← hfs1]; show 1 < 1000; decide), fun nd hnd => ?_⟩
    generalize hfs2 : L2.putF "road" (V.ref rd) fs1 = fs2 at hnd ⊢
    have u5 : Off x H4 (upd H4 x (.ins C dx fs2)) := off_upd
    have xnd : nd ≠ x := fun z => by rw [z, upd_same] at hnd; cases hnd
    have tx : t ≠ x := fun z => by rw [z, hx4] at ht4; cases ht4
    have o5 : Off x H4 (upd (upd H4 x (.ins C dx fs2)) nd (.dK [])) := u5.trans (off_new hnd)
    refine ⟨_, rfl, x, C, dx, fs2, rfl, same_upd hnd _ _ upd_same, Y.cl, Y.n_named, (by rw [← hfs2, ← hfs1]; show 2 < 1000; decide), ?_⟩
    have o6 : Off x H4 (upd (upd (upd H4 x (.ins C dx fs2)) nd (.dK [])) x (.ins C dx (L2.putF "named" (V.ref nd) fs2))) := o5.trans off_upd
    have nnd : H nd = none := by
      cases e : H nd with
      | none => rfl
      | some o => rw [u5 _ _ xnd (o4 _ _ xnd (sH3 _ _ e))] at hnd; cases hnd
    have o36 := o4.trans o6
    have hx3 := sH3 _ _ hx
    refine q (fun b => b = x ∨ H b = none) _ ⟨dx, lk, rd, nd, _, ks, upd_same, ?_, ?_, lk_eq, ⟨?_, ?_, ?_, ?_, ?_⟩, o36 _ _ xlk hlk, hlen, n9, fun i v e => ?_, ⟨dr, t, o6 _ _ xrd hr4, o6 _ _ tx ht4, .inr nrd, .inr nt⟩, ?_, .inl rfl, .inr nlk, .inr nnd⟩ (fun b hb => hb) ((off_same sH3).trans o36)
    · subst hfs2 hfs1; exact lk_ne (by decide +kernel) (lk_ne (by decide +kernel) lk_eq)
    · subst hfs2; exact lk_ne (by decide +kernel) lk_eq
    · subst hfs2 hfs1; exact lk_ne (by decide +kernel) (lk_ne (by decide +kernel) (lk_ne (by decide +kernel) rfl))
    · subst hfs2 hfs1; exact lk_ne (by decide +kernel) (lk_ne (by decide +kernel) (lk_ne (by decide +kernel) rfl))
    · subst hfs2 hfs1; exact lk_ne (by decide +kernel) (lk_ne (by decide +kernel) (lk_ne (by decide +kernel) rfl))
    · subst hfs2 hfs1; exact lk_ne (by decide +kernel) (lk_ne (by decide +kernel) (lk_ne (by decide +kernel) rfl))
    · subst hfs2 hfs1; exact lk_ne (by decide +kernel) (lk_ne (by decide +kernel) (lk_ne (by decide +kernel) rfl))
    · obtain ⟨p, ep, np, hk⟩ := hks i v e
      have nH := none1 np
      have px : p ≠ x := fun z => by rw [z, hx] at nH; cases nH
      exact ⟨p, ep, .inr nH, hk.frame (o36.tups hx3) fun o e => o36 _ _ px e⟩
    · rw [upd_ne xnd]; exact upd_same
theorem ok_rminitE {f : Addr} {fd : FuncData} {C cR cL c1 c2 c3 c4 : Addr} {LV : Nat} (hL : 1 ≤ LV) (Z : ExcR K mg "NoRoom" "NoLetter" "NoKeeper" "NoPlace" "NoSchedule" cR cL c1 c2 c3 c4) (xR : PySem.W.excIn K cR mroV "ValueError.__new__" = true) (F : Fun K "__init__" "Room.__init__" s_Room___init__ f fd) (T : Txt mg) (CB : Cal P w K mg base "are_seats_below" 1 ["seats", "count"] spBelow) : FnOk P w K mg base (CXe P w) (LV + 1) f fd ["self", "count", "seats"] (spRoomBad C cR) := by
  refine F.okE scIm (fun vs H Q E ⟨_, _, _, _, _, e, _⟩ => by subst e; rfl) (fun cdv A outer s H vs Q E hr h => ?_)
  obtain ⟨x, dx, c, v, d, rfl, hx, hv, hb, q⟩ := h
  obtain ⟨gB, dB, GB, mB, kB, bB⟩ := CB.ex
  have r1 := hr.mono hL
  refine ⟨_, @pss_p _ _ _ _ _ (ps_if (PW.pt (pw_or (pt_cmpR op_lt (pv 1) pe_int (nomark _)) (pw_or1 (pt_cmpR op_gt (pv 1) pe_int (nomark _))))) (@pss_o _ _ _ (ps_raise raises_of (by rfl) (by rfl) Z.mR xR (pa_i pe_str pa_nil))) pss_nil)
    (@pss_p _ _ _ _ _ (ps_if (pt_not (pt_val (pe_call GB r1 (by rfl) mB kB bB .nil pass0 (pa_n (pv 2) (pa_n (pv 1) pa_nil))))) (@pss_o _ _ _ (ps_raise raises_of (by rfl) (by rfl) Z.mR xR (pa_i pe_str pa_nil))) pss_nil)
    pss_never), ?_⟩
  have stay : ∀ H', Same H H' → E (.ref cR) none H' := fun H' s => q H' fun b o _ e => s _ _ e
  refine ⟨_, rfl, _, _, rfl, rfl, _, rfl, ite2 (fun h => iteT ⟨by decide, stay H (Same.refl _)⟩) (fun h => ?_)⟩
  refine ⟨_, rfl, _, _, rfl, rfl, _, rfl, ite2 (fun h2 => ⟨by decide, stay H (Same.refl _)⟩) (fun h2 => ?_)⟩
  have g1 := ndec h
  have g2 := ndec h2
  obtain ⟨n, rfl⟩ := Int.eq_ofNat_of_zero_le (show 0 ≤ c by omega)
  have hB : Bad (n : Int) d := by
    rcases hb with hb | hb | hb
    · omega
    · omega
    · exact hb
  refine ⟨_, rfl, _, rfl, v, d, n, rfl, hv, by omega, ?_⟩
  rcases hB with ht | ⟨ns, rfl, hn⟩
  · exact .inl ⟨ht, fun H1 s1 => ⟨_, rfl, iteT ⟨by decide, stay H1 s1⟩⟩⟩
  · refine .inr ⟨ns, rfl, fun H1 s1 => ?_⟩
    rw [below_bad (by omega) hn]
    exact ⟨_, rfl, iteT ⟨by decide, stay H1 s1⟩⟩
end
end K1
set_option Elab.async false
set_option linter.all false
set_option maxRecDepth 100000
set_option maxHeartbeats 4000000
namespace L2
open PySem PySem.Spec PyProof.Rows
/-! ### dict(d): a copy -/
section
variable {X : Cx} {pins : List (Addr × Obj)} {σ : St} {H : Hp} {s : Shared} {a : Addr} {kvs : List (Key × V)} {A : Around} {E : Value → Shared → Prop}
end
end L2
set_option Elab.async false
set_option linter.all false
set_option maxRecDepth 100000
set_option maxHeartbeats 4000000
namespace Kp
open PySem L2 PySem.Spec PyProof.Rows
end Kp
namespace K1
open PySem L2 Kp
/-! ### names, deeds, numbers as the law makes them -/
def abc51 : Str := "abcdefghijklmnopqrstuvwxyz"
theorem abc51_len : abc51.length = 26 := by decide +kernel
theorem abc51_l : abc51.cps.toList.length = 26 := by decide +kernel
def sgn (r : Int) : Str := ⟨#[abc51.cps.toList.getD (r % 26).toNat 0]⟩
theorem sgn_len (r : Int) : (sgn r).length = 1 := rfl
theorem sgn_at (r : Int) : atI abc51.cps.toList (r % 26) = some (abc51.cps.toList.getD (r % 26).toNat 0) := by
  have h0 := Int.emod_nonneg r (show (26 : Int) ≠ 0 by decide)
  have h1 := Int.emod_lt_of_pos r (show (0 : Int) < 26 by decide)
  obtain ⟨j, ej⟩ := Int.eq_ofNat_of_zero_le h0
  rw [ej, Int.toNat_natCast]
  have hj : j < abc51.cps.toList.length := by rw [abc51_l]; omega
  exact atI_nat (by rw [List.getElem?_eq_getElem hj, List.getD_eq_getElem?_getD, List.getElem?_eq_getElem hj]; rfl)
def nmSt (c : Int) : Nat → Str × Int
  | 0 => ("", c / 8)
  | i + 1 => ((nmSt c i).1 ++ sgn (nmSt c i).2, (nmSt c i).2 / 26)
theorem app_len51 (x y : Str) : (x ++ y).length = x.length + y.length := by
  show (x.cps ++ y.cps).size = _
  rw [Array.size_append]
  rfl
theorem nmSt_len (c : Int) : ∀ i, (nmSt c i).1.length = i
  | 0 => by show ("" : Str).length = 0; decide +kernel
  | i + 1 => by show ((nmSt c i).1 ++ sgn (nmSt c i).2).length = i + 1; rw [app_len51, nmSt_len c i, sgn_len]
def nmS (c : Int) : Str := (nmSt c (1 + c % 8).toNat).1
theorem DeedV.sameT {H H' : Hp} {v : V} {d : Deed} (h : DeedV H v d) (s : SameT H H') : DeedV H' v d := by
  cases d <;> (obtain ⟨p, e, hp⟩ := h; exact ⟨p, e, s _ _ hp⟩)
theorem flat_alike {K : PySem.W.Frag} {H : Hp} {p q : Addr} {xs : List V} {n : Nat} (h : H p = some (.tup xs)) (h' : H q = some (.tup xs)) (hf : ∀ x ∈ xs, flatV x = true) : Alike K H (n + 1) (.ref p) (.ref q) :=
  .tup (SqT.of h) (SqT.of h') rfl fun i x y e1 e2 => by
    rw [e1] at e2
    cases e2
    exact .flat (hf x (List.mem_of_getElem? e1))
theorem DeedV.alike {K : PySem.W.Frag} {H : Hp} {v u : V} {d : Deed} {n : Nat} (h : DeedV H v d) (h' : DeedV H u d) : Alike K H (n + 1) v u := by
  cases d <;>
    (obtain ⟨p, rfl, hp⟩ := h
     obtain ⟨q, rfl, hq⟩ := h'
     exact flat_alike hp hq fun x hx => by
       simp only [List.mem_cons, List.not_mem_nil, or_false] at hx
       rcases hx with rfl | rfl | rfl <;> rfl)
/-! ### a caller's account -/
structure Acc where
  nm : Str
  asks : Int
  num : Int
  wt : Bool
  deed : Option Deed
  told : List (Int × Int)
def DeedO (H : Hp) (v : V) : Option Deed → Prop
  | none => v = .non
  | some d => DeedV H v d
theorem DeedO.sameT {H H' : Hp} {v : V} {d : Option Deed} (h : DeedO H v d) (s : SameT H H') : DeedO H' v d := by
  cases d with
  | none => exact h
  | some d => exact DeedV.sameT h s
theorem DeedO.alike {K : PySem.W.Frag} {H : Hp} {v u : V} {d : Option Deed} {n : Nat} (h : DeedO H v d) (h' : DeedO H u d) : Alike K H (n + 1) v u := by
  cases d with
  | none => cases h; cases h'; exact .flat rfl
  | some d => exact DeedV.alike h h'
inductive PrL (H : Hp) : List V → List (Int × Int) → Prop
  | nil : PrL H [] []
  | cons {p : Addr} {a b : Int} {vs : List V} {ts : List (Int × Int)} : H p = some (.tup [.int a, .int b]) → PrL H vs ts → PrL H (.ref p :: vs) ((a, b) :: ts)
theorem PrL.sameT {H H' : Hp} (s : SameT H H') : ∀ {vs ts}, PrL H vs ts → PrL H' vs ts
  | _, _, .nil => .nil
  | _, _, .cons e r => .cons (s _ _ e) (PrL.sameT s r)
theorem PrL.length {H : Hp} : ∀ {vs ts}, PrL H vs ts → vs.length = ts.length
  | _, _, .nil => rfl
  | _, _, .cons _ r => by rw [List.length_cons, List.length_cons, PrL.length r]
theorem PrL.append {H : Hp} : ∀ {vs ts us rs}, PrL H vs ts → PrL H us rs → PrL H (vs ++ us) (ts ++ rs)
  | _, _, _, _, .nil, r => r
  | _, _, _, _, .cons e r, q => .cons e (PrL.append r q)
theorem PrL.alike {K : PySem.W.Frag} {H : Hp} : ∀ {vs us ts}, PrL H vs ts → PrL H us ts → ∀ (i : Nat) (x y : V), vs[i]? = some x → us[i]? = some y → Alike K H 1 x y
  | _, _, _, .nil, .nil, i, x, y, e1, _ => by simp at e1
  | _, _, _, .cons e r, .cons e' r', 0, x, y, e1, e2 => by
    cases e1
    cases e2
    exact flat_alike e e' fun x hx => by
      simp only [List.mem_cons, List.not_mem_nil, or_false] at hx
      rcases hx with rfl | rfl <;> rfl
  | _, _, _, .cons _ r, .cons _ r', i + 1, x, y, e1, e2 => PrL.alike r r' i x y (by simpa using e1) (by simpa using e2)
theorem PrL.refs {H : Hp} : ∀ {vs ts}, PrL H vs ts → ∀ x ∈ vs, ∃ p, x = .ref p
  | _, _, .nil, x, hx => absurd hx List.not_mem_nil
  | _, _, .cons _ r, x, hx => by
    rcases List.mem_cons.mp hx with rfl | hx
    · exact ⟨_, rfl⟩
    · exact PrL.refs r x hx
structure AccK (kvs : List (Key × V)) (c : Acc) (ud : V) (l : Addr) : Prop where
  len : kvs.length ≤ 20
  nm : valV kvs (Sum.inr "name") = some (.str c.nm)
  asks : valV kvs (Sum.inr "asks") = some (.int c.asks)
  num : valV kvs (Sum.inr "number") = some (.int c.num)
  wt : valV kvs (Sum.inr "waits") = some (.bl c.wt)
  deed : valV kvs (Sum.inr "deed") = some (ud)
  told : valV kvs (Sum.inr "told") = some (.ref l)
/-- the account as the law's dict holds it: p the dict, l its list of answers -/
def AccV (H : Hp) (p l : Addr) (c : Acc) : Prop := ∃ (kvs : List (Key × V)) (ud : V) (us : List V), H p = some (.dK kvs) ∧ AccK kvs c ud l ∧ DeedO H ud c.deed ∧ H l = some (.lst us) ∧ PrL H us c.told
theorem AccV.keep {H H' : Hp} {p l : Addr} {c : Acc} (h : AccV H p l c) (kp : ∀ o, H p = some o → H' p = some o) (kl : ∀ o, H l = some o → H' l = some o) (s : SameT H H') : AccV H' p l c := by
  obtain ⟨kvs, ud, us, h1, h2, h3, h4, h5⟩ := h
  exact ⟨kvs, ud, us, kp _ h1, h2, h3.sameT s, kl _ h4, h5.sameT s⟩
theorem AccV.same {H H' : Hp} {p l : Addr} {c : Acc} (h : AccV H p l c) (s : Same H H') : AccV H' p l c := h.keep (fun o e => s _ _ e) (fun o e => s _ _ e) (sameT_of s)
/-! ### what a deed upon a caller comes to -/
inductive Ltr | none | told (k : Int) (nm : Str) (n z : Int) | away (k : Int) (nm : Str) (n : Int) (h : Option Int)
def wishF (c : Acc) (d : Deed) : Acc := if c.wt then c else { c with num := c.num + 1, wt := true, deed := some d }
def toldF (c : Acc) (n z : Int) : Acc := if c.wt = true ∧ n = c.num then { c with told := c.told ++ [(n, z)], wt := false } else c
def awayF (c : Acc) (h : Option Int) : Acc := match h with
  | some k => { c with asks := k }
  | .none => c
def LtrV (H : Hp) (v : V) : Ltr → Prop
  | .none => ∃ p, v = .ref p ∧ H p = some (.tup [])
  | .told k nm n z => ∃ p, v = .ref p ∧ H p = some (.tup [.str "told", .int k, .str nm, .int n, .int z])
  | .away k nm n h => ∃ p, v = .ref p ∧ H p = some (.tup [.str "away", .int k, .str nm, .int n, (match h with | some i => .int i | .none => .non)])
theorem LtrV.sameT {H H' : Hp} {v : V} {x : Ltr} (h : LtrV H v x) (s : SameT H H') : LtrV H' v x := by
  cases x <;> (obtain ⟨p, e, hp⟩ := h; exact ⟨p, e, s _ _ hp⟩)
/-! ### a caller -/
structure FsC (fs : List (Str × V)) (c : Acc) (ud : V) (l : Addr) : Prop where
  name : fs.lookup ("name" : Str) = some (.str c.nm)
  number : fs.lookup ("number" : Str) = some (.int c.num)
  waits : fs.lookup ("waits" : Str) = some (.bl c.wt)
  deed : fs.lookup ("deed" : Str) = some ud
  asks : fs.lookup ("asks" : Str) = some (.int c.asks)
  told : fs.lookup ("told" : Str) = some (.ref l)
  n1 : fs.lookup ("wish" : Str) = none
  n2 : fs.lookup ("again" : Str) = none
  n3 : fs.lookup ("take_told" : Str) = none
  n4 : fs.lookup ("take_away" : Str) = none
/-- a caller stands at a, its list of answers at l; E is what else its class keeps of its values -/
def CaV (E : List (Str × V) → Prop) (C : Addr) (H : Hp) (a l : Addr) (c : Acc) : Prop := ∃ (dx : Addr) (fs : List (Str × V)) (ud : V) (us : List V), H a = some (.ins C dx fs) ∧ FsC fs c ud l ∧ E fs ∧ DeedO H ud c.deed ∧ H l = some (.lst us) ∧ PrL H us c.told
def OffC (a : Addr) (H H' : Hp) : Prop := ∀ b o, b ≠ a → H b = some o → H' b = some o
theorem OffC.tups {a C dx : Addr} {fs : List (Str × V)} {H H' : Hp} (o : OffC a H H') (ha : H a = some (.ins C dx fs)) : SameT H H' := fun b xs e => o b _ (fun z => by rw [z, ha] at e; cases e) e
theorem CaV.ins {E : List (Str × V) → Prop} {C : Addr} {H : Hp} {a l : Addr} {c : Acc} (h : CaV E C H a l c) : ∃ dx fs, H a = some (.ins C dx fs) := let ⟨dx, fs, _, _, e, _⟩ := h; ⟨dx, fs, e⟩
theorem CaV.keep {E : List (Str × V) → Prop} {C : Addr} {H H' : Hp} {a l : Addr} {c : Acc} (h : CaV E C H a l c) (ka : ∀ o, H a = some o → H' a = some o) (kl : ∀ o, H l = some o → H' l = some o) (s : SameT H H') : CaV E C H' a l c := by
  obtain ⟨dx, fs, ud, us, h1, h2, h3, h4, h5, h6⟩ := h
  exact ⟨dx, fs, ud, us, ka _ h1, h2, h3, h4.sameT s, kl _ h5, h6.sameT s⟩
theorem CaV.same {E : List (Str × V) → Prop} {C : Addr} {H H' : Hp} {a l : Addr} {c : Acc} (h : CaV E C H a l c) (s : Same H H') : CaV E C H' a l c := h.keep (fun o e => s _ _ e) (fun o e => s _ _ e) (sameT_of s)
def wishV (H : Hp) (v : V) (c : Acc) : Prop := ∃ (p : Addr) (ud : V), v = .ref p ∧ H p = some (.tup [.str "wish", .str c.nm, .int c.asks, .int c.num, ud]) ∧ DeedO H ud c.deed
theorem wishV.sameT {H H' : Hp} {v : V} {c : Acc} (h : wishV H v c) (s : SameT H H') : wishV H' v c := let ⟨p, ud, e, hp, hd⟩ := h; ⟨p, ud, e, s _ _ hp, hd.sameT s⟩
theorem wishV.alike {K : PySem.W.Frag} {H : Hp} {v u : V} {c : Acc} (h : wishV H v c) (h' : wishV H u c) : Alike K H 2 v u := by
  obtain ⟨p, ud, rfl, hp, hd⟩ := h
  obtain ⟨q, ud', rfl, hq, hd'⟩ := h'
  refine .tup (SqT.of hp) (SqT.of hq) rfl fun i x y e1 e2 => ?_
  match i, e1, e2 with
  | 0, e1, e2 => cases e1; cases e2; exact .flat rfl
  | 1, e1, e2 => cases e1; cases e2; exact .flat rfl
  | 2, e1, e2 => cases e1; cases e2; exact .flat rfl
  | 3, e1, e2 => cases e1; cases e2; exact .flat rfl
  | 4, e1, e2 => cases e1; cases e2; exact hd.alike hd'
def LetsV (H : Hp) (ys : List V) (b : Bool) (c : Acc) : Prop := match b with
  | true => ∃ y, ys = [y] ∧ wishV H y c
  | false => ys = []
theorem LetsV.sameT {H H' : Hp} {ys : List V} {b : Bool} {c : Acc} (h : LetsV H ys b c) (s : SameT H H') : LetsV H' ys b c := by
  cases b with
  | true => obtain ⟨y, e, h⟩ := h; exact ⟨y, e, h.sameT s⟩
  | false => exact h
theorem LetsV.length {H : Hp} {ys : List V} {b : Bool} {c : Acc} (h : LetsV H ys b c) : ys.length = if b then 1 else 0 := by
  cases b with
  | true => obtain ⟨y, rfl, h⟩ := h; rfl
  | false => rw [show ys = [] from h]; rfl
theorem LetsV.alike {K : PySem.W.Frag} {H : Hp} {ys zs : List V} {b : Bool} {c : Acc} (h : LetsV H ys b c) (h' : LetsV H zs b c) : ∀ (i : Nat) (x y : V), ys[i]? = some x → zs[i]? = some y → Alike K H 2 x y := by
  cases b with
  | true =>
    obtain ⟨y, rfl, h⟩ := h
    obtain ⟨z, rfl, h'⟩ := h'
    intro i x y e1 e2
    match i, e1, e2 with
    | 0, e1, e2 => cases e1; cases e2; exact h.alike h'
    | i + 1, e1, _ => simp at e1
  | false =>
    rw [show ys = [] from h]
    intro i x y e1 _
    simp at e1
def spCInit (E : List (Str × V) → Prop) (C : Addr) : Sp := fun vs H Q _ => ∃ (x dx : Addr) (nm : Str) (k : Int), vs = [.ref x, .str nm, .int k] ∧ H x = some (.ins C dx []) ∧ ∀ (l : Addr) (H' : Hp), CaV E C H' x l ⟨nm, k, 0, false, none, []⟩ → H l = none → OffC x H H' → Q .non H'
def spCWish (E : List (Str × V) → Prop) (C : Addr) : Sp := fun vs H Q _ => ∃ (a l : Addr) (c : Acc) (v : V) (d : Deed), vs = [.ref a, v] ∧ CaV E C H a l c ∧ DeedV H v d ∧ ∀ (r : Addr) (ys : List V) (H' : Hp), CaV E C H' a l (wishF c d) → H' r = some (.lst ys) → LetsV H' ys (!c.wt) (wishF c d) → H r = none → OffC a H H' → Q (.ref r) H'
def spCAgain (E : List (Str × V) → Prop) (C : Addr) : Sp := fun vs H Q _ => ∃ (a l : Addr) (c : Acc), vs = [.ref a] ∧ CaV E C H a l c ∧ ∀ (r : Addr) (ys : List V) (H' : Hp), CaV E C H' a l c → H' r = some (.lst ys) → LetsV H' ys c.wt c → H r = none → OffC a H H' → Q (.ref r) H'
def spCTold (E : List (Str × V) → Prop) (C : Addr) : Sp := fun vs H Q _ => ∃ (a l : Addr) (c : Acc) (v : V) (k : Int) (nm : Str) (n z : Int), vs = [.ref a, v] ∧ CaV E C H a l c ∧ LtrV H v (.told k nm n z) ∧ c.told.length ≤ 900 ∧ ∀ (l' : Addr) (H' : Hp), CaV E C H' a l' (toldF c n z) → (l' = l ∨ H l' = none) → OffC a H H' → Q .non H'
def spCAway (E : List (Str × V) → Prop) (C : Addr) : Sp := fun vs H Q _ => ∃ (a l : Addr) (c : Acc) (v : V) (k : Int) (nm : Str) (n : Int) (h : Option Int), vs = [.ref a, v] ∧ CaV E C H a l c ∧ LtrV H v (.away k nm n h) ∧ ∀ (H' : Hp), CaV E C H' a l (awayF c h) → OffC a H H' → Q .non H'
structure CaM (P : Program) (w : World) (K : PySem.W.Frag) (mg : Str → Option Value) (base : Heap) (E : List (Str × V) → Prop) (C : Addr) (kC : Nat) : Prop where
  cl : Cls K C
  gl : mg "Caller" = some (.ref C)
  a_name : NoAttr K C "name"
  a_number : NoAttr K C "number"
  a_waits : NoAttr K C "waits"
  a_deed : NoAttr K C "deed"
  a_asks : NoAttr K C "asks"
  a_told : NoAttr K C "told"
  init : ∃ f fd p q, Mk K C f ∧ FnOk P w K mg base CX0 kC f fd ["self", p, q] (spCInit E C) ∧ Binds K fd ["self", p, q] []
  wish : ∃ f fd p, Meth K C "wish" f ∧ FnOk P w K mg base CX0 kC f fd ["self", p] (spCWish E C) ∧ Binds K fd ["self", p] []
  again : ∃ f fd, Meth K C "again" f ∧ FnOk P w K mg base CX0 kC f fd ["self"] (spCAgain E C) ∧ Binds K fd ["self"] []
  told : ∃ f fd p, Meth K C "take_told" f ∧ FnOk P w K mg base CX0 kC f fd ["self", p] (spCTold E C) ∧ Binds K fd ["self", p] []
  away : ∃ f fd p, Meth K C "take_away" f ∧ FnOk P w K mg base CX0 kC f fd ["self", p] (spCAway E C) ∧ Binds K fd ["self", p] []
end K1
set_option Elab.async false
set_option linter.all false
set_option maxRecDepth 100000
set_option maxHeartbeats 4000000
namespace K1
open PySem L2 Kp
section
variable {P : Program} {w : World} {K : PySem.W.Frag} {mg : Str → Option Value} {base : Heap}
def spNx : Sp := fun vs H Q _ => ∃ n : Int, vs = [.int n] ∧ Q (.str (nmS n)) H
theorem scNx : FnScope ["_law_cell", "_law_some", "_law_found", "_law_rest", "_law_k"] ["_law_cell"] (defScope sNameBy) := ⟨rfl, rfl, rfl, by decide +kernel, rfl, by decide +kernel, by decide +kernel⟩
theorem ok_nmX {f : Addr} {fd : FuncData} (F : Fun K "_law_name_by" "_law_name_by" sNameBy f fd) (T : Txt mg) : FnOk P w K mg base CX0 1 f fd ["_law_cell"] spNx := by
  refine F.ok scNx (fun vs H Q E ⟨_, e, _⟩ => by subst e; rfl) (fun cdv A outer s H vs Q E hr h => ?_)
  obtain ⟨n, rfl, q⟩ := h
  refine ⟨_, @pss_p _ _ _ _ _ (ps_set (i := 1) scNx.nd (by rfl) (by exact Or.inl rfl) (pe_str))
    (@pss_p _ _ _ _ _ (ps_set (i := 2) scNx.nd (by rfl) (by exact Or.inl rfl) (pe_str))
    (@pss_p _ _ _ _ _ (ps_set (i := 3) scNx.nd (by rfl) (by exact Or.inl rfl) (pe_op op_fdiv (pv 0) (pe_int)))
    (@pss_p _ _ _ _ _ (ps_for PassesOwn.never (by rfl) (pi_range1 (by rfl) T.range (pa_b (pe_op op_add (pe_int) (pe_op op_mod (pv 0) (pe_int))) pa_nil)) (pg_name (i := 4) scNx.nd (by rfl) (by exact Or.inl rfl)) (@pss_p _ _ _ _ _ (ps_set (i := 2) scNx.nd (by rfl) (by exact Or.inl rfl) (pe_op op_add_str (pv 2) (pe_ix ix_str (pv 1) (pe_op op_mod (pv 3) (pe_int)) px_b)))
    (@pss_o _ _ _ (ps_set (i := 3) scNx.nd (by rfl) (by exact Or.inl rfl) (pe_op op_fdiv (pv 3) (pe_int))))))
    (@pss_o _ _ _ (ps_ret (pv 2)))))), ?_⟩
  obtain ⟨e0, e1⟩ := emod_in n (m := 8) (by decide)
  obtain ⟨t, et⟩ := Int.eq_ofNat_of_zero_le (show 0 ≤ 1 + n % 8 by omega)
  unfold nmS at q
  rw [et, Int.toNat_natCast] at q
  refine ⟨_, rfl, _, _, rfl, rfl, ⟨by decide, by decide⟩, _, rfl, _, _, rfl, rfl, (by show (0 : Int) < 8; decide), _, _, rfl, rfl, _, rfl, ?_⟩
  show -(2 ^ 62) ≤ 1 + n % 8 ∧ 1 + n % 8 < 2 ^ 62 ∧ _
  rw [et]
  refine ⟨by omega, by omega, for_range (n := t) (fun i σ H' => ∃ t4 : Option V, σ = [some (.int n), some (.str abc51), some (.str (nmSt n i).1), some (.int (nmSt n i).2), t4] ∧ H' = H)
    ⟨none, rfl, rfl⟩ ?_ ?_⟩
  · rintro i σ H' hi ⟨t', rfl, rfl⟩
    have hx := nmSt_len n i
    refine ⟨_, rfl, _, rfl, _, rfl, _, _, rfl, rfl, (by show (0 : Int) < 26; decide), _, _, _, rfl, rfl, (by rw [abc51_len, sizeLine_eq]; decide), sgn_at (nmSt n i).2, _, _, rfl, rfl, (by show (nmSt n i).1.length + 1 ≤ sizeLine; rw [sizeLine_eq]; omega), ?_⟩
    exact ⟨_, rfl, _, _, rfl, rfl, ⟨by decide, by decide⟩, _, rfl, rfl⟩
  · rintro σ H' ⟨t', rfl, rfl⟩
    exact ⟨_, rfl, q⟩
theorem ok_nx5 {f : Addr} {fd : FuncData} (h : FnOk P w K mg base CX0 1 f fd ["_law_cell"] spNx) : FnOk P w K mg base CX0 1 f fd ["_law_cell"] spNx5 := h.imp fun vs H Q E ⟨n, e, q⟩ => ⟨n, e, q _⟩
theorem scEoP : FnScope ["row"] ["row"] (defScope s_end_of) := ⟨rfl, rfl, rfl, by decide +kernel, rfl, by decide +kernel, by decide +kernel⟩
theorem ok_end_ofP {f : Addr} {fd : FuncData} (F : Fun K "end_of" "end_of" s_end_of f fd) (T : Txt mg) : FnOk P w K mg base CX0 1 f fd ["row"] spEndP := by
  refine F.ok scEoP (fun vs H Q E ⟨_, _, _, _, e, _⟩ => by subst e; rfl) (fun cdv A outer s H vs Q E hr h => ?_)
  obtain ⟨v, b, l, es, rfl, ⟨rb, c, us, rfl, hb, hc, he⟩, q⟩ := h
  refine ⟨_, @pss_o _ _ _ (ps_ret (pe_op op_add (pe_ix ix_tup (pv 0) (pe_int) px_i) (pe_callB call_len_seq (by rfl) T.len PySem.boot_len (pa_s (pe_ix ix_tup (pv 0) (pe_int) px_i) pa_nil)))), ?_⟩
  refine ⟨_, rfl, rb, _, _, .int b, rfl, rfl, SqT.of hb, atI_nat (j := 0) rfl, _, rfl, rb, _, _, .ref c, rfl, rfl, SqT.of hb, atI_nat (j := 2) rfl, c, us, rfl, .inr (SqT.of hc), _, _, rfl, rfl, ?_⟩
  show Q (.int (b + (us.length : Int))) H
  rw [he.length]; exact q
end
end K1
set_option Elab.async false
set_option linter.all false
set_option maxRecDepth 100000
set_option maxHeartbeats 4000000
namespace K1
open PySem L2 Kp
section
variable {P : Program} {w : World} {K : PySem.W.Frag} {mg : Str → Option Value} {base : Heap}
theorem scFr : FnScope [] [] (defScope s_fresh) := ⟨rfl, rfl, rfl, by decide +kernel, rfl, by decide +kernel, by decide +kernel⟩
theorem ok_fresh {f : Addr} {fd : FuncData} (F : Fun K "fresh" "fresh" s_fresh f fd) : FnOk P w K mg base CX0 1 f fd [] (spFreshP K) := by
  refine F.ok scFr (fun vs H Q E ⟨e, _⟩ => by subst e; rfl) (fun cdv A outer s H vs Q E hr h => ?_)
  obtain ⟨rfl, q⟩ := h
  refine ⟨_, @pss_o _ _ _ (ps_ret (QE.h (qx_tup (qa_tup qa_nil (qa_tup qa_nil qa_nil))))), ?_⟩
  refine ⟨tiny (by show 0 ≤ 1000; decide), fun e1 he1 => ⟨tiny (by show 0 ≤ 1000; decide), fun e2 he2 => ⟨tiny (by show 2 ≤ 1000; decide), fun e3 he3 => ?_⟩⟩⟩
  have t1 := same_upd (o := HO.tup []) he1
  have t2 := same_upd (o := HO.tup []) he2
  have t3 := same_upd (o := HO.tup [V.ref e1, V.ref e2]) he3
  exact q (.ref e3) _ ⟨e3, e1, e2, rfl, upd_same, ⟨[], t3 _ _ (t2 _ _ upd_same), .nil⟩, ⟨[], t3 _ _ upd_same, .nil⟩⟩ (t1.trans (t2.trans t3))
end
end K1
set_option Elab.async false
set_option linter.all false
set_option maxRecDepth 100000
set_option maxHeartbeats 4000000
namespace K1
open PySem L2 Kp
section
variable {P : Program} {w : World} {K : PySem.W.Frag} {mg : Str → Option Value} {base : Heap}
theorem scFp : FnScope ["seats"] ["seats"] (defScope s_first_pack) := ⟨rfl, rfl, rfl, by decide +kernel, rfl, by decide +kernel, by decide +kernel⟩
theorem ok_first_pack {f : Addr} {fd : FuncData} (F : Fun K "first_pack" "first_pack" s_first_pack f fd) (CH : Cal P w K mg base "fresh" 1 [] (spFreshP K)) : FnOk P w K mg base CX0 2 f fd ["seats"] spFp := by
  refine F.ok scFp (fun vs H Q E ⟨_, _, e, _⟩ => by subst e; rfl) (fun cdv A outer s H vs Q E hr h => ?_)
  obtain ⟨q0, ms, rfl, hq, k⟩ := h
  obtain ⟨gH, dH, GH, mH, kH, bH⟩ := CH.ex
  refine ⟨_, @pss_o _ _ _ (ps_ret (QE.h (qx_tup (qa_int (qa_int (qa_n (pv 0) (qa_k (pe_call0 GH hr (by rfl) mH kH bH .nil pass0) qa_nil))))))), ?_⟩
  refine ⟨_, rfl, rfl, fun vf H1 hf s1 => ⟨tiny (by show 4 ≤ 1000; decide), fun p hp => ?_⟩⟩
  have s2 := same_upd (o := HO.tup [V.int 0, V.int 0, V.ref q0, vf]) hp
  exact k (.ref p) _ ⟨p, q0, vf, rfl, upd_same, s2 _ _ (s1 _ _ hq), hf.same s2⟩ (s1.trans s2)
end
end K1
set_option Elab.async false
set_option linter.all false
set_option maxRecDepth 100000
set_option maxHeartbeats 4000000
namespace K1
open PySem L2 Kp
section
variable {P : Program} {w : World} {K : PySem.W.Frag} {mg : Str → Option Value} {base : Heap}
theorem scBg : FnScope [] [] (defScope s_begun) := ⟨rfl, rfl, rfl, by decide +kernel, rfl, by decide +kernel, by decide +kernel⟩
theorem ok_begunP {f : Addr} {fd : FuncData} (F : Fun K "begun" "begun" s_begun f fd) : FnOk P w K mg base CX0 1 f fd [] spBegP := by
  refine F.ok scBg (fun vs H Q E ⟨e, _⟩ => by subst e; rfl) (fun cdv A outer s H vs Q E hr h => ?_)
  obtain ⟨rfl, q⟩ := h
  refine ⟨_, @pss_o _ _ _ (ps_ret (QE.h (qx_tup (qa_int (qa_int (qa_tup qa_nil qa_nil)))))), ?_⟩
  refine ⟨tiny (by show 0 ≤ 1000; decide), fun e1 he1 => ⟨tiny (by show 3 ≤ 1000; decide), fun e2 he2 => ?_⟩⟩
  have t1 := same_upd (o := HO.tup []) he1
  have t2 := same_upd (o := HO.tup [V.int 0, V.int 0, V.ref e1]) he2
  exact q (.ref e2) _ ⟨e2, e1, [], rfl, upd_same, t2 _ _ upd_same, .nil⟩ (t1.trans t2)
end
end K1
set_option Elab.async false
set_option linter.all false
set_option maxRecDepth 100000
set_option maxHeartbeats 4000000
namespace K1
open PySem L2 Kp
theorem cal {P : Program} {w : World} {K : PySem.W.Frag} {mg : Str → Option Value} {base : Heap} {x : Str} {st : Stmt} {f : Addr} {fd : FuncData} {ps : List Str} {k : Nat} {sp : Sp} (F : Fun K x x st f fd) (hm : mg x = some (.ref f)) (b : Binds K fd ps []) (ok : FnOk P w K mg base CX0 k f fd ps sp) : Cal P w K mg base x k ps sp := ⟨f, fd, ok, hm, F.kp, b⟩
theorem all_mk {l : PySem.W.OpenLaw} {w : World} {K : PySem.W.Frag} {h : Heap} {mg : Str → Option Value} {fa f1 f2 f3 f4 f5 f6 f7 f8 f9 f10 f11 f12 f13 f14 f15 : Addr} (X : K.In h) (G : h.Ns mainGlobals mg) (hfa : mg "law" = some (.ref fa))
    {od1 an1 od2 an2 od3 an3 od4 an4 od5 an5 od6 an6 od7 an7 od8 an8 od9 an9 od10 an10 od11 an11 od12 an12 od13 an13 od14 an14 od15 an15 : Option Addr} {sl1 sl2 sl3 sl4 sl5 sl6 sl7 sl8 sl9 sl10 sl11 sl12 sl13 sl14 sl15 : Array (Option Value)} {oc1 kV1 dc1 pm1 cd1 ct1 oc2 kV2 dc2 pm2 cd2 ct2 oc3 kV3 dc3 pm3 cd3 ct3 oc4 kV4 dc4 pm4 cd4 ct4 oc5 kV5 dc5 pm5 cd5 ct5 oc6 kV6 dc6 pm6 cd6 ct6 oc7 kV7 dc7 pm7 cd7 ct7 oc8 kV8 dc8 pm8 cd8 ct8 oc9 kV9 dc9 pm9 cd9 ct9 oc10 kV10 dc10 pm10 cd10 ct10 oc11 kV11 dc11 pm11 cd11 ct11 oc12 kV12 dc12 pm12 cd12 ct12 oc13 kV13 dc13 pm13 cd13 ct13 oc14 kV14 dc14 pm14 cd14 ct14 oc15 kV15 dc15 pm15 cd15 ct15 : Value}
    (a1 : PySem.W.nsIn K mainGlobals "begun" = some (some (.ref f1))) (l1 : K.lookup f1 = some ⟨oc1, od1, .func (PySem.W.fnOf "begun" "begun" (defArgs s_begun) (defBody s_begun) (defScope s_begun) .none kV1 dc1 pm1 an1 cd1 ct1), sl1⟩) (c1 : PySem.W.codeIn K cd1 "begun" = true) (k1 : PySem.W.keepIn K (.ref f1) = true)
    (a2 : PySem.W.nsIn K mainGlobals "end_of" = some (some (.ref f2))) (l2 : K.lookup f2 = some ⟨oc2, od2, .func (PySem.W.fnOf "end_of" "end_of" (defArgs s_end_of) (defBody s_end_of) (defScope s_end_of) .none kV2 dc2 pm2 an2 cd2 ct2), sl2⟩) (c2 : PySem.W.codeIn K cd2 "end_of" = true) (k2 : PySem.W.keepIn K (.ref f2) = true)
    (a3 : PySem.W.nsIn K mainGlobals "fresh" = some (some (.ref f3))) (l3 : K.lookup f3 = some ⟨oc3, od3, .func (PySem.W.fnOf "fresh" "fresh" (defArgs s_fresh) (defBody s_fresh) (defScope s_fresh) .none kV3 dc3 pm3 an3 cd3 ct3), sl3⟩) (c3 : PySem.W.codeIn K cd3 "fresh" = true) (k3 : PySem.W.keepIn K (.ref f3) = true)
    (a4 : PySem.W.nsIn K mainGlobals "first_pack" = some (some (.ref f4))) (l4 : K.lookup f4 = some ⟨oc4, od4, .func (PySem.W.fnOf "first_pack" "first_pack" (defArgs s_first_pack) (defBody s_first_pack) (defScope s_first_pack) .none kV4 dc4 pm4 an4 cd4 ct4), sl4⟩) (c4 : PySem.W.codeIn K cd4 "first_pack" = true) (k4 : PySem.W.keepIn K (.ref f4) = true)
    (a5 : PySem.W.nsIn K mainGlobals "are_seats_below" = some (some (.ref f5))) (l5 : K.lookup f5 = some ⟨oc5, od5, .func (PySem.W.fnOf "are_seats_below" "are_seats_below" (defArgs s_are_seats_below) (defBody s_are_seats_below) (defScope s_are_seats_below) .none kV5 dc5 pm5 an5 cd5 ct5), sl5⟩) (c5 : PySem.W.codeIn K cd5 "are_seats_below" = true) (k5 : PySem.W.keepIn K (.ref f5) = true)
    (a6 : PySem.W.nsIn K mainGlobals "_law_cell_at" = some (some (.ref f6))) (l6 : K.lookup f6 = some ⟨oc6, od6, .func (PySem.W.fnOf "_law_cell_at" "_law_cell_at" (defArgs sCell) (defBody sCell) (defScope sCell) .none kV6 dc6 pm6 an6 cd6 ct6), sl6⟩) (c6 : PySem.W.codeIn K cd6 "_law_cell_at" = true) (k6 : PySem.W.keepIn K (.ref f6) = true)
    (a7 : PySem.W.nsIn K mainGlobals "_law_whole" = some (some (.ref f7))) (l7 : K.lookup f7 = some ⟨oc7, od7, .func (PySem.W.fnOf "_law_whole" "_law_whole" (defArgs s__law_whole) (defBody s__law_whole) (defScope s__law_whole) .none kV7 dc7 pm7 an7 cd7 ct7), sl7⟩) (c7 : PySem.W.codeIn K cd7 "_law_whole" = true) (k7 : PySem.W.keepIn K (.ref f7) = true)
    (a8 : PySem.W.nsIn K mainGlobals "_law_name_by" = some (some (.ref f8))) (l8 : K.lookup f8 = some ⟨oc8, od8, .func (PySem.W.fnOf "_law_name_by" "_law_name_by" (defArgs sNameBy) (defBody sNameBy) (defScope sNameBy) .none kV8 dc8 pm8 an8 cd8 ct8), sl8⟩) (c8 : PySem.W.codeIn K cd8 "_law_name_by" = true) (k8 : PySem.W.keepIn K (.ref f8) = true)
    (a9 : PySem.W.nsIn K mainGlobals "_law_state_of" = some (some (.ref f9))) (l9 : K.lookup f9 = some ⟨oc9, od9, .func (PySem.W.fnOf "_law_state_of" "_law_state_of" (defArgs s__law_state_of) (defBody s__law_state_of) (defScope s__law_state_of) .none kV9 dc9 pm9 an9 cd9 ct9), sl9⟩) (c9 : PySem.W.codeIn K cd9 "_law_state_of" = true) (k9 : PySem.W.keepIn K (.ref f9) = true)
    (a10 : PySem.W.nsIn K mainGlobals "_law_seats_by" = some (some (.ref f10))) (l10 : K.lookup f10 = some ⟨oc10, od10, .func (PySem.W.fnOf "_law_seats_by" "_law_seats_by" (defArgs sSeatsBy) (defBody sSeatsBy) (defScope sSeatsBy) .none kV10 dc10 pm10 an10 cd10 ct10), sl10⟩) (c10 : PySem.W.codeIn K cd10 "_law_seats_by" = true) (k10 : PySem.W.keepIn K (.ref f10) = true)
    (a11 : PySem.W.nsIn K mainGlobals "_law_no_count" = some (some (.ref f11))) (l11 : K.lookup f11 = some ⟨oc11, od11, .func (PySem.W.fnOf "_law_no_count" "_law_no_count" (defArgs s__law_no_count) (defBody s__law_no_count) (defScope s__law_no_count) .none kV11 dc11 pm11 an11 cd11 ct11), sl11⟩) (c11 : PySem.W.codeIn K cd11 "_law_no_count" = true) (k11 : PySem.W.keepIn K (.ref f11) = true)
    (a12 : PySem.W.nsIn K mainGlobals "_law_no_seats" = some (some (.ref f12))) (l12 : K.lookup f12 = some ⟨oc12, od12, .func (PySem.W.fnOf "_law_no_seats" "_law_no_seats" (defArgs s__law_no_seats) (defBody s__law_no_seats) (defScope s__law_no_seats) .none kV12 dc12 pm12 an12 cd12 ct12), sl12⟩) (c12 : PySem.W.codeIn K cd12 "_law_no_seats" = true) (k12 : PySem.W.keepIn K (.ref f12) = true)
    (a13 : PySem.W.nsIn K mainGlobals "_law_refused_room" = some (some (.ref f13))) (l13 : K.lookup f13 = some ⟨oc13, od13, .func (PySem.W.fnOf "_law_refused_room" "_law_refused_room" (defArgs s__law_refused_room) (defBody s__law_refused_room) (defScope s__law_refused_room) .none kV13 dc13 pm13 an13 cd13 ct13), sl13⟩) (c13 : PySem.W.codeIn K cd13 "_law_refused_room" = true) (k13 : PySem.W.keepIn K (.ref f13) = true)
    (a14 : PySem.W.nsIn K mainGlobals "_law_no_keeper" = some (some (.ref f14))) (l14 : K.lookup f14 = some ⟨oc14, od14, .func (PySem.W.fnOf "_law_no_keeper" "_law_no_keeper" (defArgs s__law_no_keeper) (defBody s__law_no_keeper) (defScope s__law_no_keeper) .none kV14 dc14 pm14 an14 cd14 ct14), sl14⟩) (c14 : PySem.W.codeIn K cd14 "_law_no_keeper" = true) (k14 : PySem.W.keepIn K (.ref f14) = true)
    (a15 : PySem.W.nsIn K mainGlobals "law" = some (some (.ref f15))) (l15 : K.lookup f15 = some ⟨oc15, od15, .func (PySem.W.fnOf "law" "law" (defArgs sLaw) (defBody sLaw) (defScope sLaw) .none kV15 dc15 pm15 an15 cd15 ct15), sl15⟩) (c15 : PySem.W.codeIn K cd15 "law" = true) (k15 : PySem.W.keepIn K (.ref f15) = true)
    {cL cR cQ cA cP cD : Addr}
    (ncL : PySem.W.nsIn K mainGlobals "LogError" = some (some (.ref cL))) (ncR : PySem.W.nsIn K mainGlobals "NoRoom" = some (some (.ref cR))) (ncQ : PySem.W.nsIn K mainGlobals "NoKeeper" = some (some (.ref cQ))) (ncA : PySem.W.nsIn K mainGlobals "NoLetter" = some (some (.ref cA))) (ncP : PySem.W.nsIn K mainGlobals "NoPlace" = some (some (.ref cP))) (ncD : PySem.W.nsIn K mainGlobals "NoSchedule" = some (some (.ref cD))) (nV : PySem.W.nsIn K mainGlobals "ValueError" = some none)
    {ccxR : PySem.ClassData} (xPR : PySem.W.excIn K cR mroV "ValueError.__new__" = true) (xeR : PySem.W.exmOne K (.ref cR) (.ref cL) = some true) (xgaR : PySem.W.findIn K (.ref cR) "__getattribute__" = some (some (.builtin "BaseException.__getattribute__"))) (xgnR : PySem.W.findIn K (.ref cR) "__getattr__" = some none) (xclR : PySem.W.findIn K (.ref cR) "__class__" = some (some (.builtin "object.__class__")))
    (xgtR : PySem.W.specialIn K (.builtin "object.__class__") "__get__" = some (some (.builtin "getset_descriptor.__get__"))) (xtkR : PySem.W.takesIn K (.builtin "object.__class__") = some true) (xmoR : PySem.W.mroIn K cR (.type "object") = some true) (xmbR : PySem.W.mroIn K cR (.type "BaseException") = some true) (xciR : PySem.W.clsIn K cR = some ccxR)
    (xk1R : PySem.W.kitOne K (.ref cR) (.ref cR) = some true) (xk2R : PySem.W.kitOne K (.ref cR) (.type "ValueError") = some true) (xk4R : PySem.W.kitAny K (.ref cR) [Value.ref cA, Value.ref cQ, Value.ref cP, Value.ref cD] = some false)
    {ccxQ : PySem.ClassData} (xPQ : PySem.W.excIn K cQ mroV "ValueError.__new__" = true) (xeQ : PySem.W.exmOne K (.ref cQ) (.ref cL) = some true) (xgaQ : PySem.W.findIn K (.ref cQ) "__getattribute__" = some (some (.builtin "BaseException.__getattribute__"))) (xgnQ : PySem.W.findIn K (.ref cQ) "__getattr__" = some none) (xclQ : PySem.W.findIn K (.ref cQ) "__class__" = some (some (.builtin "object.__class__")))
    (xgtQ : PySem.W.specialIn K (.builtin "object.__class__") "__get__" = some (some (.builtin "getset_descriptor.__get__"))) (xtkQ : PySem.W.takesIn K (.builtin "object.__class__") = some true) (xmoQ : PySem.W.mroIn K cQ (.type "object") = some true) (xmbQ : PySem.W.mroIn K cQ (.type "BaseException") = some true) (xciQ : PySem.W.clsIn K cQ = some ccxQ)
    (xk1Q : PySem.W.kitOne K (.ref cQ) (.ref cQ) = some true) (xk2Q : PySem.W.kitOne K (.ref cQ) (.type "ValueError") = some true) (xk4Q : PySem.W.kitAny K (.ref cQ) [Value.ref cA, Value.ref cR, Value.ref cP, Value.ref cD] = some false)
    {C0 : Addr} (aC0 : PySem.W.nsIn K mainGlobals "Keeper" = some (some (.ref C0)))
    {g0 : Addr} {god0 gan0 : Option Addr} {gsl0 : Array (Option Value)} {goc0 gkV0 gdc0 gpm0 gcd0 gct0 : Value}
    (ga0 : PySem.W.findIn K (.ref C0) "__init__" = some (some (.ref g0))) (gi0 : PySem.W.isFn K (.ref g0) = true) (gl0 : K.lookup g0 = some ⟨goc0, god0, .func (PySem.W.fnOf "__init__" "Keeper.__init__" (defArgs s_Keeper___init__) (defBody s_Keeper___init__) (defScope s_Keeper___init__) .none gkV0 gdc0 gpm0 gan0 gcd0 gct0), gsl0⟩) (gc0 : PySem.W.codeIn K gcd0 "Keeper.__init__" = true) (gk0 : PySem.W.keepIn K (.ref g0) = true)
    {g1 : Addr} {god1 gan1 : Option Addr} {gsl1 : Array (Option Value)} {goc1 gkV1 gdc1 gpm1 gcd1 gct1 : Value}
    (ga1 : PySem.W.findIn K (.ref C0) "wake" = some (some (.ref g1))) (gi1 : PySem.W.isFn K (.ref g1) = true) (gl1 : K.lookup g1 = some ⟨goc1, god1, .func (PySem.W.fnOf "wake" "Keeper.wake" (defArgs s_Keeper_wake) (defBody s_Keeper_wake) (defScope s_Keeper_wake) .none gkV1 gdc1 gpm1 gan1 gcd1 gct1), gsl1⟩) (gc1 : PySem.W.codeIn K gcd1 "Keeper.wake" = true) (gk1 : PySem.W.keepIn K (.ref g1) = true)
    {g2 : Addr} {god2 gan2 : Option Addr} {gsl2 : Array (Option Value)} {goc2 gkV2 gdc2 gpm2 gcd2 gct2 : Value}
    (ga2 : PySem.W.findIn K (.ref C0) "be_plain" = some (some (.ref g2))) (gi2 : PySem.W.isFn K (.ref g2) = true) (gl2 : K.lookup g2 = some ⟨goc2, god2, .func (PySem.W.fnOf "be_plain" "Keeper.be_plain" (defArgs s_Keeper_be_plain) (defBody s_Keeper_be_plain) (defScope s_Keeper_be_plain) .none gkV2 gdc2 gpm2 gan2 gcd2 gct2), gsl2⟩) (gc2 : PySem.W.codeIn K gcd2 "Keeper.be_plain" = true) (gk2 : PySem.W.keepIn K (.ref g2) = true)
    {g3 : Addr} {god3 gan3 : Option Addr} {gsl3 : Array (Option Value)} {goc3 gkV3 gdc3 gpm3 gcd3 gct3 : Value}
    (ga3 : PySem.W.findIn K (.ref C0) "know_no_places" = some (some (.ref g3))) (gi3 : PySem.W.isFn K (.ref g3) = true) (gl3 : K.lookup g3 = some ⟨goc3, god3, .func (PySem.W.fnOf "know_no_places" "Keeper.know_no_places" (defArgs s_Keeper_know_no_places) (defBody s_Keeper_know_no_places) (defScope s_Keeper_know_no_places) .none gkV3 gdc3 gpm3 gan3 gcd3 gct3), gsl3⟩) (gc3 : PySem.W.codeIn K gcd3 "Keeper.know_no_places" = true) (gk3 : PySem.W.keepIn K (.ref g3) = true)
    (pg0 : PySem.W.plainGet K C0 Str.empty = true) (hd0 : PySem.W.hasDictIn K C0 = true) (po0 : PySem.W.plainOver K C0 = true) (sa0 : PySem.W.findIn K (.ref C0) "__setattr__" = some (some (.builtin "object.__setattr__"))) (mk0 : PySem.W.makesIn K C0 = true) (kc0 : PySem.W.keepIn K (.ref C0) = true)
    (n0_number : PySem.W.findIn K (.ref C0) "number" = some none) (n0_term : PySem.W.findIn K (.ref C0) "term" = some none) (n0_voice : PySem.W.findIn K (.ref C0) "voice" = some none) (n0_head : PySem.W.findIn K (.ref C0) "head" = some none) (n0_way : PySem.W.findIn K (.ref C0) "way" = some none) (n0_pack : PySem.W.findIn K (.ref C0) "pack" = some none) (n0_row : PySem.W.findIn K (.ref C0) "row" = some none) (n0_store : PySem.W.findIn K (.ref C0) "store" = some none) (n0_nexts : PySem.W.findIn K (.ref C0) "nexts" = some none) (n0_held : PySem.W.findIn K (.ref C0) "held" = some none) (n0_agreed : PySem.W.findIn K (.ref C0) "agreed" = some none) (n0_voices : PySem.W.findIn K (.ref C0) "voices" = some none) (n0_waits : PySem.W.findIn K (.ref C0) "waits" = some none)
    {C1 : Addr} (aC1 : PySem.W.nsIn K mainGlobals "Road" = some (some (.ref C1)))
    {g4 : Addr} {god4 gan4 : Option Addr} {gsl4 : Array (Option Value)} {goc4 gkV4 gdc4 gpm4 gcd4 gct4 : Value}
    (ga4 : PySem.W.findIn K (.ref C1) "__init__" = some (some (.ref g4))) (gi4 : PySem.W.isFn K (.ref g4) = true) (gl4 : K.lookup g4 = some ⟨goc4, god4, .func (PySem.W.fnOf "__init__" "Road.__init__" (defArgs s_Road___init__) (defBody s_Road___init__) (defScope s_Road___init__) .none gkV4 gdc4 gpm4 gan4 gcd4 gct4), gsl4⟩) (gc4 : PySem.W.codeIn K gcd4 "Road.__init__" = true) (gk4 : PySem.W.keepIn K (.ref g4) = true)
    {g5 : Addr} {god5 gan5 : Option Addr} {gsl5 : Array (Option Value)} {goc5 gkV5 gdc5 gpm5 gcd5 gct5 : Value}
    (ga5 : PySem.W.findIn K (.ref C1) "waiting" = some (some (.ref g5))) (gi5 : PySem.W.isFn K (.ref g5) = true) (gl5 : K.lookup g5 = some ⟨goc5, god5, .func (PySem.W.fnOf "waiting" "Road.waiting" (defArgs s_Road_waiting) (defBody s_Road_waiting) (defScope s_Road_waiting) .none gkV5 gdc5 gpm5 gan5 gcd5 gct5), gsl5⟩) (gc5 : PySem.W.codeIn K gcd5 "Road.waiting" = true) (gk5 : PySem.W.keepIn K (.ref g5) = true)
    (pg1 : PySem.W.plainGet K C1 Str.empty = true) (hd1 : PySem.W.hasDictIn K C1 = true) (po1 : PySem.W.plainOver K C1 = true) (sa1 : PySem.W.findIn K (.ref C1) "__setattr__" = some (some (.builtin "object.__setattr__"))) (mk1 : PySem.W.makesIn K C1 = true) (kc1 : PySem.W.keepIn K (.ref C1) = true)
    (n1_under_way : PySem.W.findIn K (.ref C1) "under_way" = some none)
    {C2 : Addr} (aC2 : PySem.W.nsIn K mainGlobals "Room" = some (some (.ref C2)))
    {g6 : Addr} {god6 gan6 : Option Addr} {gsl6 : Array (Option Value)} {goc6 gkV6 gdc6 gpm6 gcd6 gct6 : Value}
    (ga6 : PySem.W.findIn K (.ref C2) "__init__" = some (some (.ref g6))) (gi6 : PySem.W.isFn K (.ref g6) = true) (gl6 : K.lookup g6 = some ⟨goc6, god6, .func (PySem.W.fnOf "__init__" "Room.__init__" (defArgs s_Room___init__) (defBody s_Room___init__) (defScope s_Room___init__) .none gkV6 gdc6 gpm6 gan6 gcd6 gct6), gsl6⟩) (gc6 : PySem.W.codeIn K gcd6 "Room.__init__" = true) (gk6 : PySem.W.keepIn K (.ref g6) = true)
    {g7 : Addr} {god7 gan7 : Option Addr} {gsl7 : Array (Option Value)} {goc7 gkV7 gdc7 gpm7 gcd7 gct7 : Value}
    (ga7 : PySem.W.findIn K (.ref C2) "size" = some (some (.ref g7))) (gi7 : PySem.W.isFn K (.ref g7) = true) (gl7 : K.lookup g7 = some ⟨goc7, god7, .func (PySem.W.fnOf "size" "Room.size" (defArgs s_Room_size) (defBody s_Room_size) (defScope s_Room_size) .none gkV7 gdc7 gpm7 gan7 gcd7 gct7), gsl7⟩) (gc7 : PySem.W.codeIn K gcd7 "Room.size" = true) (gk7 : PySem.W.keepIn K (.ref g7) = true)
    {g8 : Addr} {god8 gan8 : Option Addr} {gsl8 : Array (Option Value)} {goc8 gkV8 gdc8 gpm8 gcd8 gct8 : Value}
    (ga8 : PySem.W.findIn K (.ref C2) "keeper" = some (some (.ref g8))) (gi8 : PySem.W.isFn K (.ref g8) = true) (gl8 : K.lookup g8 = some ⟨goc8, god8, .func (PySem.W.fnOf "keeper" "Room.keeper" (defArgs s_Room_keeper) (defBody s_Room_keeper) (defScope s_Room_keeper) .none gkV8 gdc8 gpm8 gan8 gcd8 gct8), gsl8⟩) (gc8 : PySem.W.codeIn K gcd8 "Room.keeper" = true) (gk8 : PySem.W.keepIn K (.ref g8) = true)
    {g9 : Addr} {god9 gan9 : Option Addr} {gsl9 : Array (Option Value)} {goc9 gkV9 gdc9 gpm9 gcd9 gct9 : Value}
    (ga9 : PySem.W.findIn K (.ref C2) "letters" = some (some (.ref g9))) (gi9 : PySem.W.isFn K (.ref g9) = true) (gl9 : K.lookup g9 = some ⟨goc9, god9, .func (PySem.W.fnOf "letters" "Room.letters" (defArgs s_Room_letters) (defBody s_Room_letters) (defScope s_Room_letters) .none gkV9 gdc9 gpm9 gan9 gcd9 gct9), gsl9⟩) (gc9 : PySem.W.codeIn K gcd9 "Room.letters" = true) (gk9 : PySem.W.keepIn K (.ref g9) = true)
    {g10 : Addr} {god10 gan10 : Option Addr} {gsl10 : Array (Option Value)} {goc10 gkV10 gdc10 gpm10 gcd10 gct10 : Value}
    (ga10 : PySem.W.findIn K (.ref C2) "callers" = some (some (.ref g10))) (gi10 : PySem.W.isFn K (.ref g10) = true) (gl10 : K.lookup g10 = some ⟨goc10, god10, .func (PySem.W.fnOf "callers" "Room.callers" (defArgs s_Room_callers) (defBody s_Room_callers) (defScope s_Room_callers) .none gkV10 gdc10 gpm10 gan10 gcd10 gct10), gsl10⟩) (gc10 : PySem.W.codeIn K gcd10 "Room.callers" = true) (gk10 : PySem.W.keepIn K (.ref g10) = true)
    {g11 : Addr} {god11 gan11 : Option Addr} {gsl11 : Array (Option Value)} {goc11 gkV11 gdc11 gpm11 gcd11 gct11 : Value}
    (ga11 : PySem.W.findIn K (.ref C2) "answers" = some (some (.ref g11))) (gi11 : PySem.W.isFn K (.ref g11) = true) (gl11 : K.lookup g11 = some ⟨goc11, god11, .func (PySem.W.fnOf "answers" "Room.answers" (defArgs s_Room_answers) (defBody s_Room_answers) (defScope s_Room_answers) .none gkV11 gdc11 gpm11 gan11 gcd11 gct11), gsl11⟩) (gc11 : PySem.W.codeIn K gcd11 "Room.answers" = true) (gk11 : PySem.W.keepIn K (.ref g11) = true)
    (pg2 : PySem.W.plainGet K C2 Str.empty = true) (hd2 : PySem.W.hasDictIn K C2 = true) (po2 : PySem.W.plainOver K C2 = true) (sa2 : PySem.W.findIn K (.ref C2) "__setattr__" = some (some (.builtin "object.__setattr__"))) (mk2 : PySem.W.makesIn K C2 = true) (kc2 : PySem.W.keepIn K (.ref C2) = true)
    (n2_keepers : PySem.W.findIn K (.ref C2) "keepers" = some none) (n2_road : PySem.W.findIn K (.ref C2) "road" = some none) (n2_named : PySem.W.findIn K (.ref C2) "named" = some none)
    (z0 : PySem.W.nsIn K mainGlobals "isinstance" = some none) (z1 : PySem.W.nsIn K mainGlobals "int" = some none) (z2 : PySem.W.nsIn K mainGlobals "bool" = some none) (z3 : PySem.W.nsIn K mainGlobals "str" = some none) (z4 : PySem.W.nsIn K mainGlobals "tuple" = some none) (z5 : PySem.W.nsIn K mainGlobals "list" = some none) (z6 : PySem.W.nsIn K mainGlobals "all" = some none) (z7 : PySem.W.nsIn K mainGlobals "zip" = some none) (z8 : PySem.W.nsIn K mainGlobals "len" = some none) (z9 : PySem.W.nsIn K mainGlobals "range" = some none) (z10 : PySem.W.nsIn K mainGlobals "max" = some none) (z11 : PySem.W.nsIn K mainGlobals "min" = some none) (z12 : PySem.W.nsIn K mainGlobals "sorted" = some none) (z13 : PySem.W.nsIn K mainGlobals "any" = some none) (z14 : PySem.W.nsIn K mainGlobals "sum" = some none) :
    ∃ fd : FuncData, (∀ (s : Shared) (v : Value), BindsTo s fd ⟨[v], []⟩ [("_law_script", v)]) ∧ ∀ base : Heap, K.In base → base.Ns mainGlobals mg → FnOk l.prog w K mg base CX0 8 fa fd ["_law_script"] (spLaw K) := by
  have e := hfa.symm.trans (PySem.W.mg_of X G a15)
  cases e
  have T : Txt mg := ⟨PySem.W.mg_none_of X G z0, PySem.W.mg_none_of X G z1, PySem.W.mg_none_of X G z2, PySem.W.mg_none_of X G z3, PySem.W.mg_none_of X G z4, PySem.W.mg_none_of X G z5, PySem.W.mg_none_of X G z6, PySem.W.mg_none_of X G z7, PySem.W.mg_none_of X G z8, PySem.W.mg_none_of X G z9, PySem.W.mg_none_of X G z10, PySem.W.mg_none_of X G z11, PySem.W.mg_none_of X G z12, PySem.W.mg_none_of X G z13, PySem.W.mg_none_of X G z14⟩
  have ZR : ExcR K mg "NoRoom" "NoLetter" "NoKeeper" "NoPlace" "NoSchedule" cR cL cA cQ cP cD := ⟨PySem.W.mg_of X G ncR, PySem.W.mg_of X G ncL, PySem.W.mg_of X G ncA, PySem.W.mg_of X G ncQ, PySem.W.mg_of X G ncP, PySem.W.mg_of X G ncD, PySem.W.mg_none_of X G nV, xeR, ⟨xgaR, xgnR, xclR, xgtR, xtkR, xmoR, xmbR⟩, by rw [xciR]; rfl, xk1R, xk2R, xk4R⟩
  have ZQ : ExcR K mg "NoKeeper" "NoLetter" "NoRoom" "NoPlace" "NoSchedule" cQ cL cA cR cP cD := ⟨PySem.W.mg_of X G ncQ, PySem.W.mg_of X G ncL, PySem.W.mg_of X G ncA, PySem.W.mg_of X G ncR, PySem.W.mg_of X G ncP, PySem.W.mg_of X G ncD, PySem.W.mg_none_of X G nV, xeQ, ⟨xgaQ, xgnQ, xclQ, xgtQ, xtkQ, xmoQ, xmbQ⟩, by rw [xciQ]; rfl, xk1Q, xk2Q, xk4Q⟩
  have hmx := PySem.W.mg_none_of X G z10
  have hso := PySem.W.mg_none_of X G z12
  have Y0 : KpC K C0 := ⟨⟨pg0, hd0, po0, sa0⟩, n0_number, n0_term, n0_voice, n0_head, n0_way, n0_pack, n0_row, n0_store, n0_nexts, n0_held, n0_agreed, n0_voices, n0_waits⟩
  have mC0 := PySem.W.mg_of X G aC0
  have Y1 : Cls K C1 := ⟨pg1, hd1, po1, sa1⟩
  have mC1 := PySem.W.mg_of X G aC1
  have Y2 : Cls K C2 := ⟨pg2, hd2, po2, sa2⟩
  have mC2 := PySem.W.mg_of X G aC2
  have G0 := fun_mk (st := s_Keeper___init__) gl0 gc0 gk0
  have gb0 := G0.binds (ps := ["self", "number", "seats"]) fun _ _ _ _ _ _ us hl => match us, hl with | [_, _, _], _ => rfl
  have G1 := fun_mk (st := s_Keeper_wake) gl1 gc1 gk1
  have gb1 := G1.binds (ps := ["self"]) fun _ _ _ _ _ _ us hl => match us, hl with | [_], _ => rfl
  have G2 := fun_mk (st := s_Keeper_be_plain) gl2 gc2 gk2
  have gb2 := G2.binds (ps := ["self"]) fun _ _ _ _ _ _ us hl => match us, hl with | [_], _ => rfl
  have G3 := fun_mk (st := s_Keeper_know_no_places) gl3 gc3 gk3
  have gb3 := G3.binds (ps := ["self"]) fun _ _ _ _ _ _ us hl => match us, hl with | [_], _ => rfl
  have G4 := fun_mk (st := s_Road___init__) gl4 gc4 gk4
  have gb4 := G4.binds (ps := ["self"]) fun _ _ _ _ _ _ us hl => match us, hl with | [_], _ => rfl
  have G5 := fun_mk (st := s_Road_waiting) gl5 gc5 gk5
  have gb5 := G5.binds (ps := ["self"]) fun _ _ _ _ _ _ us hl => match us, hl with | [_], _ => rfl
  have G6 := fun_mk (st := s_Room___init__) gl6 gc6 gk6
  have gb6 := G6.binds (ps := ["self", "count", "seats"]) fun _ _ _ _ _ _ us hl => match us, hl with | [_, _, _], _ => rfl
  have G7 := fun_mk (st := s_Room_size) gl7 gc7 gk7
  have gb7 := G7.binds (ps := ["self"]) fun _ _ _ _ _ _ us hl => match us, hl with | [_], _ => rfl
  have G8 := fun_mk (st := s_Room_keeper) gl8 gc8 gk8
  have gb8 := G8.binds (ps := ["self", "k"]) fun _ _ _ _ _ _ us hl => match us, hl with | [_, _], _ => rfl
  have G9 := fun_mk (st := s_Room_letters) gl9 gc9 gk9
  have gb9 := G9.binds (ps := ["self"]) fun _ _ _ _ _ _ us hl => match us, hl with | [_], _ => rfl
  have G10 := fun_mk (st := s_Room_callers) gl10 gc10 gk10
  have gb10 := G10.binds (ps := ["self"]) fun _ _ _ _ _ _ us hl => match us, hl with | [_], _ => rfl
  have G11 := fun_mk (st := s_Room_answers) gl11 gc11 gk11
  have gb11 := G11.binds (ps := ["self", "caller"]) fun _ _ _ _ _ _ us hl => match us, hl with | [_, _], _ => rfl
  have F1 := fun_mk (st := s_begun) l1 c1 k1
  have m1 := PySem.W.mg_of X G a1
  have b1 := F1.binds (ps := []) fun _ _ _ _ _ _ us hl => match us, hl with | [], _ => rfl
  have F2 := fun_mk (st := s_end_of) l2 c2 k2
  have m2 := PySem.W.mg_of X G a2
  have b2 := F2.binds (ps := ["row"]) fun _ _ _ _ _ _ us hl => match us, hl with | [_], _ => rfl
  have F3 := fun_mk (st := s_fresh) l3 c3 k3
  have m3 := PySem.W.mg_of X G a3
  have b3 := F3.binds (ps := []) fun _ _ _ _ _ _ us hl => match us, hl with | [], _ => rfl
  have F4 := fun_mk (st := s_first_pack) l4 c4 k4
  have m4 := PySem.W.mg_of X G a4
  have b4 := F4.binds (ps := ["seats"]) fun _ _ _ _ _ _ us hl => match us, hl with | [_], _ => rfl
  have F5 := fun_mk (st := s_are_seats_below) l5 c5 k5
  have m5 := PySem.W.mg_of X G a5
  have b5 := F5.binds (ps := ["seats", "count"]) fun _ _ _ _ _ _ us hl => match us, hl with | [_, _], _ => rfl
  have F6 := fun_mk (st := sCell) l6 c6 k6
  have m6 := PySem.W.mg_of X G a6
  have b6 := F6.binds (ps := ["_law_script", "_law_k"]) fun _ _ _ _ _ _ us hl => match us, hl with | [_, _], _ => rfl
  have F7 := fun_mk (st := s__law_whole) l7 c7 k7
  have m7 := PySem.W.mg_of X G a7
  have b7 := F7.binds (ps := ["_law_found"]) fun _ _ _ _ _ _ us hl => match us, hl with | [_], _ => rfl
  have F8 := fun_mk (st := sNameBy) l8 c8 k8
  have m8 := PySem.W.mg_of X G a8
  have b8 := F8.binds (ps := ["_law_cell"]) fun _ _ _ _ _ _ us hl => match us, hl with | [_], _ => rfl
  have F9 := fun_mk (st := s__law_state_of) l9 c9 k9
  have m9 := PySem.W.mg_of X G a9
  have b9 := F9.binds (ps := ["_law_keeper"]) fun _ _ _ _ _ _ us hl => match us, hl with | [_], _ => rfl
  have F10 := fun_mk (st := sSeatsBy) l10 c10 k10
  have m10 := PySem.W.mg_of X G a10
  have b10 := F10.binds (ps := ["_law_cell", "_law_many"]) fun _ _ _ _ _ _ us hl => match us, hl with | [_, _], _ => rfl
  have F11 := fun_mk (st := s__law_no_count) l11 c11 k11
  have m11 := PySem.W.mg_of X G a11
  have b11 := F11.binds (ps := ["_law_cell"]) fun _ _ _ _ _ _ us hl => match us, hl with | [_], _ => rfl
  have F12 := fun_mk (st := s__law_no_seats) l12 c12 k12
  have m12 := PySem.W.mg_of X G a12
  have b12 := F12.binds (ps := ["_law_seats", "_law_count", "_law_cell"]) fun _ _ _ _ _ _ us hl => match us, hl with | [_, _, _], _ => rfl
  have F13 := fun_mk (st := s__law_refused_room) l13 c13 k13
  have m13 := PySem.W.mg_of X G a13
  have b13 := F13.binds (ps := ["_law_count", "_law_seats"]) fun _ _ _ _ _ _ us hl => match us, hl with | [_, _], _ => rfl
  have F14 := fun_mk (st := s__law_no_keeper) l14 c14 k14
  have m14 := PySem.W.mg_of X G a14
  have b14 := F14.binds (ps := ["_law_room", "_law_k"]) fun _ _ _ _ _ _ us hl => match us, hl with | [_, _], _ => rfl
  have F15 := fun_mk (st := sLaw) l15 c15 k15
  have m15 := PySem.W.mg_of X G a15
  have b15 := F15.binds (ps := ["_law_script"]) fun _ _ _ _ _ _ us hl => match us, hl with | [_], _ => rfl
  refine ⟨PySem.W.fnOf "law" "law" (defArgs sLaw) (defBody sLaw) (defScope sLaw) .none kV15 dc15 pm15 an15 cd15 ct15, fun s v => .of_eq rfl, fun base _ _ => ?_⟩
  have CC : Cal l.prog w K mg base "_law_cell_at" 1 ["_law_script", "_law_k"] (spCell K) := cal F6 m6 b6 (ok_cell F6 T)
  have CW : Cal l.prog w K mg base "_law_whole" 1 ["_law_found"] (spWholeI) := cal F7 m7 b7 (ok_wholeI F7 T)
  have CSy : Cal l.prog w K mg base "_law_seats_by" 1 ["_law_cell", "_law_many"] (spSy) := cal F10 m10 b10 (ok_sy F10 T)
  have CNc : Cal l.prog w K mg base "_law_no_count" 1 ["_law_cell"] (spNc) := cal F11 m11 b11 (ok_nc F11)
  have CNs : Cal l.prog w K mg base "_law_no_seats" 1 ["_law_seats", "_law_count", "_law_cell"] (spNs) := cal F12 m12 b12 (ok_ns F12 T)
  have CSo : Cal l.prog w K mg base "_law_state_of" 1 ["_law_keeper"] (spSo5 C0) := cal F9 m9 b9 (ok_so5 Y0 F9)
  have CNx : Cal l.prog w K mg base "_law_name_by" 1 ["_law_cell"] (spNx5) := cal F8 m8 b8 (ok_nx5 (ok_nmX F8 T))
  have CEo : Cal l.prog w K mg base "end_of" 1 ["row"] (spEndP) := cal F2 m2 b2 (ok_end_ofP F2 T)
  have CFr : Cal l.prog w K mg base "fresh" 1 [] (spFreshP K) := cal F3 m3 b3 (ok_fresh F3)
  have CFp : Cal l.prog w K mg base "first_pack" 2 ["seats"] (spFp) := cal F4 m4 b4 (ok_first_pack F4 CFr)
  have CBg : Cal l.prog w K mg base "begun" 1 [] (spBegP) := cal F1 m1 b1 (ok_begunP F1)
  have CBl : Cal l.prog w K mg base "are_seats_below" 1 ["seats", "count"] (spBelow) := cal F5 m5 b5 (ok_below F5 T T.any)
  have OB : FnOk l.prog w K mg base CX0 1 g2 _ ["self"] (spPlainK C0) := ok_be_plain Y0 G2
  have ON : FnOk l.prog w K mg base CX0 2 g3 _ ["self"] (spKnp C0) := ok_knp Y0 G3 CEo
  have OW : FnOk l.prog w K mg base CX0 3 g1 _ ["self"] (spWakeR C0) := ok_wakeR Y0 G1 ⟨ga2, gi2, gk2⟩ OB gb2 ⟨ga3, gi3, gk3⟩ ON gb3
  have OI : FnOk l.prog w K mg base CX0 4 g0 _ ["self", "number", "seats"] (spInit5 C0) := ok_init Y0 G0 ⟨ga1, gi1, gk1⟩ OW gb1 CFp CBg
  have MK0 : KpM5 l.prog w K mg base C0 4 := ⟨mC0, ⟨_, _, _, _, ⟨mk0, ga0, gi0, kc0⟩, OI, gb0⟩⟩
  have YR : RoC5 K C1 := ⟨Y1, n1_under_way⟩
  have YM : RmC K C2 := ⟨Y2, n2_keepers, n2_road, n2_named⟩
  have OO : FnOk l.prog w K mg base CX0 1 g4 _ ["self"] (spRd0 C1) := ok_rinit YR G4
  have OT : FnOk l.prog w K mg base CX0 1 g5 _ ["self"] (spRw0 C1) := ok_rwait YR G5 T
  have OM : FnOk l.prog w K mg base CX0 6 g6 _ ["self", "count", "seats"] (spRmI (RVm C2 C0 C1) C2) := ok_rminit (LV := 5) (jI := 4) (by decide) YM G6 T CBl mC0 ⟨mk0, ga0, gi0, kc0⟩ OI gb0 mC1 ⟨mk1, ga4, gi4, kc1⟩ OO gb4
  have OME : FnOk l.prog w K mg base (CXe l.prog w) 2 g6 _ ["self", "count", "seats"] (spRoomBad C2 cR) := ok_rminitE (LV := 1) (by decide) ZR xPR G6 T CBl
  have OKE : FnOk l.prog w K mg base (CXe l.prog w) 1 g8 _ ["self", "k"] (spKeepBad (RVm C2 C0 C1) cQ) := ok_keeperE ZQ xPQ YM G8 T
  have M : RmM l.prog w K mg base (RVm C2 C0 C1) C2 C0 6 := ⟨Y2, mC2, ⟨_, _, _, _, ⟨mk2, ga6, gi6, kc2⟩, OM, gb6⟩, ⟨_, _, ⟨ga7, gi7, gk7⟩, FnOk.mono (ok_size YM G7 T) (by decide), gb7⟩, ⟨_, _, _, ⟨ga8, gi8, gk8⟩, FnOk.mono (ok_keeper YM G8 T) (by decide), gb8⟩, ⟨_, _, ⟨ga9, gi9, gk9⟩, FnOk.mono (ok_letters YM Y1 G9 ⟨ga5, gi5, gk5⟩ OT gb5) (by decide), gb9⟩, ⟨_, _, ⟨ga10, gi10, gk10⟩, FnOk.mono (ok_callers YM G10 T) (by decide), gb10⟩, ⟨_, _, _, ⟨ga11, gi11, gk11⟩, FnOk.mono (ok_answers YM G11 T) (by decide), gb11⟩⟩
  have CRf : Cal l.prog w K mg base "_law_refused_room" 4 ["_law_count", "_law_seats"] (spRef5) := cal F13 m13 b13 (ok_ref5 ZR F13 T mC2 ⟨mk2, ga6, gi6, kc2⟩ OME gb6)
  have CQ : Cal l.prog w K mg base "_law_no_keeper" 2 ["_law_room", "_law_k"] (spNk5 (RVm C2 C0 C1)) := cal F14 m14 b14 (ok_nk5 (rmL C2 C0 C1) ZQ F14 T Y2 ⟨ga8, gi8, gk8⟩ OKE gb8)
  exact ok_law (LV := 7) (by decide) (rmL C2 C0 C1) M MK0 F15 T CC CSy CRf CNc CNs CW CSo CQ CNx
theorem walk {l : PySem.W.OpenLaw} {q : Program} {loose : List Str} {XP : (Str → Option Value) → Heap → Prop} {YP : World → Heap → Prop} {d : DefRec} {K : Params → PySem.W.Frag} (hn : l.most = some 63) (hdf : d.params.defaults = [])
    (hY : ∀ (w : World) (h : Heap), YP w h → (K w.params).In h)
    (F : ∀ (w : World) (mg : Str → Option Value) (fa : Addr) (h : Heap), (K w.params).In h → h.Ns mainGlobals mg → mg d.name = some (.ref fa) →
      ∃ fd : FuncData, (∀ (s : Shared) (u : Value), BindsTo s fd ⟨[u], []⟩ [("_law_script", u)]) ∧ ∀ base : Heap, (K w.params).In base → base.Ns mainGlobals mg → FnOk l.prog w (K w.params) mg base CX0 8 fa fd ["_law_script"] (spLaw (K w.params))) :
    PySem.W.WalkO q loose XP YP l.row.toRowW d [] (fun f vs => PySem.call f vs) :=
  L2.walk_of (n := 63) (k := 8) (x := "_law_script") (CX := fun _ => CX0) (sp := fun w => spLaw (K w.params)) hn (by decide) hdf ⟨rfl, by decide, by decide⟩ hY F (fun _ _ a ns hl _ hS => ⟨a, ns, rfl, hS, hl, fun _ => rfl⟩) fun _ _ _ _ _ z => z
end K1
def PySem.W.Fast.tw1889437482165024633 : Unit := ()
def PySem.W.Fast.tw10813577713091390238 : Unit := ()
def PySem.W.Fast.tw14709032279770552445 : Unit := ()
def PySem.W.Fast.tw13951978538331996011 : Unit := ()
def PySem.W.Fast.tw1642770787038784131 : Unit := ()
def PySem.W.Fast.tw4037084881447066282 : Unit := ()
def PySem.W.Fast.tw4000748084579811655 : Unit := ()
def PySem.W.Fast.tw4749735782021093108 : Unit := ()
def PySem.W.Fast.tw6942160376707199919 : Unit := ()
def PySem.W.Fast.tw7523685859368014522 : Unit := ()
def PySem.W.Fast.tw7023452516757421766 : Unit := ()
def PySem.W.Fast.tw12015378017963365031 : Unit := ()
def PySem.W.Fast.tw5463779128689564288 : Unit := ()
def PySem.W.Fast.tw728363155160843460 : Unit := ()
def PySem.W.Fast.tw17552575583596051550 : Unit := ()
def PySem.W.Fast.tw17294899688503937885 : Unit := ()
def PySem.W.Fast.tw1043396597935381331 : Unit := ()
def PySem.W.Fast.tw12815480585886502954 : Unit := ()
def PySem.W.Fast.tw7932339442283816443 : Unit := ()
def PySem.W.Fast.tw829858011408379981 : Unit := ()
def PySem.W.Fast.tw14033936735576001198 : Unit := ()
def PySem.W.Fast.tw2608354133414614051 : Unit := ()
def PySem.W.Fast.tw14129223243756964408 : Unit := ()
def PySem.W.Fast.tw5987143923837137583 : Unit := ()
def PySem.W.Fast.tw2236872041227930984 : Unit := ()
def PySem.W.Fast.tw982831216840909557 : Unit := ()
def PySem.W.Fast.tw9819017487731338788 : Unit := ()
def PySem.W.Fast.tw12290675482682957551 : Unit := ()
def PySem.W.Fast.tw143411302808887431 : Unit := ()
open PySem PySem.W PyProof.Rows
set_option maxRecDepth 100000 in
set_option maxHeartbeats 0 in
theorem PySem.Challenge.cw_keeplog_k52_rooms_made_holds : PySem.Challenge.rw_keeplog_k52_rooms_made.Holds := by
  w_on; o_law; k_head; (case hw => w_witness2)
  k_fill
  refine K1.walk (l := PySem.Challenge.rw_keeplog_k52_rooms_made) rfl rfl (fun w h Y => PySem.W.kIn_of Y) ?F
  case F =>
    intro w mg fa h KX G hmg
    refine' K1.all_mk KX G hmg ?a1 ?l1 ?c1 ?k1 ?a2 ?l2 ?c2 ?k2 ?a3 ?l3 ?c3 ?k3 ?a4 ?l4 ?c4 ?k4 ?a5 ?l5 ?c5 ?k5 ?a6 ?l6 ?c6 ?k6 ?a7 ?l7 ?c7 ?k7 ?a8 ?l8 ?c8 ?k8 ?a9 ?l9 ?c9 ?k9 ?a10 ?l10 ?c10 ?k10 ?a11 ?l11 ?c11 ?k11 ?a12 ?l12 ?c12 ?k12 ?a13 ?l13 ?c13 ?k13 ?a14 ?l14 ?c14 ?k14 ?a15 ?l15 ?c15 ?k15 ?ncL ?ncR ?ncQ ?ncA ?ncP ?ncD ?nV ?xPR ?xeR ?xgaR ?xgnR ?xclR ?xgtR ?xtkR ?xmoR ?xmbR ?xciR ?xk1R ?xk2R ?xk4R ?xPQ ?xeQ ?xgaQ ?xgnQ ?xclQ ?xgtQ ?xtkQ ?xmoQ ?xmbQ ?xciQ ?xk1Q ?xk2Q ?xk4Q ?aC0 ?ga0 ?gi0 ?gl0 ?gc0 ?gk0 ?ga1 ?gi1 ?gl1 ?gc1 ?gk1 ?ga2 ?gi2 ?gl2 ?gc2 ?gk2 ?ga3 ?gi3 ?gl3 ?gc3 ?gk3 ?pg0 ?hd0 ?po0 ?sa0 ?mk0 ?kc0 ?n0_number ?n0_term ?n0_voice ?n0_head ?n0_way ?n0_pack ?n0_row ?n0_store ?n0_nexts ?n0_held ?n0_agreed ?n0_voices ?n0_waits ?aC1 ?ga4 ?gi4 ?gl4 ?gc4 ?gk4 ?ga5 ?gi5 ?gl5 ?gc5 ?gk5 ?pg1 ?hd1 ?po1 ?sa1 ?mk1 ?kc1 ?n1_under_way ?aC2 ?ga6 ?gi6 ?gl6 ?gc6 ?gk6 ?ga7 ?gi7 ?gl7 ?gc7 ?gk7 ?ga8 ?gi8 ?gl8 ?gc8 ?gk8 ?ga9 ?gi9 ?gl9 ?gc9 ?gk9 ?ga10 ?gi10 ?gl10 ?gc10 ?gk10 ?ga11 ?gi11 ?gl11 ?gc11 ?gk11 ?pg2 ?hd2 ?po2 ?sa2 ?mk2 ?kc2 ?n2_keepers ?n2_road ?n2_named ?z0 ?z1 ?z2 ?z3 ?z4 ?z5 ?z6 ?z7 ?z8 ?z9 ?z10 ?z11 ?z12 ?z13 ?z14
    (case a1 => k_is)
    (case l1 => k_is)
    (case c1 => k_is)
    (case k1 => k_is)
    (case a2 => k_is)
    (case l2 => k_is)
    (case c2 => k_is)
    (case k2 => k_is)
    (case a3 => k_is)
    (case l3 => k_is)
    (case c3 => k_is)
    (case k3 => k_is)
    (case a4 => k_is)
    (case l4 => k_is)
    (case c4 => k_is)
    (case k4 => k_is)
    (case a5 => k_is)
    (case l5 => k_is)
    (case c5 => k_is)
    (case k5 => k_is)
    (case a6 => k_is)
    (case l6 => k_is)
    (case c6 => k_is)
    (case k6 => k_is)
    (case a7 => k_is)
    (case l7 => k_is)
    (case c7 => k_is)
    (case k7 => k_is)
    (case a8 => k_is)
    (case l8 => k_is)
    (case c8 => k_is)
    (case k8 => k_is)
    (case a9 => k_is)
    (case l9 => k_is)
    (case c9 => k_is)
    (case k9 => k_is)
    (case a10 => k_is)
    (case l10 => k_is)
    (case c10 => k_is)
    (case k10 => k_is)
    (case a11 => k_is)
    (case l11 => k_is)
    (case c11 => k_is)
    (case k11 => k_is)
    (case a12 => k_is)
    (case l12 => k_is)
    (case c12 => k_is)
    (case k12 => k_is)
    (case a13 => k_is)
    (case l13 => k_is)
    (case c13 => k_is)
    (case k13 => k_is)
    (case a14 => k_is)
    (case l14 => k_is)
    (case c14 => k_is)
    (case k14 => k_is)
    (case a15 => k_is)
    (case l15 => k_is)
    (case c15 => k_is)
    (case k15 => k_is)
    (case ncL => k_is)
    (case ncR => k_is)
    (case ncQ => k_is)
    (case ncA => k_is)
    (case ncP => k_is)
    (case ncD => k_is)
    (case nV => k_is)
    (case xPR => k_exc)
    (case xeR => kts_exm)
    (case xgaR => k_is)
    (case xgnR => k_is)
    (case xclR => k_is)
    (case xgtR => k_is)
    (case xtkR => k_is)
    (case xmoR => k_is)
    (case xmbR => k_is)
    (case xciR => k_is)
    (case xk1R => kit_is)
    (case xk2R => kit_is)
    (case xk4R => kit_is)
    (case xPQ => k_exc)
    (case xeQ => kts_exm)
    (case xgaQ => k_is)
    (case xgnQ => k_is)
    (case xclQ => k_is)
    (case xgtQ => k_is)
    (case xtkQ => k_is)
    (case xmoQ => k_is)
    (case xmbQ => k_is)
    (case xciQ => k_is)
    (case xk1Q => kit_is)
    (case xk2Q => kit_is)
    (case xk4Q => kit_is)
    (case aC0 => k_is)
    (case ga0 => k_is)
    (case gi0 => k_is)
    (case gl0 => k_is)
    (case gc0 => k_is)
    (case gk0 => k_is)
    (case ga1 => k_is)
    (case gi1 => k_is)
    (case gl1 => k_is)
    (case gc1 => k_is)
    (case gk1 => k_is)
    (case ga2 => k_is)
    (case gi2 => k_is)
    (case gl2 => k_is)
    (case gc2 => k_is)
    (case gk2 => k_is)
    (case ga3 => k_is)
    (case gi3 => k_is)
    (case gl3 => k_is)
    (case gc3 => k_is)
    (case gk3 => k_is)
    (case pg0 => k_is)
    (case hd0 => k_is)
    (case po0 => k_is)
    (case sa0 => k_is)
    (case mk0 => k_is)
    (case kc0 => k_is)
    (case n0_number => k_is)
    (case n0_term => k_is)
    (case n0_voice => k_is)
    (case n0_head => k_is)
    (case n0_way => k_is)
    (case n0_pack => k_is)
    (case n0_row => k_is)
    (case n0_store => k_is)
    (case n0_nexts => k_is)
    (case n0_held => k_is)
    (case n0_agreed => k_is)
    (case n0_voices => k_is)
    (case n0_waits => k_is)
    (case aC1 => k_is)
    (case ga4 => k_is)
    (case gi4 => k_is)
    (case gl4 => k_is)
    (case gc4 => k_is)
    (case gk4 => k_is)
    (case ga5 => k_is)
    (case gi5 => k_is)
    (case gl5 => k_is)
    (case gc5 => k_is)
    (case gk5 => k_is)
    (case pg1 => k_is)
    (case hd1 => k_is)
    (case po1 => k_is)
    (case sa1 => k_is)
    (case mk1 => k_is)
    (case kc1 => k_is)
    (case n1_under_way => k_is)
    (case aC2 => k_is)
    (case ga6 => k_is)
    (case gi6 => k_is)
    (case gl6 => k_is)
    (case gc6 => k_is)
    (case gk6 => k_is)
    (case ga7 => k_is)
    (case gi7 => k_is)
    (case gl7 => k_is)
    (case gc7 => k_is)
    (case gk7 => k_is)
    (case ga8 => k_is)
    (case gi8 => k_is)
    (case gl8 => k_is)
    (case gc8 => k_is)
    (case gk8 => k_is)
    (case ga9 => k_is)
    (case gi9 => k_is)
    (case gl9 => k_is)
    (case gc9 => k_is)
    (case gk9 => k_is)
    (case ga10 => k_is)
    (case gi10 => k_is)
    (case gl10 => k_is)
    (case gc10 => k_is)
    (case gk10 => k_is)
    (case ga11 => k_is)
    (case gi11 => k_is)
    (case gl11 => k_is)
    (case gc11 => k_is)
    (case gk11 => k_is)
    (case pg2 => k_is)
    (case hd2 => k_is)
    (case po2 => k_is)
    (case sa2 => k_is)
    (case mk2 => k_is)
    (case kc2 => k_is)
    (case n2_keepers => k_is)
    (case n2_road => k_is)
    (case n2_named => k_is)
    (case z0 => k_is)
    (case z1 => k_is)
    (case z2 => k_is)
    (case z3 => k_is)
    (case z4 => k_is)
    (case z5 => k_is)
    (case z6 => k_is)
    (case z7 => k_is)
    (case z8 => k_is)
    (case z9 => k_is)
    (case z10 => k_is)
    (case z11 => k_is)
    (case z12 => k_is)
    (case z13 => k_is)
    (case z14 => k_is)
