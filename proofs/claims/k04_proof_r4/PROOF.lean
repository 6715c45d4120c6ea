import PyProof.Rows.All
import Wide.All
import OpenK.AllK
import Wide.FinOn
import Lean
import PyProof.EqAt
import PyProof.EqKinds
import PyProof.TupleCall
import PySem.Challenge.RW_keeplog_k04_letters
set_option Elab.async false
set_option linter.all false
set_option maxRecDepth 100000
/-! THE HAND LAYER, for ints, bools, texts, own classes, LISTS and tuples (index, slices, in, append, pop ..), calls, loops. Paste it whole ahead of your own text; what your proof does not reach may be deleted. -/
namespace L2
open PySem PySem.Spec PyProof.Rows

/-- a key: an int or a str -/
abbrev Key := Sum Int Str
def keyIs : Key → Value → Bool
  | .inl k, v => Value.isInt k v
  | .inr x, v => Value.isStrOf x v
def keyH (w : World) : Key → Int
  | .inl k => hashInt k
  | .inr x => hashStr w x
theorem keyIs_shape : ∀ {k : Key} {v : Value}, keyIs k v = true → (∃ i t, k = Sum.inl i ∧ v = Value.int i t) ∨ (∃ x t, k = Sum.inr x ∧ v = Value.str x t)
  | .inl i, v, h => by
    obtain ⟨t, e⟩ := Value.isInt_shape (k := i) (v := v) h
    exact .inl ⟨i, t, rfl, e⟩
  | .inr x, v, h => by
    obtain ⟨t, e⟩ := Value.isStrOf_shape (x := x) (v := v) h
    exact .inr ⟨x, t, rfl, e⟩
theorem keyIs_int (i : Int) (t : Tok) : keyIs (.inl i) (.int i t) = true := by simp [keyIs, Value.isInt]
theorem keyIs_str (x : Str) (t : Tok) : keyIs (.inr x) (.str x t) = true := by simp [keyIs, Value.isStrOf]
theorem key_ll (a b : Int) : decide ((Sum.inl a : Key) = Sum.inl b) = (a == b) := by
  by_cases e : a = b
  · subst e; simp
  · have h : ¬ (Sum.inl a : Key) = Sum.inl b := fun q => e (Sum.inl.inj q)
    rw [decide_eq_false h]
    exact (beq_eq_false_iff_ne.mpr e).symm
theorem key_rr (a b : Str) : decide ((Sum.inr a : Key) = Sum.inr b) = decide (a = b) := by
  by_cases e : a = b
  · subst e; simp
  · have h : ¬ (Sum.inr a : Key) = Sum.inr b := fun q => e (Sum.inr.inj q)
    rw [decide_eq_false h, decide_eq_false e]
theorem key_lr (a : Int) (b : Str) : decide ((Sum.inl a : Key) = Sum.inr b) = false := decide_eq_false (fun q => nomatch q)
theorem key_rl (a : Str) (b : Int) : decide ((Sum.inr a : Key) = Sum.inl b) = false := decide_eq_false (fun q => nomatch q)

def mixKind (prog : Program) (w : World) : PySem.KeyKind prog w Key where
  is := keyIs
  hash := keyH w
  inj := fun v a b ha hb => by
    rcases keyIs_shape ha with ⟨i, t, rfl, rfl⟩ | ⟨x, t, rfl, rfl⟩
    · rcases keyIs_shape hb with ⟨j, u, rfl, e⟩ | ⟨y, u, rfl, e⟩
      · injection e with e1 _; rw [e1]
      · exact nomatch e
    · rcases keyIs_shape hb with ⟨j, u, rfl, e⟩ | ⟨y, u, rfl, e⟩
      · exact nomatch e
      · injection e with e1 _; rw [e1]
  byValue := fun k v h => by
    rcases keyIs_shape h with ⟨i, t, rfl, rfl⟩ | ⟨x, t, rfl, rfl⟩ <;> rfl
  pyHash := fun hv h => by
    rcases keyIs_shape hv with ⟨i, t, rfl, rfl⟩ | ⟨x, t, rfl, rfl⟩
    · exact wpAny_pyHash_int h
    · exact wpAny_pyHash_str h
  eqBool := fun hu hv h => by
    rcases keyIs_shape hu with ⟨i, t, rfl, rfl⟩ | ⟨x, t, rfl, rfl⟩
    · rcases keyIs_shape hv with ⟨j, u, rfl, rfl⟩ | ⟨y, u, rfl, rfl⟩
      · rw [key_ll] at h; exact wpAny_eqBool_int h
      · rw [key_lr] at h; exact SeqAt.EqAt.int_str i t y u _ _ _ _ h
    · rcases keyIs_shape hv with ⟨j, u, rfl, rfl⟩ | ⟨y, u, rfl, rfl⟩
      · rw [key_rl] at h; exact SeqAt.EqAt.str_int x t j u _ _ _ _ h
      · rw [key_rr] at h; exact wpAny_eqBool_str h
  «strs» := fun k x t v h => by
    rcases keyIs_shape h with ⟨i, u, rfl, e⟩ | ⟨y, u, rfl, e⟩
    · exact nomatch e
    · injection e with e1 _
      subst e1
      cases v <;> rfl

theorem mixKind_int (prog : Program) (w : World) (i : Int) (t : Tok) : (mixKind prog w).is (.inl i) (.int i t) = true := keyIs_int i t
theorem mixKind_str (prog : Program) (w : World) (x : Str) (t : Tok) : (mixKind prog w).is (.inr x) (.str x t) = true := keyIs_str x t
end L2

namespace L2
open PySem PySem.Spec PyProof.Rows

/-- a value, without the heap -/
inductive V where
  | non | bl (b : Bool) | int (i : Int) | str (x : Str) | byt (b : Array UInt8) | flt (b : UInt64) | ref (a : Addr) | ty (n : String)
  deriving DecidableEq

def RelV : V → Value → Prop
  | .non, u => u = Value.none
  | .bl b, u => u = Value.bool b
  | .int i, u => ∃ t, u = Value.int i t
  | .str x, u => ∃ t, u = Value.str x t
  | .byt b, u => ∃ t, u = Value.bytes b t
  | .flt b, u => ∃ t, u = Value.float b t
  | .ref a, u => u = Value.ref a
  | .ty n, u => u = Value.type n

abbrev Vals : List V → List Value → Prop := Paired RelV
theorem Vals.length {xs : List V} {us : List Value} (r : Vals xs us) : xs.length = us.length := Paired.length r
theorem Vals.get : ∀ {xs : List V} {us : List Value} {i : Nat} {x : V}, Vals xs us → xs[i]? = some x → ∃ u, us[i]? = some u ∧ RelV x u
  | _, _, _, _, .nil, e => by simp at e
  | _, _, 0, _, .cons r _, e => by simp at e; subst e; exact ⟨_, rfl, r⟩
  | _, _, i + 1, x, .cons _ t, e => by
    obtain ⟨u, h1, h2⟩ := Vals.get (i := i) (x := x) t (by simpa using e)
    exact ⟨u, by simpa using h1, h2⟩
theorem Vals.set {x : V} {u : Value} (r : RelV x u) : ∀ {xs : List V} {us : List Value} (i : Nat), Vals xs us → Vals (xs.set i x) (us.set i u)
  | _, _, _, .nil => .nil
  | _, _, 0, .cons _ t => .cons r t
  | _, _, i + 1, .cons q t => .cons q (Vals.set r i t)
theorem Vals.append : ∀ {xs ys : List V} {us ws : List Value}, Vals xs us → Vals ys ws → Vals (xs ++ ys) (us ++ ws)
  | _, _, _, _, .nil, s => s
  | _, _, _, _, .cons r t, s => .cons r (Vals.append t s)
theorem Vals.take : ∀ {xs : List V} {us : List Value} (n : Nat), Vals xs us → Vals (xs.take n) (us.take n)
  | _, _, 0, _ => .nil
  | _, _, _ + 1, .nil => .nil
  | _, _, n + 1, .cons r t => .cons r (Vals.take n t)
theorem Vals.drop : ∀ {xs : List V} {us : List Value} (n : Nat), Vals xs us → Vals (xs.drop n) (us.drop n)
  | _, _, 0, r => r
  | _, _, _ + 1, .nil => .nil
  | _, _, n + 1, .cons _ t => Vals.drop n t
theorem Vals.none_of : ∀ {xs : List V} {us : List Value} {i : Nat}, Vals xs us → xs[i]? = none → us[i]? = none := fun {xs us i} r e => by
  have h1 := r.length
  have h2 : xs.length ≤ i := List.getElem?_eq_none_iff.mp e
  exact List.getElem?_eq_none_iff.mpr (by omega)

def RelO : Option V → Option Value → Prop
  | some v, some u => RelV v u
  | none, none => True
  | _, _ => False
def KV {κ : Type} : List (κ × V) → List (κ × Value) → Prop := Paired fun (p : κ × V) (q : κ × Value) => p.1 = q.1 ∧ RelV p.2 q.2

/-- a key of a dict (00_mix): an int or a text -/
def kV : Key → V
  | .inl i => .int i
  | .inr x => .str x

/-- what stands at a tracked address -/
inductive HO where
  /-- a list -/
  | lst (xs : List V)
  /-- a tuple (never changes) -/
  | tup (xs : List V)
  /-- a dict whose keys are ints and texts; one whose keys are tuples of ints and texts (the empty one is both) -/
  | dK (kvs : List (Key × V)) | dT (kvs : List (List Key × V))
  /-- a set of ints: its members, its size -/
  | set (S : Int → Bool) (n : Nat)
  /-- an instance of the class at C, its dict at dx, its attributes -/
  | ins (C dx : Addr) (fs : List (Str × V))
  /-- the dict of the instance at x -/
  | own (x : Addr)
  /-- the dict of an exception -/
  | xd (fs : List (Str × V))
  /-- a bound method, f of x -/
  | met (f x : Addr)
  /-- a range object lo, lo + 1, .. below hi -/
  | rng (lo hi : Int)
  /-- a thing that is known to the object (the script; a dict while a loop walks it): read, never written while it is so -/
  | frz (o : Obj) (u : HO)
  /-- a code object's table -/
  | tbl (ps : Array Value)
  /-- any other thing, by what is true of its one object (a def of one's own: SetO a S n := HO.ext fun h => ..) -/
  | ext (φ : Heap → Prop)

abbrev Hp := Addr → Option HO
def upd (H : Hp) (a : Addr) (o : HO) : Hp := fun b => if b = a then some o else H b
theorem upd_same {H : Hp} {a : Addr} {o : HO} : upd H a o a = some o := by unfold upd; rw [if_pos rfl]
theorem upd_ne {H : Hp} {a b : Addr} {o : HO} (h : b ≠ a) : upd H a o b = H b := by unfold upd; rw [if_neg h]
theorem upd_upd {H : Hp} {a : Addr} {o u : HO} : upd (upd H a o) a u = upd H a u := by
  funext b; unfold upd; split <;> rfl
/-- two objects of different content stand apart -/
theorem ne_of {H : Hp} {a b : Addr} {o u : HO} (h : H a = some o) (h' : H b = some u) (d : o ≠ u) : a ≠ b := by
  intro e; subst e; rw [h] at h'; exact d (Option.some.inj h')
theorem ne_of_none {H : Hp} {a b : Addr} {o : HO} (h : H a = some o) (h' : H b = none) : a ≠ b := by
  intro e; subst e; rw [h] at h'; cases h'

section
variable (P : Program) (w : World)
def ObjOk (H : Hp) (h : Heap) (a : Addr) : HO → Prop
  | .lst xs => xs.length ≤ sizeLine ∧ ∃ (its : List Value) (n : Nat), Vals xs its ∧ h.get? a = some { cls := .type "list", data := .seq its.toArray n }
  | .tup xs => xs.length ≤ sizeLine ∧ ∃ its : List Value, Vals xs its ∧ IsTup h a its.toArray
  | .dK kvs => kvs.length ≤ sizeLine ∧ (a == sysModules) = false ∧ ∃ vs, KV kvs vs ∧ h.DictOf (mixKind P w) a vs
  | .dT kvs => kvs.length ≤ sizeLine ∧ (a == sysModules) = false ∧ ∃ xs : List (List Key × Addr × Value),
      Paired (fun (p : List Key × V) (q : List Key × Addr × Value) => p.1 = q.1 ∧ H q.2.1 = some (.tup (p.1.map kV)) ∧ RelV p.2 q.2.2) kvs xs ∧
      ∃ o es ep, h.get? a = some o ∧ o.ExactDict ∧ o.data = .dict es ep ∧ es.toList = xs.map (entryOfKey (tupleKind (mixKind P w))) ∧ (xs.map (·.1)).Nodup
  | .set S n => h.SetOf (intKind P w) a S n
  | .ins C dx fs => H dx = some (.own a) ∧ fs.length ≤ 1000 ∧ dx ≠ a ∧ h.get? a = some (PySem.W.instObj C dx) ∧
      ∃ mA, h.Ns1 dx mA ∧ (∀ f, RelO (fs.lookup f) (mA f)) ∧ PySem.Within mA (fs.map (·.1))
  | .own _ => ∃ o, h.get? a = some o
  | .xd fs => ∃ mA, h.Ns1 a mA ∧ ∀ f, RelO (fs.lookup f) (mA f)
  | .rng lo hi => ∃ t u v, h.get? a = some { cls := .type "range", data := .fields #[.int lo t, .int hi u, .int 1 v] }
  | .frz o u => h.get? a = some o ∧ ObjOk H h a u
  | .tbl ps => h.get? a = some { cls := .none, data := .fields ps }
  | .met f x => h.get? a = some (PySem.W.methodObj (.ref f) (.ref x))
  | .ext φ => φ h ∧ (∃ o, h.get? a = some o) ∧ ∀ h1 h2 : Heap, φ h1 → (∀ o, h1.get? a = some o → h2.get? a = some o) → φ h2
/-- the abstract heap is held -/
def HOk (H : Hp) (h : Heap) : Prop := ∀ a o, H a = some o → ObjOk P w H h a o
end

section
variable {P : Program} {w : World} {H H' : Hp} {h h' : Heap} {a : Addr} {o : HO}
theorem ObjOk.lt (x : ObjOk P w H h a o) : a < h.objs.size := by
  cases o with
  | lst xs => obtain ⟨_, _, _, _, e⟩ := x; exact Heap.lt_size e
  | tup xs => obtain ⟨_, _, _, p⟩ := x; exact p.lt
  | dK kvs => obtain ⟨_, _, _, _, o, _, _, e, _⟩ := x; exact Heap.lt_size e
  | dT kvs => obtain ⟨_, _, _, _, o, _, _, e, _⟩ := x; exact Heap.lt_size e
  | set S n => obtain ⟨o, _, _, _, e, _⟩ := x; exact Heap.lt_size e
  | ins C dx fs => obtain ⟨_, _, _, e, _⟩ := x; exact Heap.lt_size e
  | own y => obtain ⟨_, e⟩ := x; exact Heap.lt_size e
  | xd fs => obtain ⟨_, ⟨_, _, _, e, _⟩, _⟩ := x; exact Heap.lt_size e
  | rng lo hi => obtain ⟨_, _, _, e⟩ := x; exact Heap.lt_size e
  | frz ob u => obtain ⟨e, _⟩ := x; exact Heap.lt_size e
  | tbl ps => exact Heap.lt_size (show h.get? a = some _ from x)
  | met f y => exact Heap.lt_size (show h.get? a = some _ from x)
  | ext φ => obtain ⟨_, ⟨_, e⟩, _⟩ := x; exact Heap.lt_size e
theorem Paired.mapP {α β : Type} {F G : α → β → Prop} : ∀ {l₁ : List α} {l₂ : List β}, Paired F l₁ l₂ → (∀ a b, F a b → G a b) → Paired G l₁ l₂
  | _, _, .nil, _ => .nil
  | _, _, .cons r t, f => .cons (f _ _ r) (Paired.mapP t f)
/-- what an object's description leans on: its own object, its own dict, the tuples -/
theorem ObjOk.stay (x : ObjOk P w H h a o) (k : ∀ b u, (b = a ∨ H b = some (.own a)) → h.get? b = some u → h'.get? b = some u)
    (ho : ∀ b, H b = some (.own a) → H' b = some (.own a)) (ht : ∀ b xs, H b = some (.tup xs) → H' b = some (.tup xs)) : ObjOk P w H' h' a o := by
  induction o with
  | lst xs => obtain ⟨z, its, n, r, e⟩ := x; exact ⟨z, its, n, r, k _ _ (.inl rfl) e⟩
  | tup xs => obtain ⟨z, its, r, ob, e, c⟩ := x; exact ⟨z, its, r, ob, k _ _ (.inl rfl) e, c⟩
  | dK kvs => obtain ⟨z, y, vs, r, ob, es, ep, e, c⟩ := x; exact ⟨z, y, vs, r, ob, es, ep, k _ _ (.inl rfl) e, c⟩
  | dT kvs =>
    obtain ⟨z, y, xs, r, ob, es, ep, e, c⟩ := x
    exact ⟨z, y, xs, Paired.mapP r fun p q z => ⟨z.1, ht _ _ z.2.1, z.2.2⟩, ob, es, ep, k _ _ (.inl rfl) e, c⟩
  | set S n => obtain ⟨ob, es, ep, t, e, c⟩ := x; exact ⟨ob, es, ep, t, k _ _ (.inl rfl) e, c⟩
  | ins C dx fs =>
    obtain ⟨d, z, ne, e, mA, ⟨od, es, ep, e2, c⟩, r⟩ := x
    exact ⟨ho _ d, z, ne, k _ _ (.inl rfl) e, mA, ⟨od, es, ep, k _ _ (.inr d) e2, c⟩, r⟩
  | own y => obtain ⟨ob, e⟩ := x; exact ⟨ob, k _ _ (.inl rfl) e⟩
  | xd fs => obtain ⟨mA, ⟨od, es, ep, e, c⟩, r⟩ := x; exact ⟨mA, ⟨od, es, ep, k _ _ (.inl rfl) e, c⟩, r⟩
  | rng lo hi => obtain ⟨t, u, v, e⟩ := x; exact ⟨t, u, v, k _ _ (.inl rfl) e⟩
  | frz ob u ih => obtain ⟨e, q⟩ := x; exact ⟨k _ _ (.inl rfl) e, ih q⟩
  | tbl ps =>
    have e : h.get? a = some { cls := .none, data := .fields ps } := x
    show h'.get? a = some { cls := .none, data := .fields ps }
    exact k a _ (.inl rfl) e
  | met f y =>
    have e : h.get? a = some (PySem.W.methodObj (.ref f) (.ref y)) := x
    show h'.get? a = some (PySem.W.methodObj (.ref f) (.ref y))
    exact k a _ (.inl rfl) e
  | ext φ => obtain ⟨p, ⟨o, e⟩, st⟩ := x; exact ⟨st _ _ p fun o q => k _ _ (.inl rfl) q, ⟨o, k _ _ (.inl rfl) e⟩, st⟩
theorem HOk.lt (x : HOk P w H h) (e : H a = some o) : a < h.objs.size := (x a o e).lt
theorem HOk.fresh (x : HOk P w H h) (e : h.objs.size ≤ a) : H a = none := by
  cases q : H a with
  | none => rfl
  | some u => exact absurd (Nat.lt_of_lt_of_le (x.lt q) e) (Nat.lt_irrefl _)
/-- every object of the heap is kept -/
theorem HOk.kept (x : HOk P w H h) (k : ∀ b u, h.get? b = some u → h'.get? b = some u) : HOk P w H h' := fun a o e =>
  (x a o e).stay (fun b u _ q => k b u q) (fun _ q => q) fun _ _ q => q
/-- a new object is laid and tracked -/
theorem HOk.laid (x : HOk P w H h) (k : ∀ b u, h.get? b = some u → h'.get? b = some u) (hp : h.objs.size ≤ a) (new : ObjOk P w (upd H a o) h' a o) : HOk P w (upd H a o) h' := fun b u e => by
  have hn := x.fresh hp
  by_cases hb : b = a
  · subst hb; rw [upd_same] at e; cases e; exact new
  · rw [upd_ne hb] at e
    exact (x b u e).stay (fun c v _ q => k c v q) (fun c q => by rw [upd_ne (ne_of_none q hn)]; exact q) fun c xs q => by rw [upd_ne (ne_of_none q hn)]; exact q
end

/-- what may be read as u: it is u, or a known u -/
def Rd (H : Hp) (a : Addr) (u : HO) : Prop := H a = some u ∨ ∃ o, H a = some (.frz o u)
theorem Rd.of {H : Hp} {a : Addr} {u : HO} (h : H a = some u) : Rd H a u := .inl h
theorem Rd.ok {P : Program} {w : World} {H : Hp} {h : Heap} {a : Addr} {u : HO} (r : Rd H a u) (x : HOk P w H h) : ObjOk P w H h a u := by
  rcases r with r | ⟨o, r⟩
  · exact x a u r
  · obtain ⟨_, q⟩ := x a _ r
    exact q
/-- what may be written -/
def Mut : Option HO → Prop
  | some (.lst _) => True
  | some (.dK _) => True
  | some (.dT _) => True
  | some (.set _ _) => True
  | some (.ins _ _ _) => True
  | some (.ext _) => True
  | _ => False
section
variable {P : Program} {w : World} {H : Hp} {h h' : Heap} {x e : Addr} {o' : HO}
/-- the object at e is changed: x itself, or the dict of the instance x -/
theorem HOk.write (ok : HOk P w H h) (mu : Mut (H x)) (he : e = x ∨ H e = some (.own x)) (k : ∀ b u, b ≠ e → h.get? b = some u → h'.get? b = some u) (heo : ∃ u, h'.get? e = some u)
    (new : ObjOk P w (upd H x o') h' x o') : HOk P w (upd H x o') h' := fun b u q => by
  have nown : ∀ c y, H c = some (.own y) → c ≠ x := fun c y r z => by subst z; rw [r] at mu; exact mu
  have ntup : ∀ c xs, H c = some (.tup xs) → c ≠ x := fun c xs r z => by subst z; rw [r] at mu; exact mu
  by_cases hb : b = x
  · subst hb; rw [upd_same] at q; cases q; exact new
  · rw [upd_ne hb] at q
    by_cases hbe : b = e
    · have q' : H b = some (.own x) := by
        rcases he with z | z
        · exact absurd (hbe.trans z) hb
        · rw [hbe]; exact z
      rw [q] at q'; cases q'
      obtain ⟨v, hv⟩ := heo
      exact ⟨v, by rw [hbe]; exact hv⟩
    · refine (ok b u q).stay (fun c v hc r => k c v ?_ r) (fun c r => by rw [upd_ne (nown c b r)]; exact r) fun c xs r => by rw [upd_ne (ntup c xs r)]; exact r
      rcases hc with rfl | hc
      · exact hbe
      · rintro rfl
        rcases he with z | z
        · exact nown c b hc z
        · rw [hc] at z; cases z; exact hb rfl
end

/-! ### kept unless tracked; of the frames at fs (the callers') the slots may change (an exception that passes writes there); of the records at ex (iterators) nothing is said -/
structure Un (fs ex : List Addr) (H H' : Hp) (h h' : Heap) : Prop where
  keep : ∀ b o, h.get? b = some o → H b = none → b ∉ fs → b ∉ ex → h'.get? b = some o
  slot : ∀ b o, h.get? b = some o → H b = none → b ∈ fs → b ∉ ex → ∃ sl, h'.get? b = some { o with slots := sl }
  free : ∀ b o, h.get? b = some o → H b = none → b ∉ ex → H' b = none
  there : ∀ b o, h.get? b = some o → b ∉ ex → ∃ o', h'.get? b = some o'
  tups : ∀ b xs, H b = some (.tup xs) → H' b = some (.tup xs)
  frzs : ∀ b o u, H b = some (.frz o u) → H' b = some (.frz o u)
  tbls : ∀ b ps, H b = some (.tbl ps) → ∃ more, H' b = some (.tbl (ps ++ more))
section
variable {fs fs' ex ex' : List Addr} {H H1 H2 : Hp} {h h1 h2 h' : Heap} {a x e : Addr} {o : HO}
theorem Un.any (u : Un fs ex H H1 h h1) {b : Addr} {ob : Obj} (q : h.get? b = some ob) (n : H b = none) (hx : b ∉ ex) : ∃ sl, h1.get? b = some { ob with slots := sl } := by
  by_cases hb : b ∈ fs
  · exact u.slot b ob q n hb hx
  · exact ⟨ob.slots, u.keep b ob q n hb hx⟩
theorem Un.trans (a : Un fs ex H H1 h h1) (b : Un fs ex H1 H2 h1 h2) : Un fs ex H H2 h h2 where
  keep := fun c ob q n hc hx => b.keep c ob (a.keep c ob q n hc hx) (a.free c ob q n hx) hc hx
  slot := fun c ob q n hc hx => by
    obtain ⟨sl, e1⟩ := a.slot c ob q n hc hx
    obtain ⟨sl', e2⟩ := b.slot c _ e1 (a.free c ob q n hx) hc hx
    exact ⟨sl', e2⟩
  free := fun c ob q n hx => by
    obtain ⟨o', e1⟩ := a.there c ob q hx
    exact b.free c o' e1 (a.free c ob q n hx) hx
  there := fun c ob q hx => by
    obtain ⟨o', e1⟩ := a.there c ob q hx
    exact b.there c o' e1 hx
  tups := fun c xs q => b.tups c xs (a.tups c xs q)
  frzs := fun c ob xs q => b.frzs c ob xs (a.frzs c ob xs q)
  tbls := fun c ps q => by
    obtain ⟨m1, e1⟩ := a.tbls c ps q
    obtain ⟨m2, e2⟩ := b.tbls c _ e1
    exact ⟨m1 ++ m2, by rw [e2, Array.append_assoc]⟩
theorem Un.kept (k : ∀ b u, h.get? b = some u → h'.get? b = some u) : Un fs ex H H h h' :=
  ⟨fun b ob q _ _ _ => k b ob q, fun b ob q _ _ _ => ⟨ob.slots, k b ob q⟩, fun _ _ _ n _ => n, fun b ob q _ => ⟨ob, k b ob q⟩, fun _ _ q => q, fun _ _ _ q => q, fun _ ps q => ⟨#[], by rw [q]; simp⟩⟩
theorem Un.refl : Un fs ex H H h h := Un.kept fun _ _ q => q
theorem Un.laid (k : ∀ b u, h.get? b = some u → h'.get? b = some u) (hp : h.objs.size ≤ a) (hn : H a = none) : Un fs ex H (upd H a o) h h' where
  keep := fun b u q _ _ _ => k b u q
  slot := fun b u q _ _ _ => ⟨u.slots, k b u q⟩
  free := fun b u q n _ => by rw [upd_ne (Nat.ne_of_lt (Nat.lt_of_lt_of_le (Heap.lt_size q) hp))]; exact n
  there := fun b u q _ => ⟨u, k b u q⟩
  tups := fun b xs q => by rw [upd_ne (ne_of_none q hn)]; exact q
  frzs := fun b u xs q => by rw [upd_ne (ne_of_none q hn)]; exact q
  tbls := fun b ps q => ⟨#[], by rw [upd_ne (ne_of_none q hn), q]; simp⟩
theorem Un.write (mu : Mut (H x)) (he : e = x ∨ H e = some (.own x)) (k : ∀ b u, b ≠ e → h.get? b = some u → h'.get? b = some u) (heo : ∃ u, h'.get? e = some u) : Un fs ex H (upd H x o) h h' := by
  have hx : ∀ b, H b = none → b ≠ x := fun b n z => by subst z; rw [n] at mu; exact mu
  have hb : ∀ b, H b = none → b ≠ e := fun b n z => by
    subst z
    rcases he with r | r
    · exact hx b n r
    · rw [n] at r; cases r
  have hm : ∀ b u, H b = some u → ¬ Mut (some u) → b ≠ x := fun b u q nm z => by subst z; rw [q] at mu; exact nm mu
  refine ⟨fun b u q n _ _ => k b u (hb b n) q, fun b u q n _ _ => ⟨u.slots, k b u (hb b n) q⟩, fun b u q n _ => by rw [upd_ne (hx b n)]; exact n, fun b u q _ => ?_,
    fun b xs q => by rw [upd_ne (hm b _ q fun z => z)]; exact q, fun b u xs q => by rw [upd_ne (hm b _ q fun z => z)]; exact q, fun b ps q => ⟨#[], by rw [upd_ne (hm b _ q fun z => z), q]; simp⟩⟩
  by_cases hbe : b = e
  · subst hbe; exact heo
  · exact ⟨u, k b u hbe q⟩
theorem Un.mono (u : Un fs ex H H1 h h1) (hs : ∀ b ∈ fs, b ∈ fs') (hx : ∀ b ∈ ex, b ∈ ex') : Un fs' ex' H H1 h h1 :=
  ⟨fun b ob q n hb he => u.keep b ob q n (fun z => hb (hs b z)) fun z => he (hx b z), fun _ _ q n _ he => u.any q n fun z => he (hx _ z), fun b ob q n he => u.free b ob q n fun z => he (hx b z), fun b ob q he => u.there b ob q fun z => he (hx b z), u.tups, u.frzs, u.tbls⟩
end

/-! ### the heap without what is tracked -/
def trk (h : Heap) (H : Hp) : List Addr := (List.range h.objs.size).filter fun a => (H a).isSome
def hidT (h : Heap) (H : Hp) : Heap := PySem.W.hideAll h (trk h H)
theorem hidT_size (h : Heap) (H : Hp) : (hidT h H).objs.size = h.objs.size := PySem.W.hideAll_size _ _
theorem hidT_get {h : Heap} {H : Hp} {b : Addr} {o : Obj} (e : h.get? b = some o) (n : H b = none) : (hidT h H).get? b = some o :=
  PySem.W.hideAll_get _ e fun hm => by
    have q : (H b).isSome = true := (List.mem_filter.mp hm).2
    rw [n] at q; simp at q
theorem of_hidT {h : Heap} {H : Hp} {b : Addr} {o : Obj} (e : (hidT h H).get? b = some o) : h.get? b = some o ∧ H b = none := by
  have e' : h.get? b = some o := PySem.W.of_hideAll (trk h H) e
  refine ⟨e', ?_⟩
  cases q : H b with
  | none => rfl
  | some x =>
    have hm : b ∈ trk h H := List.mem_filter.mpr ⟨List.mem_range.mpr (Heap.lt_size e'), by simp [q]⟩
    have z : (hidT h H).get? b = none := PySem.W.hideAll_none (trk h H) hm
    rw [z] at e; cases e

/-! ### OpenK's ledger, filled with every new object but one -/
def allNews (g h : Heap) (L : Addr) : List (Addr × Obj) := (List.range h.objs.size).filterMap fun a => if a = L ∨ (g.get? a).isSome = true then none else (h.get? a).map fun o => (a, o)
def rest (g h : Heap) (L d : Addr) : List (Addr × Obj) := (allNews g h L).filter fun p => decide (p.1 ≠ d)
end L2

namespace L2
open PySem PySem.Spec PyProof.Rows

/-- the module's facts, over the base: the heap at the law's entry without what is tracked there -/
structure Mod (K : PySem.W.Frag) (mg : Str → Option Value) (base : Heap) : Prop where
  kin : K.In base
  glob : base.Ns mainGlobals mg
  blt : ∃ mb, base.Ns builtinsNs mb ∧ ∀ x : Str, x ≠ "__name__" → mb x = bootBuiltins x
  nolimit : base.NoLimit

/-- the context: a def's body (or a comprehension's block) running. base: fixed through the whole law; s₀, H₀: the entry; outer: the frames whose slots others may change (a def's callers); stack: all frames that run;
   ex: iterators that were made ahead of the entry and are walked here (a comprehension's); fn: the names whose cells were made at the entry (a def: all; a comprehension's block: its own); calm: not within an except suite; pn: pins that every state bears; xe: what is wanted of an exception that leaves the code -/
structure Cx where
  prog : Program
  w : World
  K : PySem.W.Frag
  mg : Str → Option Value
  base : Heap
  A : Around
  N : List Str
  s₀ : Shared
  H₀ : Hp
  env : Env
  outer : List Env
  stack : List Env
  ex : List Addr
  fn : Str → Bool
  calm : Bool
  pn : List (Addr × Obj)
  xe : Value → Shared → Prop
/-- the callers' frames -/
def frs (l : List Env) : List Addr := l.filterMap (·.frame)
abbrev Cx.fs (X : Cx) : List Addr := frs X.outer

def Vis (sc : Scope) (x : Str) : Prop := sc.names.lookup x = some .local ∨ sc.names.lookup x = some .cell ∨ sc.names.lookup x = some .free
def Loc (sc : Scope) (x : Str) : Prop := sc.names.lookup x = some .local ∨ sc.names.lookup x = some .cell
def Look (env : Env) (h : Heap) (m : Str → Option Value) (x : Str) (u : Value) : Prop :=
  (env.kindOf x = some .local ∧ m x = some u) ∨ ((env.kindOf x = some .cell ∨ env.kindOf x = some .free) ∧ ∃ c, env.cells.lookup x = some c ∧ h.IsCell c (some u))

structure Cx.Ok (X : Cx) : Prop where
  mod : Mod X.K X.mg X.base
  kind : X.env.scope.kind = .function
  glob : X.env.globals = mainGlobals
  blt : X.env.builtins = builtinsNs
  above : X.s₀.heap.objs.size ≤ X.env.locals
  inj : ∀ x y c, X.env.cells.lookup x = some c → X.env.cells.lookup y = some c → x = y
  has : ∀ x, (X.env.kindOf x = some .cell ∨ X.env.kindOf x = some .free) → ∃ c, X.env.cells.lookup x = some c
  cab : ∀ x c, X.fn x = true → X.env.cells.lookup x = some c → X.s₀.heap.objs.size ≤ c
  hd : X.calm = true → X.A.handled = none
  frames : X.A.frames = some X.stack
  stk : X.stack = X.outer ∨ (X.stack = X.env :: X.outer ∧ X.env.frame = some X.env.locals)
  exf : ∀ b ∈ X.ex, b ≠ X.env.locals ∧ ∀ x c, X.env.cells.lookup x = some c → c ≠ b
  bs : ∀ b o, X.base.get? b = some o → X.s₀.heap.get? b = some o ∧ X.H₀ b = none
  bsz : X.base.objs.size ≤ X.s₀.heap.objs.size
  noex : ∀ b o, X.base.get? b = some o → b ∉ X.ex
  exfs : ∀ b ∈ X.ex, b ∉ X.fs
  funs : X.s₀.heap.FunFrames X.base X.outer
  frf : ∀ b ∈ X.fs, X.H₀ b = none

structure Inv (X : Cx) (pins : List (Addr × Obj)) (σ : List (Option V)) (H : Hp) (s : Shared) : Prop where
  ok : X.Ok
  os : s.os = X.s₀.os
  bare : AllBare s.gens
  base : Un X.fs X.ex X.H₀ H X.s₀.heap s.heap
  loc : ∃ m, s.heap.Ns X.env.locals m ∧ ∀ (i : Nat) (x : Str) (v : V), X.N[i]? = some x → σ[i]? = some (some v) → Vis X.env.scope x → ∃ u, RelV v u ∧ Look X.env s.heap m x u
  cell : ∀ x c, X.env.cells.lookup x = some c → ∃ v, s.heap.IsCell c v
  free : H X.env.locals = none
  freeC : ∀ x c, X.env.cells.lookup x = some c → H c = none
  pin : ∀ p ∈ X.pn ++ pins, s.heap.get? p.1 = some p.2 ∧ H p.1 = none ∧ p.1 ≠ X.env.locals ∧ p.1 ∉ X.fs ∧ ∀ v, p.2.data ≠ .cell v
  hok : HOk X.prog X.w H s.heap
  len : σ.length = X.N.length

section
variable {X : Cx} {pins : List (Addr × Obj)} {σ : List (Option V)} {H H' : Hp} {s : Shared} {h' : Heap}

theorem Cx.Ok.nofr (ok : X.Ok) {b : Addr} {o : Obj} (e : X.base.get? b = some o) : b ∉ X.fs := fun hb => by
  have := (ok.funs.mem hb).1
  rw [e] at this; cases this
theorem Inv.bs (I : Inv X pins σ H s) : ∀ b o, X.base.get? b = some o → s.heap.get? b = some o ∧ H b = none := fun b o e =>
  ⟨I.base.keep b o (I.ok.bs b o e).1 (I.ok.bs b o e).2 (I.ok.nofr e) (I.ok.noex b o e), I.base.free b o (I.ok.bs b o e).1 (I.ok.bs b o e).2 (I.ok.noex b o e)⟩
theorem Inv.bk (I : Inv X pins σ H s) : ∀ b o, X.base.get? b = some o → s.heap.get? b = some o := fun b o e => (I.bs b o e).1
theorem Inv.mod (I : Inv X pins σ H s) : Mod X.K X.mg X.base := I.ok.mod
theorem Inv.kIn (I : Inv X pins σ H s) : X.K.In s.heap := I.ok.mod.kin.keeps I.bk
theorem Inv.nolimit (I : Inv X pins σ H s) : s.heap.NoLimit := I.ok.mod.nolimit.keeps I.bk
/-- the frame over the base: for OpenK's rules (K.In X.base is I.mod.kin) -/
theorem Inv.fr (I : Inv X pins σ H s) : ∃ m, Fr X.base X.env.locals s.heap m :=
  let ⟨m, hn, _⟩ := I.loc
  ⟨m, hn, I.bk, Nat.le_trans I.ok.bsz I.ok.above⟩
theorem Inv.lt (I : Inv X pins σ H s) : X.env.locals < s.heap.objs.size := let ⟨_, hn, _⟩ := I.loc; hn.lt
theorem Inv.sz (I : Inv X pins σ H s) : X.s₀.heap.objs.size ≤ s.heap.objs.size := Nat.le_trans I.ok.above (Nat.le_of_lt I.lt)
theorem Inv.nofs (I : Inv X pins σ H s) {a : Addr} (h : s.heap.objs.size ≤ a) : a ∉ X.fs := fun hb => by
  obtain ⟨_, o, ho, _⟩ := I.ok.funs.mem hb
  exact absurd (Nat.lt_of_lt_of_le (Heap.lt_size ho) (Nat.le_trans I.sz h)) (Nat.lt_irrefl _)
theorem Inv.cne (I : Inv X pins σ H s) : ∀ x c, X.env.cells.lookup x = some c → c ≠ X.env.locals := fun x c e z => by
  obtain ⟨v, o, ho, hd⟩ := I.cell x c e
  obtain ⟨m, ⟨o', es, ep, ho', hd', _⟩, _⟩ := I.loc
  rw [z, ho'] at ho; cases ho; rw [hd'] at hd; cases hd
theorem Inv.funs (I : Inv X pins σ H s) : s.heap.FunFrames X.base X.outer := by
  have all : ∀ (l : List Env), (∀ b ∈ frs l, b ∈ X.fs) → X.s₀.heap.FunFrames X.base l → s.heap.FunFrames X.base l := by
    intro l
    induction l with
    | nil => intro _ _; trivial
    | cons env r ih =>
      intro hs hl
      obtain ⟨hk, ⟨L, o, hf, hn, ho, hd⟩, hr⟩ := hl
      have hL : L ∈ X.fs := hs L (by unfold frs; rw [List.filterMap_cons, hf]; exact List.mem_cons_self)
      obtain ⟨sl, e⟩ := I.base.slot L o ho (I.ok.frf L hL) hL fun z => I.ok.exfs L z hL
      exact ⟨hk, ⟨L, _, hf, hn, e, hd⟩, ih (fun b hb => hs b (by unfold frs; rw [List.filterMap_cons, hf]; exact List.mem_cons_of_mem _ hb)) hr⟩
  exact all X.outer (fun _ hb => hb) I.ok.funs

/-- the frames that run, for a call -/
theorem Inv.stack (I : Inv X pins σ H s) : s.heap.FunFrames X.base X.stack := by
  rcases I.ok.stk with e | ⟨e, hf⟩
  · rw [e]; exact I.funs
  · rw [e]
    obtain ⟨m, hn, _⟩ := I.loc
    refine .cons (by rw [I.ok.kind]; decide) hf hn ?_ I.funs
    exact Heap.get?_none_of_le (Nat.le_trans I.ok.bsz I.ok.above)
theorem Inv.stkSub (I : Inv X pins σ H s) : ∀ b ∈ frs X.stack, b ∈ X.env.locals :: X.fs := fun b hb => by
  rcases I.ok.stk with e | ⟨e, hf⟩
  · rw [e] at hb; exact List.mem_cons_of_mem _ hb
  · rw [e] at hb
    unfold frs at hb
    rw [List.filterMap_cons, hf] at hb
    exact hb
theorem Inv.stkFree (I : Inv X pins σ H s) : ∀ b ∈ frs X.stack, H b = none := fun b hb => by
  rcases List.mem_cons.mp (I.stkSub b hb) with e | hb
  · rw [e]; exact I.free
  · obtain ⟨_, o, ho, _⟩ := I.ok.funs.mem hb
    exact I.base.free b o ho (I.ok.frf b hb) fun z => I.ok.exfs b z hb

/-- THE STEP: the untracked objects but the frame and the records at ch are kept (the callers' frames up to slots), the frame's map is kept, the new abstract heap is held -/
theorem Inv.step {g' : Array GenState} {t' : Nat} {d' : Drawn} {ch : List Addr} (I : Inv X pins σ H s)
    (hch : ∀ b ∈ ch, (b ∈ X.ex ∨ X.s₀.heap.objs.size ≤ b) ∧ b ≠ X.env.locals ∧ (∀ x c, X.env.cells.lookup x = some c → c ≠ b) ∧ ∀ p ∈ X.pn ++ pins, p.1 ≠ b)
    (keep : ∀ b o, b ≠ X.env.locals → b ∉ X.fs → b ∉ ch → s.heap.get? b = some o → H b = none → h'.get? b = some o)
    (slot : ∀ b o, b ≠ X.env.locals → b ∈ X.fs → b ∉ ch → s.heap.get? b = some o → H b = none → ∃ sl, h'.get? b = some { o with slots := sl }) (free : ∀ b o, b ∉ ch → s.heap.get? b = some o → H b = none → H' b = none)
    (there : ∀ b o, b ∉ ch → s.heap.get? b = some o → ∃ o', h'.get? b = some o')
    (tups : ∀ b xs, H b = some (.tup xs) → H' b = some (.tup xs)) (frzs : ∀ b o u, H b = some (.frz o u) → H' b = some (.frz o u)) (tbls : ∀ b ps, H b = some (.tbl ps) → ∃ more, H' b = some (.tbl (ps ++ more)))
    (ns : ∀ m, s.heap.Ns X.env.locals m → h'.Ns X.env.locals m) (hok : HOk X.prog X.w H' h') (hg : AllBare g') :
    Inv X pins σ H' { s with heap := h', gens := g', drawn := d', toks := t' } := by
  have neL : ∀ b o, X.s₀.heap.get? b = some o → b ≠ X.env.locals := fun b o e => Nat.ne_of_lt (Nat.lt_of_lt_of_le (Heap.lt_size e) I.ok.above)
  have neC : ∀ b o, X.s₀.heap.get? b = some o → b ∉ X.ex → b ∉ ch := fun b o e hx hb => by
    rcases (hch b hb).1 with z | z
    · exact hx z
    · exact absurd (Nat.lt_of_lt_of_le (Heap.lt_size e) z) (Nat.lt_irrefl _)
  have cellK : ∀ x c, X.env.cells.lookup x = some c → ∀ v, s.heap.IsCell c v → h'.IsCell c v := fun x c e v ⟨o, ho, hd⟩ => by
    have nch : c ∉ ch := fun z => (hch c z).2.2.1 x c e rfl
    by_cases hc : c ∈ X.fs
    · obtain ⟨sl, q⟩ := slot c o (I.cne x c e) hc nch ho (I.freeC x c e)
      exact ⟨_, q, hd⟩
    · exact ⟨o, keep c o (I.cne x c e) hc nch ho (I.freeC x c e), hd⟩
  refine ⟨I.ok, I.os, hg, ⟨fun b o e n hb hx => ?_, fun b o e n hb hx => ?_, fun b o e n hx => ?_, fun b o e hx => ?_, fun b xs e => tups b xs (I.base.tups b xs e), fun b o xs e => frzs b o xs (I.base.frzs b o xs e), fun b ps e => ?_⟩, ?_, fun x c e => ?_, ?_, fun x c e => ?_, fun p hp => ?_, hok, I.len⟩
  · exact keep b o (neL b o e) hb (neC b o e hx) (I.base.keep b o e n hb hx) (I.base.free b o e n hx)
  · obtain ⟨sl, e1⟩ := I.base.slot b o e n hb hx
    obtain ⟨sl', e2⟩ := slot b _ (neL b o e) hb (neC b o e hx) e1 (I.base.free b o e n hx)
    exact ⟨sl', e2⟩
  · obtain ⟨o', e1⟩ := I.base.there b o e hx
    exact free b o' (neC b o e hx) e1 (I.base.free b o e n hx)
  · obtain ⟨o', e1⟩ := I.base.there b o e hx
    exact there b o' (neC b o e hx) e1
  · obtain ⟨m1, e1⟩ := I.base.tbls b ps e
    obtain ⟨m2, e2⟩ := tbls b _ e1
    exact ⟨m1 ++ m2, by rw [e2, Array.append_assoc]⟩
  · obtain ⟨m, hn, hl⟩ := I.loc
    refine ⟨m, ns m hn, fun i x v e1 e2 e3 => ?_⟩
    obtain ⟨u, r, l⟩ := hl i x v e1 e2 e3
    refine ⟨u, r, ?_⟩
    rcases l with l | ⟨k, c, e, z⟩
    · exact .inl l
    · exact .inr ⟨k, c, e, cellK x c e _ z⟩
  · obtain ⟨v, z⟩ := I.cell x c e
    exact ⟨v, cellK x c e v z⟩
  · obtain ⟨m, ⟨o, _, _, ho, _⟩, _⟩ := I.loc
    exact free _ o (fun z => (hch _ z).2.1 rfl) ho I.free
  · obtain ⟨v, o, ho, hd⟩ := I.cell x c e
    exact free c o (fun z => (hch c z).2.2.1 x c e rfl) ho (I.freeC x c e)
  · obtain ⟨e, n, ne, nf, d⟩ := I.pin p hp
    have nch : p.1 ∉ ch := fun z => (hch p.1 z).2.2.2 p hp rfl
    exact ⟨keep p.1 p.2 ne nf nch e n, free p.1 p.2 nch e n, ne, nf, d⟩
/-- .. where the frame's own object is kept too -/
theorem Inv.un {t' : Nat} (I : Inv X pins σ H s) (u : Un X.fs [] H H' s.heap h') (hok : HOk X.prog X.w H' h') : Inv X pins σ H' { s with heap := h', toks := t' } := by
  obtain ⟨m, ⟨o, es, ep, ho, r⟩, _⟩ := id I.loc
  obtain ⟨sl, hL⟩ := u.any ho I.free (by simp)
  exact I.step (g' := s.gens) (d' := s.drawn) (ch := []) (fun _ z => nomatch z) (fun b o _ hb _ e n => u.keep b o e n hb (by simp)) (fun b o _ hb _ e n => u.slot b o e n hb (by simp)) (fun b o _ e n => u.free b o e n (by simp)) (fun b o _ e => u.there b o e (by simp)) u.tups u.frzs u.tbls (fun m' hm => by
    obtain ⟨o', es', ep', ho', r'⟩ := hm
    rw [ho] at ho'; cases ho'
    exact ⟨_, es', ep', hL, r'⟩) hok I.bare
/-- behind a call (or a comprehension's block): the slots of this frame may have changed too, the records at ch may have turned -/
theorem Inv.call {g' : Array GenState} {t' : Nat} {d' : Drawn} {ch : List Addr} (I : Inv X pins σ H s) (u : Un (frs X.stack) ch H H' s.heap h') (hok : HOk X.prog X.w H' h') (hg : AllBare g')
    (hch : ∀ b ∈ ch, (b ∈ X.ex ∨ X.s₀.heap.objs.size ≤ b) ∧ b ≠ X.env.locals ∧ (∀ x c, X.env.cells.lookup x = some c → c ≠ b) ∧ ∀ p ∈ X.pn ++ pins, p.1 ≠ b) :
    Inv X pins σ H' { s with heap := h', gens := g', drawn := d', toks := t' } := by
  obtain ⟨m, ⟨o, es, ep, ho, r⟩, _⟩ := id I.loc
  obtain ⟨sl, hL⟩ := u.any ho I.free fun z => (hch _ z).2.1 rfl
  exact I.step (ch := ch) hch (fun b o hL hb hc e n => u.keep b o e n (fun z => (List.mem_cons.mp (I.stkSub b z)).elim hL hb) hc) (fun b o _ _ hc e n => u.any e n hc) (fun b o hc e n => u.free b o e n hc) (fun b o hc e => u.there b o e hc) u.tups u.frzs u.tbls (fun m' hm => by
    obtain ⟨o', es', ep', ho', r'⟩ := hm
    rw [ho] at ho'; cases ho'
    exact ⟨_, es', ep', hL, r'⟩) hok hg
/-- an untracked record of ours (an iterator) has turned -/
theorem Inv.turned {t' : Nat} {it : Addr} (I : Inv X pins σ H s) (k : ∀ b o, b ≠ it → s.heap.get? b = some o → h'.get? b = some o) (hn : H it = none) (hL : it ≠ X.env.locals)
    (h1 : it ∈ X.ex ∨ X.s₀.heap.objs.size ≤ it) (h2 : ∀ x c, X.env.cells.lookup x = some c → c ≠ it) (h3 : ∀ p ∈ X.pn ++ pins, p.1 ≠ it) : Inv X pins σ H { s with heap := h', toks := t' } := by
  have nit : ∀ b u, H b = some u → b ≠ it := fun b u e z => by rw [z, hn] at e; cases e
  refine I.step (g' := s.gens) (d' := s.drawn) (ch := [it]) (fun b hb => ?_) (fun b o _ _ hc e _ => k b o (fun z => hc (by simp [z])) e) (fun b o _ _ hc e _ => ⟨o.slots, k b o (fun z => hc (by simp [z])) e⟩) (fun _ _ _ _ n => n)
    (fun b o hc e => ⟨o, k b o (fun z => hc (by simp [z])) e⟩) (fun _ _ e => e) (fun _ _ _ e => e) (fun b ps e => ⟨#[], by rw [e]; simp⟩) (fun m hm => ?_) (fun b u e => ?_) I.bare
  · have e : b = it := by simpa using hb
    subst e
    exact ⟨h1, hL, h2, h3⟩
  · obtain ⟨o, es, ep, ho, r⟩ := hm
    exact ⟨o, es, ep, k _ o (Ne.symm hL) ho, r⟩
  · refine (I.hok b u e).stay (fun c v hc q => k c v ?_ q) (fun _ q => q) fun _ _ q => q
    rcases hc with z | z
    · rw [z]; exact nit b u e
    · exact nit c _ z
theorem Inv.tok (I : Inv X pins σ H s) (t : Nat) : Inv X pins σ H { s with toks := t } := I.un (h' := s.heap) (t' := t) Un.refl I.hok
/-- all objects kept -/
theorem Inv.kept {t' : Nat} (I : Inv X pins σ H s) (k : ∀ b u, s.heap.get? b = some u → h'.get? b = some u) : Inv X pins σ H { s with heap := h', toks := t' } := I.un (Un.kept k) (I.hok.kept k)
/-- a new object laid and tracked -/
theorem Inv.laid {a : Addr} {o : HO} {t' : Nat} (I : Inv X pins σ H s) (k : ∀ b u, s.heap.get? b = some u → h'.get? b = some u) (hp : s.heap.objs.size ≤ a) (new : ObjOk X.prog X.w (upd H a o) h' a o) :
    Inv X pins σ (upd H a o) { s with heap := h', toks := t' } := I.un (Un.laid k hp (I.hok.fresh hp)) (I.hok.laid k hp new)
/-- an object written -/
theorem Inv.write {x e : Addr} {o : HO} {t' : Nat} (I : Inv X pins σ H s) (mu : Mut (H x)) (he : e = x ∨ H e = some (.own x)) (k : ∀ b u, b ≠ e → s.heap.get? b = some u → h'.get? b = some u) (heo : ∃ u, h'.get? e = some u)
    (new : ObjOk X.prog X.w (upd H x o) h' x o) : Inv X pins σ (upd H x o) { s with heap := h', toks := t' } := I.un (Un.write mu he k heo) (I.hok.write mu he k heo new)
/-- forgetting slots, pins -/
theorem Inv.weak {σ' : List (Option V)} (I : Inv X pins σ H s) (hl : σ'.length = σ.length) (w : ∀ (i : Nat) v, σ'[i]? = some (some v) → σ[i]? = some (some v)) : Inv X pins σ' H s :=
  ⟨I.ok, I.os, I.bare, I.base, let ⟨m, hn, hl'⟩ := I.loc; ⟨m, hn, fun i x v e1 e2 e3 => hl' i x v e1 (w i v e2) e3⟩, I.cell, I.free, I.freeC, I.pin, I.hok, hl.trans I.len⟩
theorem Inv.pins_of {pins' : List (Addr × Obj)} (I : Inv X pins σ H s) (h : ∀ p ∈ pins', s.heap.get? p.1 = some p.2 ∧ H p.1 = none ∧ p.1 ≠ X.env.locals ∧ p.1 ∉ X.fs ∧ ∀ v, p.2.data ≠ .cell v) : Inv X pins' σ H s :=
  ⟨I.ok, I.os, I.bare, I.base, I.loc, I.cell, I.free, I.freeC, fun p hp => (List.mem_append.mp hp).elim (fun z => I.pin p (List.mem_append_left _ z)) (h p), I.hok, I.len⟩

theorem nodup_ix {N : List Str} (hN : N.Nodup) {i j : Nat} {x : Str} (a : N[i]? = some x) (b : N[j]? = some x) : i = j := by
  obtain ⟨h1, e1⟩ := List.getElem?_eq_some_iff.mp a
  obtain ⟨h2, e2⟩ := List.getElem?_eq_some_iff.mp b
  exact (List.getElem_inj hN).mp (e1.trans e2.symm)

/-- a name is stored; what changed -/
theorem store_ok2 {M : Model} {A : Around} {E : Value → Shared → Prop} {i : Nat} {x : Str} {v : V} {u : Value} {Q : Unit → Shared → Prop} (I : Inv X pins σ H s) (hN : X.N.Nodup) (hi : X.N[i]? = some x) (hx : Loc X.env.scope x) (r : RelV v u)
    (h : ∀ s', Inv X pins (σ.set i (some v)) H s' → (∃ a, Heap.SameBut a s.heap s'.heap ∧ (a = X.env.locals ∨ X.env.cells.lookup x = some a)) → Q () s') (hf : X.fn x = true ∨ X.env.scope.names.lookup x = some .local := by first | exact .inl rfl | exact .inr rfl | assumption) : wpAny M A (storeName X.env x u) Q E s := by
  obtain ⟨m, hn, hl⟩ := id I.loc
  have hcls : (X.env.scope.kind == .class || (X.env.scope.kind == .module && X.env.locals != X.env.globals)) = false := by rw [I.ok.kind]; rfl
  have hiσ : i < σ.length := by rw [I.len]; exact (List.getElem?_eq_some_iff.mp hi).1
  have cne := I.cne
  have tracked : ∀ {a : Addr} {h' : Heap}, (∃ o, s.heap.get? a = some o ∧ H a = none) → Heap.SameBut a s.heap h' → HOk X.prog X.w H h' := fun {a h'} ha hs b ob e => by
    obtain ⟨_, _, hfree⟩ := ha
    refine (I.hok b ob e).stay (fun c w' hc q => (hs.2 c ?_).trans q) (fun _ q => q) fun _ _ q => q
    rintro rfl
    rcases hc with rfl | hc
    · rw [hfree] at e; cases e
    · rw [hfree] at hc; cases hc
  rcases hx with hk | hk
  · refine wpAny_storeName_local hk hn (fun h' hn' hs => ?_) hcls
    obtain ⟨oL, _, _, hoL, _⟩ := id hn
    refine h _ ⟨I.ok, I.os, I.bare, ⟨fun b o e n hb hx => ?_, fun b o e n hb hx => ?_, I.base.free, fun b o e hx => ?_, I.base.tups, I.base.frzs, I.base.tbls⟩, ⟨_, hn', fun j y v' e1 e2 e3 => ?_⟩, fun y c e => ?_, I.free, I.freeC, fun p hp => ?_, tracked ⟨oL, hoL, I.free⟩ hs, by simpa using I.len⟩ ⟨_, hs, .inl rfl⟩
    · exact (hs.2 b (Nat.ne_of_lt (Nat.lt_of_lt_of_le (Heap.lt_size e) I.ok.above))).trans (I.base.keep b o e n hb hx)
    · obtain ⟨sl, e1⟩ := I.base.slot b o e n hb hx
      exact ⟨sl, (hs.2 b (Nat.ne_of_lt (Nat.lt_of_lt_of_le (Heap.lt_size e) I.ok.above))).trans e1⟩
    · obtain ⟨o', e1⟩ := I.base.there b o e hx
      exact ⟨o', (hs.2 b (Nat.ne_of_lt (Nat.lt_of_lt_of_le (Heap.lt_size e) I.ok.above))).trans e1⟩
    · by_cases hj : j = i
      · subst hj
        rw [hi] at e1; cases e1
        rw [List.getElem?_set_self hiσ] at e2
        cases e2
        exact ⟨u, r, .inl ⟨hk, by simp⟩⟩
      · rw [List.getElem?_set_ne (Ne.symm hj)] at e2
        obtain ⟨u', r', q⟩ := hl j y v' e1 e2 e3
        refine ⟨u', r', ?_⟩
        rcases q with ⟨k, e⟩ | ⟨k, c, e, z⟩
        · refine .inl ⟨k, ?_⟩
          have : y ≠ x := fun e => hj (nodup_ix hN e1 (e ▸ hi))
          simp [this, e]
        · exact .inr ⟨k, c, e, z.sameBut hs (cne y c e)⟩
    · obtain ⟨w', z⟩ := I.cell y c e
      exact ⟨w', z.sameBut hs (cne y c e)⟩
    · obtain ⟨e, n, ne, nf, d⟩ := I.pin p hp
      exact ⟨(hs.2 p.1 ne).trans e, n, ne, nf, d⟩
  · have hfn : X.fn x = true := by
      rcases hf with z | z
      · exact z
      · rw [z] at hk; cases hk
    obtain ⟨c, hc⟩ := I.ok.has x (.inl hk)
    obtain ⟨w', z⟩ := I.cell x c hc
    refine wpAny_storeName_cell I.ok.kind hk hc z (fun h' hc' hs => ?_)
    obtain ⟨oc, hoc, hocd⟩ := id z
    refine h { s with heap := h' } ⟨I.ok, I.os, I.bare, ⟨fun b o e n hb hx => ?_, fun b o e n hb hx => ?_, I.base.free, fun b o e hx => ?_, I.base.tups, I.base.frzs, I.base.tbls⟩, ⟨m, hn.sameBut hs (Ne.symm (cne x c hc)), fun j y v' e1 e2 e3 => ?_⟩, fun y c' e => ?_, I.free, I.freeC, fun p hp => ?_, tracked ⟨oc, hoc, I.freeC x c hc⟩ hs, by simpa using I.len⟩ ⟨c, hs, .inr hc⟩
    · exact (hs.2 b (Nat.ne_of_lt (Nat.lt_of_lt_of_le (Heap.lt_size e) (I.ok.cab x c hfn hc)))).trans (I.base.keep b o e n hb hx)
    · obtain ⟨sl, e1⟩ := I.base.slot b o e n hb hx
      exact ⟨sl, (hs.2 b (Nat.ne_of_lt (Nat.lt_of_lt_of_le (Heap.lt_size e) (I.ok.cab x c hfn hc)))).trans e1⟩
    · obtain ⟨o', e1⟩ := I.base.there b o e hx
      exact ⟨o', (hs.2 b (Nat.ne_of_lt (Nat.lt_of_lt_of_le (Heap.lt_size e) (I.ok.cab x c hfn hc)))).trans e1⟩
    · by_cases hj : j = i
      · subst hj
        rw [hi] at e1; cases e1
        rw [List.getElem?_set_self hiσ] at e2
        cases e2
        exact ⟨u, r, .inr ⟨.inl hk, c, hc, hc'⟩⟩
      · rw [List.getElem?_set_ne (Ne.symm hj)] at e2
        obtain ⟨u', r', q⟩ := hl j y v' e1 e2 e3
        refine ⟨u', r', ?_⟩
        rcases q with q | ⟨k, c', e, z'⟩
        · exact .inl q
        · refine .inr ⟨k, c', e, z'.sameBut hs ?_⟩
          rintro rfl
          exact hj (nodup_ix hN e1 (I.ok.inj _ _ _ e hc ▸ hi))
    · by_cases hcc : c' = c
      · subst hcc; exact ⟨_, hc'⟩
      · obtain ⟨w2, z2⟩ := I.cell y c' e
        exact ⟨w2, z2.sameBut hs hcc⟩
    · obtain ⟨e, n, ne, nf, d⟩ := I.pin p hp
      refine ⟨(hs.2 p.1 ?_).trans e, n, ne, nf, d⟩
      intro q
      rw [q, hoc] at e
      have q' : oc = p.2 := Option.some.inj e
      exact d w' (by rw [← q']; exact hocd)
theorem store_ok {M : Model} {A : Around} {E : Value → Shared → Prop} {i : Nat} {x : Str} {v : V} {u : Value} {Q : Unit → Shared → Prop} (I : Inv X pins σ H s) (hN : X.N.Nodup) (hi : X.N[i]? = some x) (hx : Loc X.env.scope x) (r : RelV v u)
    (h : ∀ s', Inv X pins (σ.set i (some v)) H s' → Q () s') (hf : X.fn x = true ∨ X.env.scope.names.lookup x = some .local := by first | exact .inl rfl | exact .inr rfl | assumption) : wpAny M A (storeName X.env x u) Q E s :=
  store_ok2 I hN hi hx r (fun s' I' _ => h s' I') hf
/-- behind a call or a block, the state as it is -/
theorem Inv.call' {s' : Shared} {ch : List Addr} (I : Inv X pins σ H s) (ho : s'.os = s.os) (u : Un (frs X.stack) ch H H' s.heap s'.heap) (hok : HOk X.prog X.w H' s'.heap) (hg : AllBare s'.gens)
    (hch : ∀ b ∈ ch, (b ∈ X.ex ∨ X.s₀.heap.objs.size ≤ b) ∧ b ≠ X.env.locals ∧ (∀ x c, X.env.cells.lookup x = some c → c ≠ b) ∧ ∀ p ∈ X.pn ++ pins, p.1 ≠ b) : Inv X pins σ H' s' := by
  obtain ⟨h', g', d', t', o'⟩ := s'
  have e : o' = s.os := ho
  subst e
  exact I.call (g' := g') (t' := t') (d' := d') u hok hg hch
end

/-! ### the judgements -/
/-- an exception: its class, its own dict's address (where it has one), the abstract heap behind it -/
abbrev XK := Value → Option Addr → Hp → Prop
abbrev St := List (Option V)
abbrev VK := V → Hp → Prop
/-- an expression's reading; a test's; an argument list's -/
abbrev TE := St → Hp → VK → Prop
abbrev TT := St → Hp → (Bool → Hp → Prop) → Prop
abbrev TA := St → Hp → (List V → Hp → Prop) → Prop
/-- what is wanted behind a statement -/
structure Ends where
  nx : St → Hp → Prop
  rt : VK
  bk : St → Hp → Prop := fun _ _ => False
  ct : St → Hp → Prop := fun _ _ => False
abbrev TS := Ends → St → Hp → Prop

def EP (X : Cx) (pins : List (Addr × Obj)) (σ : St) (Q : VK) (u : Value) (s' : Shared) : Prop := ∃ v H', Inv X pins σ H' s' ∧ RelV v u ∧ Q v H'
def TP (X : Cx) (pins : List (Addr × Obj)) (σ : St) (Q : Bool → Hp → Prop) (b : Bool) (s' : Shared) : Prop := ∃ H', Inv X pins σ H' s' ∧ Q b H'
def AP (X : Cx) (pins : List (Addr × Obj)) (σ : St) (Q : List V → Hp → Prop) (us : List Value) (s' : Shared) : Prop := ∃ vs H', Inv X pins σ H' s' ∧ Vals vs us ∧ Q vs H'
def SP (X : Cx) (pins : List (Addr × Obj)) (D : Ends) (f : Flow) (s' : Shared) : Prop :=
  match f with
  | .next => ∃ σ' H', Inv X pins σ' H' s' ∧ D.nx σ' H'
  | .brk => ∃ σ' H', Inv X pins σ' H' s' ∧ D.bk σ' H'
  | .cont => ∃ σ' H', Inv X pins σ' H' s' ∧ D.ct σ' H'
  | .ret u => ∃ v σ' H', Inv X pins σ' H' s' ∧ RelV v u ∧ D.rt v H'

def PE (X : Cx) (e : Expr) (t : TE) : Prop :=
  ∀ (pins : List (Addr × Obj)) (s : Shared) (σ : St) (H : Hp) (Q : VK), Inv X pins σ H s → t σ H Q → wpAny (model X.prog X.w) X.A (eval e X.env) (EP X pins σ Q) X.xe s
def PT (X : Cx) (e : Expr) (t : TT) : Prop :=
  ∀ (pins : List (Addr × Obj)) (s : Shared) (σ : St) (H : Hp) (Q : Bool → Hp → Prop), Inv X pins σ H s → t σ H Q → wpAny (model X.prog X.w) X.A (isTrue e X.env (eval e X.env)) (TP X pins σ Q) X.xe s
/-- a test whatever its 'whole' is (and, or) -/
def PW (X : Cx) (e : Expr) (t : TT) : Prop :=
  ∀ (whole : Sem Value) (pins : List (Addr × Obj)) (s : Shared) (σ : St) (H : Hp) (Q : Bool → Hp → Prop), Inv X pins σ H s → t σ H Q → wpAny (model X.prog X.w) X.A (isTrue e X.env whole) (TP X pins σ Q) X.xe s
theorem PW.pt {X : Cx} {e : Expr} {t : TT} (h : PW X e t) : PT X e t := h _
/-- an argument list (no star), from the left -/
def PA (X : Cx) (es : List Expr) (t : TA) : Prop :=
  ∀ (pos : Pos) (pins : List (Addr × Obj)) (s : Shared) (σ : St) (H : Hp) (Q : List V → Hp → Prop), Inv X pins σ H s → t σ H Q → wpAny (model X.prog X.w) X.A (spliced (backTo pos (starEach es X.env))) (AP X pins σ Q) X.xe s
def PS (X : Cx) (st : Stmt) (t : TS) : Prop :=
  ∀ (pins : List (Addr × Obj)) (s : Shared) (σ : St) (H : Hp) (D : Ends), Inv X pins σ H s → t D σ H → wpAny (model X.prog X.w) X.A (exec st X.env) (SP X pins D) X.xe s
def PSs (X : Cx) (st : List Stmt) (t : TS) : Prop :=
  ∀ (pins : List (Addr × Obj)) (s : Shared) (σ : St) (H : Hp) (D : Ends), Inv X pins σ H s → t D σ H → wpAny (model X.prog X.w) X.A (execs st X.env) (SP X pins D) X.xe s
/-- weaken the end -/
theorem thn {α : Type} {t : Sem α} {Q Q' : α → Shared → Prop} {M : Model} {A : Around} {E : Value → Shared → Prop} {s : Shared} (h : wpAny M A t Q E s) (hQ : ∀ a s, Q a s → Q' a s) : wpAny M A t Q' E s := wpAny_mono h hQ fun _ _ x => x
end L2

namespace L2
open PySem PySem.Spec PyProof.Rows
section
variable {X : Cx}

/-! ### names and constants -/
def tVar (i : Nat) : TE := fun σ H Q => ∃ v, σ[i]? = some (some v) ∧ Q v H
def tC (v : V) : TE := fun _ H Q => Q v H
theorem pe_var {i : Nat} {x : Str} {pos : Pos} (hN : X.N[i]? = some x) (hv : Vis X.env.scope x) (hd : (x == ("__debug__" : Str)) = false := by decide) (hcd : (x == ("__classdict__" : Str)) = false := by decide) : PE X (.Name x pos) (tVar i) := by
  intro pins s σ H Q I h
  obtain ⟨v, e, h⟩ := h
  obtain ⟨m, hn, hl⟩ := I.loc
  obtain ⟨u, r, l⟩ := hl i x v hN e hv
  have fin : EP X pins σ Q u s := ⟨v, H, I, r, h⟩
  rcases l with ⟨hk, hm⟩ | ⟨hk, c, hc, hcell⟩
  · exact wpAny_Name (wpAny_loadName_local I.ok.kind hk hn hm fin) hd
  · rcases hk with hk | hk
    · exact wpAny_Name (wpAny_loadName_cell I.ok.kind hk hc hcell fin) hd
    · exact wpAny_Name (wpAny_loadName_free I.ok.kind hk hc hcell fin hcd) hd
theorem pe_int {i j pos} : PE X (.Constant (.int i) j pos) (tC (.int i)) := fun _ _ _ H _ I h => wpAny_Constant_int ⟨.int i, H, I.tok _, ⟨_, rfl⟩, h⟩
theorem pe_bl {b j pos} : PE X (.Constant (.bool b) j pos) (tC (.bl b)) := fun _ _ _ H _ I h => Constant_bool ⟨.bl b, H, I, rfl, h⟩
theorem pe_non {j pos} : PE X (.Constant .none j pos) (tC .non) := fun _ _ _ H _ I h => Constant_none ⟨.non, H, I, rfl, h⟩
theorem pe_str {x j pos} : PE X (.Constant (.str x) j pos) (tC (.str x)) := fun _ _ _ H _ I h => Calls.Constant_str ⟨.str x, H, I.tok _, ⟨_, rfl⟩, h⟩

/-- a global name of the def -/
def Gl (X : Cx) (x : Str) : Prop := X.env.kindOf x = some .globalImplicit
theorem ld_glob {E : Value → Shared → Prop} {pins : List (Addr × Obj)} {s : Shared} {σ : St} {H : Hp} {x : Str} {u : Value} {pos : Pos} {Q : Value → Shared → Prop} (I : Inv X pins σ H s) (hg : Gl X x) (hm : X.mg x = some u) (h : Q u s)
    (hd : (x == ("__debug__" : Str)) = false := by decide) : wpAny (model X.prog X.w) X.A (eval (.Name x pos) X.env) Q E s :=
  Calls.Name_function_global I.ok.kind hg (Calls.loadGlobal_global (by rw [I.ok.glob]; exact I.mod.glob.keeps I.bk) hm h) hd
theorem ld_blt {E : Value → Shared → Prop} {pins : List (Addr × Obj)} {s : Shared} {σ : St} {H : Hp} {x : Str} {u : Value} {pos : Pos} {Q : Value → Shared → Prop} (I : Inv X pins σ H s) (hg : Gl X x) (hm : X.mg x = none) (hv : bootBuiltins x = some u) (h : Q u s)
    (hn : x ≠ "__name__" := by decide) (hd : (x == ("__debug__" : Str)) = false := by decide) : wpAny (model X.prog X.w) X.A (eval (.Name x pos) X.env) Q E s := by
  obtain ⟨mb, h1, h2⟩ := I.mod.blt
  exact Calls.Name_function_global I.ok.kind hg (Calls.loadGlobal_builtin (by rw [I.ok.glob]; exact I.mod.glob.keeps I.bk) hm (by rw [I.ok.blt]; exact h1.keeps I.bk) ((h2 x hn).trans hv) h) hd
/-- a module's constant, a class, a function, as a value -/
theorem pe_glob {x : Str} {v : V} {u : Value} {pos : Pos} (hg : Gl X x) (hm : X.mg x = some u) (r : RelV v u) (hd : (x == ("__debug__" : Str)) = false := by decide) : PE X (.Name x pos) (tC v) :=
  fun _ _ _ H _ I h => ld_glob I hg hm ⟨v, H, I, r, h⟩ hd
theorem pe_bltn {x : Str} {v : V} {u : Value} {pos : Pos} (hg : Gl X x) (hm : X.mg x = none) (hv : bootBuiltins x = some u) (r : RelV v u) (hn : x ≠ "__name__" := by decide) (hd : (x == ("__debug__" : Str)) = false := by decide) : PE X (.Name x pos) (tC v) :=
  fun _ _ _ H _ I h => ld_blt I hg hm hv ⟨v, H, I, r, h⟩ hn hd

/-! ### arithmetic -/
variable {a b : Expr} {ta tb : TE} {pos : Pos}
/-! ### comparisons -/
/-- a comparison as a value, as a test -/
def tB (t : TE) : TT := fun σ H Q => t σ H fun x H1 => ∃ c, x = .bl c ∧ Q c H1
/-- an expression whose value is a bool, as a test -/
theorem pt_val {e : Expr} {t : TE} (h : PE X e t) (he : ∀ whole, isTrue e X.env whole = (do let v ← whole; standAt e.pos; holding [v] (truthy v)) := by intro _; rfl) : PT X e (tB t) := by
  intro pins s σ H Q I hw
  refine isTrue_plain (thn (h pins s σ H _ I hw) fun v s1 ⟨x, H1, I1, r1, q1⟩ => ?_) (he _)
  obtain ⟨d, rfl, q⟩ := q1
  cases r1
  exact wpAny_truthy_bool ⟨H1, I1, q⟩

/-! ### and, or, not -/
variable {tA tB' : TT} {rest : List Expr}
def tAnd (t u : TT) : TT := fun σ H Q => t σ H fun c H1 => if c = true then u σ H1 Q else Q false H1
def tOr (t u : TT) : TT := fun σ H Q => t σ H fun c H1 => if c = true then Q true H1 else u σ H1 Q
def tNot (t : TT) : TT := fun σ H Q => t σ H fun c H1 => Q (!c) H1
theorem pw_and1 (ha : PT X a tA) : PW X (.BoolOp .And [a] pos) tA := by
  intro wh pins s σ H Q I h
  refine isTrue_and (thn (ha pins s σ H Q I h) fun c s1 e => ?_)
  cases c with
  | true => exact isTrue_and_nil e
  | false => exact e
theorem pw_or1 (ha : PT X a tA) : PW X (.BoolOp .Or [a] pos) tA := by
  intro wh pins s σ H Q I h
  refine isTrue_or (thn (ha pins s σ H Q I h) fun c s1 e => ?_)
  cases c with
  | false => exact isTrue_or_nil e
  | true => exact e
theorem pw_and (ha : PT X a tA) (hb : PW X (.BoolOp .And (b :: rest) pos) tB') : PW X (.BoolOp .And (a :: b :: rest) pos) (tAnd tA tB') := by
  intro wh pins s σ H Q I h
  refine isTrue_and (thn (ha pins s σ H _ I h) fun c s1 ⟨H1, I1, q1⟩ => ?_)
  cases c with
  | true => exact hb wh pins s1 σ H1 Q I1 q1
  | false => exact ⟨H1, I1, q1⟩
theorem pw_or (ha : PT X a tA) (hb : PW X (.BoolOp .Or (b :: rest) pos) tB') : PW X (.BoolOp .Or (a :: b :: rest) pos) (tOr tA tB') := by
  intro wh pins s σ H Q I h
  refine isTrue_or (thn (ha pins s σ H _ I h) fun c s1 ⟨H1, I1, q1⟩ => ?_)
  cases c with
  | true => exact ⟨H1, I1, q1⟩
  | false => exact hb wh pins s1 σ H1 Q I1 q1
theorem pt_not (ha : PT X a tA) : PT X (.UnaryOp .Not a pos) (tNot tA) := by
  intro pins s σ H Q I h
  exact isTrue_not (ha pins s σ H (fun c H1 => Q (!c) H1) I h)
/-- .. as values (bools) -/
def tAndV (ta tb : TE) : TE := fun σ H Q => ta σ H fun x H1 => ∃ c, x = .bl c ∧ if c = true then tb σ H1 Q else Q (.bl false) H1
def tOrV (ta tb : TE) : TE := fun σ H Q => ta σ H fun x H1 => ∃ c, x = .bl c ∧ if c = true then Q (.bl true) H1 else tb σ H1 Q
def tNotV (ta : TE) : TE := fun σ H Q => ta σ H fun x H1 => ∃ c, x = .bl c ∧ Q (.bl (!c)) H1
theorem pe_one {op} {t : TE} (h : PE X a t) : PE X (.BoolOp op [a] pos) t := fun pins s σ H Q I hw => BoolOp_one (h pins s σ H Q I hw)
theorem pe_and (ha : PE X a ta) (hb : PE X (.BoolOp .And (b :: rest) pos) tb) : PE X (.BoolOp .And (a :: b :: rest) pos) (tAndV ta tb) := by
  intro pins s σ H Q I h
  refine BoolOp_and (thn (ha pins s σ H _ I h) fun v s1 ⟨x, H1, I1, r1, q1⟩ => ?_)
  obtain ⟨c, rfl, q1⟩ := q1
  cases r1
  refine wpAny_truthy_bool ?_
  cases c with
  | true => exact hb pins s1 σ H1 Q I1 q1
  | false => exact ⟨.bl false, H1, I1, rfl, q1⟩
theorem pe_or (ha : PE X a ta) (hb : PE X (.BoolOp .Or (b :: rest) pos) tb) : PE X (.BoolOp .Or (a :: b :: rest) pos) (tOrV ta tb) := by
  intro pins s σ H Q I h
  refine BoolOp_or (thn (ha pins s σ H _ I h) fun v s1 ⟨x, H1, I1, r1, q1⟩ => ?_)
  obtain ⟨c, rfl, q1⟩ := q1
  cases r1
  refine wpAny_truthy_bool ?_
  cases c with
  | false => exact hb pins s1 σ H1 Q I1 q1
  | true => exact ⟨.bl true, H1, I1, rfl, q1⟩
theorem pe_not (ha : PE X a ta) : PE X (.UnaryOp .Not a pos) (tNotV ta) := by
  intro pins s σ H Q I h
  refine UnaryOp_ (thn (ha pins s σ H _ I h) fun v s1 ⟨x, H1, I1, r1, q1⟩ => ?_)
  obtain ⟨c, rfl, q1⟩ := q1
  cases r1
  exact not_of (wpAny_truthy_bool ⟨.bl (!c), H1, I1, rfl, q1⟩)
end
end L2

namespace L2
open PySem PySem.Spec PyProof.Rows

/-! ### a list, a tuple that is read: tracked, frozen, or an object of the module -/
def SqL (K : PySem.W.Frag) (H : Hp) (a : Addr) (xs : List V) : Prop :=
  Rd H a (.lst xs) ∨
    ∃ (o : Obj) (its : Array Value) (n : Nat), K.lookup a = some o ∧ o.cls = .type "list" ∧ o.dict = none ∧ o.data = .seq its n ∧ its.size ≤ sizeLine ∧ Vals xs its.toList
def SqT (K : PySem.W.Frag) (H : Hp) (a : Addr) (xs : List V) : Prop :=
  Rd H a (.tup xs) ∨
    ∃ (o : Obj) (its : Array Value) (n : Nat), K.lookup a = some o ∧ o.cls = .type "tuple" ∧ o.data = .seq its n ∧ its.size ≤ sizeLine ∧ Vals xs its.toList
def absV : Value → Option V
  | .none => some .non
  | .bool b => some (.bl b)
  | .int i _ => some (.int i)
  | .str x _ => some (.str x)
  | .bytes b _ => some (.byt b)
  | .float b _ => some (.flt b)
  | .ref a => some (.ref a)
  | .type n => some (.ty n)
  | _ => none
theorem RelV.abs {x : V} {u : Value} (r : RelV x u) : absV u = some x := by
  cases x with
  | non => cases r; rfl
  | bl _ => cases r; rfl
  | int _ => obtain ⟨t, rfl⟩ := r; rfl
  | str _ => obtain ⟨t, rfl⟩ := r; rfl
  | byt _ => obtain ⟨t, rfl⟩ := r; rfl
  | flt _ => obtain ⟨t, rfl⟩ := r; rfl
  | ref _ => cases r; rfl
  | ty _ => cases r; rfl
theorem RelV.inj {x y : V} {u : Value} (r : RelV x u) (q : RelV y u) : x = y := Option.some.inj (r.abs.symm.trans q.abs)
theorem Vals.inj : ∀ {xs ys : List V} {us : List Value}, Vals xs us → Vals ys us → xs = ys
  | _, _, _, .nil, .nil => rfl
  | _, _, _, .cons r t, .cons r' t' => by rw [r.inj r', Vals.inj t t']
section
variable {X : Cx} {pins : List (Addr × Obj)} {σ : St} {H : Hp} {s : Shared} {a : Addr} {xs ys : List V}
theorem SqL.of {K : PySem.W.Frag} (h : H a = some (.lst xs)) : SqL K H a xs := .inl (.inl h)
theorem SqT.of {K : PySem.W.Frag} (h : H a = some (.tup xs)) : SqT K H a xs := .inl (.inl h)
theorem Inv.list (I : Inv X pins σ H s) (h : SqL X.K H a xs) : ∃ its : List Value, Vals xs its ∧ PlainL s.heap a its.toArray ∧ xs.length ≤ sizeLine := by
  rcases h with h | ⟨o, its, n, hk, hc, hd, hs, hz, r⟩
  · obtain ⟨z, its, n, r, e⟩ := h.ok I.hok
    exact ⟨its, r, ⟨_, n, e, rfl, rfl, rfl⟩, z⟩
  · refine ⟨its.toList, r, ⟨o, n, I.kIn a o hk, hc, hd, by simpa using hs⟩, ?_⟩
    have e := r.length
    simp only [Array.length_toList] at e
    omega
theorem Inv.tuple (I : Inv X pins σ H s) (h : SqT X.K H a xs) : ∃ its : List Value, Vals xs its ∧ IsTup s.heap a its.toArray ∧ xs.length ≤ sizeLine := by
  rcases h with h | ⟨o, its, n, hk, hc, hs, hz, r⟩
  · obtain ⟨z, its, r, p⟩ := h.ok I.hok
    exact ⟨its, r, p, z⟩
  · refine ⟨its.toList, r, ⟨o, I.kIn a o hk, hc, n, by simpa using hs⟩, ?_⟩
    have e := r.length
    simp only [Array.length_toList] at e
    omega
theorem Inv.list_inj (I : Inv X pins σ H s) (h : SqL X.K H a xs) (h' : SqL X.K H a ys) : xs = ys := by
  obtain ⟨its, r, ⟨o, n, e, _, _, d⟩, _⟩ := I.list h
  obtain ⟨its', r', ⟨o', n', e', _, _, d'⟩, _⟩ := I.list h'
  rw [e] at e'; cases e'
  rw [d] at d'
  injection d' with d1 _
  have : its = its' := by simpa using congrArg Array.toList d1
  subst this
  exact r.inj r'
theorem Inv.tuple_inj (I : Inv X pins σ H s) (h : SqT X.K H a xs) (h' : SqT X.K H a ys) : xs = ys := by
  obtain ⟨its, r, ⟨o, e, _, n, d⟩, _⟩ := I.tuple h
  obtain ⟨its', r', ⟨o', e', _, n', d'⟩, _⟩ := I.tuple h'
  rw [e] at e'; cases e'
  rw [d] at d'
  injection d' with d1 _
  have : its = its' := by simpa using congrArg Array.toList d1
  subst this
  exact r.inj r'
end

/-! ### another wish about exceptions -/
abbrev Cx.wish (X : Cx) (E : Value → Shared → Prop) : Cx := { X with xe := E }
/-- no exception leaves -/
abbrev Cx.nox (X : Cx) : Cx := X.wish fun _ _ => False
theorem Cx.Ok.wish {X : Cx} (ok : X.Ok) (E : Value → Shared → Prop) : (X.wish E).Ok :=
  ⟨ok.mod, ok.kind, ok.glob, ok.blt, ok.above, ok.inj, ok.has, ok.cab, ok.hd, ok.frames, ok.stk, ok.exf, ok.bs, ok.bsz, ok.noex, ok.exfs, ok.funs, ok.frf⟩
theorem Cx.Ok.unwish {X : Cx} {E : Value → Shared → Prop} (ok : (X.wish E).Ok) : X.Ok :=
  ⟨ok.mod, ok.kind, ok.glob, ok.blt, ok.above, ok.inj, ok.has, ok.cab, ok.hd, ok.frames, ok.stk, ok.exf, ok.bs, ok.bsz, ok.noex, ok.exfs, ok.funs, ok.frf⟩
section
variable {X : Cx} {pins : List (Addr × Obj)} {σ : St} {H : Hp} {s : Shared} {E : Value → Shared → Prop}
theorem Inv.wish (I : Inv X pins σ H s) (E : Value → Shared → Prop) : Inv (X.wish E) pins σ H s := ⟨I.ok.wish E, I.os, I.bare, I.base, I.loc, I.cell, I.free, I.freeC, I.pin, I.hok, I.len⟩
theorem Inv.unwish (I : Inv (X.wish E) pins σ H s) : Inv X pins σ H s := ⟨I.ok.unwish, I.os, I.bare, I.base, I.loc, I.cell, I.free, I.freeC, I.pin, I.hok, I.len⟩
theorem SP.unwish {D : Ends} {f : Flow} {s' : Shared} (h : SP (X.wish E) pins D f s') : SP X pins D f s' := by
  cases f with
  | next => obtain ⟨σ', H', I, q⟩ := h; exact ⟨σ', H', I.unwish, q⟩
  | brk => obtain ⟨σ', H', I, q⟩ := h; exact ⟨σ', H', I.unwish, q⟩
  | cont => obtain ⟨σ', H', I, q⟩ := h; exact ⟨σ', H', I.unwish, q⟩
  | ret u => obtain ⟨v, σ', H', I, r, q⟩ := h; exact ⟨v, σ', H', I.unwish, r, q⟩
theorem PE.nox {e : Expr} {t : TE} (h : PE X.nox e t) : PE X e t := fun pins s σ H Q I hw =>
  wpAny_mono (h pins s σ H Q (I.wish _) hw) (fun _ _ ⟨v, H', I', r, q⟩ => ⟨v, H', I'.unwish, r, q⟩) fun _ _ z => False.elim z
theorem PT.nox {e : Expr} {t : TT} (h : PT X.nox e t) : PT X e t := fun pins s σ H Q I hw =>
  wpAny_mono (h pins s σ H Q (I.wish _) hw) (fun _ _ ⟨H', I', q⟩ => ⟨H', I'.unwish, q⟩) fun _ _ z => False.elim z
theorem PSs.nox {st : List Stmt} {t : TS} (h : PSs X.nox st t) : PSs X st t := fun pins s σ H D I hw =>
  wpAny_mono (h pins s σ H D (I.wish _) hw) (fun _ _ q => q.unwish) fun _ _ z => False.elim z
end

/-! ### blocks and small statements -/
section
variable {X : Cx} {st : Stmt} {rest : List Stmt} {t u : TS} {e : Expr} {te : TE} {pos : Pos}
def tNext : TS := fun D σ H => D.nx σ H
def tSeq (t u : TS) : TS := fun D σ H => t { D with nx := u D } σ H
theorem pss_nil : PSs X [] tNext := fun _ _ σ H _ I h => wpAny_execs_nil ⟨σ, H, I, h⟩
theorem pss_cons (h1 : PS X st t) (h2 : PSs X rest u) : PSs X (st :: rest) (tSeq t u) := by
  intro pins s σ H D I h
  refine wpAny_execs_cons (thn (h1 pins s σ H { D with nx := u D } I h) fun f s1 q => ?_)
  cases f with
  | next =>
    obtain ⟨σ', H', I', q⟩ := q
    exact h2 pins s1 σ' H' D I' q
  | ret v => exact q
  | brk => exact q
  | cont => exact q
theorem pss_one (h1 : PS X st t) : PSs X [st] t := by
  intro pins s σ H D I h
  refine wpAny_execs_cons (thn (h1 pins s σ H D I h) fun f s1 q => ?_)
  cases f with
  | next => exact wpAny_execs_nil q
  | ret v => exact q
  | brk => exact q
  | cont => exact q
/-- in a def's body nothing is shown -/
theorem Inv.quiet {pins : List (Addr × Obj)} {σ : St} {H : Hp} {s : Shared} (I : Inv X pins σ H s) : interactive X.env = false := by simp [interactive, I.ok.kind]
/-- an expression whose value is dropped -/
def tDrop (te : TE) : TS := fun D σ H => te σ H fun _ H1 => D.nx σ H1
theorem ps_expr (he : PE X e te) (hs : swapsWith e none pos.line X.env = pure false := by rfl) : PS X (.Expr e pos) (tDrop te) := by
  intro pins s σ H D I h
  exact wpAny_Expr_any (thn (he pins s σ H _ I h) fun v s1 ⟨x, H1, I1, r1, q1⟩ => ⟨σ, H1, I1, q1⟩) I.quiet hs
def tRet (te : TE) : TS := fun D σ H => te σ H D.rt
theorem ps_ret (he : PE X e te) : PS X (.Return (some e) pos) (tRet te) := by
  intro pins s σ H D I h
  exact wpAny_Return_some (thn (he pins s σ H _ I h) fun v s1 ⟨x, H1, I1, r1, q1⟩ => ⟨x, σ, H1, I1, r1, q1⟩)
def tIfS (c : TT) (t u : TS) : TS := fun D σ H => c σ H fun b H1 => if b = true then t D σ H1 else u D σ H1
theorem ps_if {c : Expr} {a b : List Stmt} {tc : TT} (hc : PT X c tc) (ha : PSs X a t) (hb : PSs X b u) : PS X (.If c a b pos) (tIfS tc t u) := by
  intro pins s σ H D I h
  refine wpAny_If (thn (hc pins s σ H _ I h) fun d s1 ⟨H1, I1, q1⟩ => ?_)
  cases d with
  | true => exact ha pins s1 σ H1 D I1 q1
  | false => exact hb pins s1 σ H1 D I1 q1
/-- code that the proof never comes to -/
def tNever : TS := fun _ _ _ => False
theorem pss_never {sts : List Stmt} : PSs X sts tNever := fun _ _ _ _ _ _ h => h.elim
end

/-! ### targets -/
abbrev TG := V → St → Hp → (St → Hp → Prop) → Prop
abbrev TGs := List V → St → Hp → (St → Hp → Prop) → Prop
def PG (X : Cx) (target : Expr) (t : TG) : Prop :=
  ∀ (pins : List (Addr × Obj)) (s : Shared) (σ : St) (H : Hp) (v : V) (u : Value) (Q : St → Hp → Prop), Inv X pins σ H s → RelV v u → t v σ H Q →
    wpAny (model X.prog X.w) X.A (assign target X.env u) (fun _ s' => ∃ σ' H', Inv X pins σ' H' s' ∧ Q σ' H') X.xe s
/-- several targets, one after another -/
def PGs (X : Cx) (ts : List Expr) (t : TGs) : Prop :=
  ∀ (pins : List (Addr × Obj)) (s : Shared) (σ : St) (H : Hp) (vs : List V) (us : List Value) (Q : St → Hp → Prop), Inv X pins σ H s → Vals vs us → t vs σ H Q →
    wpAny (model X.prog X.w) X.A (assignInOrder ((assignEach ts X.env).map (·.2)) us) (fun _ s' => ∃ σ' H', Inv X pins σ' H' s' ∧ Q σ' H') X.xe s
section
variable {X : Cx} {pos : Pos}
def gName (i : Nat) : TG := fun v σ H Q => Q (σ.set i (some v)) H
theorem pg_name {i : Nat} {x : Str} (hN : X.N.Nodup) (hi : X.N[i]? = some x) (hx : Loc X.env.scope x) (hf : X.fn x = true ∨ X.env.scope.names.lookup x = some .local := by first | exact .inl rfl | exact .inr rfl | assumption) : PG X (.Name x pos) (gName i) := by
  intro pins s σ H v u Q I r h
  exact wpAny_assign_Name (store_ok I hN hi hx r (fun s' I' => ⟨_, H, I', h⟩) hf)
def gNil : TGs := fun vs σ H Q => vs = [] ∧ Q σ H
def gCons (t : TG) (u : TGs) : TGs := fun vs σ H Q => ∃ v r, vs = v :: r ∧ t v σ H fun σ' H' => u r σ' H' Q
theorem pgs_nil : PGs X [] gNil := by
  intro pins s σ H vs us Q I r h
  obtain ⟨e, h⟩ := h
  subst e
  cases r
  exact assignInOrder_nil ⟨σ, H, I, h⟩
theorem pgs_cons {e : Expr} {es : List Expr} {t : TG} {u : TGs} (h1 : PG X e t) (h2 : PGs X es u)
    (hs : (assignEach (e :: es) X.env).map (·.2) = assign e X.env :: (assignEach es X.env).map (·.2) := by rfl) : PGs X (e :: es) (gCons t u) := by
  intro pins s σ H vs us Q I r h
  obtain ⟨v, vr, e1, h⟩ := h
  subst e1
  cases r with
  | cons r rr =>
    rw [hs]
    refine assignInOrder_cons (thn (h1 pins s σ H _ _ _ I r h) fun _ s1 ⟨σ1, H1, I1, q1⟩ => ?_)
    exact h2 pins s1 σ1 H1 _ _ Q I1 rr q1
/-- (a, b, ..) = a tuple of that length -/
def gTup (K : PySem.W.Frag) (n : Nat) (t : TGs) : TG := fun v σ H Q => ∃ a xs, v = .ref a ∧ SqT K H a xs ∧ xs.length = n ∧ t xs σ H Q
theorem pg_tup {es : List Expr} {k : Nat} {t : TGs} {n : Nat} (hc : X.calm = true) (h : PGs X es t)
    (hn : (assignEach es X.env).length = n := by rfl) (hst : (assignEach es X.env).findIdx? (·.1) = none := by rfl) : PG X (.Tuple es k pos) (gTup X.K n t) := by
  intro pins s σ H v u Q I r hw
  obtain ⟨a, xs, e1, hq, hl, hw⟩ := hw
  subst e1
  cases r
  obtain ⟨its, rv, ht, hz⟩ := I.tuple hq
  refine assign_Tuple_tuple (I.ok.hd hc) ht (by simp [hn, ← hl, rv.length]) hst fun h' hx => ?_
  have I1 : Inv X pins σ H { s with heap := h' } := I.kept (t' := s.toks) fun b o e => hx b o (Nat.ne_of_lt (Heap.lt_size e)) e
  exact h pins _ σ H xs _ Q I1 (by simpa using rv) hw
/-- target = value -/
def tAsg (te : TE) (g : TG) : TS := fun D σ H => te σ H fun x H1 => g x σ H1 D.nx
theorem ps_asg {tg e : Expr} {te : TE} {g : TG} (he : PE X e te) (hg : PG X tg g) (hs : swapsWithSole [tg] e pos.line X.env = pure false := by rfl) (hw : swappedStores [tg] e X.env = pure none := by rfl)
    (h1 : (assignEach [tg] X.env).map (·.2) = [assign tg X.env] := by rfl) : PS X (.Assign [tg] e pos) (tAsg te g) := by
  intro pins s σ H D I h
  refine wpAny_Assign_stores (thn (he pins s σ H _ I h) fun v s1 ⟨x, H1, I1, r1, q1⟩ => ?_) hs hw
  rw [h1]
  exact thn (hg pins s1 σ H1 x v _ I1 r1 q1) fun _ s2 q => q
/-- name = value -/
theorem ps_set {i : Nat} {x : Str} {e : Expr} {te : TE} {pos' : Pos} (hN : X.N.Nodup) (hi : X.N[i]? = some x) (hx : Loc X.env.scope x) (he : PE X e te) (hs : swapsWith e (some (.Name x pos')) pos.line X.env = pure false := by rfl) (hf : X.fn x = true ∨ X.env.scope.names.lookup x = some .local := by first | exact .inl rfl | exact .inr rfl | assumption) :
    PS X (.Assign [.Name x pos'] e pos) (tAsg te (gName i)) := by
  intro pins s σ H D I h
  refine wpAny_Assign_Name (thn (he pins s σ H _ I h) fun v s1 ⟨y, H1, I1, r1, q1⟩ => ?_) hs
  exact store_ok I1 hN hi hx r1 (fun s2 I2 => ⟨_, H1, I2, q1⟩) hf
end

/-! ### while -/
section
variable {X : Cx} {pos : Pos}
/-- the invariant W with its measure -/
def tWhile (c : TT) (tb : TS) : TS := fun D σ H => ∃ W : Nat → St → Hp → Prop, (∃ m, W m σ H) ∧ ∀ m σ H, W m σ H →
  c σ H fun b H1 => if b = true then ∃ N : St → Hp → Prop, (∀ σ' H', N σ' H' → ∃ m', m' < m ∧ W m' σ' H') ∧ tb { D with nx := N, ct := N, bk := D.nx } σ H1 else D.nx σ H1
theorem ps_while {c : Expr} {body : List Stmt} {tc : TT} {tb : TS} (hp : PassesOwn (model X.prog X.w) X.A X.env X.xe) (hc : PT X c tc) (hb : PSs X body tb) : PS X (.While c body [] pos) (tWhile tc tb) := by
  intro pins s σ H D I h
  obtain ⟨W, ⟨m0, w0⟩, turn⟩ := h
  refine wpAny_While (codeAny_whileLoop (fun n s' => ∃ σ' H', Inv X pins σ' H' s' ∧ W n σ' H') ?_ m0 ⟨σ, H, I, w0⟩)
  rintro n s1 ⟨σ1, H1, I1, w1⟩
  refine wpAny_passesOwn hp (thn (hc pins s1 σ1 H1 _ I1 (turn n σ1 H1 w1)) fun b s2 ⟨H2, I2, q2⟩ => ?_)
  cases b with
  | true =>
    obtain ⟨N, hN, q2⟩ := q2
    rw [if_pos rfl]
    refine wpAny_passesOwn hp (thn (hb pins s2 σ1 H2 _ I2 q2) fun f s3 q3 => ?_)
    cases f with
    | next =>
      obtain ⟨σ3, H3, I3, n3⟩ := q3
      obtain ⟨m', hm, w3⟩ := hN σ3 H3 n3
      exact ⟨m', hm, σ3, H3, I3, w3⟩
    | cont =>
      obtain ⟨σ3, H3, I3, n3⟩ := q3
      obtain ⟨m', hm, w3⟩ := hN σ3 H3 n3
      exact ⟨m', hm, σ3, H3, I3, w3⟩
    | brk => exact q3
    | ret v => exact q3
  | false =>
    rw [if_neg Bool.false_ne_true]
    exact wpAny_execs_nil ⟨σ1, H2, I2, q2⟩
end

/-! ### what a loop or a comprehension walks -/
/-- at turn i: it yields x (the heap may grow), or it stops -/
structure It where
  go : Nat → Hp → Prop
  yld : Nat → Hp → V → Hp → Prop
  stop : Nat → Hp → Prop
/-- the iterator's own objects may turn: they are not the frame's, not pinned, younger than the entry (or a comprehension's own) -/
def FpOk (X : Cx) (pins : List (Addr × Obj)) (H : Hp) (b : Addr) : Prop :=
  H b = none ∧ b ≠ X.env.locals ∧ b ∉ X.fs ∧ (b ∈ X.ex ∨ X.s₀.heap.objs.size ≤ b) ∧ (∀ x c, X.env.cells.lookup x = some c → c ≠ b) ∧ ∀ p ∈ X.pn ++ pins, p.1 ≠ b
theorem Inv.fpOk {X : Cx} {pins : List (Addr × Obj)} {σ : St} {H H' : Hp} {s : Shared} {b : Addr} (I : Inv X pins σ H s) (hb : s.heap.objs.size ≤ b) (hn : H' b = none) : FpOk X pins H' b := by
  refine ⟨hn, Nat.ne_of_gt (Nat.lt_of_lt_of_le I.lt hb), I.nofs hb, .inr (Nat.le_trans I.sz hb), fun x c e z => ?_, fun p hp z => ?_⟩
  · obtain ⟨v, q⟩ := I.cell x c e
    exact absurd (Nat.lt_of_lt_of_le q.lt (by rw [z]; exact hb)) (Nat.lt_irrefl _)
  · exact absurd (Nat.lt_of_lt_of_le (Heap.lt_size (I.pin p hp).1) (by rw [z]; exact hb)) (Nat.lt_irrefl _)
structure Turn (P : Program) (w : World) (K : PySem.W.Frag) (tg : Expr) (J : It) (fp : List Addr) (it : Addr) (tn : Nat → Heap → Prop) : Prop where
  mem : it ∈ fp
  obj : ∀ i h, tn i h → ∀ b ∈ fp, ∃ o, h.get? b = some o ∧ ∀ v, o.data ≠ .cell v
  keep : ∀ i h h', tn i h → (∀ b ∈ fp, ∀ o, h.get? b = some o → h'.get? b = some o) → tn i h'
  item : ∀ (X : Cx), X.prog = P → X.w = w → X.K = K → X.calm = true → ∀ (i : Nat) (pins : List (Addr × Obj)) (s : Shared) (σ : St) (H : Hp) (E : Value → Shared → Prop), Inv X pins σ H s → (∀ b ∈ fp, FpOk X pins H b) → tn i s.heap → J.go i H →
    wpAny (model P w) X.A (pyNext (.ref it)) (fun r s1 => ∃ u, r = some u ∧
      wpAny (model P w) X.A (letOwnedTupleGo tg (.ref it) u) (fun _ s2 => ∃ x H', Inv X pins σ H' s2 ∧ RelV x u ∧ J.yld i H x H' ∧ tn (i + 1) s2.heap ∧ ∀ b ∈ fp, H' b = none) E s1) E s
  done : ∀ (X : Cx), X.prog = P → X.w = w → X.K = K → X.calm = true → ∀ (i : Nat) (pins : List (Addr × Obj)) (s : Shared) (σ : St) (H : Hp) (E : Value → Shared → Prop), Inv X pins σ H s → (∀ b ∈ fp, FpOk X pins H b) → tn i s.heap → J.stop i H →
    wpAny (model P w) X.A (pyNext (.ref it)) (fun r s1 => r = none ∧ Inv X pins σ H s1) E s
  self : ∀ (A : Around) (i : Nat) (s : Shared) (Q : Value → Shared → Prop) (E : Value → Shared → Prop), tn i s.heap → Q (.ref it) s → wpAny (model P w) A (pyIter (.ref it)) Q E s
abbrev TI := St → Hp → (It → Hp → Prop) → Prop
/-- an iterator has come -/
def PIE (X : Cx) (pins : List (Addr × Obj)) (σ : St) (tg : Expr) (R : It → Hp → Prop) (itv : Value) (s2 : Shared) : Prop :=
  ∃ (it : Addr) (fp : List Addr) (tn : Nat → Heap → Prop) (J : It) (H' : Hp), itv = .ref it ∧ Inv X pins σ H' s2 ∧ Turn X.prog X.w X.K tg J fp it tn ∧ tn 0 s2.heap ∧ (∀ b ∈ fp, FpOk X pins H' b) ∧ R J H'
def PI (X : Cx) (tg iter : Expr) (wi : TI) : Prop :=
  ∀ (pins : List (Addr × Obj)) (s : Shared) (σ : St) (H : Hp) (R : It → Hp → Prop), Inv X pins σ H s → wi σ H R →
    wpAny (model X.prog X.w) X.A (eval iter X.env) (fun v s1 => wpAny (model X.prog X.w) X.A (pyIter v) (PIE X pins σ tg R) X.xe s1) X.xe s

/-- the step ahead of the store is nothing for an iterator that keeps no tuple -/
theorem go_of {M : Model} {A : Around} {E : Value → Shared → Prop} {s : Shared} {tg : Expr} {it : Addr} {u : Value} {o : Obj} {n : String} {vs : Array Value} {Q : Unit → Shared → Prop} (ho : s.heap.get? it = some o) (hc : o.cls = .type n) (hd : o.data = .fields vs)
    (hn : ["enumerate", "zip", "dict_itemiterator", "dict_reverseitemiterator", "odict_iterator", "itertools.zip_longest", "itertools.pairwise"].contains n = false) (hQ : Q () s) : wpAny M A (letOwnedTupleGo tg (.ref it) u) Q E s := by
  unfold letOwnedTupleGo
  cases tg <;> first
    | exact wpAny_pure hQ
    | (cases u <;> first
        | exact wpAny_pure hQ
        | (refine wpAny_bind (wpAny_load ho ?_)
           rw [hc, hd]
           show wpAny M A (if (["enumerate", "zip", "dict_itemiterator", "dict_reverseitemiterator", "odict_iterator", "itertools.zip_longest", "itertools.pairwise"].contains n && vs[0]? == some (rawInt _)) = true then _ else _) Q E s
           rw [if_neg (by intro h; rw [hn, Bool.false_and] at h; cases h)]
           exact wpAny_pure hQ))

/-- the list at a, as it stands at each turn (a loop may append to it) -/
def Itl (K : PySem.W.Frag) (a : Addr) : It :=
  ⟨fun i H => ∃ xs x, SqL K H a xs ∧ xs[i]? = some x, fun i H x H' => H' = H ∧ ∀ xs, SqL K H a xs → xs[i]? = some x, fun i H => ∃ xs, SqL K H a xs ∧ xs.length ≤ i⟩
def Itt (K : PySem.W.Frag) (a : Addr) : It :=
  ⟨fun i H => ∃ xs x, SqT K H a xs ∧ xs[i]? = some x, fun i H x H' => H' = H ∧ ∀ xs, SqT K H a xs → xs[i]? = some x, fun i H => ∃ xs, SqT K H a xs ∧ xs.length ≤ i⟩
/-- lo, lo + 1, .. (n of them) -/
def Itr (lo : Int) (n : Nat) : It := ⟨fun i _ => i < n, fun i H x H' => H' = H ∧ x = .int (lo + i), fun i _ => n ≤ i⟩
theorem turn_list {P : Program} {w : World} {K : PySem.W.Frag} {tg : Expr} (a it : Addr) : Turn P w K tg (Itl K a) [it] it (fun i h => h.IsListIter it a i) where
  mem := by simp
  obj := fun i h st b hb => by
    have e : b = it := by simpa using hb
    subst e
    obtain ⟨o, e, c, d⟩ := st
    exact ⟨o, e, fun v z => by rw [d] at z; cases z⟩
  keep := fun i h h' st k => st.at fun o e => k it (by simp) o e
  item := by
    intro X hP hw hK hc i pins s σ H E I hf st hg
    subst hP hw hK
    obtain ⟨xs, x, hq, hx⟩ := hg
    obtain ⟨its, rv, p, hz⟩ := I.list hq
    obtain ⟨u, hu, ru⟩ := rv.get hx
    obtain ⟨f0, f1, f2, f3, f4, f5⟩ := hf it (by simp)
    refine wpAny_pyNext_list_item st p.isList (x := u) (by simpa using hu) fun h' st' sb => ?_
    have I1 : Inv X pins σ H { s with heap := h' } := I.turned (t' := s.toks) (fun b o hb e => (sb.2 b hb).trans e) f0 f1 f3 f4 f5
    obtain ⟨o, e, c, d⟩ := id st'
    exact ⟨u, rfl, go_of (s := { s with heap := h' }) e c d (by decide) ⟨x, H, I1, ru, ⟨rfl, fun ys hy => by rw [I.list_inj hy hq]; exact hx⟩, st', fun b hb => (hf b hb).1⟩⟩
  done := by
    intro X hP hw hK hc i pins s σ H E I hf st hg
    subst hP hw hK
    obtain ⟨xs, hq, hx⟩ := hg
    obtain ⟨its, rv, p, hz⟩ := I.list hq
    obtain ⟨f0, f1, f2, f3, f4, f5⟩ := hf it (by simp)
    have hl := rv.length
    exact wpAny_pyNext_list_end (I.ok.hd hc) st p.isList (by simp; omega) fun h' eb => ⟨rfl, I.turned (t' := s.toks) (fun b o hb e => eb b o hb e) f0 f1 f3 f4 f5⟩
  self := fun _ _ _ _ _ st h => wpAny_pyIter_listiter st h
theorem turn_tuple {P : Program} {w : World} {K : PySem.W.Frag} {tg : Expr} (a it : Addr) : Turn P w K tg (Itt K a) [it] it (fun i h => h.IsTupleIter it a i) where
  mem := by simp
  obj := fun i h st b hb => by
    have e : b = it := by simpa using hb
    subst e
    obtain ⟨o, e, c, d⟩ := st
    exact ⟨o, e, fun v z => by rw [d] at z; cases z⟩
  keep := fun i h h' st k => st.at fun o e => k it (by simp) o e
  item := by
    intro X hP hw hK hc i pins s σ H E I hf st hg
    subst hP hw hK
    obtain ⟨xs, x, hq, hx⟩ := hg
    obtain ⟨its, rv, p, hz⟩ := I.tuple hq
    obtain ⟨u, hu, ru⟩ := rv.get hx
    obtain ⟨f0, f1, f2, f3, f4, f5⟩ := hf it (by simp)
    refine wpAny_pyNext_tuple_item st (show s.heap.IsTuple a its.toArray from p) (x := u) (by simpa using hu) fun h' st' sb => ?_
    have I1 : Inv X pins σ H { s with heap := h' } := I.turned (t' := s.toks) (fun b o hb e => (sb.2 b hb).trans e) f0 f1 f3 f4 f5
    obtain ⟨o, e, c, d⟩ := id st'
    exact ⟨u, rfl, go_of (s := { s with heap := h' }) e c d (by decide) ⟨x, H, I1, ru, ⟨rfl, fun ys hy => by rw [I.tuple_inj hy hq]; exact hx⟩, st', fun b hb => (hf b hb).1⟩⟩
  done := by
    intro X hP hw hK hc i pins s σ H E I hf st hg
    subst hP hw hK
    obtain ⟨xs, hq, hx⟩ := hg
    obtain ⟨its, rv, p, hz⟩ := I.tuple hq
    obtain ⟨f0, f1, f2, f3, f4, f5⟩ := hf it (by simp)
    have hl := rv.length
    exact wpAny_pyNext_tuple_end (I.ok.hd hc) st (show s.heap.IsTuple a its.toArray from p) (by simp; omega) fun h' eb => ⟨rfl, I.turned (t' := s.toks) (fun b o hb e => eb b o hb e) f0 f1 f3 f4 f5⟩
  self := fun _ _ _ _ _ st h => wpAny_pyIter_tupleiter st h
theorem turn_range {P : Program} {w : World} {K : PySem.W.Frag} {tg : Expr} (it : Addr) (lo : Int) (n : Nat) : Turn P w K tg (Itr lo n) [it] it (fun i h => IsRangeIter h it (lo + (i : Nat) * 1) ((n : Int) - (i : Nat)) 1) where
  mem := by simp
  obj := fun i h st b hb => by
    have e : b = it := by simpa using hb
    subst e
    exact ⟨_, st, fun v z => by
      have z' : Data.fields _ = Data.cell v := z
      cases z'⟩
  keep := fun i h h' st k => k it (by simp) _ st
  item := by
    intro X hP hw hK hc i pins s σ H E I hf st hg
    subst hP hw hK
    obtain ⟨f0, f1, f2, f3, f4, f5⟩ := hf it (by simp)
    have W := Walks.range (prog := X.prog) (w := X.w) (I.ok.hd hc) it lo 1 n
    refine W.item i s _ _ hg st fun v h' tk hv st' kk => ?_
    obtain ⟨t, rfl⟩ := hv
    have I1 : Inv X pins σ H { s with heap := h', toks := tk } := I.turned (fun b o hb e => kk b o (by simpa using hb) e) f0 f1 f3 f4 f5
    refine ⟨_, rfl, go_of (s := { s with heap := h', toks := tk }) (n := "range_iterator") st' rfl rfl (by decide) ⟨.int (lo + i), H, I1, ⟨t, ?_⟩, ⟨rfl, rfl⟩, st', fun b hb => (hf b hb).1⟩⟩
    rw [Int.mul_one]
  done := by
    intro X hP hw hK hc i pins s σ H E I hf st hg
    subst hP hw hK
    obtain ⟨f0, f1, f2, f3, f4, f5⟩ := hf it (by simp)
    exact wpAny_pyNext_range_end (I.ok.hd hc) st (by have : n ≤ i := hg; omega) fun h' eb => ⟨rfl, I.turned (t' := s.toks) (fun b o hb e => eb b o hb e) f0 f1 f3 f4 f5⟩
  self := fun _ _ _ _ _ st h => wpAny_pyIter_rangeiter st h
end L2

namespace L2
open PySem PySem.Spec PyProof.Rows
section
variable {X : Cx} {tg : Expr}
def iList (K : PySem.W.Frag) (tl : TE) : TI := fun σ H R => tl σ H fun x H1 => ∃ a, x = .ref a ∧ (∃ xs, SqL K H1 a xs) ∧ R (Itl K a) H1
def iTup (K : PySem.W.Frag) (tl : TE) : TI := fun σ H R => tl σ H fun x H1 => ∃ a, x = .ref a ∧ (∃ xs, SqT K H1 a xs) ∧ R (Itt K a) H1
theorem pi_list {l : Expr} {tl : TE} (hl : PE X l tl) : PI X tg l (iList X.K tl) := by
  intro pins s σ H R I h
  refine thn (hl pins s σ H _ I h) fun v s1 ⟨x, H1, I1, r1, q1⟩ => ?_
  obtain ⟨a, e, ⟨xs, hq⟩, q⟩ := q1
  subst e
  cases r1
  obtain ⟨its, rv, p, hz⟩ := I1.list hq
  refine wpAny_pyIter_list p.isList ?_
  refine ⟨s1.heap.objs.size, [s1.heap.objs.size], _, _, H1, rfl, I1.kept (t' := s1.toks) fun b o e => Heap.get?_push_of_some _ e, turn_list a _, ⟨_, Heap.get?_push_size _ rfl, rfl, rfl⟩, fun b hb => ?_, q⟩
  have e : b = s1.heap.objs.size := by simpa using hb
  subst e
  exact I1.fpOk (Nat.le_refl _) (I1.hok.fresh (Nat.le_refl _))
theorem pi_tup {l : Expr} {tl : TE} (hl : PE X l tl) : PI X tg l (iTup X.K tl) := by
  intro pins s σ H R I h
  refine thn (hl pins s σ H _ I h) fun v s1 ⟨x, H1, I1, r1, q1⟩ => ?_
  obtain ⟨a, e, ⟨xs, hq⟩, q⟩ := q1
  subst e
  cases r1
  obtain ⟨its, rv, p, hz⟩ := I1.tuple hq
  refine wpAny_pyIter_tuple (show s1.heap.IsTuple a its.toArray from p) ?_
  refine ⟨s1.heap.objs.size, [s1.heap.objs.size], _, _, H1, rfl, I1.kept (t' := s1.toks) fun b o e => Heap.get?_push_of_some _ e, turn_tuple a _, ⟨_, Heap.get?_push_size _ rfl, rfl, rfl⟩, fun b hb => ?_, q⟩
  have e : b = s1.heap.objs.size := by simpa using hb
  subst e
  exact I1.fpOk (Nat.le_refl _) (I1.hok.fresh (Nat.le_refl _))
/-- a range object just made, walked -/
theorem range_it {pins : List (Addr × Obj)} {σ : St} {H : Hp} {s : Shared} {R : It → Hp → Prop} {E : Value → Shared → Prop} {lo hi : Int} {t u v : Tok} {tk : Nat} (I : Inv X pins σ H s) (h1 : -(2 ^ 62) ≤ lo) (h2 : lo < 2 ^ 62) (h3 : -(2 ^ 62) ≤ hi) (h4 : hi < 2 ^ 62)
    (q : R (Itr lo (hi - lo).toNat) H) : wpAny (model X.prog X.w) X.A (pyIter (.ref s.heap.objs.size)) (PIE X pins σ tg R) E { s with heap := s.heap.push { cls := .type "range", data := .fields #[.int lo t, .int hi u, .int 1 v] }, toks := tk } := by
  refine wpAny_pyIter_range (IsRange.new ..) (small_one h1 h2 h3 h4) ?_
  have I1 : Inv X pins σ H { s with heap := s.heap.push { cls := .type "range", data := .fields #[.int lo t, .int hi u, .int 1 v] }, toks := tk } := I.kept fun b o e => Heap.get?_push_of_some _ e
  refine ⟨(s.heap.push { cls := .type "range", data := .fields #[.int lo t, .int hi u, .int 1 v] }).objs.size, [(s.heap.push { cls := .type "range", data := .fields #[.int lo t, .int hi u, .int 1 v] }).objs.size], _, _, H, rfl,
    I1.kept (t' := tk) fun b o e => Heap.get?_push_of_some _ e, turn_range _ lo (hi - lo).toNat, ?_, fun b hb => ?_, q⟩
  · have e1 : lo + ((0 : Nat) : Int) * 1 = lo := by simp
    have e2 : (((hi - lo).toNat : Nat) : Int) - ((0 : Nat) : Int) = Builtin.Range.rangeSize lo hi 1 := by rw [rangeSize_one]; split <;> omega
    show IsRangeIter _ _ (lo + ((0 : Nat) : Int) * 1) ((((hi - lo).toNat : Nat) : Int) - ((0 : Nat) : Int)) 1
    rw [e1, e2]
    exact Heap.get?_push_size _ rfl
  · have e : b = (s.heap.push { cls := .type "range", data := .fields #[.int lo t, .int hi u, .int 1 v] }).objs.size := by simpa using hb
    subst e
    exact I1.fpOk (Nat.le_refl _) (I1.hok.fresh (Nat.le_refl _))
def iRng1 (ta : TA) : TI := fun σ H R => ta σ H fun vs H1 => ∃ j : Int, vs = [.int j] ∧ -(2 ^ 62) ≤ j ∧ j < 2 ^ 62 ∧ R (Itr 0 j.toNat) H1
theorem pi_range1 {a : Expr} {ta : TA} {p pos : Pos} (hg : Gl X "range") (hm : X.mg "range" = none) (ha : PA X [a] ta) (hs : starEach [a] X.env = [(false, eval a X.env)] := by rfl) : PI X tg (.Call (.Name "range" p) [a] [] pos) (iRng1 ta) := by
  intro pins s σ H R I h
  refine Call_ (ld_blt I hg hm boot_range (PyProof.Rows.callWith_type1 (thn (ha pos pins s σ H _ I h) fun us s1 ⟨vs, H1, I1, r1, q1⟩ => ?_) hs rfl))
  obtain ⟨j, e, q1, q2, q⟩ := q1
  subst e
  cases r1 with
  | cons r rr =>
    cases rr
    obtain ⟨t, rfl⟩ := r
    exact call_range_1 (range_it I1 (by omega) (by omega) q1 q2 (by simpa using q))
/-! ### for -/
/-- W: the invariant by the turn and a measure; N: what the body is to reach -/
def tFor (wi : TI) (g : TG) (tb : TS) : TS := fun D σ H => wi σ H fun J H1 => ∃ W : Nat → Nat → St → Hp → Prop, (∃ m, W 0 m σ H1) ∧ ∀ i m σ H, W i m σ H →
  (J.stop i H ∧ D.nx σ H) ∨ (J.go i H ∧ ∃ N : St → Hp → Prop, (∀ σ' H', N σ' H' → ∃ m', m' < m ∧ W (i + 1) m' σ' H') ∧ ∀ x H', J.yld i H x H' → g x σ H' fun σ2 H2 => tb { D with nx := N, ct := N, bk := D.nx } σ2 H2)
/-- the records at fp as they stand -/
def pinsAt (fp : List Addr) (h : Heap) : List (Addr × Obj) := fp.filterMap fun b => (h.get? b).map fun o => (b, o)
theorem mem_pinsAt {fp : List Addr} {h : Heap} {b : Addr} {o : Obj} (hb : b ∈ fp) (e : h.get? b = some o) : (b, o) ∈ pinsAt fp h := List.mem_filterMap.mpr ⟨b, hb, by rw [e]; rfl⟩
theorem of_pinsAt {fp : List Addr} {h : Heap} {p : Addr × Obj} (hp : p ∈ pinsAt fp h) : p.1 ∈ fp ∧ h.get? p.1 = some p.2 := by
  obtain ⟨b, hb, e⟩ := List.mem_filterMap.mp hp
  cases q : h.get? b with
  | none => rw [q] at e; cases e
  | some o =>
    rw [q] at e
    have e' : (b, o) = p := Option.some.inj e
    subst e'
    exact ⟨hb, q⟩
theorem Inv.pinned {pins : List (Addr × Obj)} {σ : St} {H : Hp} {s : Shared} {fp : List Addr} (I : Inv X pins σ H s) (hf : ∀ b ∈ fp, FpOk X pins H b) (ho : ∀ b ∈ fp, ∃ o, s.heap.get? b = some o ∧ ∀ v, o.data ≠ .cell v) : Inv X (pins ++ pinsAt fp s.heap) σ H s :=
  I.pins_of fun p hp => (List.mem_append.mp hp).elim (fun z => I.pin p (List.mem_append_right _ z)) fun z => by
    obtain ⟨hb, e⟩ := of_pinsAt z
    obtain ⟨f0, f1, f2, _⟩ := hf p.1 hb
    obtain ⟨o, e', d⟩ := ho p.1 hb
    rw [e] at e'; cases e'
    exact ⟨e, f0, f1, f2, d⟩
theorem Inv.unpinned {pins pl : List (Addr × Obj)} {σ : St} {H : Hp} {s : Shared} (I : Inv X (pins ++ pl) σ H s) : Inv X pins σ H s := I.pins_of fun p hp => I.pin p (List.mem_append_right _ (List.mem_append_left _ hp))
theorem ps_for {iter : Expr} {body : List Stmt} {wi : TI} {g : TG} {tb : TS} {pos : Pos} (hp : PassesOwn (model X.prog X.w) X.A X.env X.xe) (hc : X.calm = true) (hi : PI X tg iter wi) (hg : PG X tg g) (hb : PSs X body tb)
    (hs : ∀ x, foldedSetIterable iter X.env x = pure x := by intro _; rfl) : PS X (.For tg iter body [] pos) (tFor wi g tb) := by
  intro pins s σ H D I h
  refine wpAny_For (thn (hi pins s σ H _ I h) fun v s1 h1 => thn h1 fun itv s2 h2 => ?_) hs
  obtain ⟨it, fp, tn, J, H2, e, I2, T, st2, f2, W, ⟨m0, w0⟩, turn⟩ := h2
  subst e
  -- what stays true of the iterator's objects through the loop
  have stat : ∀ {H' : Hp}, (∀ b ∈ fp, H' b = none) → ∀ b ∈ fp, FpOk X pins H' b := fun hn b hb => ⟨hn b hb, (f2 b hb).2⟩
  refine codeAny_forLoop_any (fun n s' => ∃ i σ' H', Inv X pins σ' H' s' ∧ tn i s'.heap ∧ (∀ b ∈ fp, H' b = none) ∧ W i n σ' H') ?_ m0 ⟨0, σ, H2, I2, st2, fun b hb => (f2 b hb).1, w0⟩
  rintro n s3 ⟨i, σ3, H3, I3, st3, fr3, w3⟩
  rcases turn i n σ3 H3 w3 with ⟨stop, qn⟩ | ⟨go, N, hN, step⟩
  · refine wpAny_passesOwn hp (thn (T.done X rfl rfl rfl hc i pins s3 σ3 H3 X.xe I3 (stat fr3) st3 stop) fun r s4 ⟨hr, I4⟩ => ?_)
    subst hr
    exact wpAny_execs_nil ⟨σ3, H3, I4, qn⟩
  · refine wpAny_passesOwn hp (thn (T.item X rfl rfl rfl hc i pins s3 σ3 H3 X.xe I3 (stat fr3) st3 go) fun r s4 ⟨u, hr, h4⟩ => ?_)
    subst hr
    refine wpAny_passesOwn hp (thn h4 fun _ s5 ⟨x, H5, I5, r5, y5, st5, fr5⟩ => ?_)
    have I5' := I5.pinned (stat fr5) (T.obj _ _ st5)
    refine wpAny_passesOwn hp (thn (hg _ s5 σ3 H5 x u _ I5' r5 (step x H5 y5)) fun _ s6 ⟨σ6, H6, I6, q6⟩ => ?_)
    refine wpAny_passesOwn hp (thn (hb _ s6 σ6 H6 _ I6 q6) fun f s7 q7 => ?_)
    have again : ∀ {σ7 : St} {H7 : Hp}, Inv X (pins ++ pinsAt fp s5.heap) σ7 H7 s7 → N σ7 H7 → ∃ m, m < n ∧ ∃ i σ' H', Inv X pins σ' H' s7 ∧ tn i s7.heap ∧ (∀ b ∈ fp, H' b = none) ∧ W i m σ' H' := fun {σ7 H7} I7 n7 => by
      obtain ⟨m', hm, w7⟩ := hN σ7 H7 n7
      refine ⟨m', hm, i + 1, σ7, H7, I7.unpinned, T.keep _ _ _ st5 fun b hb o e => (I7.pin (b, o) (List.mem_append_right _ (List.mem_append_right _ (mem_pinsAt hb e)))).1, fun b hb => ?_, w7⟩
      obtain ⟨o, e, d⟩ := T.obj _ _ st5 b hb
      exact (I7.pin (b, o) (List.mem_append_right _ (List.mem_append_right _ (mem_pinsAt hb e)))).2.1
    cases f with
    | next => obtain ⟨σ7, H7, I7, n7⟩ := q7; exact again I7 n7
    | cont => obtain ⟨σ7, H7, I7, n7⟩ := q7; exact again I7 n7
    | brk => obtain ⟨σ7, H7, I7, q7⟩ := q7; exact ⟨σ7, H7, I7.unpinned, q7⟩
    | ret v => obtain ⟨x7, σ7, H7, I7, r7, q7⟩ := q7; exact ⟨x7, σ7, H7, I7.unpinned, r7, q7⟩
end

/-! ### the forms one uses -/
theorem for_tup {K : PySem.W.Frag} {a : Addr} {xs : List V} {g : TG} {tb : TS} {D : Ends} {σ : St} {H : Hp} (Pv : Nat → St → Hp → Prop) (h0 : Pv 0 σ H) (hl : ∀ i σ H, i ≤ xs.length → Pv i σ H → SqT K H a xs)
    (hs : ∀ i x σ H, xs[i]? = some x → Pv i σ H → g x σ H fun σ2 H2 => tb { D with nx := Pv (i + 1), ct := Pv (i + 1), bk := D.nx } σ2 H2) (hd : ∀ σ H, Pv xs.length σ H → D.nx σ H) :
    ∃ W : Nat → Nat → St → Hp → Prop, (∃ m, W 0 m σ H) ∧ ∀ i m σ H, W i m σ H →
      ((Itt K a).stop i H ∧ D.nx σ H) ∨ ((Itt K a).go i H ∧ ∃ N : St → Hp → Prop, (∀ σ' H', N σ' H' → ∃ m', m' < m ∧ W (i + 1) m' σ' H') ∧ ∀ x H', (Itt K a).yld i H x H' → g x σ H' fun σ2 H2 => tb { D with nx := N, ct := N, bk := D.nx } σ2 H2) := by
  refine ⟨fun i m σ H => m = xs.length - i ∧ i ≤ xs.length ∧ Pv i σ H, ⟨xs.length, by simp, Nat.zero_le _, h0⟩, ?_⟩
  rintro i m σ H ⟨rfl, hi, p⟩
  have q := hl i σ H hi p
  by_cases hlt : i < xs.length
  · refine .inr ⟨⟨xs, xs[i], q, by simp [hlt]⟩, Pv (i + 1), fun σ' H' p' => ⟨xs.length - (i + 1), by omega, rfl, hlt, p'⟩, fun x H' y => ?_⟩
    obtain ⟨e, y⟩ := y
    subst e
    exact hs i x σ _ (y xs q) p
  · have e : i = xs.length := by omega
    subst e
    exact .inl ⟨⟨xs, q, Nat.le_refl _⟩, hd σ H p⟩
theorem for_range {lo : Int} {n : Nat} {g : TG} {tb : TS} {D : Ends} {σ : St} {H : Hp} (Pv : Nat → St → Hp → Prop) (h0 : Pv 0 σ H)
    (hs : ∀ i σ H, i < n → Pv i σ H → g (.int (lo + i)) σ H fun σ2 H2 => tb { D with nx := Pv (i + 1), ct := Pv (i + 1), bk := D.nx } σ2 H2) (hd : ∀ σ H, Pv n σ H → D.nx σ H) :
    ∃ W : Nat → Nat → St → Hp → Prop, (∃ m, W 0 m σ H) ∧ ∀ i m σ H, W i m σ H →
      ((Itr lo n).stop i H ∧ D.nx σ H) ∨ ((Itr lo n).go i H ∧ ∃ N : St → Hp → Prop, (∀ σ' H', N σ' H' → ∃ m', m' < m ∧ W (i + 1) m' σ' H') ∧ ∀ x H', (Itr lo n).yld i H x H' → g x σ H' fun σ2 H2 => tb { D with nx := N, ct := N, bk := D.nx } σ2 H2) := by
  refine ⟨fun i m σ H => m = n - i ∧ i ≤ n ∧ Pv i σ H, ⟨n, by simp, Nat.zero_le _, h0⟩, ?_⟩
  rintro i m σ H ⟨rfl, hi, p⟩
  by_cases hlt : i < n
  · refine .inr ⟨hlt, Pv (i + 1), fun σ' H' p' => ⟨n - (i + 1), by omega, rfl, hlt, p'⟩, fun x H' y => ?_⟩
    obtain ⟨e, y⟩ := y
    subst e y
    exact hs i σ _ hlt p
  · have e : i = n := by omega
    subst e
    exact .inl ⟨Nat.le_refl _, hd σ H p⟩
end L2

namespace L2
open PySem PySem.Spec PyProof.Rows

abbrev R2 := V → V → Hp → VK → Prop
/-- a two-place operation on values: f is binaryOp op, inplaceOp op or compareOp op -/
def OpR (X : Cx) (f : Value → Value → Sem Value) (r : R2) : Prop :=
  ∀ (pins : List (Addr × Obj)) (s : Shared) (σ : St) (H : Hp) (x y : V) (v u : Value) (Q : VK), Inv X pins σ H s → RelV x v → RelV y u → r x y H Q →
    wpAny (model X.prog X.w) X.A (f v u) (EP X pins σ Q) X.xe s
/-- a one-place operation -/
def UnR (X : Cx) (f : Value → Sem Value) (r : V → Hp → VK → Prop) : Prop :=
  ∀ (pins : List (Addr × Obj)) (s : Shared) (σ : St) (H : Hp) (x : V) (v : Value) (Q : VK), Inv X pins σ H s → RelV x v → r x H Q →
    wpAny (model X.prog X.w) X.A (f v) (EP X pins σ Q) X.xe s
/-- a call of a value that is known (a builtin, a type) with values -/
def CallR (X : Cx) (f : Value) (r : List V → Hp → VK → Prop) : Prop :=
  ∀ (pins : List (Addr × Obj)) (s : Shared) (σ : St) (H : Hp) (xs : List V) (us : List Value) (Q : VK), Inv X pins σ H s → Vals xs us → r xs H Q →
    wpAny (model X.prog X.w) X.A (call f us) (EP X pins σ Q) X.xe s
def tOp (r : R2) (ta tb : TE) : TE := fun σ H Q => ta σ H fun x H1 => tb σ H1 fun y H2 => r x y H2 Q
def tUn (r : V → Hp → VK → Prop) (ta : TE) : TE := fun σ H Q => ta σ H fun x H1 => r x H1 Q
/-- ints in, under C, and a value out -/
def rI (C : Int → Int → Prop) (g : Int → Int → V) : R2 := fun x y H Q => ∃ i j, x = .int i ∧ y = .int j ∧ C i j ∧ Q (g i j) H
def rI0 (g : Int → Int → V) : R2 := fun x y H Q => ∃ i j, x = .int i ∧ y = .int j ∧ Q (g i j) H
def rU (g : Int → V) : V → Hp → VK → Prop := fun x H Q => ∃ i, x = .int i ∧ Q (g i) H

section
variable {X : Cx} {a b c : Expr} {ta tb tc : TE} {pos : Pos}

theorem binT (ha : PE X a ta) (hb : PE X b tb) {pins : List (Addr × Obj)} {s : Shared} {σ : St} {H : Hp} {R : V → V → Hp → Prop} (I : Inv X pins σ H s)
    (h : ta σ H fun x H1 => tb σ H1 fun y H2 => R x y H2) {Q : Value → Shared → Prop} {f : Value → Value → Sem Value}
    (hf : ∀ v u s2 x y H2, Inv X pins σ H2 s2 → RelV x v → RelV y u → R x y H2 → wpAny (model X.prog X.w) X.A (f v u) Q X.xe s2) :
    wpAny (model X.prog X.w) X.A (eval a X.env) (fun v s₁ => wpAny (model X.prog X.w) X.A (eval b X.env) (fun u s₂ => wpAny (model X.prog X.w) X.A (f v u) Q X.xe s₂) X.xe s₁) X.xe s := by
  refine thn (ha pins s σ H _ I h) fun v s1 ⟨x, H1, I1, r1, q1⟩ => ?_
  refine thn (hb pins s1 σ H1 _ I1 q1) fun u s2 ⟨y, H2, I2, r2, q2⟩ => ?_
  exact hf v u s2 x y H2 I2 r1 r2 q2

theorem pe_op {op : Operator} {r : R2} (ho : OpR X (binaryOp op) r) (ha : PE X a ta) (hb : PE X b tb) : PE X (.BinOp a op b pos) (tOp r ta tb) := by
  intro pins s σ H Q I h
  exact wpAny_BinOp (binT ha hb I h fun v u s2 x y H2 I2 rx ry q => ho pins s2 σ H2 x y v u Q I2 rx ry q)
theorem pe_un {op : UnaryOp} {r : V → Hp → VK → Prop} (ho : UnR X (unaryOp op) r) (ha : PE X a ta) : PE X (.UnaryOp op a pos) (tUn r ta) := by
  intro pins s σ H Q I h
  exact UnaryOp_ (thn (ha pins s σ H _ I h) fun v s1 ⟨x, H1, I1, r1, q1⟩ => ho pins s1 σ H1 x v Q I1 r1 q1)
/-! ### ints -/
theorem opI {f : Value → Value → Sem Value} {C : Int → Int → Prop} {g : Int → Int → Int}
    (rule : ∀ (i j : Int) (t u : Tok) (s : Shared) (Q : Value → Shared → Prop) (E : Value → Shared → Prop), C i j → Q (.int (g i j) s.toks) { s with toks := s.toks + 1 } → wpAny (model X.prog X.w) X.A (f (.int i t) (.int j u)) Q E s) :
    OpR X f (rI C fun i j => .int (g i j)) := by
  intro pins s σ H x y v u Q I rx ry h
  obtain ⟨i, j, rfl, rfl, hc, q⟩ := h
  obtain ⟨t, rfl⟩ := rx
  obtain ⟨t', rfl⟩ := ry
  exact rule i j t t' s _ _ hc ⟨.int (g i j), H, I.tok _, ⟨_, rfl⟩, q⟩
theorem opI0 {f : Value → Value → Sem Value} {g : Int → Int → Int}
    (rule : ∀ (i j : Int) (t u : Tok) (s : Shared) (Q : Value → Shared → Prop) (E : Value → Shared → Prop), Q (.int (g i j) s.toks) { s with toks := s.toks + 1 } → wpAny (model X.prog X.w) X.A (f (.int i t) (.int j u)) Q E s) :
    OpR X f (rI0 fun i j => .int (g i j)) := by
  intro pins s σ H x y v u Q I rx ry h
  obtain ⟨i, j, rfl, rfl, q⟩ := h
  obtain ⟨t, rfl⟩ := rx
  obtain ⟨t', rfl⟩ := ry
  exact rule i j t t' s _ _ ⟨.int (g i j), H, I.tok _, ⟨_, rfl⟩, q⟩
theorem opB0 {f : Value → Value → Sem Value} {g : Int → Int → Bool}
    (rule : ∀ (i j : Int) (t u : Tok) (s : Shared) (Q : Value → Shared → Prop) (E : Value → Shared → Prop), Q (.bool (g i j)) s → wpAny (model X.prog X.w) X.A (f (.int i t) (.int j u)) Q E s) :
    OpR X f (rI0 fun i j => .bl (g i j)) := by
  intro pins s σ H x y v u Q I rx ry h
  obtain ⟨i, j, rfl, rfl, q⟩ := h
  obtain ⟨t, rfl⟩ := rx
  obtain ⟨t', rfl⟩ := ry
  exact rule i j t t' s _ _ ⟨.bl (g i j), H, I, rfl, q⟩

def CDiv (i j : Int) : Prop := 0 < j ∧ j < 1073741824
def CPow (i j : Int) : Prop := 0 ≤ j ∧ j ≤ 1000000 ∧ i.natAbs < 2 ^ 64
def CMul (i j : Int) : Prop := (-(2 ^ 64) < i ∧ i < 2 ^ 64) ∨ (-(2 ^ 64) < j ∧ j < 2 ^ 64)
theorem CMul.ok {i j : Int} (h : CMul i j) : IntMulOk i j := by
  rcases h with ⟨h1, h2⟩ | ⟨h1, h2⟩
  · exact .of_left (intBits_le_64 h1 h2)
  · exact .of_right (intBits_le_64 h1 h2)
theorem op_add : OpR X (binaryOp .Add) (rI0 fun i j => .int (i + j)) := opI0 fun _ _ _ _ _ _ _ q => add_int q
theorem op_sub : OpR X (binaryOp .Sub) (rI0 fun i j => .int (i - j)) := opI0 fun _ _ _ _ _ _ _ q => sub_int q
theorem op_mul : OpR X (binaryOp .Mult) (rI CMul fun i j => .int (i * j)) := opI fun _ _ _ _ _ _ _ hc q => mul_int q hc.ok
/-- // by a positive divisor -/
theorem op_fdiv : OpR X (binaryOp .FloorDiv) (rI CDiv fun i j => .int (i / j)) := opI fun i j _ _ _ _ _ hc q => by
  have h1 : (0 : Int) < j := hc.1
  have h2 : j < 1073741824 := hc.2
  exact floordiv_int (by omega) (by rw [Int.fdiv_eq_ediv_of_nonneg i (by omega)]; exact q) (.inl (PyProof.noPylong_small (by omega)))
/-- % by a positive divisor of any size -/
theorem op_mod : OpR X (binaryOp .Mod) (rI (fun _ j => 0 < j) fun i j => .int (i % j)) := opI fun i j _ _ _ _ _ hc q => by
  have h1 : (0 : Int) < j := hc
  exact mod_int' (by omega) (by rw [Int.fmod_eq_emod_of_nonneg i (by omega)]; exact q)
theorem op_pow : OpR X (binaryOp .Pow) (rI CPow fun i j => .int (i ^ j.toNat)) := opI fun _ _ _ _ _ _ _ hc q => pow_int_small hc.1 hc.2.1 hc.2.2 q
theorem unI {f : Value → Sem Value} {g : Int → Int}
    (rule : ∀ (i : Int) (t : Tok) (s : Shared) (Q : Value → Shared → Prop) (E : Value → Shared → Prop), Q (.int (g i) s.toks) { s with toks := s.toks + 1 } → wpAny (model X.prog X.w) X.A (f (.int i t)) Q E s) :
    UnR X f (rU fun i => .int (g i)) := by
  intro pins s σ H x v Q I rx h
  obtain ⟨i, rfl, q⟩ := h
  obtain ⟨t, rfl⟩ := rx
  exact rule i t s _ _ ⟨.int (g i), H, I.tok _, ⟨_, rfl⟩, q⟩
theorem un_neg : UnR X (unaryOp .USub) (rU fun i => .int (-i)) := unI fun _ _ _ _ _ q => neg_int q
/-! ### bools among ints: n += (a < b) -/
end

/-! ### comparisons -/
/-- the scalars that == tells apart as data does -/
def scal : V → V → Bool
  | .non, .non => true | .non, .int _ => true | .int _, .non => true | .non, .bl _ => true | .bl _, .non => true | .non, .str _ => true | .str _, .non => true
  | .int _, .int _ => true | .bl _, .bl _ => true | .str _, .str _ => true | .byt _, .byt _ => true
  | .int _, .str _ => true | .str _, .int _ => true | .bl _, .str _ => true | .str _, .bl _ => true
  | _, _ => false
def rEq : R2 := fun x y H Q => scal x y = true ∧ Q (.bl (decide (x = y))) H
def rNe : R2 := fun x y H Q => scal x y = true ∧ Q (.bl (!decide (x = y))) H

theorem dec_int {i j : Int} : decide (V.int i = V.int j) = (i == j) := by
  rw [Bool.eq_iff_iff]
  simp
theorem dec_bl {i j : Bool} : decide (V.bl i = V.bl j) = (i == j) := by
  rw [Bool.eq_iff_iff]
  simp
theorem dec_str {i j : Str} : decide (V.str i = V.str j) = (i == j) := by
  rw [Bool.eq_iff_iff]
  simp
theorem dec_byt {i j : Array UInt8} : decide (V.byt i = V.byt j) = (i.toList == j.toList) := by
  rw [Bool.eq_iff_iff]
  cases i
  cases j
  simp

section
variable {X : Cx} {a b c : Expr} {ta tb tc : TE} {pos : Pos}
theorem fin_bl {pins : List (Addr × Obj)} {σ : St} {H : Hp} {s : Shared} {Q : VK} {k k' : Bool} (I : Inv X pins σ H s) (q : Q (.bl k) H) (e : k = k') : EP X pins σ Q (.bool k') s := by
  subst e
  exact ⟨.bl k, H, I, rfl, q⟩
theorem op_eq : OpR X (compareOp .Eq) rEq := by
  intro pins s σ H x y v u Q I rx ry h
  obtain ⟨hs, q⟩ := h
  cases x with
  | non =>
    cases rx
    cases y with
    | non => cases ry; exact PySem.EqNone.eq_none_none (fin_bl I q (by simp))
    | bl j => cases ry; exact PySem.EqNone.eq_none_bool (fin_bl I q (by simp))
    | int j => obtain ⟨t', rfl⟩ := ry; exact PySem.EqNone.eq_none_int (fin_bl I q (by simp))
    | str j => obtain ⟨t', rfl⟩ := ry; exact PySem.EqNone.eq_none_str (fin_bl I q (by simp))
    | _ => exact absurd (show false = true from hs) Bool.false_ne_true
  | bl i =>
    cases rx
    cases y with
    | non => cases ry; exact PySem.EqNone.eq_bool_none (fin_bl I q (by simp))
    | bl j => cases ry; exact eq_bool (fin_bl I q dec_bl)
    | str j => obtain ⟨t', rfl⟩ := ry; exact PySem.EqMixed.eq_bool_str (fin_bl I q (by simp))
    | _ => exact absurd (show false = true from hs) Bool.false_ne_true
  | int i =>
    obtain ⟨t, rfl⟩ := rx
    cases y with
    | non => cases ry; exact PySem.EqNone.eq_int_none (fin_bl I q (by simp))
    | int j => obtain ⟨t', rfl⟩ := ry; exact eq_int (fin_bl I q dec_int)
    | str j => obtain ⟨t', rfl⟩ := ry; exact PySem.EqMixed.eq_int_str (fin_bl I q (by simp))
    | _ => exact absurd (show false = true from hs) Bool.false_ne_true
  | str i =>
    obtain ⟨t, rfl⟩ := rx
    cases y with
    | non => cases ry; exact PySem.EqNone.eq_str_none (fin_bl I q (by simp))
    | bl j => cases ry; exact PySem.EqMixed.eq_str_bool (fin_bl I q (by simp))
    | int j => obtain ⟨t', rfl⟩ := ry; exact PySem.EqMixed.eq_str_int (fin_bl I q (by simp))
    | str j => obtain ⟨t', rfl⟩ := ry; exact eq_str (fin_bl I q dec_str)
    | _ => exact absurd (show false = true from hs) Bool.false_ne_true
  | byt i =>
    obtain ⟨t, rfl⟩ := rx
    cases y with
    | byt j => obtain ⟨t', rfl⟩ := ry; exact PySem.W.eq_bytes (fin_bl I q dec_byt)
    | _ => exact absurd (show false = true from hs) Bool.false_ne_true
  | _ => cases y <;> exact absurd (show false = true from hs) Bool.false_ne_true
theorem op_ne : OpR X (compareOp .NotEq) rNe := by
  intro pins s σ H x y v u Q I rx ry h
  obtain ⟨hs, q⟩ := h
  cases x with
  | non =>
    cases rx
    cases y with
    | non => cases ry; exact PySem.EqNone.ne_none_none (fin_bl I q (by simp))
    | bl j => cases ry; exact PySem.EqNone.ne_none_bool (fin_bl I q (by simp))
    | int j => obtain ⟨t', rfl⟩ := ry; exact PySem.EqNone.ne_none_int (fin_bl I q (by simp))
    | str j => obtain ⟨t', rfl⟩ := ry; exact PySem.EqNone.ne_none_str (fin_bl I q (by simp))
    | _ => exact absurd (show false = true from hs) Bool.false_ne_true
  | bl i =>
    cases rx
    cases y with
    | non => cases ry; exact PySem.EqNone.ne_bool_none (fin_bl I q (by simp))
    | bl j => cases ry; exact ne_bool (fin_bl I q (congrArg not dec_bl))
    | str j => obtain ⟨t', rfl⟩ := ry; exact PySem.EqMixed.ne_bool_str (fin_bl I q (by simp))
    | _ => exact absurd (show false = true from hs) Bool.false_ne_true
  | int i =>
    obtain ⟨t, rfl⟩ := rx
    cases y with
    | non => cases ry; exact PySem.EqNone.ne_int_none (fin_bl I q (by simp))
    | int j => obtain ⟨t', rfl⟩ := ry; exact ne_int (fin_bl I q (congrArg not dec_int))
    | str j => obtain ⟨t', rfl⟩ := ry; exact PySem.EqMixed.ne_int_str (fin_bl I q (by simp))
    | _ => exact absurd (show false = true from hs) Bool.false_ne_true
  | str i =>
    obtain ⟨t, rfl⟩ := rx
    cases y with
    | non => cases ry; exact PySem.EqNone.ne_str_none (fin_bl I q (by simp))
    | bl j => cases ry; exact PySem.EqMixed.ne_str_bool (fin_bl I q (by simp))
    | int j => obtain ⟨t', rfl⟩ := ry; exact PySem.EqMixed.ne_str_int (fin_bl I q (by simp))
    | str j => obtain ⟨t', rfl⟩ := ry; exact ne_str (fin_bl I q (congrArg not dec_str))
    | _ => exact absurd (show false = true from hs) Bool.false_ne_true
  | byt i =>
    obtain ⟨t, rfl⟩ := rx
    cases y with
    | byt j => obtain ⟨t', rfl⟩ := ry; exact PySem.W.ne_bytes (fin_bl I q (congrArg not dec_byt))
    | _ => exact absurd (show false = true from hs) Bool.false_ne_true
  | _ => cases y <;> exact absurd (show false = true from hs) Bool.false_ne_true

theorem op_lt : OpR X (compareOp .Lt) (rI0 fun i j => .bl (decide (i < j))) := opB0 fun _ _ _ _ _ _ _ q => lt_int q
theorem op_le : OpR X (compareOp .LtE) (rI0 fun i j => .bl (decide (i ≤ j))) := opB0 fun _ _ _ _ _ _ _ q => le_int q
theorem op_gt : OpR X (compareOp .Gt) (rI0 fun i j => .bl (decide (j < i))) := opB0 fun _ _ _ _ _ _ _ q => gt_int q
theorem op_ge : OpR X (compareOp .GtE) (rI0 fun i j => .bl (decide (j ≤ i))) := opB0 fun _ _ _ _ _ _ _ q => ge_int q
theorem op_lt_str : OpR X (compareOp .Lt) (fun x y H Q => ∃ i j, x = .str i ∧ y = .str j ∧ Q (.bl (decide (i.cps.toList < j.cps.toList))) H) := by
  intro pins s σ H x y v u Q I rx ry h
  obtain ⟨i, j, rfl, rfl, q⟩ := h
  obtain ⟨t, rfl⟩ := rx
  obtain ⟨t', rfl⟩ := ry
  exact lt_str (fin_bl I q rfl)
/-- is None, is not None: the right side a value none -/
theorem op_isN : OpR X (compareOp .Is) (fun x y H Q => y = .non ∧ Q (.bl (decide (x = .non))) H) := by
  intro pins s σ H x y v u Q I rx ry h
  obtain ⟨rfl, q⟩ := h
  cases ry
  refine is_none_gen (fin_bl I q ?_)
  cases x <;> first
    | (cases rx; rfl)
    | (obtain ⟨t, rfl⟩ := rx; rfl)
theorem op_notN : OpR X (compareOp .IsNot) (fun x y H Q => y = .non ∧ Q (.bl (!decide (x = .non))) H) := by
  intro pins s σ H x y v u Q I rx ry h
  obtain ⟨rfl, q⟩ := h
  cases ry
  refine isnot_none_gen (fin_bl I q ?_)
  cases x <;> first
    | (cases rx; rfl)
    | (obtain ⟨t, rfl⟩ := rx; rfl)

/-- two rules for one operation: by cases -/
theorem OpR.or {f : Value → Value → Sem Value} {r r' : R2} (h : OpR X f r) (h' : OpR X f r') : OpR X f (fun x y H Q => r x y H Q ∨ r' x y H Q) := by
  intro pins s σ H x y v u Q I rx ry q
  rcases q with q | q
  · exact h pins s σ H x y v u Q I rx ry q
  · exact h' pins s σ H x y v u Q I rx ry q

theorem nomark (b : Expr) {op : CmpOp} (h : op ≠ .In := by decide) (h2 : op ≠ .NotIn := by decide) : behindInMarks op b = false := by
  have e1 : (op == CmpOp.In) = false := by cases op <;> first | rfl | exact absurd rfl h
  have e2 : (op == CmpOp.NotIn) = false := by cases op <;> first | rfl | exact absurd rfl h2
  cases b <;> simp [behindInMarks, e1, e2]
/-- a comparison as a value; hm: nomark b, or (for in, not in) by with_unfolding_all rfl -/
theorem pe_cmpR {op : CmpOp} {r : R2} (ho : OpR X (compareOp op) r) (ha : PE X a ta) (hb : PE X b tb) (hm : behindInMarks op b = false) : PE X (.Compare a [op] [b] pos) (tOp r ta tb) := by
  intro pins s σ H Q I h
  exact wpAny_Compare1 (binT ha hb I h fun v u s2 x y H2 I2 rx ry q => ho pins s2 σ H2 x y v u Q I2 rx ry q) hm
/-- a reading of a value as a test -/
def tTest (t : TE) : TT := fun σ H Q => t σ H fun x H' => ∃ k, x = .bl k ∧ Q k H'
theorem pt_cmpR {op : CmpOp} {r : R2} (ho : OpR X (compareOp op) r) (ha : PE X a ta) (hb : PE X b tb) (hm : behindInMarks op b = false) : PT X (.Compare a [op] [b] pos) (tTest (tOp r ta tb)) := by
  intro pins s σ H Q I h
  refine wpAny_isTrue_Compare1 (thn (ha pins s σ H _ I h) fun v s1 ⟨x, H1, I1, r1, q1⟩ => thn (hb pins s1 σ H1 _ I1 q1) fun u s2 ⟨y, H2, I2, r2, q2⟩ =>
    thn (ho pins s2 σ H2 x y v u _ I2 r1 r2 q2) fun c s3 ⟨z, H3, I3, r3, k, e, q3⟩ => ?_) hm
  subst e
  cases r3
  exact wpAny_truthy_bool ⟨H3, I3, q3⟩
/-- a op1 b op2 c -/
def tChain (r r' : R2) (ta tb tc : TE) : TE := fun σ H Q => ta σ H fun x H1 => tb σ H1 fun y H2 => r x y H2 fun z H3 => ∃ k, z = .bl k ∧
  (if k = true then tc σ H3 fun w' H4 => r' y w' H4 Q else Q (.bl false) H3)
theorem pe_chain {op op' : CmpOp} {r r' : R2} (ho : OpR X (compareOp op) r) (ho' : OpR X (compareOp op') r') (ha : PE X a ta) (hb : PE X b tb) (hc : PE X c tc)
    (hm : lastMarks [op, op'] [b, c] = false := by with_unfolding_all rfl) : PE X (.Compare a [op, op'] [b, c] pos) (tChain r r' ta tb tc) := by
  intro pins s σ H Q I h
  refine Compare_chain (thn (ha pins s σ H _ I h) fun v s1 ⟨x, H1, I1, r1, q1⟩ => chain_link (thn (hb pins s1 σ H1 _ I1 q1) fun u s2 ⟨y, H2, I2, r2, q2⟩ =>
    thn (ho pins s2 σ H2 x y v u _ I2 r1 r2 q2) fun d s3 ⟨z, H3, I3, r3, k, e, q3⟩ => ?_)) hm
  subst e
  cases r3
  refine wpAny_truthy_bool ?_
  cases k with
  | false => exact ite_ff ⟨.bl false, H3, I3, rfl, q3⟩
  | true => exact ite_tt (chain_last (thn (hc pins s3 σ H3 _ I3 q3) fun w' s4 ⟨z', H4, I4, r4, q4⟩ => ho' pins s4 σ H4 y z' u w' Q I4 r2 r4 q4))
/-! ### truth -/
theorem line63 : (sizeLine : Nat) < 2 ^ 63 := by rw [sizeLine_eq]; decide
/-! ### strs and bytes -/
theorem op_add_str : OpR X (binaryOp .Add) (fun x y H Q => ∃ i j, x = .str i ∧ y = .str j ∧ i.length + j.length ≤ sizeLine ∧ Q (.str (i ++ j)) H) := by
  intro pins s σ H x y v u Q I rx ry h
  obtain ⟨i, j, rfl, rfl, hz, q⟩ := h
  obtain ⟨t, rfl⟩ := rx
  obtain ⟨t', rfl⟩ := ry
  exact add_str (fun t' tk => ⟨.str (i ++ j), H, I.tok _, ⟨_, rfl⟩, q⟩) hz
/-! ### scalar builtins, by CallR -/
theorem vals1 {x : V} {us : List Value} (r : Vals [x] us) : ∃ u, us = [u] ∧ RelV x u := by
  cases r with
  | cons r1 r2 => cases r2; exact ⟨_, rfl, r1⟩
theorem vals2 {x y : V} {us : List Value} (r : Vals [x, y] us) : ∃ u w', us = [u, w'] ∧ RelV x u ∧ RelV y w' := by
  cases r with
  | cons r1 r2 =>
    cases r2 with
    | cons r3 r4 => cases r4; exact ⟨_, _, rfl, r1, r3⟩
theorem call_max2 (hc : X.calm = true) : CallR X (.builtin "max") (fun xs H Q => ∃ i j, xs = [.int i, .int j] ∧ Q (.int (if j > i then j else i)) H) := by
  intro pins s σ H xs us Q I r h
  obtain ⟨i, j, rfl, q⟩ := h
  obtain ⟨u, w', rfl, ⟨t, rfl⟩, ⟨t', rfl⟩⟩ := vals2 r
  refine max_two_ints (I.ok.hd hc) fun h' tk k => ⟨_, H, I.kept k, ?_, q⟩
  by_cases hj : j > i
  · rw [if_pos hj, if_pos hj]; exact ⟨_, rfl⟩
  · rw [if_neg hj, if_neg hj]; exact ⟨_, rfl⟩
theorem call_int1 : CallR X (.type "int") (fun xs H Q => (∃ i, xs = [.int i] ∧ Q (.int i) H) ∨ ∃ k, xs = [.bl k] ∧ Q (.int (if k then 1 else 0)) H) := by
  intro pins s σ H xs us Q I r h
  rcases h with ⟨i, rfl, q⟩ | ⟨k, rfl, q⟩
  · obtain ⟨u, rfl, t, rfl⟩ := vals1 r
    exact call_int_int ⟨.int i, H, I, ⟨_, rfl⟩, q⟩
  · obtain ⟨u, rfl, r1⟩ := vals1 r
    cases r1
    exact call_int_bool ⟨.int (if k then 1 else 0), H, I.tok _, ⟨_, rfl⟩, q⟩
end
end L2

namespace L2
open PySem PySem.Spec PyProof.Rows

/-! ### an instance, its attributes a map -/
structure ObjM (h : Heap) (x dx C : Addr) (mA : Str → Option Value) : Prop where
  obj : h.get? x = some (PySem.W.instObj C dx)
  ns : h.Ns1 dx mA
  ne : dx ≠ x

theorem lookIn_ns {h : Heap} {dx : Addr} {mA : Str → Option Value} (n : h.Ns1 dx mA) : ∃ od, h.get? dx = some od ∧ ∀ name, PySem.W.lookIn name od = some (mA name) := by
  obtain ⟨o, es, ep, ho, hd, hk, _, hm⟩ := n
  refine ⟨o, ho, fun name => ?_⟩
  have e := hm name
  unfold nsFind findBy at e
  rw [← Array.find?_toList] at e
  unfold PySem.W.lookIn
  rw [hd]
  dsimp only
  split
  · rename_i y q
    rw [q] at e
    exact congrArg some e
  · rename_i q
    rw [q] at e
    have a : es.toList.any (·.refKey) = false := by
      rw [List.any_eq_false]
      intro y hy
      obtain ⟨z, t, hkey⟩ := hk y (Array.mem_toList_iff.mp hy)
      simp [DictEntry.refKey, hkey]
    have a' : ¬ es.toList.any (·.refKey) = true := by rw [a]; exact Bool.false_ne_true
    rw [if_neg a']
    exact congrArg some e

theorem ObjM.look {h : Heap} {x dx C : Addr} {mA : Str → Option Value} (I : ObjM h x dx C mA) : ∃ od, PySem.W.InstAt h x (PySem.W.instObj C dx) C (some od) ∧ ∀ name, PySem.W.lookIn name od = some (mA name) :=
  let ⟨od, ho, hl⟩ := lookIn_ns I.ns
  ⟨od, ⟨I.obj, rfl, rfl, ho⟩, hl⟩

section
variable {prog : Program} {w : World} {A : Around} {E : Value → Shared → Prop} {s : Shared} {K : PySem.W.Frag} {x dx C f : Addr} {mA : Str → Option Value} {name : Str} {v : Value}

end

/-! ### the attributes as a list of pairs -/
theorem RelO.some_of {v : V} {o : Option Value} (r : RelO (some v) o) : ∃ u, o = some u ∧ RelV v u := by
  cases o with
  | none => exact (show False from r).elim
  | some u => exact ⟨u, rfl, r⟩
theorem RelO.none_of {o : Option Value} (r : RelO none o) : o = none := by
  cases o with
  | none => rfl
  | some u => exact (show False from r).elim
section
variable {P : Program} {w : World} {H H' : Hp} {h h' : Heap} {a C dx : Addr} {fs fs' : List (Str × V)}
theorem ins_get (hok : HOk P w H h) (e : H a = some (.ins C dx fs)) : ∃ mA, ObjM h a dx C mA ∧ (∀ f, RelO (fs.lookup f) (mA f)) ∧ PySem.Within mA (fs.map (·.1)) ∧ fs.length ≤ 1000 ∧ H dx = some (.own a) := by
  obtain ⟨d, z, ne, ob, mA, n, r, q⟩ := (show ObjOk P w H h a (.ins C dx fs) from hok a _ e)
  exact ⟨mA, ⟨ob, n, ne⟩, r, q, z, d⟩
end

/-! ### what of the text a class must have -/
structure Cls (K : PySem.W.Frag) (C : Addr) : Prop where
  pg : PySem.W.plainGet K C Str.empty = true
  hd : PySem.W.hasDictIn K C = true
  po : PySem.W.plainOver K C = true
  sa : PySem.W.findIn K (.ref C) "__setattr__" = some (some (.builtin "object.__setattr__"))
theorem Cls.get {K : PySem.W.Frag} {C : Addr} (c : Cls K C) (f : Str) : PySem.W.plainGet K C f = true := c.pg
/-- a constant of the class -/
structure Con (K : PySem.W.Frag) (C : Addr) (f : Str) (v : V) (u : Value) : Prop where
  at_ : PySem.W.findIn K (.ref C) f = some (some u)
  rel : RelV v u
  get : PySem.W.specialIn K u "__get__" = some none
  cp : PySem.W.copiedNames.contains f = false
/-- a method: a plain def of the class or of one above it -/
structure Meth (K : PySem.W.Frag) (C : Addr) (m : Str) (f : Addr) : Prop where
  at_ : PySem.W.findIn K (.ref C) m = some (some (.ref f))
  fn : PySem.W.isFn K (.ref f) = true
  kp : PySem.W.keepIn K (.ref f) = true

section
variable {X : Cx} {pins : List (Addr × Obj)} {σ : St} {H : Hp} {s : Shared} {a C dx : Addr} {fs : List (Str × V)} {f : Str} {v : V} {A : Around} {E : Value → Shared → Prop}

/-- a new instance, tracked, without attributes -/
theorem Inv.made (I : Inv X pins σ H s) : Inv X pins σ (upd (upd H s.heap.objs.size (.own (s.heap.objs.size + 1))) (s.heap.objs.size + 1) (.ins C s.heap.objs.size []))
    { s with heap := (s.heap.push PySem.W.emptyDict).push (PySem.W.instObj C s.heap.objs.size) } := by
  have e1 : (s.heap.push PySem.W.emptyDict).get? s.heap.objs.size = some PySem.W.emptyDict := Heap.get?_push_size s.heap rfl
  have e2 : ((s.heap.push PySem.W.emptyDict).push (PySem.W.instObj C s.heap.objs.size)).get? (s.heap.objs.size + 1) = some (PySem.W.instObj C s.heap.objs.size) := by
    have := Heap.get?_push_size (s.heap.push PySem.W.emptyDict) (o := PySem.W.instObj C s.heap.objs.size) rfl
    rwa [Heap.size_push] at this
  have e3 : (s.heap.push PySem.W.emptyDict).Ns s.heap.objs.size (fun _ => none) := ⟨PySem.W.emptyDict, #[], _, e1, rfl, (fun e he => absurd he (by simp)), fun _ => rfl⟩
  have I1 := I.laid (a := s.heap.objs.size) (o := .own (s.heap.objs.size + 1)) (h' := s.heap.push PySem.W.emptyDict) (t' := s.toks) (fun b u q => Heap.get?_push_of_some _ q) (Nat.le_refl _) ⟨_, e1⟩
  refine I1.laid (a := s.heap.objs.size + 1) (o := .ins C s.heap.objs.size []) (t' := s.toks) (fun b u q => Heap.get?_push_of_some _ q) (Nat.le_of_eq (Heap.size_push _ _)) ?_
  have ne : s.heap.objs.size ≠ s.heap.objs.size + 1 := Nat.ne_of_lt (Nat.lt_succ_self _)
  refine ⟨by rw [upd_ne ne, upd_same], Nat.zero_le _, ne, e2, fun _ => none, (Heap.Ns1.of_empty e3).at fun o q => Heap.get?_push_of_some _ q, fun _ => True.intro, fun y hy => absurd rfl hy⟩

end

/-! ### readings and rules -/
section
variable {X : Cx} {o e value : Expr} {f : Str} {pos pos' tpos : Pos} {ta tv : TE}
end

/-! ### isinstance -/
section
variable {X : Cx} {pins : List (Addr × Obj)} {σ : St} {H : Hp} {s : Shared} {A : Around} {E : Value → Shared → Prop} {Q : Value → Shared → Prop} {c : Value} {b : Bool}
/-- the type of a value, as the fragment's deciders take it; for an instance its class -/
inductive TyOf (K : PySem.W.Frag) (H : Hp) : V → Value → Prop where
  | non : TyOf K H .non (.type "NoneType")
  | bl (x : Bool) : TyOf K H (.bl x) (.type "bool")
  | int (i : Int) : TyOf K H (.int i) (.type "int")
  | str (x : Str) : TyOf K H (.str x) (.type "str")
  | flt (x : UInt64) : TyOf K H (.flt x) (.type "float")
  | lst {a : Addr} {xs : List V} (e : H a = some (.lst xs)) : TyOf K H (.ref a) (.type "list")
  | frz {a : Addr} {o : Obj} {xs : List V} (e : H a = some (.frz o (.lst xs))) : TyOf K H (.ref a) (.type "list")
  | tup {a : Addr} {xs : List V} (e : H a = some (.tup xs)) : TyOf K H (.ref a) (.type "tuple")
  | dK {a : Addr} {kvs : List (Key × V)} (e : H a = some (.dK kvs)) : TyOf K H (.ref a) (.type "dict")
  | dT {a : Addr} {kvs : List (List Key × V)} (e : H a = some (.dT kvs)) : TyOf K H (.ref a) (.type "dict")
  | ins {a C dx : Addr} {fs : List (Str × V)} (e : H a = some (.ins C dx fs)) (cl : Cls K C) (ha : PySem.W.findIn K (.ref C) "__class__" = some (some (.builtin "object.__class__")))
      (hn : PySem.W.specialIn K (.builtin "object.__class__") "__get__" = some (some (.builtin "getset_descriptor.__get__"))) (htk : PySem.W.takesIn K (.builtin "object.__class__") = some true)
      (hm : PySem.W.mroIn K C (.type "object") = some true) : TyOf K H (.ref a) (.ref C)
/-- isinstance(x, c) for one class c, a built-in or an own one: kitOne's answer -/
theorem isinst_ok {x : V} {u t : Value} (I : Inv X pins σ H s) (rx : RelV x u) (ty : TyOf X.K H x t) (e : PySem.W.kitOne X.K t c = some b) (h : ∀ tk, Q (.bool b) { s with toks := tk }) :
    wpAny (model X.prog X.w) A (call (.builtin "isinstance") [u, c]) Q E s := by
  cases ty with
  | non => cases (show u = Value.none from rx); exact PySem.W.kia_one PySem.W.kitx_none I.kIn True.intro e (fun z => nomatch z) h
  | bl y => cases (show u = Value.bool y from rx); exact PySem.W.kia_one PySem.W.kitx_bool I.kIn True.intro e (fun z => nomatch z) h
  | int i => obtain ⟨t, q⟩ := (show ∃ t, u = Value.int i t from rx); cases q; exact PySem.W.kia_one PySem.W.kitx_int I.kIn True.intro e (fun z => nomatch z) h
  | str y => obtain ⟨t, q⟩ := (show ∃ t, u = Value.str y t from rx); cases q; exact PySem.W.kia_one PySem.W.kitx_str I.kIn True.intro e (fun z => nomatch z) h
  | flt y => obtain ⟨t, q⟩ := (show ∃ t, u = Value.float y t from rx); cases q; exact PySem.W.kia_one PySem.W.kitx_float I.kIn True.intro e (fun z => nomatch z) h
  | @lst a xs ea =>
    cases (show u = Value.ref a from rx)
    obtain ⟨_, _, n, _, h1⟩ := (show ObjOk X.prog X.w H s.heap a (.lst xs) from I.hok a _ ea)
    exact PySem.W.kia_one PySem.W.kitx_list I.kIn ⟨_, h1, rfl⟩ e (fun z => nomatch z) h
  | @frz a ob xs ea =>
    cases (show u = Value.ref a from rx)
    obtain ⟨_, _, _, n, _, h1⟩ := (show ObjOk X.prog X.w H s.heap a (.frz ob (.lst xs)) from I.hok a _ ea)
    exact PySem.W.kia_one PySem.W.kitx_list I.kIn ⟨_, h1, rfl⟩ e (fun z => nomatch z) h
  | @tup a xs ea =>
    cases (show u = Value.ref a from rx)
    obtain ⟨_, _, _, p⟩ := (show ObjOk X.prog X.w H s.heap a (.tup xs) from I.hok a _ ea)
    obtain ⟨o, h1, h2, _⟩ := p
    exact PySem.W.kia_one PySem.W.kitx_tuple I.kIn ⟨o, h1, h2⟩ e (fun z => nomatch z) h
  | @dK a kvs ea =>
    cases (show u = Value.ref a from rx)
    obtain ⟨_, _, vs, _, p⟩ := (show ObjOk X.prog X.w H s.heap a (.dK kvs) from I.hok a _ ea)
    obtain ⟨o, es, ep, h1, h2, _⟩ := p
    exact PySem.W.kia_one PySem.W.kitx_dict I.kIn ⟨o, h1, h2.1⟩ e (fun z => nomatch z) h
  | @dT a kvs ea =>
    cases (show u = Value.ref a from rx)
    obtain ⟨_, _, xs, _, o, es, ep, h1, h2, _⟩ := (show ObjOk X.prog X.w H s.heap a (.dT kvs) from I.hok a _ ea)
    exact PySem.W.kia_one PySem.W.kitx_dict I.kIn ⟨o, h1, h2.1⟩ e (fun z => nomatch z) h
  | @ins a C dx fs ea cl ha hn htk hm =>
    cases (show u = Value.ref a from rx)
    obtain ⟨mA, O, _⟩ := ins_get I.hok ea
    obtain ⟨od, J, _⟩ := O.look
    exact PySem.W.kia_one (PySem.W.kitx_own (cl.get _) cl.hd ha hn htk hm) I.kIn J e (fun z => nomatch z) h
end
end L2

namespace L2
open PySem PySem.Spec PyProof.Rows

/-! ### room -/
structure Room (k : Nat) (A : Around) : Prop where
  hd : A.handled = none
  dp : A.depth + 3 * k + 5 < recursionLimit
  un : A.units + 16 * k + 200 < cLine
theorem Room.mono {j k : Nat} {A : Around} (r : Room k A) (h : j ≤ k) : Room j A := ⟨r.hd, by have := r.dp; omega, by have := r.un; omega⟩
theorem Room.deeper {k : Nat} {A : Around} (r : Room (k + 1) A) (env : Env) : Room k (A.deeper env) :=
  ⟨r.hd, by have := r.dp; show A.depth + 1 + 3 * k + 5 < _; omega, by have := r.un; show A.units + 3 + 16 * k + 200 < _; omega⟩
theorem Room.in1 {k : Nat} {A : Around} (r : Room (k + 1) A) : Room k A.in1 :=
  ⟨r.hd, by have := r.dp; show A.depth + 3 * k + 5 < _; omega, by have := r.un; show A.units + 1 + 16 * k + 200 < _; omega⟩
theorem make_depth {A : Around} {C : Addr} {us : List Value} {kw : List (Str × Value)} : (A.under (.builtin "type.__call__" ⟨.ref C :: us, kw⟩)).depth = A.depth + 1 := by
  first | rfl | simp [Around.under, Code.weight, Code.isCreation, Code.isGuard, Code.isCaller, Code.frames, Code.isFrame, guardIds]
theorem make_units {A : Around} {C : Addr} {us : List Value} {kw : List (Str × Value)} : (A.under (.builtin "type.__call__" ⟨.ref C :: us, kw⟩)).units = A.units + 1 := by
  first | rfl | simp [Around.under, Code.cUnits, Code.frames, Code.isFrame]
theorem Room.make {k : Nat} {A : Around} (r : Room (k + 1) A) (C : Addr) (us : List Value) (kw : List (Str × Value)) : Room k (A.under (.builtin "type.__call__" ⟨.ref C :: us, kw⟩)) :=
  ⟨r.hd, by have := r.dp; rw [make_depth]; omega, by have := r.un; rw [make_units]; omega⟩
theorem Room.depth {k : Nat} {A : Around} (r : Room k A) : A.depth < recursionLimit := by have := r.dp; omega
theorem Room.units {k : Nat} {A : Around} (r : Room k A) : A.units + 64 < cLine := by have := r.un; omega
theorem Room.units0 {k : Nat} {A : Around} (r : Room k A) : A.units < cLine := by have := r.un; omega

/-! ### argument lists and displays -/
def tNil : TA := fun _ H Q => Q [] H
def tCons (ta : TE) (tr : TA) : TA := fun σ H Q => ta σ H fun x H1 => tr σ H1 fun xs H2 => Q (x :: xs) H2
section
variable {X : Cx} {e : Expr} {es : List Expr} {te : TE} {t : TA} {pos : Pos}
theorem pa_nil : PA X [] tNil := fun _ _ _ _ H Q I h => Calls.spliced_nil ⟨[], H, I, .nil, h⟩
theorem pa_cons (ha : PE X e te) (hr : PA X es t) (hs : starEach (e :: es) X.env = (false, eval e X.env) :: starEach es X.env := by rfl) : PA X (e :: es) (tCons te t) := by
  intro pos pins s σ H Q I h
  rw [hs]
  show wpAny _ _ (spliced ((false, eval e X.env) :: backTo pos (starEach es X.env))) _ _ s
  refine Calls.spliced_cons (thn (ha pins s σ H _ I h) fun u s1 ⟨x, H1, I1, r1, q1⟩ => ?_)
  exact thn (hr pos pins s1 σ H1 _ I1 q1) fun us s2 ⟨xs, H2, I2, r2, q2⟩ => ⟨x :: xs, H2, I2, .cons r1 r2, q2⟩

/-- a tuple, a list of written items -/
def tTup (t : TA) : TE := fun σ H Q => t σ H fun xs H1 => xs.length ≤ sizeLine ∧ ∀ p, H1 p = none → Q (.ref p) (upd H1 p (.tup xs))
def tLst (t : TA) : TE := fun σ H Q => t σ H fun xs H1 => xs.length ≤ sizeLine ∧ ∀ p, H1 p = none → Q (.ref p) (upd H1 p (.lst xs))
theorem pe_tup {x1} (h : PA X es t) : PE X (.Tuple es x1 pos) (tTup t) := by
  intro pins s σ H Q I hq
  refine wpAny_Tuple_spliced (thn (h pos pins s σ H _ I hq) fun us s1 ⟨xs, H1, I1, r, z, q⟩ => ⟨by rw [← r.length]; exact z, ?_⟩)
  have hf : H1 s1.heap.objs.size = none := I1.hok.fresh (Nat.le_refl _)
  refine ⟨.ref s1.heap.objs.size, upd H1 s1.heap.objs.size (.tup xs), I1.laid (t' := s1.toks) (fun b u e => Heap.get?_push_of_some _ e) (Nat.le_refl _) ?_, rfl, q _ hf⟩
  exact ⟨z, us, r, ⟨_, Heap.get?_push_size _ rfl, rfl, _, rfl⟩⟩
theorem pe_lst (h : PA X es t) : PE X (.List es pos) (tLst t) := by
  intro pins s σ H Q I hq
  refine wpAny_List_spliced (thn (h pos pins s σ H _ I hq) fun us s1 ⟨xs, H1, I1, r, z, q⟩ => ⟨by rw [← r.length]; exact z, ?_⟩)
  have hf : H1 s1.heap.objs.size = none := I1.hok.fresh (Nat.le_refl _)
  refine ⟨.ref s1.heap.objs.size, upd H1 s1.heap.objs.size (.lst xs), I1.laid (t' := s1.toks) (fun b u e => Heap.get?_push_of_some _ e) (Nat.le_refl _) ?_, rfl, q _ hf⟩
  exact ⟨z, us, 0, r, Heap.get?_push_size _ rfl⟩
end

/-! ### what a def promises -/
/-- a def's promise: the bound arguments in the parameters' order, the heap, the wanted end, the wanted exception -/
abbrev Sp := List V → Hp → VK → XK → Prop
/-- how an exception lies behind a call (file 08 gives it): the callers' frames, abstract heap and state ahead of the call, the wish, the exception, the state -/
abbrev CXT := List Env → Hp → Shared → XK → Value → Shared → Prop

/-- the state at a call -/
structure Env0 (P : Program) (w : World) (K : PySem.W.Frag) (mg : Str → Option Value) (base : Heap) (A : Around) (outer : List Env) (s : Shared) (H : Hp) : Prop where
  frames : A.frames = some outer
  mod : Mod K mg base
  bs : ∀ b o, base.get? b = some o → s.heap.get? b = some o ∧ H b = none
  bsz : base.objs.size ≤ s.heap.objs.size
  funs : s.heap.FunFrames base outer
  frf : ∀ b ∈ frs outer, H b = none
  hok : HOk P w H s.heap
  bare : AllBare s.gens
/-- a call's end -/
def CE (outer : List Env) (P : Program) (w : World) (H : Hp) (s : Shared) (Q : VK) (u : Value) (s' : Shared) : Prop :=
  ∃ v H', s'.os = s.os ∧ AllBare s'.gens ∧ Un (frs outer) [] H H' s.heap s'.heap ∧ HOk P w H' s'.heap ∧ RelV v u ∧ Q v H'
def CR (CX : CXT) (outer : List Env) (P : Program) (w : World) (H : Hp) (s : Shared) (Q : VK) (E : XK) (r : Result) (s' : Shared) : Prop :=
  match r with
  | .ok (.ret u) => CE outer P w H s Q u s'
  | .ok _ => False
  | .error e => CX outer H s E e s'
structure FnOk (P : Program) (w : World) (K : PySem.W.Frag) (mg : Str → Option Value) (base : Heap) (CX : CXT) (k : Nat) (f : Addr) (fd : FuncData) (ps : List Str) (sp : Sp) : Prop where
  len : ∀ vs H Q E, sp vs H Q E → vs.length = ps.length
  run : ∀ (A : Around) (outer : List Env) (s : Shared) (H : Hp) (args : Args) (us : List Value) (vs : List V) (Q : VK) (E : XK), Room k A → Env0 P w K mg base A outer s H → BindsTo s fd args (ps.zip us) → Vals vs us → sp vs H Q E →
    codeAny (model P w) A (.call (.ref f) args) (CR CX outer P w H s Q E) s
theorem FnOk.mono {P : Program} {w : World} {K : PySem.W.Frag} {mg : Str → Option Value} {base : Heap} {CX : CXT} {j k : Nat} {f : Addr} {fd : FuncData} {ps : List Str} {sp : Sp} (F : FnOk P w K mg base CX j f fd ps sp) (h : j ≤ k) :
    FnOk P w K mg base CX k f fd ps sp := ⟨F.len, fun A outer s H args us vs Q E hr => F.run A outer s H args us vs Q E (hr.mono h)⟩
/-- a weaker promise -/
theorem FnOk.imp {P : Program} {w : World} {K : PySem.W.Frag} {mg : Str → Option Value} {base : Heap} {CX : CXT} {k : Nat} {f : Addr} {fd : FuncData} {ps : List Str} {sp sp' : Sp} (F : FnOk P w K mg base CX k f fd ps sp)
    (h : ∀ vs H Q E, sp' vs H Q E → sp vs H Q E) : FnOk P w K mg base CX k f fd ps sp' :=
  ⟨fun vs H Q E q => F.len vs H Q E (h _ _ _ _ q), fun A outer s H args us vs Q E hr he hb hv hs => F.run A outer s H args us vs Q E hr he hb hv (h _ _ _ _ hs)⟩

theorem Env0.make {P : Program} {w : World} {K : PySem.W.Frag} {mg : Str → Option Value} {base : Heap} {A : Around} {outer : List Env} {s : Shared} {H : Hp} (e : Env0 P w K mg base A outer s H) (C : Addr) (us : List Value) (kw : List (Str × Value)) :
    Env0 P w K mg base (A.under (.builtin "type.__call__" ⟨.ref C :: us, kw⟩)) outer s H := ⟨by first | exact e.frames | (simpa [Around.under, Code.envs, Code.isFrame, pushEnvs] using e.frames), e.mod, e.bs, e.bsz, e.funs, e.frf, e.hok, e.bare⟩
theorem Env0.in1 {P : Program} {w : World} {K : PySem.W.Frag} {mg : Str → Option Value} {base : Heap} {A : Around} {outer : List Env} {s : Shared} {H : Hp} (e : Env0 P w K mg base A outer s H) :
    Env0 P w K mg base A.in1 outer s H := ⟨e.frames, e.mod, e.bs, e.bsz, e.funs, e.frf, e.hok, e.bare⟩

section
variable {X : Cx} {pins : List (Addr × Obj)} {σ : St} {H : Hp} {s s' : Shared}
/-- from a body: what a callee wants -/
theorem Inv.env0 (I : Inv X pins σ H s) : Env0 X.prog X.w X.K X.mg X.base X.A X.stack s H :=
  ⟨I.ok.frames, I.ok.mod, I.bs, Nat.le_trans I.ok.bsz I.sz, I.stack, I.stkFree, I.hok, I.bare⟩
/-- behind a call -/
theorem Inv.after {Q : VK} {u : Value} (I : Inv X pins σ H s) (h : CE X.stack X.prog X.w H s Q u s') : EP X pins σ Q u s' := by
  obtain ⟨v, H', os, bare, un, hok, r, q⟩ := h
  obtain ⟨hh, g, d, t, os'⟩ := s'
  obtain rfl : os' = s.os := os
  exact ⟨v, H', I.call (h' := hh) (g' := g) (d' := d) (t' := t) (ch := []) un hok bare (fun b z => absurd z (by simp)), r, q⟩
end

/-! ### calls -/
/-- f(..): the written arguments, then the defaults dvs; E: what is wanted of an exception -/
def tCall (sp : Sp) (dvs : List V) (E : XK) (t : TA) : TE := fun σ H Q => t σ H fun vs H1 => sp (vs ++ dvs) H1 Q E
/-- how the parameters are bound: us the positional arguments, kw the keywords' values by name, ds the defaults that fill up -/
def Binds (K : PySem.W.Frag) (fd : FuncData) (ps : List Str) (ds : List Value) : Prop :=
  ∀ (s : Shared) (us : List Value), K.In s.heap → (us ++ ds).length = ps.length → BindsTo s fd ⟨us, []⟩ (ps.zip (us ++ ds))
/-- every parameter is given -/
theorem Binds.all {K : PySem.W.Frag} {fd : FuncData} {ps : List Str} (h : ∀ us : List Value, us.length = ps.length → bindArgs fd ⟨us, []⟩ = pure (ps.zip us)) : Binds K fd ps [] := fun s us _ hl => by
  rw [List.append_nil] at hl ⊢
  exact .of_eq (h us hl)

/-- an exception of a callee reaches what this body wants of exceptions -/
def Passes (CX : CXT) (X : Cx) (E : XK) : Prop := ∀ (pins : List (Addr × Obj)) (σ : St) (H : Hp) (s : Shared) (e : Value) (s' : Shared), Inv X pins σ H s → CX X.stack H s E e s' → X.xe e s'

section
variable {X : Cx} {CX : CXT} {k : Nat} {f C : Addr} {fd : FuncData} {ps : List Str} {sp : Sp} {dvs : List V} {ds : List Value} {E : XK} {x m : Str} {p pos apos : Pos} {e o : Expr} {es : List Expr} {ta : TE} {t : TA}

/-- the callee runs -/
theorem run_fn {pins : List (Addr × Obj)} {σ : St} {H : Hp} {s : Shared} {Q : VK} {us : List Value} {vs : List V} (F : FnOk X.prog X.w X.K X.mg X.base CX k f fd ps sp) (hr : Room k X.A) (hb : Binds X.K fd ps ds) (hd : Vals dvs ds) (hx : Passes CX X E)
    (I : Inv X pins σ H s) (r : Vals vs us) (h : sp (vs ++ dvs) H Q E) : wpAny (model X.prog X.w) X.A (call (.ref f) us) (EP X pins σ Q) X.xe s := by
  have r2 : Vals (vs ++ dvs) (us ++ ds) := r.append hd
  have hl : (us ++ ds).length = ps.length := by rw [← r2.length]; exact F.len _ _ _ _ h
  refine wpAny_call (codeAny_mono (F.run X.A X.stack s H ⟨us, []⟩ (us ++ ds) (vs ++ dvs) Q E hr I.env0 (hb s us I.kIn hl) r2 h) fun r s' hq => ?_)
  cases r with
  | error e => exact hx pins σ H s e s' I hq
  | ok fl =>
    cases fl with
    | ret u => exact I.after hq
    | next => exact False.elim hq
    | brk => exact False.elim hq
    | cont => exact False.elim hq

theorem pe_call (F : FnOk X.prog X.w X.K X.mg X.base CX k f fd ps sp) (hr : Room k X.A) (hg : Gl X x) (hm : X.mg x = some (.ref f)) (hk : PySem.W.keepIn X.K (.ref f) = true) (hb : Binds X.K fd ps ds) (hd : Vals dvs ds) (hx : Passes CX X E)
    (ha : PA X (e :: es) t) (hdb : (x == ("__debug__" : Str)) = false := by decide) (he : starEach (e :: es) X.env = (false, eval e X.env) :: starEach es X.env := by rfl) (hpl : (backTo pos (starEach es X.env)).any (·.1) = false := by rfl) :
    PE X (.Call (.Name x p) (e :: es) [] pos) (tCall sp dvs E t) := by
  intro pins s σ H Q I h
  refine wpAny_Call_Name_kw (ld_glob I hg hm ?_ hdb)
  refine PySem.W.callWith_K (h₀ := X.base) I.ok.mod.kin hk (thn (ha pos pins s σ H _ I h) fun us s1 ⟨vs, H1, I1, r, q⟩ => ⟨I1.kIn, ?_⟩) he hpl
  exact run_fn F hr hb hd hx I1 r q
/-- what a class must have to be made -/
structure Mk (K : PySem.W.Frag) (C f : Addr) : Prop where
  makes : PySem.W.makesIn K C = true
  init : PySem.W.findIn K (.ref C) "__init__" = some (some (.ref f))
  fn : PySem.W.isFn K (.ref f) = true
  kp : PySem.W.keepIn K (.ref C) = true

end

/-! ### keywords -/
section
variable {X : Cx} {CX : CXT} {k : Nat} {f C : Addr} {fd : FuncData} {ps ks : List Str} {sp : Sp} {E : XK} {x m : Str} {p pos apos kpos : Pos} {e o : Expr} {es : List Expr} {kws : List Keyword} {te ta : TE} {t tk : TA} {nm : Option Str}
/-- how a call with keywords binds: g puts the positional values us and the keywords' values ws (names ks) in the parameters' order, defaults among them -/
structure KBinds (K : PySem.W.Frag) (fd : FuncData) (ps ks : List Str) (g : List Value → List Value → List Value) (gV : List V → List V → List V) : Prop where
  to : ∀ (s : Shared) (us ws : List Value), K.In s.heap → (g us ws).length = ps.length → BindsTo s fd ⟨us, ks.zip ws⟩ (ps.zip (g us ws))
  rel : ∀ {vs : List V} {us : List Value} {zs : List V} {ws : List Value}, Vals vs us → Vals zs ws → Vals (gV vs zs) (g us ws)
variable {g : List Value → List Value → List Value} {gV : List V → List V → List V}
end

/-! ### a def's body keeps its promise -/
/-- names: the parameters first -/
structure FnScope (N P : List Str) (sc : Scope) : Prop where
  kind : sc.kind = .function
  co : sc.isCoroutine = false
  gen : sc.isGenerator = false
  nd : N.Nodup
  pre : N.take P.length = P
  par : ∀ x ∈ P, sc.names.lookup x = some .local ∨ sc.names.lookup x = some .cell
  nofree : ∀ y ∈ sc.names, y.2 ≠ .free

theorem bindL_out {kindOf : Str → Option NameKind} {x : Str} : ∀ {binds : List (Str × Value)} {m : Str → Option Value}, (∀ v, (x, v) ∉ binds) → bindL kindOf binds m x = m x
  | [], _, _ => rfl
  | (n, v) :: r, m, h => by
    unfold bindL
    rw [bindL_out fun w hw => h w (List.mem_cons_of_mem _ hw)]
    split
    · have : x ≠ n := by rintro rfl; exact h v List.mem_cons_self
      simp [this]
    · rfl
theorem bindC_out {kindOf : Str → Option NameKind} {x : Str} : ∀ {binds : List (Str × Value)} {m : Str → Option Value}, (∀ v, (x, v) ∉ binds) → bindC kindOf binds m x = m x
  | [], _, _ => rfl
  | (n, v) :: r, m, h => by
    unfold bindC
    rw [bindC_out fun w hw => h w (List.mem_cons_of_mem _ hw)]
    split
    · rfl
    · have : x ≠ n := by rintro rfl; exact h v List.mem_cons_self
      simp [this]
theorem bindL_get {kindOf : Str → Option NameKind} {x : Str} {v : Value} : ∀ {P : List Str} {vs : List Value} {i : Nat} {m : Str → Option Value}, P.Nodup → P[i]? = some x → vs[i]? = some v → kindOf x = some .local →
    bindL kindOf (P.zip vs) m x = some v
  | [], _, _, _, _, h, _, _ => by simp at h
  | _ :: _, [], _, _, _, _, h, _ => by simp at h
  | p :: P, w :: vs, 0, m, nd, h1, h2, hk => by
    simp at h1 h2; subst h1; subst h2
    show bindL kindOf ((p, w) :: P.zip vs) m p = _
    unfold bindL
    rw [bindL_out fun v hv => (List.nodup_cons.mp nd).1 (List.of_mem_zip hv).1, if_pos hk]
    simp
  | p :: P, w :: vs, i + 1, m, nd, h1, h2, hk => by
    show bindL kindOf ((p, w) :: P.zip vs) m x = _
    unfold bindL
    exact bindL_get (i := i) (List.nodup_cons.mp nd).2 (by simpa using h1) (by simpa using h2) hk
theorem bindC_get {kindOf : Str → Option NameKind} {x : Str} {v : Value} : ∀ {P : List Str} {vs : List Value} {i : Nat} {m : Str → Option Value}, P.Nodup → P[i]? = some x → vs[i]? = some v → kindOf x ≠ some .local →
    bindC kindOf (P.zip vs) m x = some v
  | [], _, _, _, _, h, _, _ => by simp at h
  | _ :: _, [], _, _, _, _, h, _ => by simp at h
  | p :: P, w :: vs, 0, m, nd, h1, h2, hk => by
    simp at h1 h2; subst h1; subst h2
    show bindC kindOf ((p, w) :: P.zip vs) m p = _
    unfold bindC
    rw [bindC_out fun v hv => (List.nodup_cons.mp nd).1 (List.of_mem_zip hv).1, if_neg hk]
    simp
  | p :: P, w :: vs, i + 1, m, nd, h1, h2, hk => by
    show bindC kindOf ((p, w) :: P.zip vs) m x = _
    unfold bindC
    exact bindC_get (i := i) (List.nodup_cons.mp nd).2 (by simpa using h1) (by simpa using h2) hk

/-- the names' values at the entry -/
def start (N : List Str) (vs : List V) : St := vs.map some ++ List.replicate (N.length - vs.length) none

/-- the context of a def's body, at its entry; an exception leaves the frame, then lies as CX says -/
def cxOf (CX : CXT) (P : Program) (w : World) (K : PySem.W.Frag) (mg : Str → Option Value) (base : Heap) (N : List Str) (qual : Str) (scope : Scope) (f : Addr) (cd : Value) (A : Around) (outer : List Env) (s : Shared) (H : Hp) (E : XK) : Cx where
  prog := P
  w := w
  K := K
  mg := mg
  base := base
  A := A.deeper (envOfC qual scope s.heap.objs.size f cd)
  N := N
  s₀ := s
  H₀ := H
  env := envOfC qual scope s.heap.objs.size f cd
  outer := outer
  stack := envOfC qual scope s.heap.objs.size f cd :: outer
  ex := []
  calm := true
  fn := fun _ => true
  pn := []
  xe := fun e s' => wpAny (model P w) (A.deeper (envOfC qual scope s.heap.objs.size f cd)) (leaving (envOfC qual scope s.heap.objs.size f cd) e) (fun _ s'' => CX outer H s E e s'') (fun e' s'' => CX outer H s E e' s'') s'

theorem cell_has {sc : Scope} {n : Nat} {x : Str} (h : sc.names.lookup x = some .cell) : ∃ c, (cellsFrom n sc.names []).lookup x = some c := by
  have q := PySem.W.cellsFrom_some sc.names n [] (.inl h)
  exact Option.isSome_iff_exists.mp q

theorem inv_start {CX : CXT} {P : Program} {w : World} {K : PySem.W.Frag} {mg : Str → Option Value} {base : Heap} {N ps : List Str} {qual : Str} {scope : Scope} {f : Addr} {cd : Value} {A : Around} {outer : List Env} {s s1 : Shared} {H : Hp} {E : XK} {us : List Value} {vs : List V}
    (S : FnScope N ps scope) (hd : A.handled = none) (e0 : Env0 P w K mg base A outer s H) (hl : vs.length = ps.length) (r : Vals vs us)
    (x : InCallC s s.heap.objs.size (bindL (envOfC qual scope s.heap.objs.size f cd).kindOf (ps.zip us) fun _ => none) (cellsFrom (s.heap.objs.size + 1) scope.names []) (bindC (envOfC qual scope s.heap.objs.size f cd).kindOf (ps.zip us) fun _ => none) s1) :
    Inv (cxOf CX P w K mg base N qual scope f cd A outer s H E) [] (start N vs) H s1 := by
  have hpl : ps.length ≤ N.length := by have := congrArg List.length S.pre; rw [List.length_take] at this; omega
  obtain ⟨h1, tk, rfl, hk⟩ := x.done
  have noA : ∀ b : Addr, b ∉ (cxOf CX P w K mg base N qual scope f cd A outer s H E).ex := fun b z => absurd (show b ∈ ([] : List Addr) from z) (by simp)
  refine ⟨⟨e0.mod, S.kind, rfl, rfl, Nat.le_refl _, fun y z c h1 h2 => ?_, fun y hy => ?_, fun y c _ h => ?_, fun _ => hd, Around.frames_deeper e0.frames, .inr ⟨rfl, rfl⟩, fun b z => absurd z (noA b), e0.bs, e0.bsz, fun b _ _ => noA b, fun b z => absurd z (noA b), e0.funs, e0.frf⟩,
    rfl, e0.bare, Un.kept hk, ⟨_, x.toInCall.ns, fun i y v h1 h2 h3 => ?_⟩, fun y c h => ⟨_, x.cell y c h⟩, e0.hok.fresh (Nat.le_refl _), fun y c h => ?_, fun p hp => absurd (show p ∈ ([] : List (Addr × Obj)) from hp) (by simp), e0.hok.kept hk, ?_⟩
  · exact name_of_addr x.apart (PySem.mem_of_lookup h1) (PySem.mem_of_lookup h2)
  · have hy : scope.names.lookup y = some .cell ∨ scope.names.lookup y = some .free := hy
    rcases hy with hy | hy
    · exact cell_has hy
    · exact absurd rfl (S.nofree _ (PySem.mem_of_lookup hy))
  · exact Nat.le_of_lt (x.above y c (PySem.mem_of_lookup h))
  · have hi : i < vs.length := by
      unfold start at h2
      by_cases hi : i < vs.length
      · exact hi
      · rw [List.getElem?_append_right (by simpa using hi)] at h2
        rw [List.getElem?_replicate] at h2
        split at h2 <;> cases h2
    have ha : vs[i]? = some v := by
      unfold start at h2
      rw [List.getElem?_append_left (by simpa using hi), List.getElem?_map] at h2
      cases e : vs[i]? with
      | none => rw [e] at h2; cases h2
      | some a => rw [e] at h2; cases h2; rfl
    obtain ⟨u, hu, rv⟩ := r.get ha
    have hp : ps[i]? = some y := by
      rw [← S.pre, List.getElem?_take_of_lt (by omega)]; exact h1
    have ndP : ps.Nodup := by rw [← S.pre]; exact S.nd.sublist (List.take_sublist _ _)
    refine ⟨u, rv, ?_⟩
    rcases S.par y (List.mem_of_getElem? hp) with k | k
    · exact .inl ⟨k, bindL_get ndP hp hu k⟩
    · obtain ⟨c, e⟩ := cell_has (n := s.heap.objs.size + 1) k
      refine .inr ⟨.inl k, c, e, ?_⟩
      have q := x.cell y c e
      rw [bindC_get ndP hp hu (by show scope.names.lookup y ≠ _; rw [k]; decide)] at q
      exact q
  · exact e0.hok.fresh (Nat.le_of_lt (x.above y c (PySem.mem_of_lookup h)))
  · unfold start
    show _ = N.length
    rw [List.length_append, List.length_map, List.length_replicate]
    omega

/-- THE RULE: a def (or a method) of the text, by its body. The body's reading t is chosen for each entry; it is run at the parameters' values -/
theorem fn_of {CX : CXT} {P : Program} {w : World} {K : PySem.W.Frag} {mg : Str → Option Value} {base : Heap} {k : Nat} {f : Addr} {name qual : Str} {params : Arguments} {body : List Stmt} {scope : Scope} {dV kV doc pm cdv ct oc : Value} {an od : Option Addr}
    {osl : Array (Option Value)} {N ps : List Str} {sp : Sp} (lk : K.lookup f = some ⟨oc, od, .func (PySem.W.fnOf name qual params body scope dV kV doc pm an cdv ct), osl⟩) (hcd : PySem.W.codeIn K cdv qual = true) (S : FnScope N ps scope)
    (len : ∀ vs H Q E, sp vs H Q E → vs.length = ps.length)
    (hbody : ∀ (A : Around) (outer : List Env) (s : Shared) (H : Hp) (vs : List V) (Q : VK) (E : XK), Room k (A.deeper (envOfC qual scope s.heap.objs.size f cdv)) → sp vs H Q E →
      ∃ t, PSs (cxOf CX P w K mg base N qual scope f cdv A outer s H E) body t ∧ t { nx := fun _ H' => Q .non H', rt := Q } (start N vs) H) :
    FnOk P w K mg base CX (k + 1) f (PySem.W.fnOf name qual params body scope dV kV doc pm an cdv ct) ps sp := by
  refine ⟨len, fun A outer s H args us vs Q E hr e0 hb r hsp => ?_⟩
  have hl := len _ _ _ _ hsp
  have KX : K.In s.heap := e0.mod.kin.keeps fun b o e => (e0.bs b o e).1
  have lim : s.heap.NoLimit := e0.mod.nolimit.keeps fun b o e => (e0.bs b o e).1
  have hkind : ∀ y ∈ ps.zip us, scope.names.lookup y.1 = some .local ∨ (scope.names.lookup y.1 = some .cell ∧ ((cellsFrom (s.heap.objs.size + 1) scope.names []).lookup y.1).isSome = true) := fun ⟨n, v⟩ hy => by
    rcases S.par n (List.of_mem_zip hy).1 with q | q
    · exact .inl q
    · exact .inr ⟨q, PySem.W.cellsFrom_some _ _ _ (.inl q)⟩
  refine codeAny_call_function hr.depth (KX _ _ lk) rfl S.co S.gen rfl (PySem.W.codeRec_of KX hcd) (hb _ _ _ _ ?_)
  refine wpAny_newFunctionEnv_cells S.kind hkind fun env he s1 x => ?_
  subst he
  refine ⟨lim.keeps x.toInCall.keep, codeAny_func ?_⟩
  obtain ⟨t, ht, hq⟩ := hbody A outer s H vs Q E (hr.deeper _) hsp
  have I : Inv (cxOf CX P w K mg base N qual scope f cdv A outer s H E) [] (start N vs) H s1 := inv_start S hr.hd e0 hl r x
  refine wpAny_mono (ht [] s1 (start N vs) H _ I hq) (fun fl s' hs => ?_) fun e s' hs => hs
  have fin : ∀ {σ' : St} {H' : Hp} {v : V} {u : Value}, Inv (cxOf CX P w K mg base N qual scope f cdv A outer s H E) [] σ' H' s' → RelV v u → Q v H' → CE outer P w H s Q u s' :=
    fun {σ' H' v u} J rv q => ⟨v, H', J.os, J.bare, J.base, J.hok, rv, q⟩
  cases fl with
  | ret u =>
    obtain ⟨v, σ', H', J, rv, q⟩ := hs
    exact fin J rv q
  | next =>
    obtain ⟨σ', H', J, q⟩ := hs
    exact fin (v := V.non) (u := Value.none) J rfl q
  | brk =>
    obtain ⟨_, _, _, q⟩ := hs
    exact False.elim q
  | cont =>
    obtain ⟨_, _, _, q⟩ := hs
    exact False.elim q
end L2

namespace L2
open PySem PySem.Spec PyProof.Rows
section
variable {X : Cx} {x : Str} {p pos : Pos} {e : Expr} {es : List Expr} {t : TA} {id T : String} {r : List V → Hp → VK → Prop}

def tCB (r : List V → Hp → VK → Prop) (t : TA) : TE := fun σ H Q => t σ H fun vs H1 => r vs H1 Q
/-- f(e, ..), f a built-in function -/
theorem pe_callB (hc : CallR X (.builtin id) r) (hg : Gl X x) (hm : X.mg x = none) (hv : bootBuiltins x = some (.builtin id)) (ha : PA X (e :: es) t) (hn : x ≠ "__name__" := by decide) (hdb : (x == ("__debug__" : Str)) = false := by decide)
    (he : starEach (e :: es) X.env = (false, eval e X.env) :: starEach es X.env := by rfl) (hpl : (backTo pos (starEach es X.env)).any (·.1) = false := by rfl) : PE X (.Call (.Name x p) (e :: es) [] pos) (tCB r t) := by
  intro pins s σ H Q I h
  refine wpAny_Call_Name_kw (ld_blt I hg hm hv ?_ hn hdb)
  exact PyProof.Rows.callWith_builtin1 (thn (ha pos pins s σ H _ I h) fun us s1 ⟨vs, H1, I1, r1, q1⟩ => hc pins s1 σ H1 vs us Q I1 r1 q1) he hpl
/-- T(e, ..), T a built-in type -/
theorem pe_callTy (hc : CallR X (.type T) r) (hg : Gl X x) (hm : X.mg x = none) (hv : bootBuiltins x = some (.type T)) (ha : PA X (e :: es) t) (hn : x ≠ "__name__" := by decide) (hdb : (x == ("__debug__" : Str)) = false := by decide)
    (he : starEach (e :: es) X.env = (false, eval e X.env) :: starEach es X.env := by rfl) (hpl : (backTo pos (starEach es X.env)).any (·.1) = false := by rfl) : PE X (.Call (.Name x p) (e :: es) [] pos) (tCB r t) := by
  intro pins s σ H Q I h
  refine wpAny_Call_Name_kw (ld_blt I hg hm hv ?_ hn hdb)
  exact PyProof.Rows.callWith_type1 (thn (ha pos pins s σ H _ I h) fun us s1 ⟨vs, H1, I1, r1, q1⟩ => hc pins s1 σ H1 vs us Q I1 r1 q1) he hpl
end
end L2

namespace HT
open PySem PyProof.Rows

section
open PySem.SeqAt
open PySem.AutoSeq1 (wpAny_loadPart')
open PySem.MeetsSeq PySem.MeetsSeq2 PySem.MeetsSeq3

end

section
variable {prog : Program} {w : World} {A : Around} {E : Value → Shared → Prop} {s : Shared}

/-- t + u, t not empty -/
theorem cat_tup {t b : Addr} {vs ws : List Value} {Q : Value → Shared → Prop} (ht : IsTup s.heap t vs.toArray) (hb : IsTup s.heap b ws.toArray) (hv : vs ≠ [])
    (h1 : ws = [] → Q (.ref t) s) (h2 : ws ≠ [] → Q (.ref s.heap.objs.size) { s with heap := s.heap.push { cls := .type "tuple", data := .seq (vs ++ ws).toArray } })
    (hsz : vs.length + ws.length ≤ sizeLine) : wpAny (model prog w) A (binaryOp .Add (.ref t) (.ref b)) Q E s := by
  obtain ⟨⟨cls, dd, data, sl⟩, ho, hc, n, hd⟩ := id ht
  obtain ⟨⟨cls2, dd2, data2, sl2⟩, ho2, hc2, n2, hd2⟩ := id hb
  simp only at hc hd hc2 hd2
  subst hc hd hc2 hd2
  have e : vs.toArray ++ ws.toArray = (vs ++ ws).toArray := by simp
  by_cases hw : ws = []
  · exact concat_meets ⟨_, ho, rfl⟩ ⟨_, ho2, rfl⟩ noFill_tuple_add seq_tuple_add PySem.F.slot_tuple_add PySem.F.entry_tuple_add (PySem.F.args_tuple_add_2 _ _)
      (tuple_addW1 t b vs.toArray ws.toArray n n2 dd dd2 sl sl2 (by simpa using hv) (by simp [hw])) ⟨ho, ho2, h1 hw⟩
  · refine concat_meets ⟨_, ho, rfl⟩ ⟨_, ho2, rfl⟩ noFill_tuple_add seq_tuple_add PySem.F.slot_tuple_add PySem.F.entry_tuple_add (PySem.F.args_tuple_add_2 _ _)
      (tuple_addW2 t b vs.toArray ws.toArray n n2 dd dd2 sl sl2 (by simpa using hv) (by simpa using hw) (by rw [List.size_toArray, List.size_toArray]; exact hsz)) ⟨ho, ho2, ?_⟩
    rw [e]
    exact h2 hw

/-! ### t[a:b], not the whole -/
/-- a slice's bound as a place among n (d where it is left out) -/
def sIx (n d : Nat) : Option Int → Nat
  | none => d
  | some v => if v < 0 then (v + (n : Int)).toNat else min v.toNat n
theorem sIx_none (n d : Nat) : sIx n d none = d := rfl
theorem sIx_nat (n d k : Nat) : sIx n d (some (k : Int)) = min k n := by
  show (if (k : Int) < 0 then ((k : Int) + (n : Int)).toNat else min (k : Int).toNat n) = min k n
  rw [if_neg (by omega), Int.toNat_natCast]
theorem sIx_le (n d : Nat) (hd : d ≤ n) (o : Option Int) : sIx n d o ≤ n := by
  cases o with
  | none => exact hd
  | some v =>
    show (if v < 0 then (v + (n : Int)).toNat else min v.toNat n) ≤ n
    by_cases hv : v < 0
    · rw [if_pos hv]; omega
    · rw [if_neg hv]; exact Nat.min_le_right _ _
theorem clip_eq (v : Int) (n d : Nat) : (if v < 0 then max (v + (n : Int)) 0 else min v (n : Int)) = ((sIx n d (some v) : Nat) : Int) := by
  show (if v < 0 then max (v + (n : Int)) 0 else min v (n : Int)) = (((if v < 0 then (v + (n : Int)).toNat else min v.toNat n) : Nat) : Int)
  by_cases hv : v < 0
  · simp only [if_pos hv]; omega
  · simp only [if_neg hv]; omega
theorem adjust_gen (lo hi : Option Int) (n : Nat) : Builtin.Slice.sliceAdjust lo hi 1 (n : Int) = (((sIx n 0 lo : Nat) : Int), ((sIx n n hi : Nat) : Int)) := by
  have h1 : ¬ ((1 : Int) < 0) := by omega
  unfold Builtin.Slice.sliceAdjust
  simp only [h1, if_false]
  refine Prod.ext ?_ ?_
  · cases lo with
    | none => rfl
    | some v => exact clip_eq v n 0
  · cases hi with
    | none => rfl
    | some v => exact clip_eq v n n
theorem places_gen (i j : Nat) : Builtin.Slice.slicePlaces (i : Int) (j : Int) 1 = j - i := by
  unfold Builtin.Slice.slicePlaces
  have h1 : (1 : Int) > 0 := by omega
  simp only [h1, if_true, Int.ediv_one]
  split <;> omega
theorem slicePart_ {v : Value} {o : Option Int} {Q : Option Int → Shared → Prop} (p : IsPart v o) (h : Q o s) : wpAny (model prog w) A (Builtin.Slice.slicePartIndex v) Q E s := by
  cases p with
  | none => exact slicePart_none h
  | int i t => exact slicePart_int h
theorem sliceApplied_gen {sl : Addr} {vl vu : Value} {lo hi : Option Int} {n : Nat} {Q : Int × Int × Nat → Shared → Prop} (hs : s.heap.IsSliceOf sl vl vu .none) (pl : IsPart vl lo) (pu : IsPart vu hi)
    (h : Q (((sIx n 0 lo : Nat) : Int), 1, sIx n n hi - sIx n 0 lo) s) : wpAny (model prog w) A (Builtin.Slice.sliceApplied (.ref sl) (pure (n : Int))) Q E s := by
  obtain ⟨os, hos, hcs, hds⟩ := id hs
  unfold Builtin.Slice.sliceApplied Builtin.Slice.sliceFields
  refine wpAny_bind (wpAny_bind (wpAny_field hos hds (x := vl) rfl (wpAny_bind (wpAny_field hos hds (x := vu) rfl (wpAny_bind (wpAny_field hos hds (x := .none) rfl (wpAny_pure ?_)))))))
  refine wpAny_bind (slicePart_none ?_)
  show wpAny _ _ (if ((1 : Int) == 0) = true then _ else _) _ _ s
  rw [if_neg (by decide)]
  refine wpAny_bind (slicePart_ pl (wpAny_bind (slicePart_ pu (wpAny_bind (wpAny_pure ?_)))))
  show wpAny _ _ (match Builtin.Slice.sliceAdjust lo hi 1 (n : Int) with | (lo, hi) => pure (lo, (1 : Int), Builtin.Slice.slicePlaces lo hi 1)) _ _ s
  rw [adjust_gen lo hi n]
  show wpAny _ _ (pure (((sIx n 0 lo : Nat) : Int), (1 : Int), Builtin.Slice.slicePlaces ((sIx n 0 lo : Nat) : Int) ((sIx n n hi : Nat) : Int) 1)) _ _ s
  rw [places_gen]
  exact wpAny_pure h
theorem pick_gen (xs : Array Value) (i k : Nat) : ((List.range k).filterMap fun (m : Nat) => xs[((i : Int) + (m : Int) * 1).toNat]?).toArray = ((xs.toList.drop i).take k).toArray := by
  have e : (fun (m : Nat) => xs[((i : Int) + (m : Int) * 1).toNat]?) = fun m => xs[i + m]? := by
    funext m
    have : ((i : Int) + (m : Int) * 1).toNat = i + m := by omega
    rw [this]
  rw [e]
  have := pick_run xs i k
  rw [List.filterMap_map] at this
  have e2 : ((fun x => xs[x]?) ∘ fun x => i + x) = fun m => xs[i + m]? := rfl
  rw [e2] at this
  rw [this]

theorem getItem_tuple_cut {t sl : Addr} {items : Array Value} {vl vu : Value} {lo hi : Option Int} {Q : Value → Shared → Prop} (ht : IsTup s.heap t items) (hs : s.heap.IsSliceOf sl vl vu .none) (pl : IsPart vl lo) (pu : IsPart vu hi)
    (hw : ¬ (sIx items.size 0 lo = 0 ∧ sIx items.size items.size hi = items.size))
    (h : Q (.ref s.heap.objs.size) { s with heap := s.heap.push { cls := .type "tuple", data := .seq ((items.toList.drop (sIx items.size 0 lo)).take (sIx items.size items.size hi - sIx items.size 0 lo)).toArray } })
    (hsz : items.size ≤ sizeLine) : wpAny (model prog w) A (getItem (.ref t) (.ref sl)) Q E s := by
  have htake : sizeOk (.seq ((items.toList.drop (sIx items.size 0 lo)).take (sIx items.size items.size hi - sIx items.size 0 lo)).toArray) := by
    show ((items.toList.drop (sIx items.size 0 lo)).take (sIx items.size items.size hi - sIx items.size 0 lo)).toArray.size ≤ sizeLine
    rw [List.size_toArray, List.length_take, List.length_drop, Array.length_toList]
    omega
  have hj : sIx items.size items.size hi ≤ items.size := sIx_le _ _ (Nat.le_refl _) hi
  obtain ⟨os, hos, hcs, hds⟩ := id hs
  have hTs : s.TypeIs (.ref sl) "slice" := ⟨os, hos, hcs⟩
  unfold getItem
  try with_reducible refine wpAny_holding ?_
  first | refine wpAny_bind (wpAny_pure ?_) | skip
  refine wpAny_bind (wpAny_sequenceKey ht.typeIs (by decide) ?_)
  refine wpAny_bind (wpAny_callSpecial?_slot (name := Str.ofString "__getitem__") ht.typeIs PyProof.Rows.slot_tuple_getitem
    (wpAny_call_entry PyProof.Rows.slot_tuple_getitem ht.typeIs entry_tuple_getitem ?_ (args_tuple_getitem _ _)))
  show wpAny _ _ (Builtin.Tuple.tupleItemsOf (.ref t) >>= _) _ _ s
  refine wpAny_bind (tupleItemsOf_ ht ?_)
  refine wpAny_bind (wpAny_typeOf hTs ?_)
  rw [if_pos (by decide)]
  refine wpAny_bind (sliceApplied_gen hs pl pu ?_)
  have hno : ¬ ((((sIx items.size 0 lo : Nat) : Int) == 0 && (1 : Int) == 1 && (sIx items.size items.size hi - sIx items.size 0 lo) == items.size) = true) := by
    intro q
    rw [Bool.and_eq_true, Bool.and_eq_true] at q
    have q1 : ((sIx items.size 0 lo : Nat) : Int) = 0 := eq_of_beq q.1.1
    have q2 : sIx items.size items.size hi - sIx items.size 0 lo = items.size := eq_of_beq q.2
    exact hw ⟨by omega, by omega⟩
  show wpAny _ _ (if (((sIx items.size 0 lo : Nat) : Int) == 0 && (1 : Int) == 1 && (sIx items.size items.size hi - sIx items.size 0 lo) == items.size) = true then _ else _) _ _ s
  rw [if_neg hno, pick_gen]
  first
    | exact wpAny_bind (m := Builtin.Tuple.tupleExact _) (wpAny_newObj_type (wpAny_pure ⟨_, rfl, wpAny_pure h⟩) htake)
    | exact wpAny_bind (m := Builtin.Tuple.tupleExact _) (wpAny_newObj_type (wpAny_bind (wpAny_pure (wpAny_pure ⟨_, rfl, wpAny_pure h⟩))) htake)
    | exact wpAny_bind (wpAny_bind (m := Builtin.Tuple.tupleExact _) (wpAny_newObj_type (wpAny_pure (wpAny_pure ⟨_, rfl, wpAny_pure h⟩)) htake))
    | exact wpAny_bind (wpAny_bind (m := Builtin.Tuple.tupleExact _) (wpAny_newObj_type (wpAny_pure ⟨_, rfl, wpAny_pure h⟩) htake))
end
end HT

namespace L2
open PySem PySem.Spec PyProof.Rows

/-! ### the parts of a slice -/
abbrev TO := St → Hp → (Option Int → Hp → Prop) → Prop
/-- a slice's part (left out, or an int) -/
def PO (X : Cx) (e : Option Expr) (t : TO) : Prop :=
  ∀ (pins : List (Addr × Obj)) (s : Shared) (σ : St) (H : Hp) (Q : Option Int → Hp → Prop), Inv X pins σ H s → t σ H Q →
    wpAny (model X.prog X.w) X.A (evalPart e X.env) (fun u s' => ∃ o H', Inv X pins σ H' s' ∧ IsPart u o ∧ Q o H') X.xe s
def tNoPart : TO := fun _ H Q => Q none H
def tPart (t : TE) : TO := fun σ H Q => t σ H fun x H1 => ∃ i, x = .int i ∧ Q (some i) H1

section
variable {X : Cx} {e : Expr} {te : TE} {lo hi : Option Expr} {tl th : TO} {pos p2 : Pos}

theorem po_none : PO X none tNoPart := by
  intro pins s σ H Q I h
  rw [evalPart_none]
  exact wpAny_pure ⟨none, H, I, .none, h⟩
theorem po_some (h : PE X e te) : PO X (some e) (tPart te) := by
  intro pins s σ H Q I hw
  rw [evalPart_some]
  refine thn (h pins s σ H _ I hw) fun u s1 ⟨x, H1, I1, r1, q1⟩ => ?_
  obtain ⟨i, rfl, q⟩ := q1
  obtain ⟨t, rfl⟩ := r1
  exact ⟨some i, H1, I1, .int i t, q⟩

/-- what a slice of a value is, by values: the slice object stands at sl -/
def SlR (X : Cx) (r : V → Option Int → Option Int → Hp → VK → Prop) : Prop :=
  ∀ (pins : List (Addr × Obj)) (s : Shared) (σ : St) (H : Hp) (x : V) (v vl vu : Value) (lo hi : Option Int) (sl : Addr) (Q : VK), Inv X pins σ H s → RelV x v → s.heap.IsSliceOf sl vl vu .none → IsPart vl lo → IsPart vu hi → r x lo hi H Q →
    ∃ T id, typeLookup (.type T) "__getitem__" = pure (some (.builtin id)) ∧ s.TypeIs v T ∧ wpAny (model X.prog X.w) X.A (getItem v (.ref sl)) (EP X pins σ Q) X.xe s
theorem SlR.or {r r' : V → Option Int → Option Int → Hp → VK → Prop} (h : SlR X r) (h' : SlR X r') : SlR X (fun x lo hi H Q => r x lo hi H Q ∨ r' x lo hi H Q) := by
  intro pins s σ H x v vl vu lo hi sl Q I rx hs pl pu q
  rcases q with q | q
  · exact h pins s σ H x v vl vu lo hi sl Q I rx hs pl pu q
  · exact h' pins s σ H x v vl vu lo hi sl Q I rx hs pl pu q
def tSl (r : V → Option Int → Option Int → Hp → VK → Prop) (te : TE) (tl th : TO) : TE := fun σ H Q => te σ H fun x H1 => tl σ H1 fun l H2 => th σ H2 fun u H3 => r x l u H3 Q
/-- a[lo:hi], any a -/
theorem pe_slice {r : V → Option Int → Option Int → Hp → VK → Prop} (hr : SlR X r) (he : PE X e te) (hl : PO X lo tl) (hu : PO X hi th) : PE X (.Subscript e (.Slice lo hi none p2) pos) (tSl r te tl th) := by
  intro pins s σ H Q I h
  refine Subscript_ (thn (he pins s σ H _ I h) fun v s1 ⟨x, H1, I1, r1, q1⟩ => ?_)
  refine wpAny_Slice (thn (hl pins s1 σ H1 _ I1 q1) fun vl s2 ⟨l, H2, I2, pl, q2⟩ => thn (hu pins s2 σ H2 _ I2 q2) fun vu s3 ⟨u, H3, I3, pu, q3⟩ => ?_)
  rw [evalPart_none]
  refine wpAny_pure ?_
  have I4 : Inv X pins σ H3 { s3 with heap := s3.heap.push { cls := .type "slice", data := .fields #[vl, vu, .none] } } := I3.kept (t' := s3.toks) fun b ob q => Heap.get?_push_of_some _ q
  obtain ⟨T, id, hT, ht, hg⟩ := hr pins { s3 with heap := s3.heap.push { cls := .type "slice", data := .fields #[vl, vu, .none] } } σ H3 x v vl vu l u s3.heap.objs.size Q I4 r1 (Heap.IsSliceOf.new ..) pl pu q3
  show wpAny (model X.prog X.w) X.A (subscriptTail e (.Slice lo hi none p2) v (.ref s3.heap.objs.size)) (EP X pins σ Q) X.xe { s3 with heap := s3.heap.push { cls := .type "slice", data := .fields #[vl, vu, .none] } }
  exact tail_any (ops := [.ref s3.heap.objs.size, v]) ht hT hg (by with_unfolding_all rfl)

/-- the items of xs[lo:hi] -/
def cutV (xs : List V) (lo hi : Option Int) : List V := (xs.drop (HT.sIx xs.length 0 lo)).take (HT.sIx xs.length xs.length hi - HT.sIx xs.length 0 lo)
theorem cutV_length (xs : List V) (lo hi : Option Int) : (cutV xs lo hi).length ≤ xs.length := by
  unfold cutV
  rw [List.length_take, List.length_drop]
  omega
/-- t[lo:hi], not the whole of it (the whole would be t itself) -/
def rSlT (K : PySem.W.Frag) : V → Option Int → Option Int → Hp → VK → Prop := fun x lo hi H Q => ∃ a xs, x = .ref a ∧ SqT K H a xs ∧
  ¬ (HT.sIx xs.length 0 lo = 0 ∧ HT.sIx xs.length xs.length hi = xs.length) ∧ ∀ p, H p = none → Q (.ref p) (upd H p (.tup (cutV xs lo hi)))
theorem sl_tup : SlR X (rSlT X.K) := by
  intro pins s σ H x v vl vu lo hi sl Q I rx hs pl pu h
  obtain ⟨a, xs, rfl, hx, hw, q⟩ := h
  cases rx
  obtain ⟨its, r, ht, hz⟩ := I.tuple hx
  have hlen : its.toArray.size = xs.length := by rw [List.size_toArray]; exact r.length.symm
  refine ⟨"tuple", _, PyProof.Rows.slot_tuple_getitem.lookup, ht.typeIs, ?_⟩
  refine HT.getItem_tuple_cut ht hs pl pu (by rw [hlen]; exact hw) ?_ (by rw [hlen]; exact hz)
  rw [hlen]
  refine ⟨.ref s.heap.objs.size, _, I.laid (t' := s.toks) (o := .tup (cutV xs lo hi)) (fun b ob q => Heap.get?_push_of_some _ q) (Nat.le_refl _) ?_, rfl, q _ (I.hok.fresh (Nat.le_refl _))⟩
  exact ⟨Nat.le_trans (cutV_length xs lo hi) hz, _, (r.drop (HT.sIx xs.length 0 lo)).take (HT.sIx xs.length xs.length hi - HT.sIx xs.length 0 lo), IsTup.new _ _⟩

/-! ### t < u, t + u -/
/-- t + u, t not empty: u empty gives t itself -/
def rCatT (K : PySem.W.Frag) : R2 := fun x y H Q => ∃ a b xs ys, x = .ref a ∧ y = .ref b ∧ SqT K H a xs ∧ SqT K H b ys ∧ xs ≠ [] ∧ xs.length + ys.length ≤ sizeLine ∧
  (ys = [] → Q (.ref a) H) ∧ (ys ≠ [] → ∀ p, H p = none → Q (.ref p) (upd H p (.tup (xs ++ ys))))
theorem Vals.nil_iff {xs : List V} {us : List Value} (r : Vals xs us) : us = [] ↔ xs = [] := by
  cases r with
  | nil => simp
  | cons _ _ => simp
theorem op_catT : OpR X (binaryOp .Add) (rCatT X.K) := by
  intro pins s σ H x y v u Q I rx ry h
  obtain ⟨a, b, xs, ys, rfl, rfl, ha, hb, hx, hz, q1, q2⟩ := h
  cases rx
  cases ry
  obtain ⟨its, r1, p1, _⟩ := I.tuple ha
  obtain ⟨its2, r2, p2, _⟩ := I.tuple hb
  refine HT.cat_tup p1 p2 (fun z => hx (r1.nil_iff.mp z)) (fun z => ⟨.ref a, H, I, rfl, q1 (r2.nil_iff.mp z)⟩) (fun z => ?_) (by rw [← r1.length, ← r2.length]; exact hz)
  refine ⟨.ref s.heap.objs.size, _, I.laid (t' := s.toks) (o := .tup (xs ++ ys)) (fun b ob q => Heap.get?_push_of_some _ q) (Nat.le_refl _) ?_, rfl, q2 (fun w => z (r2.nil_iff.mpr w)) _ (I.hok.fresh (Nat.le_refl _))⟩
  exact ⟨by rw [List.length_append]; exact hz, _, r1.append r2, IsTup.new _ _⟩
end
end L2

namespace L2
open PySem PySem.Spec PyProof.Rows

/-! ### places -/
/-- the place that an index of any sign means -/
def ixN (n : Nat) (i : Int) : Option Nat := if 0 ≤ i then (if i < n then some i.toNat else none) else if -(n : Int) ≤ i then some (i + n).toNat else none
def atI {α : Type} (xs : List α) (i : Int) : Option α := (ixN xs.length i).bind fun j => xs[j]?
theorem ixN_seq {n : Nat} {i : Int} {j : Nat} (h : ixN n i = some j) : seqIndex? i n = some j ∧ j < n ∧ -(n : Int) ≤ i ∧ i < n := by
  unfold ixN at h
  by_cases h0 : 0 ≤ i
  · rw [if_pos h0] at h
    by_cases h1 : i < n
    · rw [if_pos h1] at h
      have e : i.toNat = j := Option.some.inj h
      exact ⟨by rw [seqIndex_of h0 h1, e], by omega, by omega, h1⟩
    · rw [if_neg h1] at h; cases h
  · rw [if_neg h0] at h
    by_cases h1 : -(n : Int) ≤ i
    · rw [if_pos h1] at h
      have e : (i + n).toNat = j := Option.some.inj h
      exact ⟨by rw [seqIndex_neg (by omega) h1, e], by omega, h1, by omega⟩
    · rw [if_neg h1] at h; cases h
theorem atI_get {α : Type} {xs : List α} {i : Int} {v : α} (h : atI xs i = some v) : ∃ j, seqIndex? i xs.length = some j ∧ xs[j]? = some v ∧ j < xs.length ∧ -(xs.length : Int) ≤ i ∧ i < xs.length := by
  unfold atI at h
  cases e : ixN xs.length i with
  | none => rw [e] at h; cases h
  | some j =>
    rw [e] at h
    obtain ⟨h1, h2, h3, h4⟩ := ixN_seq e
    exact ⟨j, h1, h, h2, h3, h4⟩
theorem atI_nat {α : Type} {xs : List α} {j : Nat} {v : α} (h : xs[j]? = some v) : atI xs (j : Int) = some v := by
  have hj : j < xs.length := (List.getElem?_eq_some_iff.mp h).1
  have e : ixN xs.length (j : Int) = some j := by
    unfold ixN
    rw [if_pos (by omega), if_pos (by omega)]; simp
  unfold atI; rw [e]; exact h
theorem atI_last {α : Type} (xs : List α) (v : α) : atI (xs ++ [v]) (-1) = some v := by
  have hl : (xs ++ [v]).length = xs.length + 1 := by simp
  have e : ixN (xs ++ [v]).length (-1) = some xs.length := by
    unfold ixN
    rw [hl, if_neg (by decide), if_pos (by omega)]
    congr 1
    omega
  unfold atI
  rw [e]
  show (xs ++ [v])[xs.length]? = some v
  simp

/-! ### what may be subscripted -/
/-- what stands as an index of a plain subscript -/
def PlainIx (b : Expr) : Prop := ∀ o i, subscripted b false o i = operate [o, i] (getItem o i)
/-- a subscript by values -/
def IxR (X : Cx) (r : R2) : Prop :=
  ∀ (value slice : Expr) (pins : List (Addr × Obj)) (s : Shared) (σ : St) (H : Hp) (x y : V) (v u : Value) (Q : VK), Inv X pins σ H s → RelV x v → RelV y u → r x y H Q →
    subscripted slice false v u = operate [v, u] (getItem v u) → wpAny (model X.prog X.w) X.A (subscriptTail value slice v u) (EP X pins σ Q) X.xe s
/-- a call of a builtin's method by values: the receiver, the arguments -/
def MtR (X : Cx) (id : String) (r : V → List V → Hp → VK → Prop) : Prop :=
  ∀ (pins : List (Addr × Obj)) (s : Shared) (σ : St) (H : Hp) (x : V) (xs : List V) (v : Value) (us : List Value) (Q : VK), Inv X pins σ H s → RelV x v → Vals xs us → r x xs H Q →
    wpAny (model X.prog X.w) X.A (call (.builtin id) (v :: us)) (EP X pins σ Q) X.xe s
section
variable {X : Cx} {a b : Expr} {ta tb : TE} {pos : Pos}
theorem IxR.or {r r' : R2} (h : IxR X r) (h' : IxR X r') : IxR X (fun x y H Q => r x y H Q ∨ r' x y H Q) := by
  intro value slice pins s σ H x y v u Q I rx ry q hs
  rcases q with q | q
  · exact h value slice pins s σ H x y v u Q I rx ry q hs
  · exact h' value slice pins s σ H x y v u Q I rx ry q hs
theorem MtR.or {id : String} {r r' : V → List V → Hp → VK → Prop} (h : MtR X id r) (h' : MtR X id r') : MtR X id (fun x xs H Q => r x xs H Q ∨ r' x xs H Q) := by
  intro pins s σ H x xs v us Q I rx rs q
  rcases q with q | q
  · exact h pins s σ H x xs v us Q I rx rs q
  · exact h' pins s σ H x xs v us Q I rx rs q
/-- a[b] -/
theorem pe_ix {r : R2} (hr : IxR X r) (ha : PE X a ta) (hb : PE X b tb) (hs : PlainIx b) : PE X (.Subscript a b pos) (tOp r ta tb) := by
  intro pins s σ H Q I h
  exact Subscript_ (binT ha hb I h fun v u s2 x y H2 I2 rx ry q => hr a b pins s2 σ H2 x y v u Q I2 rx ry q (hs _ _))

def rIxL (K : PySem.W.Frag) : R2 := fun x y H Q => ∃ p xs i v, x = .ref p ∧ y = .int i ∧ SqL K H p xs ∧ atI xs i = some v ∧ Q v H
def rIxT (K : PySem.W.Frag) : R2 := fun x y H Q => ∃ p xs i v, x = .ref p ∧ y = .int i ∧ SqT K H p xs ∧ atI xs i = some v ∧ Q v H
def rIxS : R2 := fun x y H Q => ∃ z i c, x = .str z ∧ y = .int i ∧ z.length ≤ sizeLine ∧ atI z.cps.toList i = some c ∧ Q (.str ⟨#[c]⟩) H
theorem ix_list : IxR X (rIxL X.K) := by
  intro value slice pins s σ H x y v u Q I rx ry h hs
  obtain ⟨p, xs, i, z, rfl, rfl, hq, he, q⟩ := h
  cases rx
  obtain ⟨t, rfl⟩ := ry
  obtain ⟨its, r, pl, hz⟩ := I.list hq
  obtain ⟨j, h1, h2, h3, h4, h5⟩ := atI_get he
  obtain ⟨w, ew, rw'⟩ := r.get h2
  have hl := r.length
  have hn := line63
  have fin : EP X pins σ Q w s := ⟨z, H, I, rw', q⟩
  by_cases h0 : 0 ≤ i
  · have hj : i.toNat = j := by
      rw [seqIndex_of h0 h5] at h1
      exact Option.some.inj h1
    exact item_listR pl.isList h0 (by omega) (by rw [hj]; simpa using ew) fin hs
  · have hj : (i + (its.toArray.size : Int)).toNat = j := by
      rw [seqIndex_neg (by omega) h4] at h1
      rw [List.size_toArray, ← hl]
      exact Option.some.inj h1
    exact subscriptTail_builtinR (x := w) pl.isList.typeIs slot_list_getitem.lookup
      (wpAny_getItem_list_neg (Q := fun r s' => r = w ∧ EP X pins σ Q r s') pl.isList (by omega) (by rw [List.size_toArray] <;> omega) (by omega) (by rw [hj]; simpa using ew) ⟨rfl, fin⟩) hs
theorem ix_tup : IxR X (rIxT X.K) := by
  intro value slice pins s σ H x y v u Q I rx ry h hs
  obtain ⟨p, xs, i, z, rfl, rfl, hq, he, q⟩ := h
  cases rx
  obtain ⟨t, rfl⟩ := ry
  obtain ⟨its, r, pl, hz⟩ := I.tuple hq
  obtain ⟨j, h1, h2, h3, h4, h5⟩ := atI_get he
  obtain ⟨w, ew, rw'⟩ := r.get h2
  have hl := r.length
  have hn := line63
  have fin : EP X pins σ Q w s := ⟨z, H, I, rw', q⟩
  exact subscriptTail_builtinR (x := w) pl.typeIs slot_tuple_getitem.lookup
    (getItem_tuple (j := j) (Q := fun r s' => r = w ∧ EP X pins σ Q r s') pl (by omega) (by omega) (by rw [List.size_toArray, ← hl]; exact h1) (by simpa using ew) ⟨rfl, fin⟩) hs
theorem ix_str : IxR X rIxS := by
  intro value slice pins s σ H x y v u Q I rx ry h hs
  obtain ⟨z, i, c, rfl, rfl, hz, he, q⟩ := h
  obtain ⟨t, rfl⟩ := rx
  obtain ⟨t', rfl⟩ := ry
  obtain ⟨j, h1, h2, h3, h4, h5⟩ := atI_get he
  have hl : z.cps.toList.length = z.length := by simp [Str.length]
  rw [hl] at h1 h4 h5
  have hn := line63
  exact tail_any (typeIs_str s z t) slot_str_getitem.lookup (getItem_str (c := c) (by
    have e1 : decide (i < -(2 ^ 63 : Int)) = false := decide_eq_false (by omega)
    have e2 : decide (i ≥ 2 ^ 63) = false := decide_eq_false (by omega)
    rw [e1, e2, Bool.or_false]) (by rw [h1]; simpa using h2) ⟨.str ⟨#[c]⟩, H, I.tok _, ⟨_, rfl⟩, q⟩) hs
/-! ### xs[i] = v, any sign -/
theorem Inv.lst {pins : List (Addr × Obj)} {σ : St} {H : Hp} {s : Shared} {p : Addr} {xs : List V} (I : Inv X pins σ H s) (h : H p = some (.lst xs)) :
    ∃ (its : List Value) (n : Nat), Vals xs its ∧ s.heap.get? p = some { cls := .type "list", data := .seq its.toArray n } ∧ xs.length ≤ sizeLine := by
  obtain ⟨z, its, n, r, e⟩ := I.hok p _ h
  exact ⟨its, n, r, e, z⟩
/-! ### slices -/
theorem slice_bounds (lo hi : Option Int) (n : Nat) : (sliceBounds lo hi none n).1 = ((HT.sIx n 0 lo : Nat) : Int) ∧ (sliceBounds lo hi none n).2.1 = ((HT.sIx n n hi : Nat) : Int) ∧ (sliceBounds lo hi none n).2.2 = 1 := by
  refine ⟨?_, ?_, rfl⟩
  · cases lo with
    | none => simp [sliceBounds, HT.sIx]
    | some i =>
      simp only [sliceBounds, HT.sIx, Option.getD_none, show (1 : Int) > 0 by decide, if_true]
      by_cases h : i < 0
      · simp only [h, if_true] <;> omega
      · simp only [h, if_false] <;> omega
  · cases hi with
    | none => simp [sliceBounds, HT.sIx]
    | some i =>
      simp only [sliceBounds, HT.sIx, Option.getD_none, show (1 : Int) > 0 by decide, if_true]
      by_cases h : i < 0
      · simp only [h, if_true] <;> omega
      · simp only [h, if_false] <;> omega
theorem slicePick_cut (its : List Value) (lo hi : Option Int) : slicePick its.toArray lo hi none = ((its.drop (HT.sIx its.length 0 lo)).take (HT.sIx its.length its.length hi - HT.sIx its.length 0 lo)).toArray := by
  obtain ⟨h1, h2, h3⟩ := slice_bounds lo hi its.toArray.size
  unfold slicePick
  rw [h1, h2, h3]
  simp only [sliceRange_one, pick_run, List.size_toArray] <;> rfl
/-- xs[lo:hi] of a list: a new list -/
def rSlL (K : PySem.W.Frag) : V → Option Int → Option Int → Hp → VK → Prop := fun x lo hi H Q => ∃ a xs, x = .ref a ∧ SqL K H a xs ∧ ∀ p, H p = none → Q (.ref p) (upd H p (.lst (cutV xs lo hi)))
theorem sl_list : SlR X (rSlL X.K) := by
  intro pins s σ H x v vl vu lo hi sl Q I rx hs pl pu h
  obtain ⟨a, xs, rfl, hx, q⟩ := h
  cases rx
  obtain ⟨its, r, ht, hz⟩ := I.list hx
  have hlen := r.length
  refine ⟨"list", _, slot_list_getitem.lookup, ht.isList.typeIs, ?_⟩
  refine wpAny_getItem_list_slice ht.isList hs pl pu .none (by simp) ?_ (by rw [List.size_toArray] <;> omega)
  rw [slicePick_cut, ← hlen]
  refine ⟨.ref s.heap.objs.size, _, I.laid (t' := s.toks) (o := .lst (cutV xs lo hi)) (fun b ob q => Heap.get?_push_of_some _ q) (Nat.le_refl _) ?_, rfl, q _ (I.hok.fresh (Nat.le_refl _))⟩
  exact ⟨Nat.le_trans (cutV_length xs lo hi) hz, _, 0, (r.drop (HT.sIx xs.length 0 lo)).take (HT.sIx xs.length xs.length hi - HT.sIx xs.length 0 lo), Heap.get?_push_size _ rfl⟩

/-! ### in, not in: flat items -/
def flatV : V → Bool
  | .non => true
  | .bl _ => true
  | .int _ => true
  | .str _ => true
  | _ => false
/-- == of flat values -/
def eqV : V → V → Bool
  | .non, .non => true
  | .bl a, .bl b => a == b
  | .bl a, .int b => (if a then 1 else 0) == b
  | .int a, .bl b => a == (if b then 1 else 0)
  | .int a, .int b => a == b
  | .str a, .str b => a == b
  | _, _ => false
theorem eqAt_V {A : Around} {s : Shared} {y x : V} {u v : Value} (ry : RelV y u) (rx : RelV x v) (fy : flatV y = true) (fx : flatV x = true) : SeqAt.EqAt A s u v (eqV y x) := by
  cases y with
  | non =>
    cases ry
    cases x with
    | non => cases rx; exact SeqAt.EqAt.same _
    | bl b => cases rx; exact SeqAt.EqAt.none_bool b
    | int b => obtain ⟨t, rfl⟩ := rx; exact SeqAt.EqAt.none_int b t
    | str b => obtain ⟨t, rfl⟩ := rx; exact SeqAt.EqAt.none_str b t
    | _ => exact absurd (show false = true from fx) Bool.false_ne_true
  | bl a =>
    cases ry
    cases x with
    | non => cases rx; exact SeqAt.EqAt.bool_none a
    | bl b => cases rx; exact SeqAt.EqAt.bool_bool a b
    | int b => obtain ⟨t, rfl⟩ := rx; exact SeqAt.EqAt.bool_int a b t
    | str b => obtain ⟨t, rfl⟩ := rx; exact SeqAt.EqAt.bool_str a b t
    | _ => exact absurd (show false = true from fx) Bool.false_ne_true
  | int a =>
    obtain ⟨t', rfl⟩ := ry
    cases x with
    | non => cases rx; exact SeqAt.EqAt.int_none a t'
    | bl b => cases rx; exact SeqAt.EqAt.int_bool a t' b
    | int b => obtain ⟨t, rfl⟩ := rx; exact SeqAt.EqAt.int_int a t' b t
    | str b => obtain ⟨t, rfl⟩ := rx; exact SeqAt.EqAt.int_str a t' b t
    | _ => exact absurd (show false = true from fx) Bool.false_ne_true
  | str a =>
    obtain ⟨t', rfl⟩ := ry
    cases x with
    | non => cases rx; exact SeqAt.EqAt.str_none a t'
    | bl b => cases rx; exact SeqAt.EqAt.str_bool a t' b
    | int b => obtain ⟨t, rfl⟩ := rx; exact SeqAt.EqAt.str_int a t' b t
    | str b => obtain ⟨t, rfl⟩ := rx; exact SeqAt.EqAt.str_str a t' b t
    | _ => exact absurd (show false = true from fx) Bool.false_ne_true
  | _ => exact absurd (show false = true from fy) Bool.false_ne_true
/-- the items' answers, read off the values (a value's own answer does not lean on its token) -/
def eqU (x : V) (u : Value) : Bool := match u with
  | .none => eqV .non x
  | .bool b => eqV (.bl b) x
  | .int i _ => eqV (.int i) x
  | .str z _ => eqV (.str z) x
  | _ => false
theorem eqU_of {x y : V} {u : Value} (r : RelV y u) (f : flatV y = true) : eqU x u = eqV y x := by
  cases y with
  | non => cases r; rfl
  | bl b => cases r; rfl
  | int i => obtain ⟨t, rfl⟩ := r; rfl
  | str z => obtain ⟨t, rfl⟩ := r; rfl
  | _ => exact absurd (show false = true from f) Bool.false_ne_true
theorem any_eqU {x : V} : ∀ {xs : List V} {us : List Value}, Vals xs us → xs.all flatV = true → us.any (eqU x) = xs.any fun y => eqV y x
  | _, _, .nil, _ => rfl
  | y :: xs, u :: us, .cons r t, f => by
    rw [List.all_cons, Bool.and_eq_true] at f
    rw [List.any_cons, List.any_cons, eqU_of r f.1, any_eqU t f.2]
theorem mem_eqAt {A : Around} {s : Shared} {x : V} {v : Value} (rx : RelV x v) (fx : flatV x = true) : ∀ {xs : List V} {us : List Value}, Vals xs us → xs.all flatV = true → ∀ u ∈ us, SeqAt.EqAt A s u v (eqU x u)
  | _, _, .nil, _ => fun u hu => by cases hu
  | y :: xs, u :: us, .cons r t, f => fun u' hu => by
    rw [List.all_cons, Bool.and_eq_true] at f
    rcases List.mem_cons.mp hu with rfl | hu
    · rw [eqU_of r f.1]; exact eqAt_V r rx f.1 fx
    · exact mem_eqAt rx fx t f.2 u' hu
def inV (x : V) (xs : List V) : Bool := xs.any fun y => eqV y x
/-- x in a list or tuple of flat items -/
def rIn (K : PySem.W.Frag) (neg : Bool) : R2 := fun x y H Q => ∃ p xs, y = .ref p ∧ (SqL K H p xs ∨ SqT K H p xs) ∧ flatV x = true ∧ xs.all flatV = true ∧ Q (.bl (if neg then !inV x xs else inV x xs)) H
theorem op_in_seq : OpR X (compareOp .In) (rIn X.K false) := by
  intro pins s σ H x y v u Q I rx ry h
  obtain ⟨p, xs, rfl, hq, fx, fs, q⟩ := h
  cases ry
  rcases hq with hq | hq
  · obtain ⟨its, r, pl, hz⟩ := I.list hq
    refine SeqAt.in_listAt (eqU x) pl.isList (fun w hw => mem_eqAt rx fx r fs w (by simpa using hw)) ⟨.bl _, H, I, rfl, ?_⟩
    rw [show its.toArray.any (eqU x) = its.any (eqU x) by simp, any_eqU r fs]
    exact q
  · obtain ⟨its, r, pl, hz⟩ := I.tuple hq
    refine SeqAt.in_tupleAt (eqU x) pl (fun w hw => mem_eqAt rx fx r fs w (by simpa using hw)) ⟨.bl _, H, I, rfl, ?_⟩
    rw [show its.toArray.any (eqU x) = its.any (eqU x) by simp, any_eqU r fs]
    exact q
theorem op_notIn_seq : OpR X (compareOp .NotIn) (rIn X.K true) := by
  intro pins s σ H x y v u Q I rx ry h
  obtain ⟨p, xs, rfl, hq, fx, fs, q⟩ := h
  cases ry
  rcases hq with hq | hq
  · obtain ⟨its, r, pl, hz⟩ := I.list hq
    refine SeqAt.notIn_listAt (eqU x) pl.isList (fun w hw => mem_eqAt rx fx r fs w (by simpa using hw)) ⟨.bl _, H, I, rfl, ?_⟩
    rw [show its.toArray.any (eqU x) = its.any (eqU x) by simp, any_eqU r fs]
    exact q
  · obtain ⟨its, r, pl, hz⟩ := I.tuple hq
    refine SeqAt.notIn_tupleAt (eqU x) pl (fun w hw => mem_eqAt rx fx r fs w (by simpa using hw)) ⟨.bl _, H, I, rfl, ?_⟩
    rw [show its.toArray.any (eqU x) = its.any (eqU x) by simp, any_eqU r fs]
    exact q
/-! ### len, list(x), tuple(x) of any list or tuple that is read -/
theorem call_len_seq : CallR X (.builtin "len") (fun xs H Q => ∃ p ys, xs = [.ref p] ∧ (SqL X.K H p ys ∨ SqT X.K H p ys) ∧ Q (.int ys.length) H) := by
  intro pins s σ H xs us Q I r h
  obtain ⟨p, ys, rfl, hq, q⟩ := h
  obtain ⟨u, rfl, rx⟩ := vals1 r
  cases rx
  have hn := line63
  rcases hq with hq | hq
  · obtain ⟨its, r', pl, hz⟩ := I.list hq
    have hlen := r'.length
    exact Calls.call_len_list pl.isList (by simp only [List.size_toArray] <;> omega) ⟨.int ys.length, H, I.tok _, ⟨s.toks + 1, by rw [List.size_toArray, hlen]⟩, q⟩
  · obtain ⟨its, r', pl, hz⟩ := I.tuple hq
    have hlen := r'.length
    exact len_tuple pl (by simp only [List.size_toArray] <;> omega) ⟨.int ys.length, H, I.tok _, ⟨s.toks + 1, by rw [List.size_toArray, hlen]⟩, q⟩
theorem call_len_str : CallR X (.builtin "len") (fun xs H Q => ∃ z, xs = [.str z] ∧ z.length ≤ sizeLine ∧ Q (.int z.length) H) := by
  intro pins s σ H xs us Q I r h
  obtain ⟨z, rfl, hz, q⟩ := h
  obtain ⟨u, rfl, t, rfl⟩ := vals1 r
  have hn := line63
  exact len_str (by omega) ⟨.int z.length, H, I.tok _, ⟨_, rfl⟩, q⟩
theorem CallR.or {f : Value} {r r' : List V → Hp → VK → Prop} (h : CallR X f r) (h' : CallR X f r') : CallR X f (fun xs H Q => r xs H Q ∨ r' xs H Q) := by
  intro pins s σ H xs us Q I rs q
  rcases q with q | q
  · exact h pins s σ H xs us Q I rs q
  · exact h' pins s σ H xs us Q I rs q
theorem call_list_of : CallR X (.type "list") (fun xs H Q => ∃ p ys, xs = [.ref p] ∧ (SqL X.K H p ys ∨ SqT X.K H p ys) ∧ ∀ l, H l = none → Q (.ref l) (upd H l (.lst ys))) := by
  intro pins s σ H xs us Q I r h
  obtain ⟨p, ys, rfl, hq, q⟩ := h
  obtain ⟨u, rfl, rx⟩ := vals1 r
  cases rx
  have fin : ∀ (its : List Value), Vals ys its → ys.length ≤ sizeLine → ∀ (h' : Heap) (c' : Nat), (∀ b o', s.heap.get? b = some o' → h'.get? b = some o') →
      h'.get? s.heap.objs.size = some { cls := .type "list", dict := none, data := .seq its.toArray c', slots := #[] } → EP X pins σ Q (.ref s.heap.objs.size) { s with heap := h' } := fun its r' hz h' c' kp e =>
    ⟨.ref s.heap.objs.size, _, I.laid (t' := s.toks) kp (Nat.le_refl _) (show ObjOk X.prog X.w _ h' _ (.lst ys) from ⟨hz, its, c', r', e⟩), rfl, q _ (I.hok.fresh (Nat.le_refl _))⟩
  rcases hq with hq | hq
  · obtain ⟨its, r', pl, hz⟩ := I.list hq
    have hlen := r'.length
    obtain ⟨o, ho, hc, n, hd⟩ := pl.isList
    exact call_list_seq p (.inl rfl) ho hc hd (fun h' c' kp e => fin its r' hz h' c' kp e) (by simp only [List.size_toArray] <;> omega)
  · obtain ⟨its, r', pl, hz⟩ := I.tuple hq
    have hlen := r'.length
    obtain ⟨o, ho, hc, n, hd⟩ := pl
    exact call_list_seq p (.inr rfl) ho hc hd (fun h' c' kp e => fin its r' hz h' c' kp e) (by simp only [List.size_toArray] <;> omega)
theorem call_tuple_of : CallR X (.type "tuple") (fun xs H Q => ∃ p ys, xs = [.ref p] ∧ ((SqL X.K H p ys ∧ ∀ l, H l = none → Q (.ref l) (upd H l (.tup ys))) ∨ (SqT X.K H p ys ∧ Q (.ref p) H))) := by
  intro pins s σ H xs us Q I r h
  obtain ⟨p, ys, rfl, h⟩ := h
  obtain ⟨u, rfl, rx⟩ := vals1 r
  cases rx
  rcases h with ⟨hq, q⟩ | ⟨hq, q⟩
  · obtain ⟨its, r', pl, hz⟩ := I.list hq
    have hlen := r'.length
    refine call_tuple_list pl.isList (fun h' kp => ?_) (by simp only [List.size_toArray] <;> omega)
    have I1 : Inv X pins σ H { s with heap := h' } := I.kept (t' := s.toks) kp
    have I2 : Inv X pins σ (upd H h'.objs.size (.tup ys)) { s with heap := h'.push { cls := .type "tuple", data := .seq its.toArray } } :=
      I1.laid (t' := s.toks) (fun b o e => Heap.get?_push_of_some _ e) (Nat.le_refl _) (show ObjOk X.prog X.w _ _ _ (.tup ys) from ⟨hz, its, r', IsTup.new _ _⟩)
    exact ⟨.ref h'.objs.size, _, I2, rfl, q _ (I1.hok.fresh (Nat.le_refl _))⟩
  · obtain ⟨its, r', pl, hz⟩ := I.tuple hq
    exact call_tuple_same pl ⟨.ref p, H, I, rfl, q⟩

/-! ### the call of a builtin's method: o.m(..) -/
/-- the value is of that builtin type -/
def tyV (K : PySem.W.Frag) (T : String) (x : V) (H : Hp) : Prop := match x with
  | .str _ => T = "str"
  | .int _ => T = "int"
  | .ref p => (T = "list" ∧ ∃ xs, SqL K H p xs) ∨ (T = "tuple" ∧ ∃ o, K.lookup p = some o ∧ o.cls = .type "tuple" ∧ o.dict = none) ∨
      (T = "dict" ∧ ((∃ kvs, H p = some (.dK kvs)) ∨ ∃ kvs, H p = some (.dT kvs))) ∨ (T = "set" ∧ ∃ S n, H p = some (.set S n))
  | _ => False
theorem tyV_is {pins : List (Addr × Obj)} {σ : St} {H : Hp} {s : Shared} {T : String} {x : V} {v : Value} (I : Inv X pins σ H s) (r : RelV x v) (ty : tyV X.K T x H) :
    s.TypeIs v T ∧ ∀ a, v = .ref a → ∃ ob, s.heap.get? a = some ob ∧ ob.dict = none := by
  cases x with
  | str z =>
    obtain ⟨t, rfl⟩ := r
    cases (show T = "str" from ty)
    exact ⟨typeIs_str s z t, fun _ e => nomatch e⟩
  | int i =>
    obtain ⟨t, rfl⟩ := r
    cases (show T = "int" from ty)
    exact ⟨typeIs_int s i t, fun _ e => nomatch e⟩
  | ref p =>
    cases r
    rcases ty with ⟨rfl, xs, hq⟩ | ⟨rfl, o, hk, hc, hd⟩ | ⟨rfl, hk⟩ | ⟨rfl, S, n, hk⟩
    · obtain ⟨its, _, pl, _⟩ := I.list hq
      refine ⟨pl.isList.typeIs, fun a e => ?_⟩
      cases e
      obtain ⟨o, n, e, c, hd, _⟩ := pl
      exact ⟨o, e, hd⟩
    · refine ⟨⟨o, I.kIn p o hk, hc⟩, fun a e => ?_⟩
      cases e
      exact ⟨o, I.kIn _ o hk, hd⟩
    · have z : ∃ o, s.heap.get? p = some o ∧ o.ExactDict := by
        rcases hk with ⟨kvs, hk⟩ | ⟨kvs, hk⟩
        · obtain ⟨_, _, _, _, o, _, _, e, ex, _⟩ := I.hok p _ hk
          exact ⟨o, e, ex⟩
        · obtain ⟨_, _, _, _, o, _, _, e, ex, _⟩ := I.hok p _ hk
          exact ⟨o, e, ex⟩
      obtain ⟨o, e, ex⟩ := z
      refine ⟨⟨o, e, ex.1⟩, fun a e2 => ?_⟩
      cases e2
      exact ⟨o, e, ex.2.1⟩
    · obtain ⟨o, _, _, _, e, ex, _⟩ := I.hok p _ hk
      refine ⟨⟨o, e, ex.1⟩, fun a e2 => ?_⟩
      cases e2
      exact ⟨o, e, ex.2.1⟩
  | _ => exact False.elim ty
def tBM0 (K : PySem.W.Frag) (T : String) (r : V → List V → Hp → VK → Prop) (to : TE) : TE := fun σ H Q => to σ H fun x H1 => tyV K T x H1 ∧ r x [] H1 Q
def tBM (K : PySem.W.Frag) (T : String) (r : V → List V → Hp → VK → Prop) (to : TE) (t : TA) : TE := fun σ H Q => to σ H fun x H1 => tyV K T x H1 ∧ t σ H1 fun xs H2 => r x xs H2 Q
variable {o e : Expr} {es : List Expr} {to : TE} {t : TA} {name : Str} {apos cpos : Pos} {T id : String} {r : V → List V → Hp → VK → Prop}
theorem pe_bm0 (pa : PlainAttrs T) (slot : Slot T name id) (hty : typeOf (.builtin id) = pure (.type "method_descriptor")) (hm : MtR X id r) (ho : PE X o to)
    (hbase : attributeBase o name X.env (eval o X.env) = eval o X.env := by rfl) (hline : (apos.endLine == cpos.line) = true := by rfl) : PE X (.Call (.Attribute o name apos) [] [] cpos) (tBM0 X.K T r to) := by
  intro pins s σ H Q I h
  refine wpAny_Call_method0_late hbase hline (thn (ho pins s σ H _ I h) fun v s1 ⟨x, H1, I1, r1, ty, q1⟩ => ?_)
  obtain ⟨h1, h2⟩ := tyV_is I1 r1 ty
  exact ⟨T, id, pa, slot, hty, h1, h2, Calls.callWith_builtin rfl (PySem.evalArgs_none (hm pins s1 σ H1 x [] v [] Q I1 r1 .nil q1))⟩
theorem pe_bm (pa : PlainAttrs T) (slot : Slot T name id) (hty : typeOf (.builtin id) = pure (.type "method_descriptor")) (hm : MtR X id r) (ho : PE X o to) (ha : PA X (e :: es) t)
    (hbase : attributeBase o name X.env (eval o X.env) = eval o X.env := by rfl)
    (hfew : ((backTo cpos (starEach (e :: es) X.env)).all (fun x => !x.1) && (backToKw cpos (keywordEach [] X.env)).all (fun x => x.1.isSome)
      && decide ((e :: es).length + ([] : List Keyword).length + (if ([] : List Keyword).isEmpty then 0 else 1) < 30)) = true := by rfl)
    (hline : (apos.endLine == cpos.line) = true := by rfl) (hs : starEach (e :: es) X.env = (false, eval e X.env) :: starEach es X.env := by rfl) (hplain : (backTo cpos (starEach es X.env)).any (·.1) = false := by rfl) :
    PE X (.Call (.Attribute o name apos) (e :: es) [] cpos) (tBM X.K T r to t) := by
  intro pins s σ H Q I h
  refine wpAny_Call_method_late hbase hfew hline rfl (thn (ho pins s σ H _ I h) fun v s1 ⟨x, H1, I1, r1, ty, q1⟩ => ?_)
  obtain ⟨h1, h2⟩ := tyV_is I1 r1 ty
  refine ⟨T, id, pa, slot, hty, h1, h2, ?_⟩
  have hA := ha cpos pins s1 σ H1 _ I1 q1
  rw [hs] at hA ⊢
  refine Calls.callWith_builtin (by show (false || (backTo cpos (starEach es X.env)).any (·.1)) = false; rw [hplain] <;> rfl) (Calls.evalArgs_plain ?_)
  exact thn hA fun us s2 ⟨vs, H2, I2, r2, q2⟩ => hm pins s2 σ H2 x vs v us Q I2 r1 r2 q2
/- xs.append(e), list.index on a module's tuple .. are MtR facts of 06m -/
end
end L2

namespace L2
open PySem PySem.Spec PyProof.Rows

def MtM (X : Cx) (id : String) (r : V → List V → Hp → VK → Prop) : Prop :=
  ∀ (pins : List (Addr × Obj)) (s : Shared) (σ : St) (H : Hp) (x : V) (xs : List V) (v : Value) (us : List Value) (Q : VK), Inv X pins σ H s → RelV x v → Vals xs us → r x xs H Q →
    wpAny (model X.prog X.w) X.A (call (.builtin id) (v :: us)) (EP X pins σ Q) X.xe s

/-! ### lists of values -/
theorem Vals.one : ∀ {x : V} {us : List Value}, Vals [x] us → ∃ u, us = [u] ∧ RelV x u
  | _, _, .cons r .nil => ⟨_, rfl, r⟩
theorem Vals.two : ∀ {x y : V} {us : List Value}, Vals [x, y] us → ∃ u v, us = [u, v] ∧ RelV x u ∧ RelV y v
  | _, _, _, .cons r (.cons q .nil) => ⟨_, _, rfl, r, q⟩
theorem Vals.zero : ∀ {us : List Value}, Vals [] us → us = []
  | _, .nil => rfl
theorem Vals.dropLast {xs : List V} {us : List Value} (h : Vals xs us) : Vals xs.dropLast us.dropLast := by
  induction h with
  | nil => exact .nil
  | cons r t ih =>
    cases t with
    | nil => exact .nil
    | cons q t' => exact .cons r ih
theorem Vals.reverse {xs : List V} {us : List Value} (h : Vals xs us) : Vals xs.reverse us.reverse := by
  induction h with
  | nil => exact .nil
  | cons r t ih => rw [List.reverse_cons, List.reverse_cons]; exact Vals.append ih (.cons r .nil)
theorem Vals.rep {xs : List V} {us : List Value} (h : Vals xs us) : ∀ k : Nat, Vals (List.replicate k xs).flatten (List.replicate k us).flatten
  | 0 => .nil
  | k + 1 => by
    rw [List.replicate_succ, List.replicate_succ, List.flatten_cons, List.flatten_cons]
    exact Vals.append h (Vals.rep h k)
theorem foldl_rep (its : List Value) : ∀ (k : Nat) (acc : List Value),
    List.foldl (fun x1 x2 => x1 ++ x2) acc.toArray (List.replicate k its.toArray) = (acc ++ (List.replicate k its).flatten).toArray
  | 0, acc => by simp
  | k + 1, acc => by
    have e : acc.toArray ++ its.toArray = (acc ++ its).toArray := by simp
    have e2 : (acc ++ its) ++ (List.replicate k its).flatten = acc ++ (List.replicate (k + 1) its).flatten := by
      rw [List.replicate_succ, List.flatten_cons, List.append_assoc]
    rw [← e2, ← foldl_rep its k (acc ++ its), ← e, List.replicate_succ, List.foldl_cons]

section
variable {X : Cx} {pins : List (Addr × Obj)} {σ : St} {H : Hp} {s : Shared} {l b : Addr} {xs ys zs : List V}

/-! ### the two steps: a tracked list is rewritten, a new list is laid -/
theorem Inv.lset {its its' : List Value} {n : Nat} {f : Array Value → Array Value} {t' : Nat} (I : Inv X pins σ H s) (hH : H l = some (.lst xs))
    (e : s.heap.get? l = some { cls := .type "list", data := .seq its.toArray n }) (hf : f its.toArray = its'.toArray) (hv : Vals ys its') (hz : ys.length ≤ sizeLine) :
    Inv X pins σ (upd H l (.lst ys)) { s with heap := s.heap.update l (Obj.mapSeq f), toks := t' } := by
  have q := PySem.IsL.update e f
  rw [hf] at q
  refine I.write (x := l) (e := l) (by rw [hH]; exact trivial) (.inl rfl) (fun b' u hb hu => (Heap.get?_update_other s.heap (Obj.mapSeq f) (Ne.symm hb)).trans hu) ⟨_, q⟩ ?_
  exact ⟨hz, its', _, hv, q⟩
theorem Inv.lnew {its : List Value} {t' : Nat} (I : Inv X pins σ H s) (hv : Vals ys its) (hz : ys.length ≤ sizeLine) :
    Inv X pins σ (upd H s.heap.objs.size (.lst ys)) { s with heap := s.heap.push { cls := .type "list", data := .seq its.toArray }, toks := t' } :=
  I.laid (fun _ _ q => Heap.get?_push_of_some _ q) (Nat.le_refl _) ⟨hz, its, 0, hv, Heap.get?_push_size _ rfl⟩
theorem Inv.fresh (I : Inv X pins σ H s) : H s.heap.objs.size = none := I.hok.fresh (Nat.le_refl _)
theorem Inv.lstM (I : Inv X pins σ H s) (hH : H l = some (.lst xs)) : xs.length ≤ sizeLine ∧ ∃ (its : List Value) (n : Nat), Vals xs its ∧ xs.length = its.length ∧ s.heap.get? l = some { cls := .type "list", data := .seq its.toArray n } := by
  obtain ⟨z, its, n, r, e⟩ := I.hok l _ hH
  exact ⟨z, its, n, r, r.length, e⟩

theorem notLongL {n : Nat} (h : n ≤ sizeLine) : Builtin.List.listTooLong n = false := by
  unfold Builtin.List.listTooLong
  exact decide_eq_false (by omega)
end

section
variable {X : Cx}

/-! ### methods -/
def rAppend : V → List V → Hp → VK → Prop := fun x vs H Q => ∃ l xs y, x = .ref l ∧ vs = [y] ∧ H l = some (.lst xs) ∧ xs.length < sizeLine ∧ Q .non (upd H l (.lst (xs ++ [y])))
theorem mt_append : MtM X "list.append" rAppend := by
  intro pins s σ H x vs v us Q I rx rv h
  obtain ⟨l, xs, y, rfl, rfl, hH, hz, q⟩ := h
  cases rx
  obtain ⟨u, rfl, ru⟩ := rv.one
  obtain ⟨z, its, n, r, hl, e⟩ := I.lstM hH
  refine call_meets F.slot_list_append ⟨_, e, rfl⟩ F.entry_list_append (F.args_list_append_2 _ _) (PySem.list_append l its.toArray n u (by rw [List.size_toArray]; omega)) ⟨e, ?_⟩
  refine ⟨.non, _, I.lset (its' := its ++ [u]) hH e (by simp) (r.append (.cons ru .nil)) ?_, rfl, q⟩
  rw [List.length_append, List.length_singleton]
  omega

/-! ### list + list, list += list, list * int -/
def rCat : R2 := fun x y H Q => ∃ l b xs zs, x = .ref l ∧ y = .ref b ∧ H l = some (.lst xs) ∧ H b = some (.lst zs) ∧ xs.length + zs.length ≤ sizeLine ∧ ∀ p, H p = none → Q (.ref p) (upd H p (.lst (xs ++ zs)))
theorem op_cat : OpR X (binaryOp .Add) rCat := by
  intro pins s σ H x y v u Q I rx ry h
  obtain ⟨l, b, xs, zs, rfl, rfl, hH, hB, hz, q⟩ := h
  cases rx
  cases ry
  obtain ⟨z, its, n, r, hl, e⟩ := I.lstM hH
  obtain ⟨z2, its2, n2, r2, hl2, e2⟩ := I.lstM hB
  refine PySem.P.add_list e e2 ?_ (by rw [List.size_toArray, List.size_toArray]; omega)
  have ea : its.toArray ++ its2.toArray = (its ++ its2).toArray := by simp
  rw [ea]
  exact ⟨.ref _, _, I.lnew (t' := s.toks) (r.append r2) (by rw [List.length_append]; omega), rfl, q _ I.fresh⟩
/-- a list times an int (a negative one is nothing) -/
def rRep : R2 := fun x y H Q => ∃ l k xs, x = .ref l ∧ y = .int k ∧ H l = some (.lst xs) ∧ -(2 ^ 63) ≤ k ∧ k < 2 ^ 63 ∧ xs.length * k.toNat ≤ sizeLine ∧
  ∀ p, H p = none → Q (.ref p) (upd H p (.lst (List.replicate k.toNat xs).flatten))
theorem len_rep {α : Type} (xs : List α) (k : Nat) : (List.replicate k xs).flatten.length = k * xs.length := by
  induction k with
  | zero => simp
  | succ k ih => rw [List.replicate_succ, List.flatten_cons, List.length_append, ih, Nat.succ_mul, Nat.add_comm]
theorem op_rep : OpR X (binaryOp .Mult) rRep := by
  intro pins s σ H x y v u Q I rx ry h
  obtain ⟨l, k, xs, rfl, rfl, hH, h1, h2, hz, q⟩ := h
  cases rx
  obtain ⟨t, rfl⟩ := ry
  obtain ⟨z, its, n, r, hl, e⟩ := I.lstM hH
  have hlen : its.toArray.size * k.toNat ≤ sizeLine := by rw [List.size_toArray, ← hl]; exact hz
  have hcap : ¬ its.toArray.size * k.toNat > (2 ^ 63 - 1) / 8 := by
    have : (sizeLine : Nat) ≤ (2 ^ 63 - 1) / 8 := by decide
    omega
  have hfit : ¬ (!Builtin.List.listFitsIndex k) = true := by
    rw [fitsIndex_both h1 h2]
    exact Bool.false_ne_true
  have hlong : ¬ Builtin.List.listTooLong (its.toArray.size * k.toNat) = true := by
    rw [notLongL hlen]
    exact Bool.false_ne_true
  have hnew : List.foldl (fun x1 x2 => x1 ++ x2) #[] (List.replicate (if its.toArray.isEmpty = true then 0 else k.toNat) its.toArray) = (List.replicate k.toNat its).flatten.toArray := by
    have f0 : ∀ m : Nat, List.foldl (fun x1 x2 => x1 ++ x2) #[] (List.replicate m its.toArray) = (List.replicate m its).flatten.toArray := fun m => by
      have := foldl_rep its m []
      rw [List.nil_append] at this
      exact this
    rw [f0]
    cases its with
    | nil => simp
    | cons a r' => rw [if_neg (by simp)]
  refine wpAny_binaryOp_repeat_ref (T := "list") (U := "int") (by decide) ⟨_, e, rfl⟩ (fun s' => typeIs_int s' k t) noFill_list_mul F.fills_int_mul F.slot_int_rmul repeat_list F.slot_int_index.lookup
    (call_meets F.slot_int_rmul (typeIs_int s k t) F.entry_int_rmul (F.args_int_rmul_2 _ _) (int___rmul___int_list k t l its.toArray n)
      ⟨e, rfl, ⟨_, e, rfl⟩, call_meets F.slot_list_mul ⟨_, e, rfl⟩ F.entry_list_mul (F.args_list_mul_2 _ _) (AutoListH.list___mul___list_int_3 l its.toArray n k t hfit hcap hlong) ⟨e, ?_⟩⟩)
  rw [hnew]
  exact ⟨.ref _, _, I.lnew (t' := s.toks) (r.rep k.toNat) (by rw [len_rep, Nat.mul_comm]; exact hz), rfl, q _ I.fresh⟩

/-! ### del xs[i] -/
end

/-! ### xs[a:b] = ys -/
section
variable {prog : Program} {w : World} {A : Around} {E : Value → Shared → Prop} {s : Shared}
set_option maxRecDepth 100000 in
end

section
variable {X : Cx}
end
end L2

namespace Att
open PySem PySem.W PySem.Calls PyProof.Rows

/-! ### the script -/
theorem ints_of_wellAll {P : Params} {h : Heap} : ∀ (ns : List Int) (vs : List Value), WellAll P h vs (ns.map WData.int) → IntsAre vs ns := by
  intro ns
  induction ns with
  | nil =>
    intro vs w
    rw [List.map_nil] at w
    cases w
    exact .nil
  | cons n ns ih =>
    intro vs w
    rw [List.map_cons] at w
    cases w with
    | cons a b =>
      cases a
      exact .cons _ _ (ih _ b)

theorem script_of {l : OpenLaw} {n : Nat} (hn : l.most = some n) {P : Params} {h : Heap} {args : List WData} {vals : List Value}
    (hpre : l.row.toRowW.claim.pre args = true) (hwl : WellAll P h vals args) :
    ∃ a vs ns, vals = [Value.ref a] ∧ args = [WData.list (ns.map WData.int)] ∧ h.get? a = some { cls := .type "list", data := .seq vs.toArray } ∧ IntsAre vs ns ∧ ns.length ≤ n := by
  have hsh : WShape.hasAll [] args [.list .int] = true := (pre_splitW hpre).1
  have hc : l.pre.holds [] { args := args } = true := (pre_splitW hpre).2
  obtain ⟨d, r, rfl, h1, h2⟩ := hasAllW_cons hsh
  obtain rfl := hasAllW_nil h2
  obtain ⟨xs, rfl, h3⟩ := hasW_list h1
  obtain ⟨ns, rfl⟩ := items_int h3
  have hlen : ns.length ≤ n := by
    unfold OpenLaw.pre at hc
    have h4 : (WTm.not (.lt (.lit (.int (n : Int))) (.len (.arg 0)))).holds [] { args := [.list (ns.map .int)] } = true := by
      have h4 := (holds_andW hc).1
      rw [hn] at h4
      exact h4
    have h5 := condW_of h4 (w_not (w_lt w_lit (w_len_list (w_arg rfl))))
    rw [List.length_map] at h5
    refine Nat.le_of_not_lt fun q => ?_
    have q' : (n : Int) < ((ns.length : Nat) : Int) := by omega
    first
      | (rw [decide_eq_true q'] at h5; exact absurd h5 (by decide))
      | (simp at h5; omega)
  cases hwl with
  | cons w1 w2 =>
    cases w2
    cases w1 with
    | list ho hall => exact ⟨_, _, ns, rfl, rfl, ho, ints_of_wellAll ns _ hall, hlen⟩

theorem post_true (l : OpenLaw) (args : List WData) : l.row.toRowW.claim.post args (.bool true) args = true :=
  postW_of (r := l.row.toRowW) (X := (true == true))
    (show WShape.has [] (.bool true) .bool = true by first | rfl | decide | simp [WShape.has, WShape.arms, WShape.armsAll])
    (show (WTm.eq .res (.lit (.bool true))).value [] { args := args, res := some (.bool true), after := args } = some (.bool (true == true)) from w_eq_bool (w_res rfl) w_lit) rfl

/-! ### the attachment: holds_open's last premise (the goal 'hc' behind k_head) from a wpAny of the law's body -/
/-- the same from a codeAny of the CALL (for a layer whose function contracts speak of calls) -/
theorem attach_call {l : OpenLaw} {n : Nat} {q : Program} {loose : List Str} {XP : (Str → Option Value) → Heap → Prop} {YP : World → Heap → Prop} {d : DefRec}
    (hn : l.most = some n) (hdf : d.params.defaults = [])
    (call : ∀ (w : World) (s₀ s₁ : Shared) (mg mb : Str → Option Value) (fa : Addr) (o : Obj) (pm cd doc : Value) (a : Addr) (vs : List Value) (ns : List Int),
      Ground q loose [] XP w s₀ mg mb s₁.heap → YP w s₁.heap →
      s₁.heap.get? fa = some o → o.data = .func (docDef d.name d.params d.body d.scope pm cd doc) → s₁.heap.CodeRec cd d.name → mg d.name = some (.ref fa) →
      s₁.heap.get? a = some { cls := .type "list", data := .seq vs.toArray } → IntsAre vs ns → ns.length ≤ n → s₁.gens = #[] →
      codeAny (model l.prog w) callerA (.call (.ref fa) ⟨[.ref a], []⟩) (fun r s' => r = .ok (.ret (.bool true)) ∧ OldK s₁.heap s'.heap ∧ s'.os = s₁.os ∧ AllBare s'.gens) s₁) :
    WalkO q loose XP YP l.row.toRowW d [] (fun f vs => PySem.call f vs) := by
  intro w s₀ s₁ mg mb G Y fa o pm cd doc dV kV ho hd hcd hD hmg hg args vals as hpre hlay hrd hwl hlo
  obtain rfl : dV = .none := Dflts.none hD hdf
  obtain rfl : kV = .none := Dflts.noKw hD
  obtain ⟨a, vs, ns, rfl, rfl, hobj, hints, hlen⟩ := script_of hn hpre hwl
  refine enter_call (codeAny_mono (call w s₀ s₁ mg mb fa o pm cd doc a vs ns G Y ho (fd_plain hd) hcd hmg hobj hints hlen hg) fun r s' hq => ?_)
  obtain ⟨rfl, h2, h3, h4⟩ := hq
  exact ⟨.inl ⟨.bool true, .bool true, [], rfl, fun _ => rfl, .bool true, post_true l _, fun _ => ⟨List.Pairwise.nil, fun _ hm => (nomatch hm)⟩⟩, h2, h3, h4⟩

/-! ### rules over ANY heap (no ledger) from facts about the written part K: the library's own take a ledger (News) for what they write -/
section
variable {prog : Program} {w : World} {A : Around} {E : Value → Shared → Prop} {s : Shared} {K : Frag}

/-! the whole heap as the ledger: makes every rule that writes through a ledger a rule over any heap -/
def ledger (h : Heap) (L d : Addr) : List (Addr × Obj) := (List.range h.objs.size).filterMap fun a => if a = L ∨ a = d then none else (h.get? a).map fun o => (a, o)
end
end Att

namespace L2
open PySem PySem.Spec PyProof.Rows

theorem vals_ints : ∀ {vs : List Value} {ns : List Int}, IntsAre vs ns → Vals (ns.map V.int) vs
  | _, _, .nil => .nil
  | _, _, .cons n t h => .cons ⟨t, rfl⟩ (vals_ints h)

/-- nothing is tracked but the script, known to the object (or it is an object of the module) -/
def Only (H : Hp) : Prop := ∀ b, H b = none ∨ ∃ o xs, H b = some (.frz o (.lst xs))

/-- THE HEAD: the law's promise, at the heap behind the top. F, the promise of the law's def, may use that base is part of the heap (so K.In base, base.Ns mainGlobals mg stand in Mod) -/
theorem law_call {P : Program} {w : World} {K : PySem.W.Frag} {mg mb : Str → Option Value} {CX : CXT} {k : Nat} {fa a : Addr} {fd : FuncData} {x : Str} {sp : Sp} {s₁ : Shared} {vs : List Value} {ns : List Int}
    (KX : K.In s₁.heap) (hns : s₁.heap.Ns mainGlobals mg) (hb : s₁.heap.Ns builtinsNs mb) (hbb : ∀ x : Str, x ≠ "__name__" → mb x = bootBuiltins x) (hlim : s₁.heap.NoLimit) (hg : s₁.gens = #[])
    (ha : s₁.heap.get? a = some { cls := .type "list", data := .seq vs.toArray }) (hi : IntsAre vs ns) (hl : ns.length ≤ sizeLine) (hr : Room k callerA)
    (F : ∀ base : Heap, K.In base → base.Ns mainGlobals mg → FnOk P w K mg base CX k fa fd [x] sp) (hbind : ∀ (s : Shared) (u : Value), BindsTo s fd ⟨[u], []⟩ [(x, u)])
    (hsp : ∀ H : Hp, Only H → SqL K H a (ns.map V.int) → sp [.ref a] H (fun v _ => v = .bl true) fun _ _ _ => False)
    (hCX : ∀ H e s', CX [] H s₁ (fun _ _ _ => False) e s' → False) :
    codeAny (model P w) callerA (.call (.ref fa) ⟨[.ref a], []⟩) (fun r s' => r = .ok (.ret (.bool true)) ∧ OldK s₁.heap s'.heap ∧ s'.os = s₁.os ∧ AllBare s'.gens) s₁ := by
  have rv := vals_ints hi
  have lenV := hi.length
  -- from an abstract heap in which nothing but the script may be tracked
  have core : ∀ H : Hp, Only H → SqL K H a (ns.map V.int) → HOk P w H s₁.heap → (∀ b, H b ≠ none → b = a) → (H a ≠ none → K.lookup a = none) →
      codeAny (model P w) callerA (.call (.ref fa) ⟨[.ref a], []⟩) (fun r s' => r = .ok (.ret (.bool true)) ∧ OldK s₁.heap s'.heap ∧ s'.os = s₁.os ∧ AllBare s'.gens) s₁ := by
    intro H hO hS hok hA hK
    have base_of : ∀ {b : Addr} {o : Obj}, s₁.heap.get? b = some o → H b = none → (hidT s₁.heap H).get? b = some o := fun e n => hidT_get e n
    have noA : ∀ {b : Addr} {o : Obj} {es : Array DictEntry} {ep : Nat}, s₁.heap.get? b = some o → o.data = .dict es ep → H b = none := fun {b o es ep} e d => by
      cases q : H b with
      | none => rfl
      | some u =>
        have e' : b = a := hA b (by rw [q]; simp)
        subst e'
        rw [ha] at e; cases e
        have d' : Data.seq vs.toArray _ = Data.dict es ep := d
        cases d'
    have nsK : ∀ {b : Addr} {m : Str → Option Value}, s₁.heap.Ns b m → (hidT s₁.heap H).Ns b m := fun {b m} ⟨o, es, ep, e, d, r⟩ => ⟨o, es, ep, base_of e (noA e d), d, r⟩
    have hKb : K.In (hidT s₁.heap H) := fun b o e => base_of (KX b o e) (by
      cases q : H b with
      | none => rfl
      | some u =>
        have e' : b = a := hA b (by rw [q]; simp)
        subst e'
        rw [hK (by rw [q]; simp)] at e; cases e)
    have hM : Mod K mg (hidT s₁.heap H) := ⟨hKb, nsK hns, ⟨mb, nsK hb, hbb⟩, let ⟨mc, h1, h2⟩ := hlim; ⟨mc, nsK h1, h2⟩⟩
    have e0 : Env0 P w K mg (hidT s₁.heap H) callerA [] s₁ H := ⟨rfl, hM, fun b o e => of_hidT e, Nat.le_of_eq (hidT_size _ _), trivial, fun b hb => absurd (show b ∈ ([] : List Addr) from hb) (by simp), hok, .of_eq hg⟩
    refine codeAny_mono ((F _ hKb (nsK hns)).run callerA [] s₁ H ⟨[.ref a], []⟩ [.ref a] [.ref a] _ _ hr e0 (hbind s₁ (.ref a)) (.cons rfl .nil) (hsp H hO hS)) fun r s' h => ?_
    cases r with
    | error e => exact (hCX H e s' h).elim
    | ok fl =>
      cases fl with
      | next => exact False.elim h
      | brk => exact False.elim h
      | cont => exact False.elim h
      | ret u =>
        obtain ⟨v, H', os, bare, un, hok', r', q⟩ := h
        have q' : v = .bl true := q
        subst q'
        obtain rfl : u = Value.bool true := r'
        refine ⟨rfl, OldK.of_keep fun b o e => ?_, os, bare⟩
        cases q : H b with
        | none => exact un.keep b o e q (by intro z; exact absurd (show b ∈ ([] : List Addr) from z) (by simp)) (by simp)
        | some u =>
          rcases hO b with z | ⟨ob, xs, z⟩
          · rw [q] at z; cases z
          · have z2 := un.frzs b ob _ z
            obtain ⟨e1, _⟩ := hok b _ z
            obtain ⟨e2, _⟩ := hok' b _ z2
            rw [e] at e1; cases e1
            exact e2
  cases hk : K.lookup a with
  | some o =>
    -- the script is one of the module's own objects
    have e := KX a o hk
    rw [ha] at e
    cases e
    refine core (fun _ => none) (fun _ => .inl rfl) (.inr ⟨_, vs.toArray, _, hk, rfl, rfl, rfl, by rw [List.size_toArray, lenV]; exact hl, by simpa using rv⟩) (fun b u z => by have z' : (none : Option HO) = some u := z; cases z') (fun b z => absurd rfl z) fun z => absurd rfl z
  | none =>
    refine core (fun b => if b = a then some (.frz { cls := .type "list", data := .seq vs.toArray } (.lst (ns.map V.int))) else none) (fun b => ?_) (.inl (.inr ⟨{ cls := .type "list", data := .seq vs.toArray }, if_pos rfl⟩)) (fun b u z => ?_) (fun b z => ?_) fun _ => hk
    · by_cases hb : b = a
      · exact .inr ⟨_, _, if_pos hb⟩
      · exact .inl (if_neg hb)
    · by_cases hb : b = a
      · have z' := (if_pos hb).symm.trans z
        cases z'
        subst hb
        exact ⟨ha, by rw [List.length_map]; exact hl, vs, _, rv, ha⟩
      · have z' := (if_neg hb).symm.trans z
        cases z'
    · by_cases hb : b = a
      · exact hb
      · exact absurd (if_neg hb) z
end L2

namespace L2
open PySem PySem.Spec PyProof.Rows

abbrev KOf {K : PySem.W.Frag} {h : Heap} (_ : K.In h) : PySem.W.Frag := K

/-- the goal that k_head leaves (case hc), from the law's promise. F gives the function object fd (K's own) once, then the promise over every base -/
theorem walk_of {l : PySem.W.OpenLaw} {n k : Nat} {q : Program} {loose : List Str} {XP : (Str → Option Value) → Heap → Prop} {YP : World → Heap → Prop} {d : DefRec} {K : Params → PySem.W.Frag} {CX : World → CXT} {sp : World → Sp} {x : Str}
    (hn : l.most = some n) (hn2 : n ≤ sizeLine) (hdf : d.params.defaults = []) (hr : Room k callerA)
    (hY : ∀ (w : World) (h : Heap), YP w h → (K w.params).In h)
    (F : ∀ (w : World) (mg : Str → Option Value) (fa : Addr) (h : Heap), (K w.params).In h → h.Ns mainGlobals mg → mg d.name = some (.ref fa) →
      ∃ fd : FuncData, (∀ (s : Shared) (u : Value), BindsTo s fd ⟨[u], []⟩ [(x, u)]) ∧
        ∀ base : Heap, (K w.params).In base → base.Ns mainGlobals mg → FnOk l.prog w (K w.params) mg base (CX w) k fa fd [x] (sp w))
    (hsp : ∀ (w : World) (H : Hp) (a : Addr) (ns : List Int), ns.length ≤ n → Only H → SqL (K w.params) H a (ns.map V.int) → sp w [.ref a] H (fun v _ => v = .bl true) fun _ _ _ => False)
    (hCX : ∀ (w : World) (H : Hp) (s : Shared) (e : Value) (s' : Shared), CX w [] H s (fun _ _ _ => False) e s' → False) :
    PySem.W.WalkO q loose XP YP l.row.toRowW d [] (fun f vs => PySem.call f vs) := by
  refine Att.attach_call hn hdf fun w s₀ s₁ mg mb fa o pm cd doc a vs ns G Y ho hd hcd hmg hobj hints hlen hg => ?_
  have KX := hY w _ Y
  obtain ⟨fd, hb, hF⟩ := F w mg fa _ KX G.T.g hmg
  exact law_call KX G.T.g G.T.b G.T.builtins G.T.nolimit hg hobj hints (Nat.le_trans hlen hn2) hr hF hb (fun H hO hS => hsp w H a ns hlen hO hS) fun H e s' => hCX w H s₁ e s'
end L2

/- THE LAST THEOREM (shape; LID, My.* are yours):
   My.Adr: a structure of the addresses that your layer names (classes, functions); My.Txt K t: a structure (Prop) of the equations over K;
   My.txt_mk : {K} {implicit addresses ..} (e1 : nsIn K mainGlobals "law" = some (some (.ref f))) (e2 : K.lookup f = some ⟨oc, od, .func (fnOf "law" "law" params body scope dV kV doc pm an cdv ct), sl⟩) (e3 : codeIn K cdv "law" = true) .. : ∃ t, My.Txt K t

set_option maxRecDepth 100000 in
set_option maxHeartbeats 0 in
theorem PySem.Challenge.cw_LID_holds : PySem.Challenge.rw_LID.Holds := by
  w_on; o_law; k_head; (case hw => w_witness2)
  k_fill
  refine L2.walk_of (l := PySem.Challenge.rw_LID) (n := 63) (k := 40) (x := "script") (CX := fun w => ..) (sp := fun _ => My.sp_law) rfl (by decide) rfl ⟨rfl, by decide, by decide⟩ (fun w h Y => PySem.W.kIn_of Y) ?F ?S ?C
  case F =>
    intro w mg fa h KX G hmg
    have T : ∃ t, My.Txt (L2.KOf KX) t := by
      dsimp only [L2.KOf]                          -- K must stand as «<heap const> w.params» for k_is
      refine' My.txt_mk ?e1 ?e2 ?e3 ..
      (case e1 => PySem.W.k_is)                    -- in the order: a name -> its address -> its object -> its parts
      (case e2 => PySem.W.k_is)
      ..
    obtain ⟨t, T⟩ := T
    have e0 := hmg.symm.trans (PySem.W.mg_of KX G T.law)
    cases e0                                       -- fa is the law's own address
    exact ⟨_, fun s u => .of_eq rfl, fun base kb nb => My.law_fn T kb nb⟩     -- if «.of_eq rfl» comes too early: refine' ⟨_, ?b, fun base kb nb => My.law_fn T kb nb⟩; exact fun s u => .of_eq rfl
  case S => exact fun w H a ns hl hO hS => ..
  case C => exact ..
(the tactic k_is has no namespace: write k_is) -/

/-! SHORT WORDS over the layer: a def of the text, its body, what a loop and a test want. -/
namespace L2
open PySem PySem.Spec PyProof.Rows

/-! ### the text by places -/
def defArgs (s : Stmt) : Arguments := match s with
  | .FunctionDef _ a _ _ _ _ _ _ _ _ => a
  | _ => { posonlyargs := [], args := [], vararg := none, kwonlyargs := [], kw_defaults := [], kwarg := none, defaults := [] }
def defBody (s : Stmt) : List Stmt := match s with
  | .FunctionDef _ _ b _ _ _ _ _ _ _ => b
  | _ => []
def defScope (s : Stmt) : Scope := match s with
  | .FunctionDef _ _ _ _ _ _ sc _ _ _ => sc
  | _ => { kind := .function, names := [], isGenerator := false, isCoroutine := false }

/-! ### no exception leaves a def -/
abbrev CX0 : CXT := fun _ _ _ _ _ _ => False
abbrev E0 : XK := fun _ _ _ => False
theorem pass0 {X : Cx} : Passes CX0 X E0 := fun _ _ _ _ _ _ _ h => h.elim

/-! ### a def (or method) of the text as it stands behind the top -/
structure Fun (K : PySem.W.Frag) (x qual : Str) (st : Stmt) (f : Addr) (fd : FuncData) : Prop where
  ex : ∃ (oc : Value) (od : Option Addr) (kV doc pm : Value) (an : Option Addr) (cdv ct : Value) (osl : Array (Option Value)),
    fd = PySem.W.fnOf x qual (defArgs st) (defBody st) (defScope st) .none kV doc pm an cdv ct ∧ K.lookup f = some ⟨oc, od, .func fd, osl⟩ ∧ PySem.W.codeIn K cdv qual = true
  kp : PySem.W.keepIn K (.ref f) = true
section
variable {P : Program} {w : World} {K : PySem.W.Frag} {mg : Str → Option Value} {base : Heap}
/-- THE RULE for a def: its body as a term of rules, and the reading of that term -/
theorem Fun.ok {x qual : Str} {st : Stmt} {f : Addr} {fd : FuncData} {N ps : List Str} {k : Nat} {sp : Sp} (F : Fun K x qual st f fd) (S : FnScope N ps (defScope st)) (len : ∀ vs H Q E, sp vs H Q E → vs.length = ps.length)
    (hbody : ∀ (cdv : Value) (A : Around) (outer : List Env) (s : Shared) (H : Hp) (vs : List V) (Q : VK) (E : XK), Room k (A.deeper (envOfC qual (defScope st) s.heap.objs.size f cdv)) → sp vs H Q E →
      ∃ t, PSs (cxOf CX0 P w K mg base N qual (defScope st) f cdv A outer s H E).nox (defBody st) t ∧ t { nx := fun _ H' => Q .non H', rt := Q } (start N vs) H) : FnOk P w K mg base CX0 (k + 1) f fd ps sp := by
  obtain ⟨oc, od, kV, doc, pm, an, cdv, ct, osl, rfl, lk, hcd⟩ := F.ex
  refine fn_of lk hcd S len fun A outer s H vs Q E hr hsp => ?_
  obtain ⟨t, h, q⟩ := hbody cdv A outer s H vs Q E hr hsp
  exact ⟨t, h.nox, q⟩
/-- how its arguments bind (no defaults): h is «fun _ _ _ _ _ _ us hl => match us, hl with | [_, _], _ => rfl», one _ a parameter -/
theorem Fun.binds {x qual : Str} {st : Stmt} {f : Addr} {fd : FuncData} {ps : List Str} (F : Fun K x qual st f fd)
    (h : ∀ (kV doc pm : Value) (an : Option Addr) (cdv ct : Value) (us : List Value), us.length = ps.length → bindArgs (PySem.W.fnOf x qual (defArgs st) (defBody st) (defScope st) .none kV doc pm an cdv ct) ⟨us, []⟩ = pure (ps.zip us)) : Binds K fd ps [] := by
  obtain ⟨oc, od, kV, doc, pm, an, cdv, ct, osl, rfl, lk, hcd⟩ := F.ex
  exact .all (h kV doc pm an cdv ct)
theorem fun_mk {x qual : Str} {st : Stmt} {f : Addr} {oc : Value} {od an : Option Addr} {osl : Array (Option Value)} {kV doc pm cdv ct : Value} (l : K.lookup f = some ⟨oc, od, .func (PySem.W.fnOf x qual (defArgs st) (defBody st) (defScope st) .none kV doc pm an cdv ct), osl⟩)
    (c : PySem.W.codeIn K cdv qual = true) (k : PySem.W.keepIn K (.ref f) = true) : Fun K x qual st f (PySem.W.fnOf x qual (defArgs st) (defBody st) (defScope st) .none kV doc pm an cdv ct) := ⟨⟨oc, od, kV, doc, pm, an, cdv, ct, osl, rfl, l, c⟩, k⟩
end
theorem hu_of {A : Around} {k : Nat} (hr : Room k A) : A.units + 1 < cLine := Nat.lt_of_le_of_lt (Nat.add_le_add_left (by decide : 1 ≤ 64) _) hr.units
/-! ### expressions in short: the name that stands in the i-th slot -/
section
variable {X : Cx}
theorem pv (i : Nat) {x : Str} {pos : Pos} (hN : X.N[i]? = some x := by rfl) (hv : Vis X.env.scope x := by first | exact Or.inl rfl | exact Or.inr (Or.inl rfl) | exact Or.inr (Or.inr rfl)) (hd : (x == ("__debug__" : Str)) = false := by decide)
    (hcd : (x == ("__classdict__" : Str)) = false := by decide) : PE X (.Name x pos) (tVar i) := pe_var hN hv hd hcd
end

/-! ### tests -/
theorem iteF {A B : Prop} (h : B) : if false = true then A else B := by
  rw [if_neg Bool.false_ne_true]
  exact h
theorem iteT {A B : Prop} (h : A) : if true = true then A else B := by
  rw [if_pos rfl]
  exact h
theorem ite2 {c A B : Prop} [Decidable c] (h1 : c → A) (h2 : ¬ c → B) : if c then A else B := by
  by_cases h : c
  · rw [if_pos h]
    exact h1 h
  · rw [if_neg h]
    exact h2 h
/-! ### heaps -/
/-- all that was tracked is as it was -/
def Same (H H' : Hp) : Prop := ∀ b o, H b = some o → H' b = some o
theorem Same.refl (H : Hp) : Same H H := fun _ _ h => h
theorem Same.trans {H H1 H2 : Hp} (a : Same H H1) (b : Same H1 H2) : Same H H2 := fun c o h => b c o (a c o h)
theorem Same.free {H H' : Hp} (e : Same H H') {l : Addr} (h : H' l = Option.none) : H l = Option.none := by
  cases q : H l with
  | none => rfl
  | some o =>
    rw [e l o q] at h
    cases h
theorem Same.seq {K : PySem.W.Frag} {H H' : Hp} {a : Addr} {xs : List V} (e : Same H H') (h : SqL K H a xs) : SqL K H' a xs := by
  rcases h with (h | ⟨o, h⟩) | h
  · exact .inl (.inl (e _ _ h))
  · exact .inl (.inr ⟨o, e _ _ h⟩)
  · exact .inr h

end L2
set_option Elab.async false
set_option linter.all false
set_option maxRecDepth 100000
set_option maxHeartbeats 4000000
namespace L2
open PySem PySem.Spec PyProof.Rows
/-! ### lists of pairs as tables -/
section
variable {κ : Type} [DecidableEq κ]
def valV (kvs : List (κ × V)) (k : κ) : Option V := (kvs.find? fun kv => decide (kv.1 = k)).map (·.2)
/-- in its place, or at the end -/
def putK (kvs : List (κ × V)) (k : κ) (v : V) : List (κ × V) :=
  if (kvs.any fun kv => decide (kv.1 = k)) = true then kvs.map (fun kv => if kv.1 = k then (kv.1, v) else kv) else kvs ++ [(k, v)]
def dropK (kvs : List (κ × V)) (k : κ) : List (κ × V) := kvs.filter fun kv => decide (kv.1 ≠ k)

theorem valV_pos {p : κ × V} {r : List (κ × V)} {k : κ} (e : p.1 = k) : valV (p :: r) k = some p.2 := by simp [valV, List.find?_cons, e]
theorem valV_neg {p : κ × V} {r : List (κ × V)} {k : κ} (e : ¬ p.1 = k) : valV (p :: r) k = valV r k := by simp [valV, List.find?_cons, e]
theorem valV_any (k : κ) : ∀ kvs : List (κ × V), (kvs.any fun kv => decide (kv.1 = k)) = (valV kvs k).isSome
  | [] => rfl
  | p :: r => by
    rw [List.any_cons]
    by_cases e : p.1 = k
    · simp only [valV_pos e, decide_eq_true e, Bool.true_or, Option.isSome_some]
    · rw [valV_neg e, decide_eq_false e, Bool.false_or]; exact valV_any k r
theorem length_putK (kvs : List (κ × V)) (k : κ) (v : V) : (putK kvs k v).length ≤ kvs.length + 1 := by
  unfold putK
  split
  · rw [List.length_map]; omega
  · rw [List.length_append, List.length_cons, List.length_nil]; omega
theorem RelO.isSome_eq {o : Option V} {u : Option Value} (r : RelO o u) : o.isSome = u.isSome := by
  cases o with
  | none => cases u with
    | none => rfl
    | some _ => exact (show False from r).elim
  | some _ => cases u with
    | none => exact (show False from r).elim
    | some _ => rfl
theorem RelO.getD {o : Option V} {u : Option Value} {d : V} {d' : Value} (r : RelO o u) (rd : RelV d d') : RelV (o.getD d) (u.getD d') := by
  cases o with
  | none => cases u with
    | none => exact rd
    | some _ => exact (show False from r).elim
  | some _ => cases u with
    | none => exact (show False from r).elim
    | some _ => exact r

/-- raw tables of the same keys -/
theorem KV.val {kvs : List (κ × V)} {vs : List (κ × Value)} (r : KV kvs vs) (k : κ) : RelO (valV kvs k) (valueAt vs k) := by
  unfold KV at r
  induction r with
  | nil => exact True.intro
  | @cons p q ps qs h t ih =>
    obtain ⟨h1, h2⟩ := h
    by_cases e : p.1 = k
    · have e' : q.1 = k := h1.symm.trans e
      have b : valueAt (q :: qs) k = some q.2 := by simp [valueAt, List.find?_cons, e']
      rw [valV_pos e, b]; exact h2
    · have e' : ¬ q.1 = k := fun z => e (h1.trans z)
      have b : valueAt (q :: qs) k = valueAt qs k := by simp [valueAt, List.find?_cons, e']
      rw [valV_neg e, b]; exact ih
theorem KV.any {kvs : List (κ × V)} {vs : List (κ × Value)} (r : KV kvs vs) (k : κ) : (kvs.any fun kv => decide (kv.1 = k)) = vs.any fun kv => decide (kv.1 = k) := by
  unfold KV at r
  induction r with
  | nil => rfl
  | cons h t ih => rw [List.any_cons, List.any_cons, ih, h.1]
theorem KV.repl {kvs : List (κ × V)} {vs : List (κ × Value)} (r : KV kvs vs) (k : κ) {y : V} {u : Value} (ry : RelV y u) :
    KV (kvs.map fun kv => if kv.1 = k then (kv.1, y) else kv) (vs.map fun kv => if kv.1 = k then (kv.1, u) else kv) := by
  unfold KV at r ⊢
  induction r with
  | nil => exact .nil
  | @cons p q ps qs h t ih =>
    rw [List.map_cons, List.map_cons]
    refine .cons ?_ ih
    obtain ⟨h1, h2⟩ := h
    by_cases e : p.1 = k
    · rw [if_pos e, if_pos (h1.symm.trans e)]; exact ⟨h1, ry⟩
    · rw [if_neg e, if_neg (fun z => e (h1.trans z))]; exact ⟨h1, h2⟩
theorem KV.put {kvs : List (κ × V)} {vs : List (κ × Value)} (r : KV kvs vs) (k : κ) {y : V} {u : Value} (ry : RelV y u) : KV (putK kvs k y) (stored vs k u) := by
  unfold putK stored
  rw [r.any k]
  by_cases e : (vs.any fun kv => decide (kv.1 = k)) = true
  · rw [if_pos e, if_pos e]; exact r.repl k ry
  · rw [if_neg e, if_neg e]; exact Paired.snoc r ⟨rfl, ry⟩
theorem KV.drop {kvs : List (κ × V)} {vs : List (κ × Value)} (r : KV kvs vs) (k : κ) : KV (dropK kvs k) (without vs k) := by
  unfold KV at r ⊢
  unfold dropK without
  induction r with
  | nil => exact .nil
  | @cons p q ps qs h t ih =>
    obtain ⟨h1, h2⟩ := h
    rw [List.filter_cons, List.filter_cons]
    by_cases e : p.1 = k
    · have a : ¬ decide (p.1 ≠ k) = true := by simp [e]
      have b : ¬ decide (q.1 ≠ k) = true := by simp [h1.symm.trans e]
      rw [if_neg a, if_neg b]; exact ih
    · have e' : ¬ q.1 = k := fun z => e (h1.trans z)
      have a : decide (p.1 ≠ k) = true := by simp [e]
      have b : decide (q.1 ≠ k) = true := by simp [e']
      rw [if_pos a, if_pos b]; exact .cons ⟨h1, h2⟩ ih
theorem KV.keys {kvs : List (κ × V)} {vs : List (κ × Value)} (r : KV kvs vs) : kvs.map (·.1) = vs.map (·.1) := by
  unfold KV at r
  induction r with
  | nil => rfl
  | cons h t ih => rw [List.map_cons, List.map_cons, ih, h.1]
theorem KV.length {kvs : List (κ × V)} {vs : List (κ × Value)} (r : KV kvs vs) : kvs.length = vs.length := Paired.length r
end


/-! ### a tracked dict, its keys ints and texts or tuples of these -/
theorem kV_is {P : Program} {w : World} {k : Key} {u : Value} (r : RelV (kV k) u) : (mixKind P w).is k u = true := by
  cases k with
  | inl i => obtain ⟨t, e⟩ := (show ∃ t, u = Value.int i t from r); subst e; exact mixKind_int P w i t
  | inr x => obtain ⟨t, e⟩ := (show ∃ t, u = Value.str x t from r); subst e; exact mixKind_str P w x t
theorem items_are {P : Program} {w : World} : ∀ {ks : List Key} {us : List Value}, Vals (ks.map kV) us → ItemsAre (mixKind P w) ks us
  | [], _, r => by rw [List.map_nil] at r; cases r; exact .nil
  | k :: ks, _, r => by
    rw [List.map_cons] at r
    cases r with
    | cons h t => exact .cons (kV_is h) (items_are t)

/-- raw entries of a dict with tuple keys -/
abbrev KT (H : Hp) : List (List Key × V) → List (List Key × Addr × Value) → Prop := Paired fun p q => p.1 = q.1 ∧ H q.2.1 = some (.tup (p.1.map kV)) ∧ RelV p.2 q.2.2
theorem KT.val {H : Hp} {kvs : List (List Key × V)} {xs : List (List Key × Addr × Value)} (r : KT H kvs xs) (k : List Key) : RelO (valV kvs k) ((atKey xs k).map (·.2)) := by
  induction r with
  | nil => exact True.intro
  | @cons p q ps qs h t ih =>
    obtain ⟨h1, _, h2⟩ := h
    by_cases e : p.1 = k
    · have e' : q.1 = k := h1.symm.trans e
      have b : atKey (q :: qs) k = some q.2 := by simp [atKey, List.find?_cons, e']
      rw [valV_pos e, b]; exact h2
    · have e' : ¬ q.1 = k := fun z => e (h1.trans z)
      have b : atKey (q :: qs) k = atKey qs k := by simp [atKey, List.find?_cons, e']
      rw [valV_neg e, b]; exact ih
theorem KT.repl {H : Hp} {kvs : List (List Key × V)} {xs : List (List Key × Addr × Value)} (r : KT H kvs xs) (k : List Key) {y : V} {u : Value} (ry : RelV y u) :
    KT H (kvs.map fun kv => if kv.1 = k then (kv.1, y) else kv) (xs.map (putAt k u)) := by
  induction r with
  | nil => exact .nil
  | @cons p q ps qs h t ih =>
    rw [List.map_cons, List.map_cons]
    refine .cons ?_ ih
    obtain ⟨h1, h2, h3⟩ := h
    unfold putAt
    by_cases e : p.1 = k
    · rw [if_pos e, if_pos (h1.symm.trans e)]; exact ⟨h1, h2, ry⟩
    · rw [if_neg e, if_neg (fun z => e (h1.trans z))]; exact ⟨h1, h2, h3⟩
theorem KT.put {H : Hp} {kvs : List (List Key × V)} {xs : List (List Key × Addr × Value)} (r : KT H kvs xs) (k : List Key) {b : Addr} {y : V} {u : Value} (hb : H b = some (.tup (k.map kV))) (ry : RelV y u) :
    KT H (putK kvs k y) (storedH xs k b u) := by
  have e : (kvs.any fun kv => decide (kv.1 = k)) = (atKey xs k).isSome := by
    rw [valV_any, (r.val k).isSome_eq, Option.isSome_map]
  unfold putK storedH
  rw [e]
  by_cases q : (atKey xs k).isSome = true
  · rw [if_pos q, if_pos q]; exact r.repl k ry
  · rw [if_neg q, if_neg q]; exact Paired.snoc r ⟨rfl, hb, ry⟩
theorem KT.keeps {H H' : Hp} {kvs : List (List Key × V)} {xs : List (List Key × Addr × Value)} (r : KT H kvs xs) (ht : ∀ b ys, H b = some (.tup ys) → H' b = some (.tup ys)) : KT H' kvs xs :=
  Paired.mapP r fun _ _ z => ⟨z.1, ht _ _ z.2.1, z.2.2⟩

section
variable {P : Program} {w : World} {H : Hp} {h : Heap} {a : Addr}
theorem rd_of {u : HO} (ok : HOk P w H h) (e : Rd H a u) : ObjOk P w H h a u := e.ok ok
theorem dk_rd {kvs : List (Key × V)} (ok : HOk P w H h) (e : Rd H a (.dK kvs)) : kvs.length ≤ sizeLine ∧ (a == sysModules) = false ∧ ∃ vs, KV kvs vs ∧ h.DictOf (mixKind P w) a vs :=
  show ObjOk P w H h a (.dK kvs) from rd_of ok e
theorem dk_of {kvs : List (Key × V)} (ok : HOk P w H h) (e : H a = some (.dK kvs)) : kvs.length ≤ sizeLine ∧ (a == sysModules) = false ∧ ∃ vs, KV kvs vs ∧ h.DictOf (mixKind P w) a vs := dk_rd ok (.inl e)
/-- a tracked tuple of ints and texts is a key -/
theorem key_of {ks : List Key} (ok : HOk P w H h) (e : H a = some (.tup (ks.map kV))) : (tupleKind (mixKind P w)).is h ks a := by
  obtain ⟨_, its, r, o, h1, h2, n, h3⟩ := (show ObjOk P w H h a (.tup (ks.map kV)) from ok a _ e)
  exact ⟨o, its.toArray, n, h1, h2, h3, by simpa using items_are r⟩
theorem dt_rd {kvs : List (List Key × V)} (ok : HOk P w H h) (e : Rd H a (.dT kvs)) : kvs.length ≤ sizeLine ∧ (a == sysModules) = false ∧
    ∃ xs, KT H kvs xs ∧ h.DictOfH (tupleKind (mixKind P w)) a xs := by
  obtain ⟨z, y, xs, r, o, es, ep, h1, h2, h3, h4, h5⟩ := (show ObjOk P w H h a (.dT kvs) from rd_of ok e)
  refine ⟨z, y, xs, r, o, es, ep, h1, h2, h3, h4, fun x hx => ?_, h5⟩
  have all : ∀ {l : List (List Key × V)} {m : List (List Key × Addr × Value)}, KT H l m → ∀ x ∈ m, (tupleKind (mixKind P w)).is h x.1 x.2.1 := by
    intro l m q
    induction q with
    | nil => intro x hx; exact nomatch hx
    | @cons p q ps qs hq t ih =>
      intro x hx
      rcases List.mem_cons.mp hx with e | hx
      · subst e
        exact key_of ok (by rw [← hq.1]; exact hq.2.1)
      · exact ih x hx
  exact all r x hx
end

/-- what the dict at a holds at the key y -/
def DGet (H : Hp) (a : Addr) (y : V) (r : Option V) : Prop :=
  (∃ kvs k, Rd H a (.dK kvs) ∧ y = kV k ∧ r = valV kvs k) ∨ ∃ kvs k b, Rd H a (.dT kvs) ∧ y = .ref b ∧ H b = some (.tup (k.map kV)) ∧ r = valV kvs k
/-- the heap behind a[y] = v -/
def DPut (H : Hp) (a : Addr) (y v : V) (H' : Hp) : Prop :=
  (∃ kvs k, H a = some (.dK kvs) ∧ y = kV k ∧ kvs.length < sizeLine ∧ H' = upd H a (.dK (putK kvs k v))) ∨
  ∃ kvs k b, H a = some (.dT kvs) ∧ y = .ref b ∧ H b = some (.tup (k.map kV)) ∧ kvs.length < sizeLine ∧ H' = upd H a (.dT (putK kvs k v))
theorem DGet.k {H : Hp} {a : Addr} {kvs : List (Key × V)} {k : Key} (e : H a = some (.dK kvs)) : DGet H a (kV k) (valV kvs k) := .inl ⟨kvs, k, .inl e, rfl, rfl⟩
theorem DGet.t {H : Hp} {a b : Addr} {kvs : List (List Key × V)} {k : List Key} (e : H a = some (.dT kvs)) (eb : H b = some (.tup (k.map kV))) : DGet H a (.ref b) (valV kvs k) := .inr ⟨kvs, k, b, .inl e, rfl, eb, rfl⟩
theorem DPut.k {H : Hp} {a : Addr} {kvs : List (Key × V)} {k : Key} {v : V} (e : H a = some (.dK kvs)) (hl : kvs.length < sizeLine) : DPut H a (kV k) v (upd H a (.dK (putK kvs k v))) := .inl ⟨kvs, k, e, rfl, hl, rfl⟩
theorem DPut.t {H : Hp} {a b : Addr} {kvs : List (List Key × V)} {k : List Key} {v : V} (e : H a = some (.dT kvs)) (eb : H b = some (.tup (k.map kV))) (hl : kvs.length < sizeLine) :
    DPut H a (.ref b) v (upd H a (.dT (putK kvs k v))) := .inr ⟨kvs, k, b, e, rfl, eb, hl, rfl⟩


section
variable {X : Cx} {pins : List (Addr × Obj)} {σ : St} {H : Hp} {s : Shared} {a : Addr} {y v : V} {u r : Value} {o : Option V} {A : Around} {E : Value → Shared → Prop}

theorem Inv.big (I : Inv X pins σ H s) : sysModules < s.heap.objs.size := by
  have h : mainGlobals < s.heap.objs.size := (I.mod.glob.keeps I.bk).lt
  exact Nat.lt_trans (by decide) h

/-- d[y], there -/
theorem d_getItem {Q : Value → Shared → Prop} (hu : A.units + 1 < cLine) (I : Inv X pins σ H s) (g : DGet H a y (some v)) (ry : RelV y u) (h : ∀ w' s', Inv X pins σ H s' → RelV v w' → Q w' s') :
    wpAny (model X.prog X.w) A (getItem (.ref a) u) Q E s := by
  rcases g with ⟨kvs, k, e, ey, l⟩ | ⟨kvs, k, b, e, ey, eb, l⟩
  · subst ey
    obtain ⟨z, hd, vs, rel, dd⟩ := dk_rd I.hok e
    obtain ⟨w', hw, rw'⟩ := RelO.some_of (v := v) (o := valueAt vs k) (by rw [l]; exact rel.val k)
    exact wpAny_getItem_of (kV_is ry) dd.mapOf hw (h w' _ (I.tok _) rw')
  · subst ey
    cases (show u = Value.ref b from ry)
    obtain ⟨z, hd, xs, rel, dd⟩ := dt_rd I.hok e
    obtain ⟨w', hw, rw'⟩ := RelO.some_of (v := v) (o := (atKey xs k).map (·.2)) (by rw [l]; exact rel.val k)
    obtain ⟨p, hp, hp2⟩ := Option.map_eq_some_iff.mp hw
    refine wpAny_getItem_heap (tupleKind_room_in1 hu) (key_of I.hok eb) dd hp ?_
    rw [hp2]
    exact h w' _ (I.tok _) rw'
/-- a dict's object is replaced -/
theorem d_write {h' : Heap} {t' : Nat} {ob : HO} (I : Inv X pins σ H s) (mu : Mut (H a)) (hs : Heap.SameBut a s.heap h') (he : ∃ q, h'.get? a = some q) (new : ObjOk X.prog X.w (upd H a ob) h' a ob) :
    Inv X pins σ (upd H a ob) { s with heap := h', toks := t' } :=
  I.write (x := a) (e := a) mu (.inl rfl) (fun b q hb z => (hs.2 b hb).trans z) he new
theorem dk_new {P : Program} {w : World} {H' : Hp} {h' : Heap} {kvs : List (Key × V)} {vs : List (Key × Value)} (z : kvs.length ≤ sizeLine) (hd : (a == sysModules) = false) (rel : KV kvs vs) (dd : h'.DictOf (mixKind P w) a vs) :
    ObjOk P w H' h' a (.dK kvs) := ⟨z, hd, vs, rel, dd⟩
end

section
variable {X : Cx} {pins : List (Addr × Obj)} {σ : St} {H : Hp} {s : Shared} {a : Addr} {kvs : List (Key × V)} {k : Key} {u : Value} {A : Around} {E : Value → Shared → Prop}
end


/-! ### readings and rules -/
/-- the element of a subscription, not a slice -/
def NoSl (i : Expr) : Prop := ∀ ov iv, subscripted i false ov iv = operate [ov, iv] (getItem ov iv)
theorem subD_of {prog : Program} {w : World} {A : Around} {E : Value → Shared → Prop} {s : Shared} {env : Env} {value slice : Expr} {pos : Pos} {T id : String} {Q : Value → Shared → Prop}
    (hl : typeLookup (.type T) "__getitem__" = pure (some (.builtin id))) (hs : NoSl slice)
    (h : wpAny (model prog w) A (eval value env) (fun o s₁ => wpAny (model prog w) A (eval slice env) (fun i s₂ => s₂.TypeIs o T ∧ wpAny (model prog w) A (getItem o i) Q E s₂) E s₁) E s) :
    wpAny (model prog w) A (eval (.Subscript value slice pos) env) Q E s := by
  refine Subscript_ (wpAny_mono h (fun o s₁ h₁ => wpAny_mono h₁ (fun i s₂ h₂ => ?_) fun _ _ x => x) fun _ _ x => x)
  obtain ⟨hT, h₂⟩ := h₂
  unfold subscriptTail
  refine wpAny_bind ?_
  rw [getitemInPython_of_ne hT.not_modules]
  refine wpAny_bind (wpAny_specialOf hT hl ?_)
  have fin : wpAny (model prog w) A (subscripted slice false o i) (fun r s₃ => wpAny (model prog w) A (letTemporaryGo value o r >>= fun _ => pure r) Q E s₃) E s₂ := by
    rw [hs o i]
    exact wpAny_operating (wpAny_mono h₂ (fun r s₃ h₃ => wpAny_bind (wpAny_letTemporaryGo (wpAny_pure h₃))) fun _ _ x => x)
  first
    | exact wpAny_pure (wpAny_bind fin)
    | exact wpAny_bind (wpAny_pure (wpAny_bind fin))
    | exact wpAny_bind fin

theorem dict_typeIs {X : Cx} {pins : List (Addr × Obj)} {σ : St} {H : Hp} {s : Shared} {a : Addr} {y : V} {o : Option V} (I : Inv X pins σ H s) (g : DGet H a y o) : s.TypeIs (.ref a) "dict" := by
  rcases g with ⟨kvs, k, e, _, _⟩ | ⟨kvs, k, b, e, _, _, _⟩
  · obtain ⟨_, _, vs, _, dd⟩ := dk_rd I.hok e
    exact dd.typeIs
  · obtain ⟨_, _, xs, _, dd⟩ := dt_rd I.hok e
    exact dd.typeIs
/-- d[y] -/
def tDGet (td ty : TE) : TE := fun σ H Q => td σ H fun x H1 => ty σ H1 fun y H2 => ∃ a v, x = .ref a ∧ DGet H2 a y (some v) ∧ Q v H2
section
variable {X : Cx} {o i e value : Expr} {pos pos' tpos : Pos} {td ty tv : TE}
theorem pe_dget (hu : X.A.units + 1 < cLine) (ho : PE X o td) (hi : PE X i ty) (hs : NoSl i) : PE X (.Subscript o i pos) (tDGet td ty) := by
  intro pins s σ H Q I h
  refine subD_of PySem.F.slot_dict_getitem.lookup hs (thn (ho pins s σ H _ I h) fun u s1 ⟨x, H1, I1, rx, q1⟩ => thn (hi pins s1 σ H1 _ I1 q1) fun iv s2 ⟨y, H2, I2, ry, a, v, ex, g, q2⟩ => ?_)
  subst ex
  obtain rfl : u = Value.ref a := rx
  exact ⟨dict_typeIs I2 g, d_getItem hu I2 g ry fun w' s3 I3 rw' => ⟨v, H2, I3, rw', q2⟩⟩
end


/-! ### displays -/
theorem dk_empty {P : Program} {w : World} {H : Hp} (h : Heap) (hb : sysModules < h.objs.size) : ObjOk P w H (h.push { cls := .type "dict", data := .dict #[] }) h.objs.size (.dK []) :=
  ⟨Nat.zero_le _, beq_eq_false_iff_ne.mpr (Ne.symm (Nat.ne_of_lt hb)), [], .nil, Heap.DictOf.new h⟩
section
variable {X : Cx} {pos : Pos}
end

/-- the pairs of a display, from the left -/
def tPairs : List (TE × TE) → St → Hp → (List (V × V) → Hp → Prop) → Prop
  | [], _, H, Q => Q [] H
  | (tk, tv) :: r, σ, H, Q => tk σ H fun x H1 => tv σ H1 fun y H2 => tPairs r σ H2 fun ps H3 => Q ((x, y) :: ps) H3
abbrev VV : List (V × V) → List (Value × Value) → Prop := Paired fun p q => RelV p.1 q.1 ∧ RelV p.2 q.2
def PPs (X : Cx) (pos : Pos) (keys : List (Option Expr)) (values : List Expr) (trs : List (TE × TE)) : Prop :=
  ∀ (pins : List (Addr × Obj)) (s : Shared) (σ : St) (H : Hp) (Q : List (V × V) → Hp → Prop), Inv X pins σ H s → tPairs trs σ H Q →
    wpAny (model X.prog X.w) X.A (evalPairs (pairTrees keys values X.env pos)) (fun vs s' => ∃ ps H', Inv X pins σ H' s' ∧ VV ps vs ∧ Q ps H') X.xe s
theorem pps_nil {X : Cx} {pos : Pos} : PPs X pos [] [] [] := fun pins s σ H Q I h => pairTrees_nil_walk ⟨[], H, I, .nil, h⟩
theorem pps_cons {X : Cx} {pos : Pos} {k v : Expr} {ks : List (Option Expr)} {vs : List Expr} {tk tv : TE} {trs : List (TE × TE)} (hk : PE X k tk) (hv : PE X v tv) (hr : PPs X pos ks vs trs) :
    PPs X pos (some k :: ks) (v :: vs) ((tk, tv) :: trs) := fun pins s σ H Q I h =>
  pairTrees_cons_walk (thn (hk pins s σ H _ I h) fun u s1 ⟨x, H1, I1, rx, q1⟩ => thn (hv pins s1 σ H1 _ I1 q1) fun w2 s2 ⟨y, H2, I2, ry, q2⟩ =>
    thn (hr pins s2 σ H2 _ I2 q2) fun ws s3 ⟨ps, H3, I3, rel, q3⟩ => ⟨(x, y) :: ps, H3, I3, .cons ⟨rx, ry⟩ rel, q3⟩)

def mergeK (kvs more : List (Key × V)) : List (Key × V) := more.foldl (fun acc kv => putK acc kv.1 kv.2) kvs
theorem KV.merge : ∀ {more : List (Key × V)} {rs : List (Key × Value)} {kvs : List (Key × V)} {vs : List (Key × Value)}, KV more rs → KV kvs vs → KV (mergeK kvs more) (merged vs rs) := by
  intro more rs kvs vs r
  unfold KV at r
  induction r generalizing kvs vs with
  | nil => intro q; exact q
  | @cons p q ps qs h t ih =>
    intro r0
    have e : KV (putK kvs p.1 p.2) (stored vs q.1 q.2) := by
      have := r0.put p.1 h.2
      rw [← h.1]; exact this
    exact ih e
theorem length_mergeK : ∀ (more kvs : List (Key × V)), (mergeK kvs more).length ≤ kvs.length + more.length
  | [], kvs => by show kvs.length ≤ kvs.length + 0; omega
  | p :: r, kvs => by
    have h1 := length_mergeK r (putK kvs p.1 p.2)
    have h2 := length_putK kvs p.1 p.2
    show (mergeK (putK kvs p.1 p.2) r).length ≤ _
    rw [List.length_cons]; omega
theorem carries_of {P : Program} {w : World} : ∀ {kvs : List (Key × V)} {ws : List (Value × Value)}, VV (kvs.map fun kv => (kV kv.1, kv.2)) ws → ∃ rs, Carries (mixKind P w) ws rs ∧ KV kvs rs
  | [], _, r => by rw [List.map_nil] at r; cases r; exact ⟨[], True.intro, .nil⟩
  | p :: kvs, _, r => by
    rw [List.map_cons] at r
    cases r with
    | @cons a b as bs h t =>
      obtain ⟨rs, c, q⟩ := carries_of (P := P) (w := w) t
      obtain ⟨b1, b2⟩ := b
      exact ⟨(p.1, b2) :: rs, ⟨kV_is h.1, rfl, c⟩, .cons ⟨rfl, h.2⟩ q⟩
/-- {k: v, ..} with keys ints and texts; the new dict stands empty while the pairs are made -/
def tDisp (trs : List (TE × TE)) : TE := fun σ H Q => ∀ p, H p = none → tPairs trs σ (upd H p (.dK [])) fun ps H2 => H2 p = some (.dK []) ∧ ∃ kvs : List (Key × V), ps = kvs.map (fun kv => (kV kv.1, kv.2)) ∧ kvs.length ≤ 15 ∧ Q (.ref p) (upd H2 p (.dK (mergeK [] kvs)))
theorem pe_disp {X : Cx} {pos : Pos} {keys : List (Option Expr)} {values : List Expr} {trs : List (TE × TE)} (h : PPs X pos keys values trs) (hall : keys.all (·.isSome) = true) (hl : keys.length = values.length) (h0 : keys ≠ [])
    (h15 : keys.length ≤ 15) : PE X (.Dict keys values pos) (tDisp trs) := by
  intro pins s σ H Q I q
  have hn := I.hok.fresh (Nat.le_refl s.heap.objs.size)
  have I1 := I.laid (a := s.heap.objs.size) (o := .dK []) (h' := s.heap.push { cls := .type "dict", data := .dict #[] }) (t' := s.toks) (fun _ _ q => Heap.get?_push_of_some _ q) (Nat.le_refl _) (dk_empty s.heap I.big)
  refine wpAny_Dict_walk (knd := mixKind X.prog X.w) hall hl h0 h15 (thn (h pins _ σ _ _ I1 (q _ hn)) fun ws s2 ⟨ps, H2, I2, rel, e, kvs, ep, lk, q2⟩ => ?_)
  subst ep
  obtain ⟨rs, c, rk⟩ := carries_of (P := X.prog) (w := X.w) rel
  obtain ⟨z, hd, vs0, r0, dd⟩ := dk_of I2.hok e
  cases r0
  refine ⟨rs, c, dd, fun h' dd' hs => ⟨.ref s.heap.objs.size, _, ?_, rfl, q2⟩⟩
  have hz : (mergeK [] kvs).length ≤ sizeLine := by
    have h1 := length_mergeK kvs []
    rw [List.length_nil] at h1
    rw [sizeLine_eq]; omega
  have he : ∃ q, h'.get? s.heap.objs.size = some q := let ⟨q, _, _, hq, _⟩ := dd'; ⟨q, hq⟩
  exact d_write I2 (by rw [e]; exact True.intro) hs he (dk_new hz hd (rk.merge .nil) dd')


end L2
set_option Elab.async false
set_option linter.all false
set_option maxRecDepth 100000
set_option maxHeartbeats 4000000
namespace L2
open PySem PySem.Spec PyProof.Rows

/-! ### the cells that a comprehension's block takes over -/
def clo (cells : List (Str × Addr)) : List (Str × NameKind) → List (Str × Addr) → List (Str × Addr)
  | [], cs => cs
  | p :: r, cs => clo cells r (if (p.2 == NameKind.free) = true then (match cells.lookup p.1 with | some a => (p.1, a) :: cs | none => cs) else cs)

theorem clo_run {env : Env} {f : Str × NameKind → List (Str × Addr) → Sem (ForInStep (List (Str × Addr)))}
    (hf : ∀ p cs, f p cs = if (p.2 == NameKind.free) = true then (cellOf env p.1 >>= fun a => pure (ForInStep.yield ((p.1, a) :: cs))) else pure (ForInStep.yield cs)) :
    ∀ (names : List (Str × NameKind)) (cs : List (Str × Addr)), (∀ p ∈ names, p.2 = .free → ∃ a, env.cells.lookup p.1 = some a) →
      (forIn names cs f : Sem (List (Str × Addr))) = pure (clo env.cells names cs) := by
  intro names
  induction names with
  | nil => intro cs _; rfl
  | cons p r ih =>
    intro cs h
    have hr := fun cs => ih cs fun q hq => h q (List.mem_cons_of_mem _ hq)
    rw [List.forIn_cons, hf]
    by_cases hk : p.2 = .free
    · obtain ⟨a, ha⟩ := h p List.mem_cons_self hk
      have hb : (p.2 == NameKind.free) = true := by rw [hk]; rfl
      rw [if_pos hb]
      have hc : cellOf env p.1 = pure a := by unfold cellOf; rw [ha]
      rw [hc]
      show (forIn r ((p.1, a) :: cs) f : Sem _) = _
      rw [hr, clo, if_pos hb, ha]
    · have hb : ¬ (p.2 == NameKind.free) = true := by simpa using hk
      rw [if_neg hb]
      show (forIn r cs f : Sem _) = _
      rw [hr, clo, if_neg hb]
theorem clo_for {env : Env} {scope : Scope} (h : ∀ p ∈ scope.names, p.2 = .free → ∃ a, env.cells.lookup p.1 = some a) : closureFor scope env = pure (clo env.cells scope.names []) := by
  simp only [closureFor]
  rw [clo_run (env := env) (fun p cs => by obtain ⟨n, k⟩ := p; cases hk : (k == NameKind.free) <;> simp [hk] <;> rfl) scope.names [] h]
  rfl
theorem clo_old {cells : List (Str × Addr)} {x : Str} {c : Addr} : ∀ (names : List (Str × NameKind)) (cs : List (Str × Addr)), (clo cells names cs).lookup x = some c → cells.lookup x = some c ∨ cs.lookup x = some c := by
  intro names
  induction names with
  | nil => intro cs h; exact .inr h
  | cons p r ih =>
    intro cs h
    rw [clo] at h
    rcases ih _ h with e | e
    · exact .inl e
    · split at e
      · cases ha : cells.lookup p.1 with
        | none => rw [ha] at e; exact .inr e
        | some a =>
          rw [ha] at e
          rw [List.lookup_cons] at e
          cases hx : x == p.1 with
          | true =>
            rw [hx] at e
            have : x = p.1 := by simpa using hx
            subst this
            left
            rw [ha]; exact e
          | false => rw [hx] at e; exact .inr e
      · exact .inr e
theorem clo_new {cells : List (Str × Addr)} {x : Str} {a : Addr} (ha : cells.lookup x = some a) : ∀ (names : List (Str × NameKind)) (cs : List (Str × Addr)),
    ((x, NameKind.free) ∈ names ∨ cs.lookup x = some a) → (clo cells names cs).lookup x = some a := by
  intro names
  induction names with
  | nil => intro cs h; rcases h with h | h
           · cases h
           · exact h
  | cons p r ih =>
    intro cs h
    rw [clo]
    by_cases hr : (x, NameKind.free) ∈ r
    · exact ih _ (.inl hr)
    · refine ih _ (.inr ?_)
      by_cases hb : (p.2 == NameKind.free) = true
      · rw [if_pos hb]
        by_cases hx : x = p.1
        · subst hx
          rw [ha]
          simp [List.lookup_cons]
        · have h2 : cs.lookup x = some a := by
            rcases h with h | h
            · rcases List.mem_cons.mp h with e | e
              · exact absurd (congrArg Prod.fst e) hx
              · exact absurd e hr
            · exact h
          cases hc : cells.lookup p.1 with
          | none => exact h2
          | some b =>
            have hx' : (x == p.1) = false := by simpa using hx
            simp [List.lookup_cons, hx', h2]
      · rw [if_neg hb]
        rcases h with h | h
        · rcases List.mem_cons.mp h with e | e
          · exact absurd (by rw [← e]; rfl) hb
          · exact absurd e hr
        · exact h

theorem mem_lookup {α β : Type} [BEq α] [LawfulBEq α] {x : α} {y : β} : ∀ {l : List (α × β)}, l.lookup x = some y → (x, y) ∈ l
  | [], h => by cases h
  | p :: r, h => by
    rw [List.lookup_cons] at h
    cases hx : x == p.1 with
    | true =>
      rw [hx] at h
      have e : x = p.1 := by simpa using hx
      cases h
      rw [e]
      exact List.mem_cons_self
    | false => rw [hx] at h; exact List.mem_cons_of_mem _ (mem_lookup h)

/-- how a name of the block is seen behind the relabelling -/
theorem relabG {f : Str × NameKind → Str × NameKind} (hf : ∀ p, f p = p ∨ (p.2 = .free ∧ f p = (p.1, .cell))) {x : Str} : ∀ {names : List (Str × NameKind)}, (names.map f).lookup x = names.lookup x ∨ (names.lookup x = some .free ∧ (names.map f).lookup x = some .cell)
  | [] => .inl rfl
  | p :: r => by
    have ih := @relabG f hf x r
    rw [List.map_cons]
    rcases hf p with e | ⟨e1, e2⟩
    · rw [e, List.lookup_cons, List.lookup_cons]
      cases hx : x == p.1 with
      | true => exact .inl rfl
      | false => exact ih
    · rw [e2, List.lookup_cons, List.lookup_cons]
      cases hx : x == p.1 with
      | true => exact .inr ⟨congrArg some e1, rfl⟩
      | false => exact ih
theorem relab {env : Env} {x : Str} {names : List (Str × NameKind)} :
    ((names.map fun (n, k) => if (k == NameKind.free && env.scope.kind == .function && env.kindOf n == some .cell) then (n, NameKind.cell) else (n, k)).lookup x = names.lookup x) ∨
    (names.lookup x = some .free ∧ (names.map fun (n, k) => if (k == NameKind.free && env.scope.kind == .function && env.kindOf n == some .cell) then (n, NameKind.cell) else (n, k)).lookup x = some .cell) := by
  refine relabG (fun p => ?_)
  obtain ⟨n, k⟩ := p
  by_cases hc : (k == NameKind.free && env.scope.kind == .function && env.kindOf n == some .cell) = true
  · right
    have hk : k = .free := by
      simp only [Bool.and_eq_true, beq_iff_eq] at hc
      exact hc.1.1
    exact ⟨hk, by show (if _ then _ else _) = _; rw [if_pos hc]⟩
  · left
    show (if _ then _ else _) = _
    rw [if_neg hc]

/-! ### the block's context -/
def cxB (X : Cx) (NB : List Str) (scope : Scope) (cl : List (Str × Addr)) (C : Addr) (fp : List Addr) (s : Shared) (H : Hp) : Cx where
  prog := X.prog
  w := X.w
  K := X.K
  mg := X.mg
  base := X.base
  A := X.A
  N := NB
  s₀ := s
  H₀ := H
  env := compEnvC scope cl C X.env
  outer := X.stack
  stack := X.stack
  ex := fp
  fn := fun _ => false
  calm := X.calm
  pn := []
  xe := fun _ _ => False

/-- the tests of a clause -/
def PIfs (X : Cx) (ifs : List Expr) (t : TT) : Prop :=
  ∀ (pins : List (Addr × Obj)) (s : Shared) (σ : St) (H : Hp) (Q : Bool → Hp → Prop), Inv X pins σ H s → t σ H Q →
    wpAny (model X.prog X.w) X.A (forIn ifs true fun c r => if r = true then do let ok ← isTrue c X.env (eval c X.env); pure (ForInStep.yield ok) else pure (ForInStep.yield r)) (TP X pins σ Q) X.xe s
def tYes : TT := fun _ H Q => Q true H
theorem pifs_nil {X : Cx} : PIfs X [] tYes := fun _ _ _ H _ I h => wpAny_tests_nil ⟨H, I, h⟩
theorem pifs_one {X : Cx} {c : Expr} {t : TT} (h : PT X c t) : PIfs X [c] t := fun pins s σ H Q I q => wpAny_tests_one (h pins s σ H Q I q)

section
variable {prog : Program} {w : World} {A : Around} {R : Result → Shared → Prop} {s : Shared}
/-- the loop of a list's comprehension by an invariant; nothing is raised in it -/
theorem comp_loop {elt target iter : Expr} {ifs : List Expr} {scope : Scope} {pos : Pos} {it acc : Value} {env : Env} (I : Nat → Shared → Prop)
    (turn : ∀ n s, I n s → wpAny (model prog w) A (pyNext it) (fun r s1 => (r = none ∧ R (.ok .next) s1) ∨ ∃ v, r = some v ∧
      wpAny (model prog w) A (letOwnedTupleGo target it v) (fun _ s2 => wpAny (model prog w) A (assign target env v) (fun _ s3 =>
        wpAny (model prog w) A (forIn ifs true fun c r => if r = true then do let ok ← isTrue c env (eval c env); pure (ForInStep.yield ok) else pure (ForInStep.yield r)) (fun ok s4 =>
          if ok = true then wpAny (model prog w) A (eval elt env) (fun x s5 => wpAny (model prog w) A (call (.builtin "list.append") [acc, x]) (fun _ s6 => ∃ m, m < n ∧ I m s6) (fun _ _ => False) s5) (fun _ _ => False) s4
          else ∃ m, m < n ∧ I m s4) (fun _ _ => False) s3) (fun _ _ => False) s2) (fun _ _ => False) s1) (fun _ _ => False) s)
    (n : Nat) (h : I n s) : codeAny (model prog w) A (.compLoop (.ListComp elt [⟨target, iter, ifs, 0⟩] scope pos) 0 it acc env) R s := by
  refine codeAny_loop rfl I (fun k s0 hk => ?_) n h
  show wpAny _ A (Sem.onRaise (compTurn (.ListComp elt [⟨target, iter, ifs, 0⟩] scope pos) 0 it acc env) (fun x => do noteFrame x env; theTreesLotGoes x)) _ _ s0
  refine wpAny_noted ?_
  rw [compTurn_list]
  refine wpAny_bind (wpAny_standAt (wpAny_bind (wpAny_mono (turn k s0 hk) (fun r s1 h1 => ?_) fun _ _ z => z.elim)))
  rcases h1 with ⟨rfl, h1⟩ | ⟨v, rfl, h1⟩
  · exact wpAny_pure h1
  · refine wpAny_bind (wpAny_mono h1 (fun _ s2 h2 => wpAny_bind (wpAny_mono h2 (fun _ s3 h3 => wpAny_bind (wpAny_mono h3 (fun ok s4 h4 => ?_) fun _ _ z => z.elim)) fun _ _ z => z.elim)) fun _ _ z => z.elim)
    cases ok with
    | false => exact wpAny_pure ⟨rfl, h4⟩
    | true => exact wpAny_bind (wpAny_bind (wpAny_mono h4 (fun x s5 h5 => wpAny_bind (wpAny_mono h5 (fun _ s6 h6 => wpAny_pure (wpAny_pure ⟨rfl, h6⟩)) fun _ _ z => z.elim)) fun _ _ z => z.elim))
end

/-- the tracked things stay when an untracked one is changed -/
theorem HOk.but {P : Program} {w : World} {H : Hp} {h h' : Heap} {C : Addr} (x : HOk P w H h) (hC : H C = none) (k : ∀ b o, b ≠ C → h.get? b = some o → h'.get? b = some o) : HOk P w H h' := fun b u e => by
  have nit : ∀ c v, H c = some v → c ≠ C := fun c v q z => by rw [z, hC] at q; cases q
  refine (x b u e).stay (fun c v hc q => k c v ?_ q) (fun _ q => q) fun _ _ q => q
  rcases hc with z | z
  · rw [z]; exact nit b u e
  · exact nit c _ z

/-- what a comprehension's loop wants: W the invariant, by the turn and a measure; D the list that is made -/
def CompGo (frs : St) (g : TG) (tt : TT) (te : TE) (Q : VK) (J : It) (H1 : Hp) : Prop := ∀ D, H1 D = none →
  ∃ W : Nat → Nat → List V → St → Hp → Prop, (∃ m, W 0 m [] frs (upd H1 D (.lst []))) ∧
    ∀ i m ys σ' H', W i m ys σ' H' → H' D = some (.lst ys) →
      (J.stop i H' ∧ Q (.ref D) H') ∨
      (J.go i H' ∧ ys.length < sizeLine ∧ ∀ x H2, J.yld i H' x H2 → g x σ' H2 fun σ3 H3 => tt σ3 H3 fun b H4 =>
        if b = true then te σ3 H4 fun v H5 => H5 D = some (.lst ys) ∧ ∃ m', m' < m ∧ W (i + 1) m' (ys ++ [v]) σ3 (upd H5 D (.lst (ys ++ [v])))
        else H4 D = some (.lst ys) ∧ ∃ m', m' < m ∧ W (i + 1) m' ys σ3 H4)
def tComp (n : Nat) (fr : List Nat) (wi : TI) (g : TG) (tt : TT) (te : TE) : TE := fun σ H Q => wi σ H (CompGo (List.replicate n none ++ fr.map fun k => (σ[k]?).join) g tt te Q)

section
variable {X : Cx} {elt tg iter : Expr} {ifs : List Expr} {scope : Scope} {pos : Pos} {NB : List Str} {n : Nat} {fr : List Nat} {wi : TI} {g : TG} {tt : TT} {te : TE}

structure CompOk (X : Cx) (scope : Scope) (NB : List Str) (n : Nat) (fr : List Nat) : Prop where
  kind : scope.kind = .function
  nocell : ∀ y ∈ scope.names, y.2 ≠ .cell
  names : ∀ y ∈ scope.names, y.2 = .local → scope.names.lookup y.1 = some .local
  free : ∀ y ∈ scope.names, y.2 = .free → X.env.kindOf y.1 = some .cell ∨ X.env.kindOf y.1 = some .free
  len : NB.length = n + fr.length
  own : ∀ (j k : Nat), fr[j]? = some k → ∃ x, NB[n + j]? = some x ∧ X.N[k]? = some x ∧ scope.names.lookup x = some .free

theorem blk_ok {pins : List (Addr × Obj)} {σ : St} {H : Hp} {s : Shared} {fp : List Addr} {C : Addr} (O : CompOk X scope NB n fr) (I : Inv X pins σ H s) (hf : ∀ b ∈ fp, FpOk X pins H b) (hfl : ∀ b ∈ fp, b < s.heap.objs.size) (hC : s.heap.objs.size ≤ C) :
    (cxB X NB scope (clo X.env.cells scope.names []) C fp s H).Ok where
  mod := I.ok.mod
  kind := O.kind
  glob := I.ok.glob
  blt := I.ok.blt
  above := hC
  inj := fun x y c h1 h2 => by
    have e1 := (clo_old scope.names [] h1).resolve_right (by intro z; cases z)
    have e2 := (clo_old scope.names [] h2).resolve_right (by intro z; cases z)
    exact I.ok.inj x y c e1 e2
  has := fun x hx => by
    have hx' : (relabel scope X.env).names.lookup x = some .cell ∨ (relabel scope X.env).names.lookup x = some .free := hx
    have hfree : scope.names.lookup x = some .free := by
      have r := @relab X.env x scope.names
      rcases r with r | r
      · have hx2 : scope.names.lookup x = some .cell ∨ scope.names.lookup x = some .free := by rw [← r]; exact hx'
        rcases hx2 with e | e
        · exact absurd rfl (O.nocell _ (mem_lookup e))
        · exact e
      · exact r.1
    have hm := mem_lookup hfree
    obtain ⟨c, hc⟩ := I.ok.has x (O.free _ hm rfl)
    exact ⟨c, clo_new hc scope.names [] (.inl hm)⟩
  cab := fun x c h => nomatch h
  hd := fun h => I.ok.hd h
  frames := I.ok.frames
  stk := .inl rfl
  exf := fun b hb => ⟨Nat.ne_of_lt (Nat.lt_of_lt_of_le (hfl b hb) hC), fun x c h => by
    have e1 := (clo_old scope.names [] h).resolve_right (by intro z; cases z)
    exact (hf b hb).2.2.2.2.1 x c e1⟩
  bs := I.bs
  bsz := Nat.le_trans I.ok.bsz I.sz
  noex := fun b o e hb => by
    rcases (hf b hb).2.2.2.1 with z | z
    · exact I.ok.noex b o e z
    · exact absurd (Nat.lt_of_lt_of_le (Heap.lt_size e) (Nat.le_trans I.ok.bsz z)) (Nat.lt_irrefl _)
  exfs := fun b hb z => by
    rcases List.mem_cons.mp (I.stkSub b z) with e | e
    · exact (hf b hb).2.1 e
    · exact (hf b hb).2.2.1 e
  funs := I.stack
  frf := I.stkFree

/-- a state whose block's own names are let go -/
theorem Inv.but {pins : List (Addr × Obj)} {σ : St} {H : Hp} {s : Shared} {C : Addr} {h' : Heap} (I : Inv X pins σ H s) (hC : X.s₀.heap.objs.size ≤ C) (hH : H C = none) (hL : C ≠ X.env.locals) (hcl : ∀ x c, X.env.cells.lookup x = some c → c ≠ C) (hpn : ∀ p ∈ X.pn ++ pins, p.1 ≠ C) (sb : Heap.SameBut C s.heap h') :
    Inv X pins σ H { s with heap := h' } := by
  refine I.call' (s' := { s with heap := h' }) (ch := [C]) rfl ?_ (HOk.but I.hok hH fun b o hb e => sb.extBut b o hb e) I.bare (fun b hb => ?_)
  · have ne : ∀ {b : Addr}, b ∉ [C] → b ≠ C := fun {b} h z => h (by rw [z]; exact List.mem_cons_self)
    exact ⟨fun b o e _ _ hx => sb.extBut b o (ne hx) e, fun b o e _ _ hx => ⟨o.slots, sb.extBut b o (ne hx) e⟩, fun _ _ _ n _ => n, fun b o e hx => ⟨o, sb.extBut b o (ne hx) e⟩, fun _ _ q => q, fun _ _ _ q => q, fun _ ps q => ⟨#[], by rw [q]; simp⟩⟩
  · have e : b = C := by simpa using hb
    subst e
    exact ⟨.inr hC, hL, hcl, hpn⟩
/-- the block itself, with what is done with its list -/
theorem comp_core {use : Option (Value → Sem Unit)} {QQ : Value → Shared → Prop} {pins : List (Addr × Obj)} {s : Shared} {σ : St} {H : Hp} {Q : VK} {pos2 : Pos} (O : CompOk X scope NB n fr) (hc : X.calm = true) (hi : PI X tg iter wi)
    (hg : ∀ cl C fp s H, PG (cxB X NB scope cl C fp s H) tg g) (ht : ∀ cl C fp s H, PIfs (cxB X NB scope cl C fp s H) ifs tt) (he : ∀ cl C fp s H, PE (cxB X NB scope cl C fp s H) elt te)
    (hs : ∀ x, foldedSetIterable iter X.env x = pure x) (I : Inv X pins σ H s) (h : tComp n fr wi g tt te σ H Q)
    (fin0 : ∀ (D C : Addr) (H' : Hp) (s' : Shared) (m : Str → Option Value), s'.heap.Ns C m → Inv X pins σ H' s' → X.s₀.heap.objs.size ≤ C → H' C = none → C ≠ X.env.locals → (∀ x c, X.env.cells.lookup x = some c → c ≠ C) → (∀ p ∈ X.pn ++ pins, p.1 ≠ C) → Q (.ref D) H' →
      compPost (model X.prog X.w) X.A X.xe use QQ (.ref D) C (.ok .next) s') :
    wpAny (model X.prog X.w) X.A (comprehension (.ListComp elt [⟨tg, iter, ifs, 0⟩] scope pos) scope X.env pos2 (newList []) false (eval iter X.env) use) QQ X.xe s := by
  have hcl : closureFor scope X.env = pure (clo X.env.cells scope.names []) := clo_for fun p hp hk => I.ok.has p.1 (O.free p hp hk)
  refine wpAny_comprehension_free (use := use) rfl hs hcl O.kind O.names (thn (hi pins s σ H _ I h) fun v s1 h1 => thn h1 fun itv s2 h2 => ?_)
  obtain ⟨it, fp, tn, J, H2, e, I2, T, st2, f2, R⟩ := h2
  subst e
  have fpl : ∀ b ∈ fp, b < s2.heap.objs.size := fun b hb => by
    obtain ⟨o, ho, _⟩ := T.obj 0 _ st2 b hb
    exact Heap.lt_size ho
  refine wpAny_newObj_type (wpAny_newFunctionEnv O.nocell (fun y hy => absurd hy (by simp)) (fun h1 ns1 sb1 => ?_) O.kind)
  dsimp only at ns1 sb1 ⊢
  generalize hD2 : s2.heap.push { cls := .type "list", dict := none, data := .seq ([] : List Value).toArray } = hp2 at ns1 sb1 ⊢
  have zC : hp2.objs.size = s2.heap.objs.size + 1 := by rw [← hD2, Heap.size_push]
  have kept : ∀ b o, s2.heap.get? b = some o → h1.get? b = some o := fun b o q => by
    have lt := Heap.lt_size q
    refine sb1.extBut b o (by rw [zC]; exact Nat.ne_of_lt (Nat.lt_succ_of_lt lt)) (Heap.get?_push_of_some _ ?_)
    rw [← hD2]
    exact Heap.get?_push_of_some _ q
  have gD : h1.get? s2.heap.objs.size = some { cls := .type "list", data := .seq ([] : List Value).toArray 0 } := by
    refine sb1.extBut _ _ (by rw [zC]; exact Nat.ne_of_lt (Nat.lt_succ_self _)) (Heap.get?_push_of_some _ ?_)
    rw [← hD2]
    exact Heap.get?_push_size _ rfl
  generalize hD : s2.heap.objs.size = D at *
  have fD : H2 D = none := I2.hok.fresh (Nat.le_of_eq hD)
  have fC : H2 hp2.objs.size = none := I2.hok.fresh (by rw [hD, zC]; exact Nat.le_succ _)
  have nCD : hp2.objs.size ≠ D := by rw [zC]; exact Nat.succ_ne_self _
  have hCle : s2.heap.objs.size ≤ hp2.objs.size := by rw [hD, zC]; exact Nat.le_succ _
  have ok := blk_ok (C := hp2.objs.size) O I2 f2 (fun b hb => by rw [hD]; exact fpl b hb) hCle
  obtain ⟨W, ⟨m0, w0⟩, turn⟩ := R D fD
  generalize hY : cxB X NB scope (clo X.env.cells scope.names []) hp2.objs.size fp s2 H2 = Y at ok
  have eY : Y.env = compEnvC scope (clo X.env.cells scope.names []) hp2.objs.size X.env := by rw [← hY]; rfl
  have I0 : Inv Y [] (List.replicate n none ++ fr.map fun k => (σ[k]?).join) (upd H2 D (.lst [])) { s2 with heap := h1, toks := s2.toks + ([] : List (Str × Value)).length } := by
    subst hY
    refine ⟨ok, rfl, I2.bare, Un.laid kept (Nat.le_of_eq hD) fD, ⟨_, ns1, fun i x v e1 e2 e3 => ?_⟩, fun x c h => ?_, ?_, fun x c h => ?_, fun p hp => absurd (show p ∈ ([] : List (Addr × Obj)) from hp) (by simp), ?_, ?_⟩
    · have hin : n ≤ i := by
        refine Nat.le_of_not_lt fun z => ?_
        rw [List.getElem?_append_left (by simpa using z), List.getElem?_replicate] at e2
        split at e2 <;> cases e2
      obtain ⟨j, rfl⟩ := Nat.exists_eq_add_of_le hin
      rw [List.getElem?_append_right (by simp)] at e2
      simp only [List.length_replicate, Nat.add_sub_cancel_left, List.getElem?_map] at e2
      cases hk : fr[j]? with
      | none => rw [hk] at e2; cases e2
      | some k =>
        rw [hk] at e2
        obtain ⟨x', n1, n2, n3⟩ := O.own j k hk
        have e1' : NB[n + j]? = some x := e1
        rw [n1] at e1'
        cases e1'
        have e4 : (σ[k]?).join = some v := Option.some.inj e2
        have e5 : σ[k]? = some (some v) := by
          cases q : σ[k]? with
          | none => rw [q] at e4; cases e4
          | some z => rw [q] at e4; exact congrArg some e4
        have hm := mem_lookup n3
        have kd := O.free _ hm rfl
        obtain ⟨m, hn, hl⟩ := I2.loc
        obtain ⟨u, ru, lk⟩ := hl k x v n2 e5 (by rcases kd with z | z; exact .inr (.inl z); exact .inr (.inr z))
        refine ⟨u, ru, .inr ⟨?_, ?_⟩⟩
        · show (relabel scope X.env).names.lookup x = some .cell ∨ (relabel scope X.env).names.lookup x = some .free
          rcases @relab X.env x scope.names with r | r
          · exact .inr (Eq.trans r n3)
          · exact .inl r.2
        · rcases lk with ⟨z, _⟩ | ⟨_, c, hc1, hc2⟩
          · rcases kd with q | q <;> (rw [z] at q; cases q)
          · refine ⟨c, clo_new hc1 scope.names [] (.inl hm), ?_⟩
            obtain ⟨o, ho, hd⟩ := hc2
            exact ⟨o, kept c o ho, hd⟩
    · have e1 := (clo_old scope.names [] (show (clo X.env.cells scope.names []).lookup x = some c from h)).resolve_right (by intro z; cases z)
      obtain ⟨v, o, ho, hd⟩ := I2.cell x c e1
      exact ⟨v, o, kept c o ho, hd⟩
    · show upd H2 D (.lst []) hp2.objs.size = none
      rw [upd_ne nCD]; exact fC
    · have e1 := (clo_old scope.names [] (show (clo X.env.cells scope.names []).lookup x = some c from h)).resolve_right (by intro z; cases z)
      obtain ⟨v, o, ho, hd⟩ := I2.cell x c e1
      rw [upd_ne (by rw [← hD]; exact Nat.ne_of_lt (Heap.lt_size ho))]
      exact I2.freeC x c e1
    · exact I2.hok.laid kept (Nat.le_of_eq hD) ⟨by simp, [], 0, .nil, gD⟩
    · show _ = NB.length
      rw [O.len]; simp
  have fY : ∀ {H' : Hp}, (∀ b ∈ fp, H' b = none) → ∀ b ∈ fp, FpOk Y [] H' b := fun {H'} hn b hb => by
    subst hY
    refine ⟨hn b hb, (ok.exf b hb).1, ok.exfs b hb, .inl hb, fun x c z => (ok.exf b hb).2 x c z, fun p hp => absurd (show p ∈ ([] : List (Addr × Obj)) from hp) (by simp)⟩
  have pY : Y.prog = X.prog ∧ Y.w = X.w ∧ Y.K = X.K ∧ Y.A = X.A ∧ Y.calm = true ∧ Y.xe = fun _ _ => False := by subst hY; exact ⟨rfl, rfl, rfl, rfl, hc, rfl⟩
  obtain ⟨p1, p2, p3, p4, p5, p6⟩ := pY
  have fin : ∀ {σ' : St} {H' : Hp} {s' : Shared}, Inv Y [] σ' H' s' → Q (.ref D) H' → compPost (model X.prog X.w) X.A X.xe use QQ (.ref D) hp2.objs.size (.ok .next) s' := fun {σ' H' s'} J' q => by
    subst hY
    obtain ⟨m, hn, _⟩ := J'.loc
    have fr' : H' hp2.objs.size = none := J'.free
    have neC : ∀ b o, s2.heap.get? b = some o → b ≠ hp2.objs.size := fun b o e => Nat.ne_of_lt (Nat.lt_of_lt_of_le (Heap.lt_size e) hCle)
    have J : Inv X pins σ H' s' := I2.call' (s' := s') J'.os J'.base J'.hok J'.bare fun b hb => by
      obtain ⟨_, a2, _, a4, a5, a6⟩ := f2 b hb
      exact ⟨a4, a2, a5, a6⟩
    refine fin0 D _ H' s' m hn J (Nat.le_trans I2.sz hCle) fr' (Ne.symm (Nat.ne_of_lt (Nat.lt_of_lt_of_le I2.lt hCle))) (fun x c e => ?_) (fun p hp => ?_) q
    · obtain ⟨v, o, ho, _⟩ := I2.cell x c e
      exact neC c o ho
    · exact neC _ _ (I2.pin p hp).1
  have st0 : tn 0 h1 := T.keep 0 _ _ st2 fun b hb o q => kept b o q
  have fp0 : ∀ b ∈ fp, upd H2 D (.lst []) b = none := fun b hb => by
    rw [upd_ne (Nat.ne_of_lt (fpl b hb))]; exact (f2 b hb).1
  have loop : ∀ s3 : Shared, s3 = { s2 with heap := h1, toks := s2.toks + ([] : List (Str × Value)).length } →
      codeAny (model X.prog X.w) X.A (.compLoop (.ListComp elt [⟨tg, iter, ifs, 0⟩] scope pos) 0 (.ref it) (.ref D) (compEnvC scope (clo X.env.cells scope.names []) hp2.objs.size X.env))
        (compPost (model X.prog X.w) X.A X.xe use QQ (.ref D) hp2.objs.size) s3 := by
    rintro s3 rfl
    refine comp_loop (fun k s' => ∃ i ys σ' H', Inv Y [] σ' H' s' ∧ tn i s'.heap ∧ (∀ b ∈ fp, H' b = none) ∧ H' D = some (.lst ys) ∧ W i k ys σ' H') ?_ m0 ⟨0, [], _, _, I0, st0, fp0, upd_same, w0⟩
    rintro k s4 ⟨i, ys, σ4, H4, I4, t4, fr4, d4, w4⟩
    have hgY : PG Y tg g := by subst hY; exact hg _ _ _ _ _
    have htY : PIfs Y ifs tt := by subst hY; exact ht _ _ _ _ _
    have heY : PE Y elt te := by subst hY; exact he _ _ _ _ _
    rcases turn i k ys σ4 H4 w4 d4 with ⟨stop, q⟩ | ⟨go, hlen, step⟩
    · have z := T.done Y p1 p2 p3 p5 i [] s4 σ4 H4 (fun _ _ => False) I4 (fY fr4) t4 stop
      rw [p4] at z
      exact thn z fun r s5 ⟨hr, I5⟩ => .inl ⟨hr, fin I5 q⟩
    · have z := T.item Y p1 p2 p3 p5 i [] s4 σ4 H4 (fun _ _ => False) I4 (fY fr4) t4 go
      rw [p4] at z
      refine thn z fun r s5 ⟨u, hr, h5⟩ => .inr ⟨u, hr, thn h5 fun _ s6 ⟨x, H6, I6, r6, y6, t6, fr6⟩ => ?_⟩
      have I6' := I6.pinned (fY fr6) (T.obj _ _ t6)
      have back : ∀ {σ7 : St} {H7 : Hp} {s7 : Shared}, Inv Y ([] ++ pinsAt fp s6.heap) σ7 H7 s7 → Inv Y [] σ7 H7 s7 ∧ tn (i + 1) s7.heap ∧ ∀ b ∈ fp, H7 b = none := fun {σ7 H7 s7} I7 => by
        refine ⟨I7.unpinned, T.keep _ _ _ t6 fun b hb o e => (I7.pin (b, o) (List.mem_append_right _ (List.mem_append_right _ (mem_pinsAt hb e)))).1, fun b hb => ?_⟩
        obtain ⟨o, e, _⟩ := T.obj _ _ t6 b hb
        exact (I7.pin (b, o) (List.mem_append_right _ (List.mem_append_right _ (mem_pinsAt hb e)))).2.1
      have a7 := hgY _ s6 σ4 H6 x u _ I6' r6 (step x H6 y6)
      rw [p1, p2, p4, p6, eY] at a7
      refine thn a7 fun _ s7 ⟨σ7, H7, I7, q7⟩ => ?_
      have a8 := htY _ s7 σ7 H7 _ I7 q7
      rw [p1, p2, p4, p6, eY] at a8
      refine thn a8 fun b s8 ⟨H8, I8, q8⟩ => ?_
      cases b with
      | false =>
        obtain ⟨d8, m', hm, w8⟩ := q8
        rw [if_neg Bool.false_ne_true]
        obtain ⟨b1, b2, b3⟩ := back I8
        exact ⟨m', hm, i + 1, ys, σ7, H8, b1, b2, b3, d8, w8⟩
      | true =>
        rw [if_pos rfl]
        have a9 := heY _ s8 σ7 H8 _ I8 q8
        rw [p1, p2, p4, p6, eY] at a9
        refine thn a9 fun uv s9 ⟨v, H9, I9, r9, d9, m', hm, w9⟩ => ?_
        have a10 := mt_append (X := Y) _ s9 σ7 H9 (.ref D) [v] (.ref D) [uv] (fun x H' => H' = upd H9 D (.lst (ys ++ [v]))) I9 rfl (.cons r9 .nil) ⟨D, ys, v, rfl, rfl, d9, hlen, rfl⟩
        rw [p1, p2, p4, p6] at a10
        refine thn a10 fun _ s10 ⟨_, H10, I10, _, e10⟩ => ?_
        subst e10
        obtain ⟨b1, b2, b3⟩ := back I10
        exact ⟨m', hm, i + 1, _, σ7, _, b1, b2, b3, upd_same, w9⟩
  refine codeAny_compStart_list (loop _ rfl) ?_
  exact T.self _ 0 _ _ _ st0 (loop _ rfl)
theorem pe_comp (O : CompOk X scope NB n fr) (hc : X.calm = true) (hi : PI X tg iter wi)
    (hg : ∀ cl C fp s H, PG (cxB X NB scope cl C fp s H) tg g) (ht : ∀ cl C fp s H, PIfs (cxB X NB scope cl C fp s H) ifs tt) (he : ∀ cl C fp s H, PE (cxB X NB scope cl C fp s H) elt te)
    (hs : ∀ x, foldedSetIterable iter X.env x = pure x := by intro _; rfl) : PE X (.ListComp elt [⟨tg, iter, ifs, 0⟩] scope pos) (tComp n fr wi g tt te) := by
  intro pins s σ H Q I h
  rw [eval_ListComp]
  exact comp_core (QQ := EP X pins σ Q) O hc hi hg ht he hs I h fun D C H' s' m hn J h1 h2 h3 h4 h5 q => ⟨m, hn, fun h' sb => ⟨.ref D, H', J.but h1 h2 h3 h4 h5 sb, rfl, q⟩⟩
/-- name = [ .. ] -/
theorem ps_comp {i : Nat} {x : Str} {py spos : Pos} (hN : X.N.Nodup) (hi1 : X.N[i]? = some x) (hx : Loc X.env.scope x) (O : CompOk X scope NB n fr) (hc : X.calm = true) (hi : PI X tg iter wi)
    (hg : ∀ cl C fp s H, PG (cxB X NB scope cl C fp s H) tg g) (ht : ∀ cl C fp s H, PIfs (cxB X NB scope cl C fp s H) ifs tt) (he : ∀ cl C fp s H, PE (cxB X NB scope cl C fp s H) elt te)
    (hs : ∀ x, foldedSetIterable iter X.env x = pure x := by intro _; rfl) (hsw : swapsWith (.ListComp elt [⟨tg, iter, ifs, 0⟩] scope pos) (some (.Name x py)) spos.line X.env = pure true := by rfl)
    (hf : X.fn x = true ∨ X.env.scope.names.lookup x = some .local := by first | exact .inl rfl | exact .inr rfl | assumption) :
    PS X (.Assign [.Name x py] (.ListComp elt [⟨tg, iter, ifs, 0⟩] scope pos) spos) (tAsg (tComp n fr wi g tt te) (gName i)) := by
  intro pins s σ H D I h
  rw [exec_Assign_Name_used _ _ _ _ hsw]
  refine wpAny_bind (wpAny_standAt (wpAny_bind ?_))
  show wpAny _ X.A (do let _ ← comprehension (.ListComp elt [⟨tg, iter, ifs, 0⟩] scope pos) scope X.env _ (newList []) false (eval iter X.env) (some (assign (.Name x py) X.env))) _ _ s
  refine wpAny_bind (wpAny_mono (comp_core (QQ := fun _ s' => SP X pins D .next s') (use := some (assign (.Name x py) X.env)) O hc hi hg ht he hs I h fun D1 C H' s' m hn J h1 h2 h3 h4 h5 q => ?_) (fun _ s' hq => wpAny_pure (wpAny_pure hq)) fun _ _ e => e)
  show wpAny _ X.A (assign (.Name x py) X.env (.ref D1)) _ _ _
  refine wpAny_assign_Name (store_ok2 (v := .ref D1) J hN hi1 hx rfl (fun s2 J2 ⟨a, sb, ha⟩ => ?_) hf)
  refine ⟨m, hn.sameBut sb ?_, fun h' sb2 => ⟨_, H', J2.but h1 h2 h3 h4 h5 sb2, q⟩⟩
  rcases ha with e | e
  · rw [e]; exact h3
  · exact Ne.symm (h4 _ _ e)
end
end L2
set_option Elab.async false
set_option linter.all false
set_option maxRecDepth 100000
set_option maxHeartbeats 4000000
namespace L2
open PySem PySem.Spec PyProof.Rows

/-! ### an iterator over a list (false) or a tuple (true), at place k -/
def Src (t : Bool) (h : Heap) (it l : Addr) (xs : Array Value) (k : Nat) : Prop := match t with
  | true => h.IsTupleIter it l k ∧ h.IsTuple l xs
  | false => h.IsListIter it l k ∧ h.IsList l xs
theorem Src.keep {t : Bool} {h h' : Heap} {it l : Addr} {xs : Array Value} {k : Nat} (x : Src t h it l xs k) (a : ∀ o, h.get? it = some o → h'.get? it = some o) (b : ∀ o, h.get? l = some o → h'.get? l = some o) : Src t h' it l xs k := by
  cases t with
  | true => obtain ⟨⟨o, h1, r1⟩, ⟨o2, h2, r2⟩⟩ := x; exact ⟨⟨o, a o h1, r1⟩, ⟨o2, b o2 h2, r2⟩⟩
  | false => obtain ⟨⟨o, h1, r1⟩, ⟨o2, h2, r2⟩⟩ := x; exact ⟨⟨o, a o h1, r1⟩, ⟨o2, b o2 h2, r2⟩⟩

section
variable {prog : Program} {w : World} {A : Around} {E : Value → Shared → Prop} {st : Shared}
theorem draw_tup {it l : Addr} {i : Nat} {its : Array Value} {x : Value} {Q : Value → Shared → Prop} (hit : st.heap.IsTupleIter it l i) (hl : st.heap.IsTuple l its) (hx : its[i]? = some x)
    (hQ : ∀ h', h'.IsTupleIter it l (i + 1) → Heap.SameBut it st.heap h' → Q x { st with heap := h' }) : wpAny (model prog w) A (Builtin.SmallTypes.nextOf (.ref it)) Q E st := by
  obtain ⟨o, ho, hc, hd⟩ := id hit
  obtain ⟨o2, ho2, _, n2, hd2⟩ := hl
  unfold Builtin.SmallTypes.nextOf
  refine wpAny_bind (wpAny_callSpecial?_slot (name := Str.ofString "__next__") hit.typeIs F.slot_tuple_iterator_next (wpAny_call_entry F.slot_tuple_iterator_next hit.typeIs F.entry_tuple_iterator_next ?_ (F.args_tuple_iterator_next_1 _)))
  show wpAny _ A.in1 (field (.ref it) 0 >>= _) _ _ st
  refine wpAny_bind (wpAny_field ho hd (x := .ref l) rfl ?_)
  show wpAny _ A.in1 (if (Value.ref l == Value.none) = true then _ else _) _ _ st
  rw [if_neg (fun z : (Value.ref l == Value.none) = true => Bool.false_ne_true z)]
  show wpAny _ A.in1 (field (.ref it) 1 >>= _) _ _ st
  refine wpAny_bind (wpAny_field (x := .int i 0) ho hd rfl ?_)
  show wpAny _ A.in1 (seqItems? (.ref l) >>= _) _ _ st
  refine wpAny_bind (wpAny_seqItems ho2 hd2 ?_)
  simp only [Int.toNat_natCast, hx]
  refine wpAny_bind (wpAny_setField ho hd (by simp) (wpAny_pure ⟨x, rfl, wpAny_pure (hQ _ ⟨_, Heap.get?_update_self _ ho (Obj.isFreed_of_fields (Obj.data_mapFields hd _)), (Obj.cls_mapFields ..).trans hc, ?_⟩ (Heap.SameBut.update ..))⟩))
  rw [Obj.data_mapFields hd]; simp [rawInt]
theorem draw_tup_end {it l : Addr} {i : Nat} {its : Array Value} {Q : Value → Shared → Prop} (hh : A.handled = none) (hit : st.heap.IsTupleIter it l i) (hl : st.heap.IsTuple l its) (hx : its[i]? = none)
    (hE : ∀ h' e, Heap.ExtBut it st.heap h' → (∃ o, h'.get? e = some o ∧ o.cls = .type "StopIteration") → E (.ref e) { st with heap := h' }) : wpAny (model prog w) A (Builtin.SmallTypes.nextOf (.ref it)) Q E st := by
  obtain ⟨o, ho, hc, hd⟩ := id hit
  obtain ⟨o2, ho2, _, n2, hd2⟩ := hl
  unfold Builtin.SmallTypes.nextOf
  refine wpAny_bind (wpAny_callSpecial?_slot (name := Str.ofString "__next__") hit.typeIs F.slot_tuple_iterator_next (wpAny_call_entry F.slot_tuple_iterator_next hit.typeIs F.entry_tuple_iterator_next ?_ (F.args_tuple_iterator_next_1 _)))
  show wpAny _ A.in1 (field (.ref it) 0 >>= _) _ _ st
  refine wpAny_bind (wpAny_field ho hd (x := .ref l) rfl ?_)
  show wpAny _ A.in1 (if (Value.ref l == Value.none) = true then _ else _) _ _ st
  rw [if_neg (fun z : (Value.ref l == Value.none) = true => Bool.false_ne_true z)]
  show wpAny _ A.in1 (field (.ref it) 1 >>= _) _ _ st
  refine wpAny_bind (wpAny_field (x := .int i 0) ho hd rfl ?_)
  show wpAny _ A.in1 (seqItems? (.ref l) >>= _) _ _ st
  refine wpAny_bind (wpAny_seqItems ho2 hd2 ?_)
  simp only [Int.toNat_natCast, hx]
  refine wpAny_bind (wpAny_rule (wpAny_bind (wpAny_setField ho hd (by simp) (wpAny_bind ?_))))
  show wpAny _ A.in1 (newExc (.type "StopIteration") []) _ _ _
  simp only [newTuple, newExc]
  refine wpAny_bind (wpAny_newObj_type (wpAny_bind (m := firstArgMember _ _) (wpAny_of_eq (a := Value.none) (by first | rfl | (simp only [firstArgMember]; rfl)) (wpAny_newObj_type ?_ (by size_fits)))) (by size_fits))
  simp only [raiseNew]
  refine wpAny_bind (wpAny_handled ?_)
  first | rw [hh] | rw [show A.in1.handled = none from hh]
  exact wpAny_bind (wpAny_pure (wpAny_throw (hE _ _ (((Heap.SameBut.update ..).extBut.push _).push _) ⟨_, Heap.get?_push_size _ rfl, rfl⟩)))

theorem Src.draw {t : Bool} {it l : Addr} {i : Nat} {its : Array Value} {x : Value} {Q : Value → Shared → Prop} (S : Src t st.heap it l its i) (hne : l ≠ it) (hx : its[i]? = some x)
    (hQ : ∀ h', Src t h' it l its (i + 1) → Heap.SameBut it st.heap h' → Q x { st with heap := h' }) : wpAny (model prog w) A (Builtin.SmallTypes.nextOf (.ref it)) Q E st := by
  cases t with
  | true => exact draw_tup S.1 S.2 hx fun h' a b => hQ h' ⟨a, S.2.extBut b.extBut hne⟩ b
  | false => exact wpAny_nextOf_list_item S.1 S.2 hx fun h' a b => hQ h' ⟨a, S.2.extBut b.extBut hne⟩ b
theorem Src.none {t : Bool} {it l : Addr} {i : Nat} {its : Array Value} {Q : Value → Shared → Prop} (hh : A.handled = none) (S : Src t st.heap it l its i) (hx : its[i]? = none)
    (hE : ∀ h' e, Heap.ExtBut it st.heap h' → (∃ o, h'.get? e = some o ∧ o.cls = .type "StopIteration") → E (.ref e) { st with heap := h' }) : wpAny (model prog w) A (Builtin.SmallTypes.nextOf (.ref it)) Q E st := by
  cases t with
  | true => exact draw_tup_end hh S.1 S.2 hx hE
  | false => exact wpAny_nextOf_list_end hh S.1 S.2 hx hE

/-- the five own records of a zip stand apart, and from what it walks -/
structure Apart (z TI TO i1 i2 l1 l2 : Addr) : Prop where
  a : TI ≠ z ∧ TO ≠ z ∧ i1 ≠ z ∧ i2 ≠ z
  b : TI ≠ TO ∧ TI ≠ i1 ∧ TI ≠ i2 ∧ TO ≠ i1 ∧ TO ≠ i2 ∧ i1 ≠ i2
  c : l1 ≠ z ∧ l1 ≠ TO ∧ l1 ≠ i1 ∧ l1 ≠ i2
  d : l2 ≠ z ∧ l2 ≠ TO ∧ l2 ≠ i1 ∧ l2 ≠ i2

theorem zip_item {z TI TO i1 i2 l1 l2 : Addr} {t1 t2 : Bool} {k : Nat} {xs ys : Array Value} {x y a b : Value} {Q : Value → Shared → Prop} (D : Apart z TI TO i1 i2 l1 l2)
    (hz : IsZip st.heap z TI TO .none) (hTI : IsPair st.heap TI (.ref i1) (.ref i2)) (hTO : IsPair st.heap TO a b)
    (h1 : Src t1 st.heap i1 l1 xs k) (h2 : Src t2 st.heap i2 l2 ys k) (hx : xs[k]? = some x) (hy : ys[k]? = some y)
    (hQ : ∀ h', IsZip h' z TI TO (rawInt st.heap.objs.size) → IsPair h' TO x y → Src t1 h' i1 l1 xs (k + 1) → Src t2 h' i2 l2 ys (k + 1) → IsPair h' st.heap.objs.size x y →
      (∀ c o, c ≠ z → c ≠ TO → c ≠ i1 → c ≠ i2 → st.heap.get? c = some o → h'.get? c = some o) → Q (.ref st.heap.objs.size) { st with heap := h' }) :
    wpAny (model prog w) A (Builtin.«zip.__next__» ⟨[.ref z], []⟩) (fun fin s' => ∃ v, fin = .done (.ret v) ∧ Q v s') E st := by
  obtain ⟨⟨d1, d2, d3, d4⟩, ⟨d5, d6, d7, d8, d9, d10⟩, ⟨d11, d12, d13, d14⟩, ⟨d15, d16, d17, d18⟩⟩ := D
  show wpAny _ A (field (.ref z) 2 >>= _) _ _ st
  refine wpAny_bind (wpAny_field (x := .bool false) hz rfl rfl ?_)
  show wpAny _ A (field (.ref z) 3 >>= _) _ _ st
  refine wpAny_bind (wpAny_field (x := .ref TI) hz rfl rfl (wpAny_bind (wpAny_seqItems hTI rfl ?_)))
  show wpAny _ A (Builtin.SmallTypes.ownedTupleIsFree (.ref z) >>= _) _ _ st
  refine wpAny_bind ?_
  unfold Builtin.SmallTypes.ownedTupleIsFree
  refine wpAny_bind (wpAny_field (x := .none) hz rfl rfl (wpAny_pure ?_))
  simp only [if_true]
  refine wpAny_bind (wpAny_rule (wpAny_bind (wpAny_field (x := .ref TO) hz rfl rfl (wpAny_bind (wpAny_setField_rec hz (by simp) fun g1 z1 b1 => ?_)))))
  replace z1 : IsZip g1 z TI TO .ellipsis := z1
  refine wpAny_bind ?_
  simp only [List.zipIdx_nil, List.zipIdx_cons, List.forIn_nil, List.forIn_cons]
  refine wpAny_bind (wpAny_bind (wpAny_onRaise ?_))
  show wpAny _ A (Builtin.SmallTypes.nextOf (.ref i1) >>= _) _ _ _
  have s1 : Src t1 g1 i1 l1 xs k := h1.keep (fun o e => b1.extBut _ o d3 e) (fun o e => b1.extBut _ o d11 e)
  refine wpAny_bind (Src.draw (st := { st with heap := g1 }) s1 d13 hx fun g2 s2 b2 => wpAny_pure ?_)
  have p2 : IsPair g2 TO a b := b2.extBut _ _ d8 (b1.extBut _ _ d2 hTO)
  refine wpAny_bind (wpAny_seqItems p2 rfl (wpAny_bind (wpAny_updateSeq_pair p2 fun g3 p3 b3 => ?_)))
  replace p3 : IsPair g3 TO x b := p3
  refine wpAny_bind (wpAny_letGo (wpAny_pure ?_))
  refine wpAny_bind (wpAny_bind (wpAny_onRaise ?_))
  show wpAny _ A (Builtin.SmallTypes.nextOf (.ref i2) >>= _) _ _ _
  have s3 : Src t2 g3 i2 l2 ys k := h2.keep (fun o e => b3.extBut _ o d9.symm (b2.extBut _ o d10.symm (b1.extBut _ o d4 e))) (fun o e => b3.extBut _ o d16 (b2.extBut _ o d17 (b1.extBut _ o d15 e)))
  refine wpAny_bind (Src.draw (st := { st with heap := g3 }) s3 d18 hy fun g4 s4 b4 => wpAny_pure ?_)
  have p4 : IsPair g4 TO x b := b4.extBut _ _ d9 p3
  refine wpAny_bind (wpAny_seqItems p4 rfl (wpAny_bind (wpAny_updateSeq_pair p4 fun g5 p5 b5 => ?_)))
  replace p5 : IsPair g5 TO x y := p5
  refine wpAny_bind (wpAny_letGo (wpAny_pure (wpAny_pure ?_)))
  refine wpAny_bind (wpAny_seqItems p5 rfl (wpAny_bind (wpAny_newTuple ?_)))
  have sz : g5.objs.size = st.heap.objs.size := by rw [b5.1, b4.1, b3.1, b2.1, b1.1]
  have z5 : IsZip g5 z TI TO .ellipsis := b5.extBut _ _ d2.symm (b4.extBut _ _ d4.symm (b3.extBut _ _ d2.symm (b2.extBut _ _ d3.symm z1)))
  have kp : ∀ c o, c ≠ z → c ≠ TO → c ≠ i1 → c ≠ i2 → st.heap.get? c = some o → g5.get? c = some o := fun c o c1 c2 c3 c4 e => b5.extBut _ _ c2 (b4.extBut _ _ c4 (b3.extBut _ _ c2 (b2.extBut _ _ c3 (b1.extBut _ _ c1 e))))
  have s5 : Src t1 g5 i1 l1 xs (k + 1) := s2.keep (fun o e => b5.extBut _ o d8.symm (b4.extBut _ o d10 (b3.extBut _ o d8.symm e))) (fun o e => b5.extBut _ o d12 (b4.extBut _ o d14 (b3.extBut _ o d12 e)))
  have r5 : Src t2 g5 i2 l2 ys (k + 1) := s4.keep (fun o e => b5.extBut _ o d9.symm e) (fun o e => b5.extBut _ o d16 e)
  have zlt : z < g5.objs.size := Heap.lt_size z5
  show wpAny _ A (Builtin.SmallTypes.ownedTupleHandOut (.ref z) (.ref g5.objs.size) >>= _) _ _ _
  refine wpAny_bind ?_
  unfold Builtin.SmallTypes.ownedTupleHandOut
  have z6 : IsZip (g5.push { cls := .type "tuple", data := .seq #[x, y] }) z TI TO .ellipsis := Heap.get?_push_of_some _ z5
  refine wpAny_bind (wpAny_setField_rec z6 (by simp) fun g7 z7 b7 => ?_)
  replace z7 : IsZip g7 z TI TO (rawInt g5.objs.size) := z7
  refine wpAny_setField_rec z7 (by simp) fun g8 z8 b8 => ?_
  replace z8 : IsZip g8 z TI TO (rawInt g5.objs.size) := z8
  have up : ∀ c o, c ≠ z → g5.get? c = some o → g8.get? c = some o := fun c o c1 e => b8.extBut _ _ c1 (b7.extBut _ _ c1 (Heap.get?_push_of_some _ e))
  have t8 : IsPair g8 g5.objs.size x y := b8.extBut _ _ (Nat.ne_of_gt zlt) (b7.extBut _ _ (Nat.ne_of_gt zlt) (Heap.get?_push_size _ rfl))
  rw [sz] at z8 t8
  refine wpAny_pure ⟨_, rfl, ?_⟩
  show Q (.ref g5.objs.size) _
  rw [sz]
  exact hQ g8 z8 (up _ _ d2 p5) (s5.keep (fun o e => up _ o d3 e) fun o e => up _ o d11 e) (r5.keep (fun o e => up _ o d4 e) fun o e => up _ o d15 e) t8 fun c o c1 c2 c3 c4 e => up c o c1 (kp c o c1 c2 c3 c4 e)

theorem zip_end {z TI TO i1 i2 l1 l2 : Addr} {t1 t2 : Bool} {k : Nat} {xs ys : Array Value} {a b : Value} {Q : Fin → Shared → Prop} (hh : A.handled = none) (D : Apart z TI TO i1 i2 l1 l2)
    (hz : IsZip st.heap z TI TO .none) (hTI : IsPair st.heap TI (.ref i1) (.ref i2)) (hTO : IsPair st.heap TO a b)
    (h1 : Src t1 st.heap i1 l1 xs k) (h2 : Src t2 st.heap i2 l2 ys k) (hend : xs[k]? = none ∨ ys[k]? = none)
    (hE : ∀ h' e, (∀ c o, c ≠ z → c ≠ TO → c ≠ i1 → c ≠ i2 → st.heap.get? c = some o → h'.get? c = some o) → (∃ o, h'.get? e = some o ∧ o.cls = .type "StopIteration") → E (.ref e) { st with heap := h' }) :
    wpAny (model prog w) A (Builtin.«zip.__next__» ⟨[.ref z], []⟩) Q E st := by
  obtain ⟨⟨d1, d2, d3, d4⟩, ⟨d5, d6, d7, d8, d9, d10⟩, ⟨d11, d12, d13, d14⟩, ⟨d15, d16, d17, d18⟩⟩ := D
  show wpAny _ A (field (.ref z) 2 >>= _) _ _ st
  refine wpAny_bind (wpAny_field (x := .bool false) hz rfl rfl ?_)
  show wpAny _ A (field (.ref z) 3 >>= _) _ _ st
  refine wpAny_bind (wpAny_field (x := .ref TI) hz rfl rfl (wpAny_bind (wpAny_seqItems hTI rfl ?_)))
  show wpAny _ A (Builtin.SmallTypes.ownedTupleIsFree (.ref z) >>= _) _ _ st
  refine wpAny_bind ?_
  unfold Builtin.SmallTypes.ownedTupleIsFree
  refine wpAny_bind (wpAny_field (x := .none) hz rfl rfl (wpAny_pure ?_))
  simp only [if_true]
  refine wpAny_bind (wpAny_rule (wpAny_bind (wpAny_field (x := .ref TO) hz rfl rfl (wpAny_bind (wpAny_setField_rec hz (by simp) fun g1 z1 b1 => ?_)))))
  replace z1 : IsZip g1 z TI TO .ellipsis := z1
  refine wpAny_bind ?_
  simp only [List.zipIdx_nil, List.zipIdx_cons, List.forIn_nil, List.forIn_cons]
  refine wpAny_bind (wpAny_bind (wpAny_onRaise ?_))
  show wpAny _ A (Builtin.SmallTypes.nextOf (.ref i1) >>= _) _ _ _
  have s1 : Src t1 g1 i1 l1 xs k := h1.keep (fun o e => b1.extBut _ o d3 e) (fun o e => b1.extBut _ o d11 e)
  cases hx : xs[k]? with
  | none =>
    refine wpAny_bind (Src.none (st := { st with heap := g1 }) hh s1 hx fun g2 e b2 he => ?_)
    obtain ⟨oe, hoe, hce⟩ := he
    have z2 : IsZip g2 z TI TO .ellipsis := b2 _ _ d3.symm z1
    have ez : e ≠ z := fun q => by subst q; rw [z2] at hoe; cases hoe; simp at hce
    refine wpAny_setField_rec z2 (by simp) fun g3 _ b3 => hE g3 e (fun c o c1 _ c3 _ q => b3.extBut _ _ c1 (b2 _ _ c3 (b1.extBut _ _ c1 q))) ⟨oe, b3.extBut _ _ ez hoe, hce⟩
  | some x =>
    have hy : ys[k]? = none := by rcases hend with h | h; rw [hx] at h; cases h; exact h
    refine wpAny_bind (Src.draw (st := { st with heap := g1 }) s1 d13 hx fun g2 s2 b2 => wpAny_pure ?_)
    have p2 : IsPair g2 TO a b := b2.extBut _ _ d8 (b1.extBut _ _ d2 hTO)
    refine wpAny_bind (wpAny_seqItems p2 rfl (wpAny_bind (wpAny_updateSeq_pair p2 fun g3 p3 b3 => ?_)))
    refine wpAny_bind (wpAny_letGo (wpAny_pure ?_))
    refine wpAny_bind (wpAny_bind (wpAny_onRaise ?_))
    show wpAny _ A (Builtin.SmallTypes.nextOf (.ref i2) >>= _) _ _ _
    have s3 : Src t2 g3 i2 l2 ys k := h2.keep (fun o e => b3.extBut _ o d9.symm (b2.extBut _ o d10.symm (b1.extBut _ o d4 e))) (fun o e => b3.extBut _ o d16 (b2.extBut _ o d17 (b1.extBut _ o d15 e)))
    refine wpAny_bind (Src.none (st := { st with heap := g3 }) hh s3 hy fun g4 e b4 he => ?_)
    obtain ⟨oe, hoe, hce⟩ := he
    have z4 : IsZip g4 z TI TO .ellipsis := b4 _ _ d4.symm (b3.extBut _ _ d2.symm (b2.extBut _ _ d3.symm z1))
    have ez : e ≠ z := fun q => by subst q; rw [z4] at hoe; cases hoe; simp at hce
    refine wpAny_setField_rec z4 (by simp) fun g5 _ b5 => hE g5 e (fun c o c1 c2 c3 c4 q => b5.extBut _ _ c1 (b4 _ _ c4 (b3.extBut _ _ c2 (b2.extBut _ _ c3 (b1.extBut _ _ c1 q))))) ⟨oe, b5.extBut _ _ ez hoe, hce⟩

end
section
def SqK (t : Bool) (h : Heap) (l : Addr) (xs : Array Value) : Prop := match t with
  | true => h.IsTuple l xs
  | false => h.IsList l xs
def itObj (t : Bool) (l : Addr) : Obj := { cls := .type (if t then "tuple_iterator" else "list_iterator"), data := .fields #[.ref l, .int 0 0] }
theorem SqK.push {t : Bool} {h : Heap} {l : Addr} {xs : Array Value} (x : SqK t h l xs) (o : Obj) : SqK t (h.push o) l xs := by
  cases t with
  | true => exact Heap.IsTuple.push x o
  | false => exact Heap.IsList.push x o
theorem Src.new {t : Bool} {h : Heap} {it l : Addr} {xs : Array Value} (e : h.get? it = some (itObj t l)) (q : SqK t h l xs) : Src t h it l xs 0 := by
  cases t with
  | true => exact ⟨⟨_, e, rfl, rfl⟩, q⟩
  | false => exact ⟨⟨_, e, rfl, rfl⟩, q⟩
variable {prog : Program} {w : World} {A : Around} {E : Value → Shared → Prop} {st : Shared}
theorem iter_sq {t : Bool} {l : Addr} {its : Array Value} {Q : Value → Shared → Prop} (hl : SqK t st.heap l its) (hQ : Q (.ref st.heap.objs.size) { st with heap := st.heap.push (itObj t l) }) : wpAny (model prog w) A (pyIter (.ref l)) Q E st := by
  cases t with
  | true => exact wpAny_pyIter_tuple hl hQ
  | false => exact wpAny_pyIter_list hl hQ
abbrev zp1 (h : Heap) (t1 : Bool) (l1 : Addr) : Heap := h.push (itObj t1 l1)
abbrev zp2 (h : Heap) (t1 t2 : Bool) (l1 l2 : Addr) : Heap := (zp1 h t1 l1).push (itObj t2 l2)
abbrev zp3 (h : Heap) (t1 t2 : Bool) (l1 l2 : Addr) : Heap := (zp2 h t1 t2 l1 l2).push { cls := .type "tuple", data := .seq #[.ref h.objs.size, .ref (zp1 h t1 l1).objs.size] }
abbrev zp4 (h : Heap) (t1 t2 : Bool) (l1 l2 : Addr) : Heap := (zp3 h t1 t2 l1 l2).push { cls := .type "tuple", data := .seq #[.none, .none] }
abbrev zp5 (h : Heap) (t1 t2 : Bool) (l1 l2 : Addr) : Heap := (zp4 h t1 t2 l1 l2).push { cls := .type "zip", data := .fields #[.none, .bool false, .bool false, .ref (zp2 h t1 t2 l1 l2).objs.size, .ref (zp3 h t1 t2 l1 l2).objs.size] }
theorem meets_zipK (t1 t2 : Bool) (l1 l2 : Addr) (xs ys : Array Value) :
    Meets (Builtin.«zip.__new__» ⟨[.type "zip", .ref l1, .ref l2], []⟩) (fun _ R s => SqK t1 s.heap l1 xs ∧ SqK t2 s.heap l2 ys ∧ R (.ok (.ret (.ref (zp4 s.heap t1 t2 l1 l2).objs.size))) { s with heap := zp5 s.heap t1 t2 l1 l2 }) :=
  .of_wp fun prog w A R s h => by
    obtain ⟨hp, g, d, tk, os⟩ := s
    obtain ⟨q1, q2, h⟩ := h
    have hsub := sub_zip
    have r1 : SqK t1 (Shared.heap ⟨hp, g, d, tk, os⟩) l1 xs := q1
    have r2 : SqK t2 (Shared.heap ⟨hp.push (itObj t1 l1), g, d, tk, os⟩) l2 ys := q2.push _
    wp_walk using iter_sq r1, iter_sq r2
    exact ⟨_, rfl, h⟩
theorem call_zipK {t1 t2 : Bool} {l1 l2 : Addr} {xs ys : Array Value} {Q : Value → Shared → Prop} (q1 : SqK t1 st.heap l1 xs) (q2 : SqK t2 st.heap l2 ys)
    (h : ∀ h', IsZip h' (st.heap.objs.size + 4) (st.heap.objs.size + 2) (st.heap.objs.size + 3) .none → IsPair h' (st.heap.objs.size + 2) (.ref st.heap.objs.size) (.ref (st.heap.objs.size + 1)) →
      IsPair h' (st.heap.objs.size + 3) .none .none → Src t1 h' st.heap.objs.size l1 xs 0 → Src t2 h' (st.heap.objs.size + 1) l2 ys 0 →
      (∀ c o, st.heap.get? c = some o → h'.get? c = some o) → Q (.ref (st.heap.objs.size + 4)) { st with heap := h' }) :
    wpAny (model prog w) A (call (.type "zip") [.ref l1, .ref l2]) Q E st := by
  refine callType_new F.called_zip (by decide) (F.typeCall_zip_2 _ _) (F.newCall_zip_2 _ _) (fun obj => F.args_object_init_3 obj _ _) F.entry_zip_new (meets_zipK t1 t2 l1 l2 xs ys) ⟨q1, q2, ?_⟩
  have n1 : (zp1 st.heap t1 l1).objs.size = st.heap.objs.size + 1 := Heap.size_push ..
  have n2 : (zp2 st.heap t1 t2 l1 l2).objs.size = st.heap.objs.size + 2 := by rw [Heap.size_push, n1]
  have n3 : (zp3 st.heap t1 t2 l1 l2).objs.size = st.heap.objs.size + 3 := by rw [Heap.size_push, n2]
  have n4 : (zp4 st.heap t1 t2 l1 l2).objs.size = st.heap.objs.size + 4 := by rw [Heap.size_push, n3]
  have g5 : (zp5 st.heap t1 t2 l1 l2).get? (zp4 st.heap t1 t2 l1 l2).objs.size = some _ := Heap.get?_push_size _ rfl
  have g4 : (zp5 st.heap t1 t2 l1 l2).get? (zp3 st.heap t1 t2 l1 l2).objs.size = some _ := Heap.get?_push_of_some _ (Heap.get?_push_size _ rfl)
  have g3 : (zp5 st.heap t1 t2 l1 l2).get? (zp2 st.heap t1 t2 l1 l2).objs.size = some _ := Heap.get?_push_of_some _ (Heap.get?_push_of_some _ (Heap.get?_push_size _ rfl))
  have g2 : (zp5 st.heap t1 t2 l1 l2).get? (zp1 st.heap t1 l1).objs.size = some _ := Heap.get?_push_of_some _ (Heap.get?_push_of_some _ (Heap.get?_push_of_some _ (Heap.get?_push_size _ rfl)))
  have g1 : (zp5 st.heap t1 t2 l1 l2).get? st.heap.objs.size = some _ := Heap.get?_push_of_some _ (Heap.get?_push_of_some _ (Heap.get?_push_of_some _ (Heap.get?_push_of_some _ (Heap.get?_push_size _ rfl))))
  show _ ∧ _
  rw [n2, n3, n4] at g5
  rw [n1, n2] at g3
  rw [n3] at g4
  rw [n1] at g2
  rw [n4]
  exact ⟨⟨_, g5, rfl⟩, h _ g5 g3 g4 (Src.new g1 ((((q1.push _).push _).push _).push _ |>.push _)) (Src.new g2 ((((q2.push _).push _).push _).push _ |>.push _)) fun c o x =>
    Heap.get?_push_of_some _ (Heap.get?_push_of_some _ (Heap.get?_push_of_some _ (Heap.get?_push_of_some _ (Heap.get?_push_of_some _ x))))⟩
end
end L2
set_option Elab.async false
set_option linter.all false
set_option maxRecDepth 100000
set_option maxHeartbeats 4000000
namespace L2
open PySem PySem.Spec PyProof.Rows

/-! ### for sign in text -/
def Its (x : Str) : It := ⟨fun i _ => i < x.cps.size, fun i H v H' => H' = H ∧ ∃ c, x.cps[i]? = some c ∧ v = .str ⟨#[c]⟩, fun i _ => i = x.cps.size⟩
theorem turn_sign {P : Program} {w : World} {K : PySem.W.Frag} {y : Str} {pos : Pos} (it : Addr) (x : Str) (t : Tok) (nm : String)
    (W : ∀ A' : Around, A'.handled = none → Walks P w A' it [it] [it] x.cps.size (SignAt x) (fun i h => h.IsStrIter it nm x t i))
    (self : ∀ (A : Around) (i : Nat) (s : Shared) (Q : Value → Shared → Prop) (E : Value → Shared → Prop), s.heap.IsStrIter it nm x t i → Q (.ref it) s → wpAny (model P w) A (pyIter (.ref it)) Q E s) :
    Turn P w K (.Name y pos) (Its x) [it] it (fun i h => h.IsStrIter it nm x t i) where
  mem := by simp
  obj := fun i h st b hb => by
    have e : b = it := by simpa using hb
    subst e
    obtain ⟨o, e, c, d⟩ := st
    exact ⟨o, e, fun v z => by rw [d] at z; cases z⟩
  keep := fun i h h' st k => let ⟨o, ho, r⟩ := st; ⟨o, k it (by simp) o ho, r⟩
  item := by
    intro X hP hw hK hc i pins s σ H E I hf st hg
    subst hP hw hK
    obtain ⟨f0, f1, f2, f3, f4, f5⟩ := hf it (by simp)
    refine (W X.A (I.ok.hd hc)).item i s _ _ hg st fun v h' tk hv st' kk => ?_
    obtain ⟨c, u, hcc, rfl⟩ := hv
    have I1 : Inv X pins σ H { s with heap := h', toks := tk } := I.turned (fun b o hb e => kk b o (by simpa using hb) e) f0 f1 f3 f4 f5
    exact ⟨_, rfl, wpAny_pure ⟨.str ⟨#[c]⟩, H, I1, ⟨u, rfl⟩, ⟨rfl, c, hcc, rfl⟩, st', fun b hb => (hf b hb).1⟩⟩
  done := by
    intro X hP hw hK hc i pins s σ H E I hf st hg
    subst hP hw hK
    have hg' : i = x.cps.size := hg
    subst hg'
    obtain ⟨f0, f1, f2, f3, f4, f5⟩ := hf it (by simp)
    exact (W X.A (I.ok.hd hc)).done s _ _ st fun h' tk kk => ⟨rfl, I.turned (t' := tk) (fun b o hb e => kk b o (by simpa using hb) e) f0 f1 f3 f4 f5⟩
  self := self
def iStr (te : TE) : TI := fun σ H R => te σ H fun v H1 => ∃ x, v = .str x ∧ R (Its x) H1
theorem pi_str {X : Cx} {l : Expr} {te : TE} {y : Str} {p : Pos} (hl : PE X l te) : PI X (.Name y p) l (iStr te) := by
  intro pins s σ H R I h
  refine thn (hl pins s σ H _ I h) fun v s1 ⟨z, H1, I1, r1, q1⟩ => ?_
  obtain ⟨x, e, q⟩ := q1
  subst e
  obtain ⟨t, rfl⟩ := r1
  have fp : ∀ b ∈ [s1.heap.objs.size], FpOk X pins H1 b := fun b hb => by
    have e : b = s1.heap.objs.size := by simpa using hb
    subst e
    exact I1.fpOk (Nat.le_refl _) (I1.hok.fresh (Nat.le_refl _))
  cases ha : x.cps.all (· < 128)
  · exact wpAny_pyIter_wide ha ⟨s1.heap.objs.size, [s1.heap.objs.size], _, _, H1, rfl, I1.kept (t' := s1.toks) fun b o e => Heap.get?_push_of_some _ e,
      turn_sign _ x t "str_iterator" (fun A' hA => Walks.strWide hA _ x t) (fun _ _ _ _ _ st h => wpAny_pyIter_striter_wide st h), ⟨_, Heap.get?_push_size _ rfl, rfl, rfl⟩, fp, q⟩
  · exact wpAny_pyIter_ascii ha ⟨s1.heap.objs.size, [s1.heap.objs.size], _, _, H1, rfl, I1.kept (t' := s1.toks) fun b o e => Heap.get?_push_of_some _ e,
      turn_sign _ x t "str_ascii_iterator" (fun A' hA => Walks.strAscii hA _ x t) (fun _ _ _ _ _ st h => wpAny_pyIter_striter_ascii st h), ⟨_, Heap.get?_push_size _ rfl, rfl, rfl⟩, fp, q⟩

/-! ### for a, b in zip(x, y) -/
def SqB (t : Bool) (K : PySem.W.Frag) (H : Hp) (a : Addr) (xs : List V) : Prop := match t with
  | true => SqT K H a xs
  | false => SqL K H a xs
section
variable {X : Cx} {pins : List (Addr × Obj)} {σ : St} {H : Hp} {s : Shared}
theorem Inv.sq {t : Bool} {a : Addr} {xs : List V} (I : Inv X pins σ H s) (h : SqB t X.K H a xs) : ∃ its : List Value, Vals xs its ∧ SqK t s.heap a its.toArray ∧ xs.length ≤ sizeLine := by
  cases t with
  | true => obtain ⟨its, r, p, z⟩ := I.tuple h; exact ⟨its, r, p, z⟩
  | false => obtain ⟨its, r, p, z⟩ := I.list h; exact ⟨its, r, p.isList, z⟩
theorem Inv.sq_inj {t : Bool} {a : Addr} {xs ys : List V} (I : Inv X pins σ H s) (h : SqB t X.K H a xs) (h' : SqB t X.K H a ys) : xs = ys := by
  cases t with
  | true => exact I.tuple_inj h h'
  | false => exact I.list_inj h h'
/-- what is read is no record of an iterator -/
theorem Inv.sq_ne {t : Bool} {a b : Addr} {xs : List V} (I : Inv X pins σ H s) (h : SqB t X.K H a xs) (f : FpOk X pins H b) : a ≠ b := by
  intro z
  subst z
  obtain ⟨f0, _, _, f3, _⟩ := f
  have nob : ∀ o, X.base.get? a = some o → False := fun o e => by
    rcases f3 with q | q
    · exact I.ok.noex a o e q
    · exact absurd (Nat.lt_of_lt_of_le (Heap.lt_size e) (Nat.le_trans I.ok.bsz q)) (Nat.lt_irrefl _)
  cases t with
  | true =>
    rcases (show SqT X.K H a xs from h) with (q | ⟨o, q⟩) | q
    · rw [f0] at q; cases q
    · rw [f0] at q; cases q
    · obtain ⟨o, q⟩ := q
      first
        | exact nob _ (I.mod.kin a o q.1)
        | (obtain ⟨_, _, q, _⟩ := q; exact nob _ (I.mod.kin a _ q))
        | (obtain ⟨_, q, _⟩ := q; exact nob _ (I.mod.kin a _ q))
  | false =>
    rcases (show SqL X.K H a xs from h) with (q | ⟨o, q⟩) | q
    · rw [f0] at q; cases q
    · rw [f0] at q; cases q
    · obtain ⟨o, q⟩ := q
      first
        | exact nob _ (I.mod.kin a o q.1)
        | (obtain ⟨_, _, q, _⟩ := q; exact nob _ (I.mod.kin a _ q))
        | (obtain ⟨_, q, _⟩ := q; exact nob _ (I.mod.kin a _ q))
end
def Itz (K : PySem.W.Frag) (t1 t2 : Bool) (a b : Addr) : It :=
  ⟨fun i H => ∃ xs ys x y, SqB t1 K H a xs ∧ SqB t2 K H b ys ∧ xs[i]? = some x ∧ ys[i]? = some y,
   fun i H v H' => ∃ p x y, v = .ref p ∧ H p = none ∧ H' = upd H p (.tup [x, y]) ∧ (∀ xs, SqB t1 K H a xs → xs[i]? = some x) ∧ ∀ ys, SqB t2 K H b ys → ys[i]? = some y,
   fun i H => ∃ xs ys, SqB t1 K H a xs ∧ SqB t2 K H b ys ∧ (xs.length ≤ i ∨ ys.length ≤ i)⟩
def ItB (t : Bool) (h : Heap) (it l : Addr) (k : Nat) : Prop := match t with
  | true => h.IsTupleIter it l k
  | false => h.IsListIter it l k
theorem ItB.src {t : Bool} {h : Heap} {it l : Addr} {k : Nat} {xs : Array Value} (a : ItB t h it l k) (b : SqK t h l xs) : Src t h it l xs k := by cases t <;> exact ⟨a, b⟩
theorem Src.it {t : Bool} {h : Heap} {it l : Addr} {k : Nat} {xs : Array Value} (a : Src t h it l xs k) : ItB t h it l k := by cases t <;> exact a.1
theorem ItB.ob {t : Bool} {h : Heap} {it l : Addr} {k : Nat} (a : ItB t h it l k) : ∃ o, h.get? it = some o ∧ ∀ v, o.data ≠ .cell v := by
  cases t <;> (obtain ⟨o, e, _, d⟩ := a; exact ⟨o, e, fun v z => by rw [d] at z; cases z⟩)
theorem ItB.keep {t : Bool} {h h' : Heap} {it l : Addr} {k : Nat} (a : ItB t h it l k) (e : ∀ o, h.get? it = some o → h'.get? it = some o) : ItB t h' it l k := by
  cases t <;> (obtain ⟨o, q, r⟩ := a; exact ⟨o, e o q, r⟩)

theorem turn_zip {P : Program} {w : World} {K : PySem.W.Frag} {es : List Expr} {k0 : Nat} {tp : Pos} {t1 t2 : Bool} {a b z TI TO i1 i2 : Addr}
    (D : (TI ≠ z ∧ TO ≠ z ∧ i1 ≠ z ∧ i2 ≠ z) ∧ TI ≠ TO ∧ TI ≠ i1 ∧ TI ≠ i2 ∧ TO ≠ i1 ∧ TO ≠ i2 ∧ i1 ≠ i2) :
    Turn P w K (.Tuple es k0 tp) (Itz K t1 t2 a b) [z, TI, TO, i1, i2] z (fun i h => IsZip h z TI TO .none ∧ IsPair h TI (.ref i1) (.ref i2) ∧ (∃ u v, IsPair h TO u v) ∧ ItB t1 h i1 a i ∧ ItB t2 h i2 b i) where
  mem := by simp
  obj := fun i h st c hc => by
    obtain ⟨h1, h2, ⟨u, v, h3⟩, h4, h5⟩ := st
    simp only [List.mem_cons, List.not_mem_nil, or_false] at hc
    rcases hc with rfl | rfl | rfl | rfl | rfl
    · exact ⟨_, h1, fun v z => by cases z⟩
    · exact ⟨_, h2, fun v z => by cases z⟩
    · exact ⟨_, h3, fun v z => by cases z⟩
    · exact h4.ob
    · exact h5.ob
  keep := fun i h h' st k => by
    obtain ⟨h1, h2, ⟨u, v, h3⟩, h4, h5⟩ := st
    exact ⟨k z (by simp) _ h1, k TI (by simp) _ h2, ⟨u, v, k TO (by simp) _ h3⟩, h4.keep fun o e => k i1 (by simp) o e, h5.keep fun o e => k i2 (by simp) o e⟩
  item := by
    intro X hP hw hK hc i pins s σ H E I hf st hg
    subst hP hw hK
    obtain ⟨h1, h2, ⟨u, v, h3⟩, h4, h5⟩ := st
    obtain ⟨xs, ys, x, y, q1, q2, hx, hy⟩ := hg
    obtain ⟨its, r1, p1, _⟩ := I.sq q1
    obtain ⟨jts, r2, p2, _⟩ := I.sq q2
    obtain ⟨ux, ex, rx⟩ := r1.get hx
    obtain ⟨uy, ey, ry⟩ := r2.get hy
    have fz := hf z (by simp)
    have fTI := hf TI (by simp)
    have fTO := hf TO (by simp)
    have f1 := hf i1 (by simp)
    have f2 := hf i2 (by simp)
    have Dd : Apart z TI TO i1 i2 a b := ⟨D.1, D.2, ⟨I.sq_ne q1 fz, I.sq_ne q1 fTO, I.sq_ne q1 f1, I.sq_ne q1 f2⟩, ⟨I.sq_ne q2 fz, I.sq_ne q2 fTO, I.sq_ne q2 f1, I.sq_ne q2 f2⟩⟩
    have hT : s.TypeIs (.ref z) "zip" := ⟨_, h1, rfl⟩
    unfold pyNext
    refine wpAny_bind (wpAny_attempt (wpAny_callSpecial?_slot (name := Str.ofString "__next__") hT F.slot_zip_next (wpAny_call_entry F.slot_zip_next hT F.entry_zip_next (zip_item Dd h1 h2 h3 (h4.src p1) (h5.src p2) (by simpa using ex) (by simpa using ey) fun h' a1 a2 a3 a4 a5 a6 => wpAny_pure ?_) (F.args_zip_next_1 _))))
    refine ⟨_, rfl, wpAny_letOwnedTupleGo_zip a1 fun h2' b1 b2 => ?_⟩
    have lt : ∀ {c o}, s.heap.get? c = some o → s.heap.objs.size ≠ c := fun e => Nat.ne_of_gt (Heap.lt_size e)
    have nz := lt h1
    have hk : ∀ c o, c ∉ [z, TI, TO, i1, i2] → s.heap.get? c = some o → h2'.get? c = some o := fun c o hcn e => by
      simp only [List.mem_cons, List.not_mem_nil, or_false, not_or] at hcn
      exact b2.extBut c o hcn.1 (a6 c o hcn.1 hcn.2.2.1 hcn.2.2.2.1 hcn.2.2.2.2 e)
    have hTI' : h2'.get? TI = s.heap.get? TI := by
      rw [h2]
      exact b2.extBut _ _ D.1.1 (a6 TI _ D.1.1 D.2.1 D.2.2.1 D.2.2.2.1 h2)
    -- the own records have turned
    have I1 : Inv X pins σ H { s with heap := h2' } := by
      refine I.step (g' := s.gens) (d' := s.drawn) (t' := s.toks) (ch := [z, TI, TO, i1, i2]) (fun c hcm => ?_) (fun c o _ _ hcn e _ => hk c o hcn e) (fun c o _ _ hcn e _ => ⟨o.slots, hk c o hcn e⟩) (fun _ _ _ _ n => n)
        (fun c o hcn e => ⟨o, hk c o hcn e⟩) (fun _ _ e => e) (fun _ _ _ e => e) (fun c ps e => ⟨#[], by rw [e]; simp⟩) (fun m hm => ?_) (fun c u' e => ?_) I.bare
      · obtain ⟨_, g1, _, g3, g4, g5⟩ := hf c hcm
        exact ⟨g3, g1, g4, g5⟩
      · obtain ⟨o, es', ep, ho, r⟩ := hm
        exact ⟨o, es', ep, hk _ o (fun hm' => (hf _ hm').2.1 rfl) ho, r⟩
      · have nin : ∀ c' u'', H c' = some u'' → c' ∉ [z, TI, TO, i1, i2] := fun c' u'' e' hm' => by rw [(hf _ hm').1] at e'; cases e'
        refine (I.hok c u' e).stay (fun c' v' hc' q => hk c' v' ?_ q) (fun _ q => q) fun _ _ q => q
        rcases hc' with rfl | hc'
        · exact nin _ _ e
        · exact nin _ _ hc'
    have hp : IsPair h2' s.heap.objs.size ux uy := b2.extBut _ _ nz a5
    have fp0 : H s.heap.objs.size = none := I.hok.fresh (Nat.le_refl _)
    -- the pair is tracked
    have nfp : s.heap.objs.size ∉ [z, TI, TO, i1, i2] := fun hm => by
      obtain ⟨o, e, _⟩ : ∃ o, s.heap.get? s.heap.objs.size = some o ∧ True := by
        simp only [List.mem_cons, List.not_mem_nil, or_false] at hm
        rcases hm with q | q | q | q | q
        · exact ⟨_, by rw [q]; exact h1, trivial⟩
        · exact ⟨_, by rw [q]; exact h2, trivial⟩
        · exact ⟨_, by rw [q]; exact h3, trivial⟩
        · obtain ⟨o, e, _⟩ := h4.ob; exact ⟨o, by rw [q]; exact e, trivial⟩
        · obtain ⟨o, e, _⟩ := h5.ob; exact ⟨o, by rw [q]; exact e, trivial⟩
      exact absurd (Heap.lt_size e) (Nat.lt_irrefl _)
    have I2 : Inv X pins σ (upd H s.heap.objs.size (.tup [x, y])) { s with heap := h2' } := by
      refine I1.step (s := { s with heap := h2' }) (g' := s.gens) (d' := s.drawn) (t' := s.toks) (h' := h2') (ch := [s.heap.objs.size]) (fun c hcm => ?_) (fun c o _ _ _ e _ => e) (fun c o _ _ _ e _ => ⟨o.slots, e⟩) (fun c o hcn e n => ?_)
        (fun c o _ e => ⟨o, e⟩) (fun c xs' e => ?_) (fun c o u' e => ?_) (fun c ps e => ⟨#[], ?_⟩) (fun m hm => hm) (fun c u' e => ?_) I.bare
      · have e : c = s.heap.objs.size := by simpa using hcm
        subst e
        obtain ⟨_, g1, _, g3, g4, g5⟩ := I.fpOk (Nat.le_refl _) fp0
        exact ⟨g3, g1, g4, g5⟩
      · rw [upd_ne (by simpa using hcn)]; exact n
      · rw [upd_ne (ne_of_none e fp0)]; exact e
      · rw [upd_ne (ne_of_none e fp0)]; exact e
      · rw [upd_ne (ne_of_none e fp0), e]; simp
      · by_cases hcs : c = s.heap.objs.size
        · subst hcs
          rw [upd_same] at e
          cases e
          exact ⟨by simp [sizeLine_eq], [ux, uy], .cons rx (.cons ry .nil), ⟨_, hp, rfl, _, rfl⟩⟩
        · rw [upd_ne hcs] at e
          exact (I1.hok c u' e).stay (fun _ _ _ q => q) (fun c' q => by rw [upd_ne (ne_of_none q fp0)]; exact q) fun c' xs' q => by rw [upd_ne (ne_of_none q fp0)]; exact q
    refine ⟨.ref s.heap.objs.size, _, I2, rfl, ⟨s.heap.objs.size, x, y, rfl, fp0, rfl, fun xs' q' => by rw [I.sq_inj q' q1]; exact hx, fun ys' q' => by rw [I.sq_inj q' q2]; exact hy⟩, ?_, fun c hcm => ?_⟩
    · exact ⟨b1, hTI'.trans h2, ⟨ux, uy, b2.extBut _ _ D.1.2.1 a2⟩, (Src.it a3).keep fun o e => b2.extBut _ o D.1.2.2.1 e, (Src.it a4).keep fun o e => b2.extBut _ o D.1.2.2.2 e⟩
    · rw [upd_ne (fun q => nfp (by rw [← q]; exact hcm))]; exact (hf c hcm).1
  done := by
    intro X hP hw hK hc i pins s σ H E I hf st hg
    subst hP hw hK
    obtain ⟨h1, h2, ⟨u, v, h3⟩, h4, h5⟩ := st
    obtain ⟨xs, ys, q1, q2, he⟩ := hg
    obtain ⟨its, r1, p1, _⟩ := I.sq q1
    obtain ⟨jts, r2, p2, _⟩ := I.sq q2
    have Dd : Apart z TI TO i1 i2 a b := ⟨D.1, D.2, ⟨I.sq_ne q1 (hf z (by simp)), I.sq_ne q1 (hf TO (by simp)), I.sq_ne q1 (hf i1 (by simp)), I.sq_ne q1 (hf i2 (by simp))⟩, ⟨I.sq_ne q2 (hf z (by simp)), I.sq_ne q2 (hf TO (by simp)), I.sq_ne q2 (hf i1 (by simp)), I.sq_ne q2 (hf i2 (by simp))⟩⟩
    have l1 := r1.length
    have l2 := r2.length
    have hend : its.toArray[i]? = none ∨ jts.toArray[i]? = none := by
      rcases he with e | e
      · exact .inl (by simp; omega)
      · exact .inr (by simp; omega)
    have hT : s.TypeIs (.ref z) "zip" := ⟨_, h1, rfl⟩
    unfold pyNext
    refine wpAny_bind (wpAny_attempt (wpAny_callSpecial?_slot (name := Str.ofString "__next__") hT F.slot_zip_next (wpAny_call_entry F.slot_zip_next hT F.entry_zip_next (zip_end (I.ok.hd hc) Dd h1 h2 h3 (h4.src p1) (h5.src p2) hend fun h' e kk hx => ?_) (F.args_zip_next_1 _))))
    obtain ⟨o, ho, hcl⟩ := hx
    refine wpAny_bind (wpAny_isInstance (T := "StopIteration") (b := true) ⟨o, ho, hcl⟩ isSubtype_stop (wpAny_pure ⟨rfl, ?_⟩))
    have hk : ∀ c o, c ∉ [z, TI, TO, i1, i2] → s.heap.get? c = some o → h'.get? c = some o := fun c o hcn e => by
      simp only [List.mem_cons, List.not_mem_nil, or_false, not_or] at hcn
      exact kk c o hcn.1 hcn.2.2.1 hcn.2.2.2.1 hcn.2.2.2.2 e
    refine I.step (g' := s.gens) (d' := s.drawn) (t' := s.toks) (ch := [z, TI, TO, i1, i2]) (fun c hcm => ?_) (fun c o _ _ hcn e _ => hk c o hcn e) (fun c o _ _ hcn e _ => ⟨o.slots, hk c o hcn e⟩) (fun _ _ _ _ n => n)
      (fun c o hcn e => ⟨o, hk c o hcn e⟩) (fun _ _ e => e) (fun _ _ _ e => e) (fun c ps e => ⟨#[], by rw [e]; simp⟩) (fun m hm => ?_) (fun c u' e => ?_) I.bare
    · obtain ⟨_, g1, _, g3, g4, g5⟩ := hf c hcm
      exact ⟨g3, g1, g4, g5⟩
    · obtain ⟨o, es', ep, ho, r⟩ := hm
      exact ⟨o, es', ep, hk _ o (fun hm' => (hf _ hm').2.1 rfl) ho, r⟩
    · have nin : ∀ c' u'', H c' = some u'' → c' ∉ [z, TI, TO, i1, i2] := fun c' u'' e' hm' => by rw [(hf _ hm').1] at e'; cases e'
      refine (I.hok c u' e).stay (fun c' v' hc' q => hk c' v' ?_ q) (fun _ q => q) fun _ _ q => q
      rcases hc' with rfl | hc'
      · exact nin _ _ e
      · exact nin _ _ hc'
  self := fun _ _ _ _ _ st h => wpAny_pyIter_zip st.1 h

def iZip (K : PySem.W.Frag) (t1 t2 : Bool) (ta : TA) : TI := fun σ H R => ta σ H fun vs H1 => ∃ a b xs ys, vs = [.ref a, .ref b] ∧ SqB t1 K H1 a xs ∧ SqB t2 K H1 b ys ∧ R (Itz K t1 t2 a b) H1
theorem zip_apart (n : Nat) : (n + 2 ≠ n + 4 ∧ n + 3 ≠ n + 4 ∧ n ≠ n + 4 ∧ n + 1 ≠ n + 4) ∧ n + 2 ≠ n + 3 ∧ n + 2 ≠ n ∧ n + 2 ≠ n + 1 ∧ n + 3 ≠ n ∧ n + 3 ≠ n + 1 ∧ n ≠ n + 1 := by omega
theorem zip_above (n x : Nat) (h : x = n + 4 ∨ x = n + 2 ∨ x = n + 3 ∨ x = n ∨ x = n + 1) : n ≤ x := by omega
theorem boot_zip : bootBuiltins "zip" = some (.type "zip") := by decide +kernel
theorem pi_zip {X : Cx} {es0 : List Expr} {k0 : Nat} {tp : Pos} {a b : Expr} {ta : TA} {p pos : Pos} {t1 t2 : Bool} (hg : Gl X "zip") (hm : X.mg "zip" = none) (ha : PA X [a, b] ta)
    (hs : starEach [a, b] X.env = [(false, eval a X.env), (false, eval b X.env)] := by rfl) (hs2 : starEach [b] X.env = [(false, eval b X.env)] := by rfl) :
    PI X (.Tuple es0 k0 tp) (.Call (.Name "zip" p) [a, b] [] pos) (iZip X.K t1 t2 ta) := by
  intro pins s σ H R I h
  refine Call_ (ld_blt I hg hm boot_zip (PyProof.Rows.callWith_type1 (thn (ha pos pins s σ H _ I h) fun us s1 ⟨vs, H1, I1, r1, q1⟩ => ?_) (by rw [hs, hs2]) (by rw [hs2]; rfl)))
  obtain ⟨c, d, xs, ys, e, q1, q2, q⟩ := q1
  subst e
  obtain ⟨u, u', rfl, ru, ru'⟩ := vals2 r1
  cases ru
  cases ru'
  obtain ⟨its, _, p1, _⟩ := I1.sq q1
  obtain ⟨jts, _, p2, _⟩ := I1.sq q2
  refine call_zipK p1 p2 fun h' a1 a2 a3 a4 a5 kk => ?_
  refine wpAny_pyIter_zip (s := { s1 with heap := h' }) a1 ?_
  have I2 : Inv X pins σ H1 { s1 with heap := h' } := I1.kept (t' := s1.toks) kk
  refine ⟨_, [s1.heap.objs.size + 4, s1.heap.objs.size + 2, s1.heap.objs.size + 3, s1.heap.objs.size, s1.heap.objs.size + 1], _, _, H1, rfl, I2, turn_zip (t1 := t1) (t2 := t2) (a := c) (b := d) (zip_apart _),
    ⟨a1, a2, ⟨_, _, a3⟩, Src.it a4, Src.it a5⟩, fun x hx => ?_, q⟩
  have hge : s1.heap.objs.size ≤ x := by
    simp only [List.mem_cons, List.not_mem_nil, or_false] at hx
    exact zip_above _ _ hx
  exact I1.fpOk hge (I1.hok.fresh hge)
end L2
set_option Elab.async false
set_option linter.all false
set_option maxRecDepth 100000
set_option maxHeartbeats 4000000
namespace L2
open PySem PySem.Spec PyProof.Rows
section
variable {X : Cx} {a b : Expr} {ta tb : TE} {pos : Pos}

/-! ### all(list of truths) -/
theorem call_all (hc : X.calm = true) : CallR X (.builtin "all") (fun xs H Q => ∃ p, ∃ bs : List Bool, xs = [.ref p] ∧ SqL X.K H p (bs.map V.bl) ∧ Q (.bl (bs.all id)) H) := by
  intro pins s σ H xs us Q I r h
  obtain ⟨p, bs, rfl, hq, q⟩ := h
  obtain ⟨u, rfl, rx⟩ := vals1 r
  cases rx
  obtain ⟨its, rv, pl, hz⟩ := I.list hq
  have hl := pl.isList
  have hlt : p < s.heap.objs.size := by obtain ⟨_, e, _⟩ := hl; exact Heap.lt_size e
  have hlen : bs.length = its.length := by rw [← rv.length, List.length_map]
  refine call_all_walk (wpAny_pyIter_list hl ?_)
  refine ⟨s.heap.objs.size, [s.heap.objs.size, p], [s.heap.objs.size], its.toArray.size, _, _, fun i => (bs[i]?).getD true, rfl, Walks.list (A := X.A.in1) (I.ok.hd hc) _ p (Nat.ne_of_lt hlt) its.toArray,
    ⟨⟨_, Heap.get?_push_size _ rfl, rfl, rfl⟩, hl.push _⟩, fun i v s' Q' E' hP hQ => ?_, fun h' tk hk => ?_⟩
  · have hP' : its[i]? = some v := by simpa using hP
    have hi : i < bs.length := by rw [hlen]; exact (List.getElem?_eq_some_iff.mp hP').1
    obtain ⟨u', e', r'⟩ := rv.get (i := i) (x := V.bl bs[i]) (by simp [hi])
    rw [hP'] at e'
    cases e'
    cases r'
    have e2 : (bs[i]?).getD true = bs[i] := by simp [hi]
    have hQ2 : Q' ((bs[i]?).getD true) s' := hQ
    rw [e2] at hQ2
    exact wpAny_truthy_bool hQ2
  · have e : ((List.range its.toArray.size).all fun i => (bs[i]?).getD true) = bs.all id := by
      rw [List.size_toArray, ← hlen]
      rw [Bool.eq_iff_iff]
      simp only [List.all_eq_true, List.mem_range, id]
      constructor
      · intro h x hx
        obtain ⟨i, hi, rfl⟩ := List.mem_iff_getElem.mp hx
        have := h i hi
        simpa [hi] using this
      · intro h i hi
        have := h bs[i] (List.getElem_mem hi)
        simpa [hi] using this
    rw [e]
    refine ⟨.bl (bs.all id), H, I.kept (t' := tk) fun b x e => ?_, rfl, q⟩
    exact hk b x (fun hm => by rw [List.mem_singleton.mp hm] at e; exact Nat.lt_irrefl _ (Heap.lt_size e)) (Heap.get?_push_of_some _ e)

/-! ### isinstance(x, T) -/
def rIsi (K : PySem.W.Frag) : List V → Hp → VK → Prop := fun xs H Q => ∃ x c t k, xs = [x, .ty c] ∧ TyOf K H x t ∧ PySem.W.kitOne K t (.type c) = some k ∧ Q (.bl k) H
theorem call_isi : CallR X (.builtin "isinstance") (rIsi X.K) := by
  intro pins s σ H xs us Q I r h
  obtain ⟨x, c, t, k, rfl, ty, e, q⟩ := h
  obtain ⟨u, u', rfl, rx, rc⟩ := vals2 r
  cases rc
  exact isinst_ok I rx ty e fun tk => ⟨.bl k, H, I.tok tk, rfl, q⟩

/-! ### f(e, ..) where f is a name that holds a def -/
def tCallV (f : Addr) (sp : Sp) (E : XK) (tf : TE) (t : TA) : TE := fun σ H Q => tf σ H fun x H1 => x = .ref f ∧ t σ H1 fun vs H2 => sp (vs ++ []) H2 Q E
theorem pe_callV {CX : CXT} {k : Nat} {f : Addr} {fd : FuncData} {ps : List Str} {sp : Sp} {E : XK} {x : Str} {p : Pos} {e : Expr} {es : List Expr} {tf : TE} {t : TA} (F : FnOk X.prog X.w X.K X.mg X.base CX k f fd ps sp) (hr : Room k X.A)
    (hk : PySem.W.keepIn X.K (.ref f) = true) (hb : Binds X.K fd ps []) (hx : Passes CX X E) (hf : PE X (.Name x p) tf) (ha : PA X (e :: es) t)
    (he : starEach (e :: es) X.env = (false, eval e X.env) :: starEach es X.env := by rfl) (hpl : (backTo pos (starEach es X.env)).any (·.1) = false := by rfl) :
    PE X (.Call (.Name x p) (e :: es) [] pos) (tCallV f sp E tf t) := by
  intro pins s σ H Q I h
  refine wpAny_Call_Name_kw (thn (hf pins s σ H _ I h) fun u s0 ⟨v, H0, I0, r0, e0, q0⟩ => ?_)
  subst e0
  cases r0
  refine PySem.W.callWith_K (h₀ := X.base) I.ok.mod.kin hk (thn (ha pos pins s0 σ H0 _ I0 q0) fun us s1 ⟨vs, H1, I1, r, q⟩ => ⟨I1.kIn, ?_⟩) he hpl
  exact run_fn F hr hb .nil hx I1 r q

/-! ### texts -/
theorem op_le_str : OpR X (compareOp .LtE) (fun x y H Q => ∃ i j, x = .str i ∧ y = .str j ∧ Q (.bl (!decide (j.cps.toList < i.cps.toList))) H) := by
  intro pins s σ H x y v u Q I rx ry h
  obtain ⟨i, j, rfl, rfl, q⟩ := h
  obtain ⟨t, rfl⟩ := rx
  obtain ⟨t', rfl⟩ := ry
  exact PySem.P.le_str ⟨.bl _, H, I, rfl, q⟩
theorem mt_find : MtR X "str.find" (fun x xs H Q => ∃ z y, x = .str z ∧ xs = [.str y] ∧ Q (.int (Txt.find z y)) H) := by
  intro pins s σ H x xs v us Q I rx rv h
  obtain ⟨z, y, rfl, rfl, q⟩ := h
  obtain ⟨t, rfl⟩ := rx
  obtain ⟨u, rfl, t', rfl⟩ := vals1 rv
  exact SC.find ⟨.int _, H, I.tok _, ⟨_, rfl⟩, q⟩
theorem mt_upper : MtR X "str.upper" (fun x xs H Q => ∃ z, x = .str z ∧ xs = [] ∧ z.length ≤ 5592405 ∧ ((Txt.upper z).length ≤ 3 * z.length → Q (.str (Txt.upper z)) H)) := by
  intro pins s σ H x xs v us Q I rx rv h
  obtain ⟨z, rfl, rfl, hz, q⟩ := h
  obtain ⟨t, rfl⟩ := rx
  cases rv
  exact SCL.upper hz fun hl => ⟨.str _, H, I.tok _, ⟨_, rfl⟩, q hl⟩
theorem op_mul_str : OpR X (binaryOp .Mult) (fun x y H Q => ∃ z n, x = .str z ∧ y = .int n ∧ z.length ≤ 1000 ∧ n ≤ 1000 ∧ -1000 ≤ n ∧ Q (.str (Txt.mul z n)) H) := by
  intro pins s σ H x y v u Q I rx ry h
  obtain ⟨z, n, rfl, rfl, hz, hn, hn2, q⟩ := h
  obtain ⟨t, rfl⟩ := rx
  obtain ⟨t', rfl⟩ := ry
  refine SB.mul ⟨?_, fun h1 _ => ?_, fun h1 _ => ?_⟩ fun t' k => ⟨.str _, H, I.tok _, ⟨_, rfl⟩, q⟩
  · rw [decide_eq_false (by omega), decide_eq_false (by omega)]; rfl
  · have h2 : (1000000 : Int) ≤ (2 ^ 63 - 1) / n := by
      rw [Int.le_ediv_iff_mul_le (by omega)]
      omega
    omega
  · unfold Builtin.Str.tooLong
    have : z.length * n.toNat ≤ 1000 * 1000 := Nat.mul_le_mul hz (by omega)
    have e := sizeLine_eq
    exact decide_eq_false (by omega)
def rSlS : V → Option Int → Option Int → Hp → VK → Prop := fun x lo hi H Q => ∃ z, x = .str z ∧ z.length ≤ sizeLine ∧ ∀ y, y.length ≤ z.length → y = Txt.slice z lo hi → Q (.str y) H
theorem sl_str : SlR X rSlS := by
  intro pins s σ H x v vl vu lo hi sl Q I rx hs pl pu h
  obtain ⟨z, rfl, hz, q⟩ := h
  obtain ⟨t, rfl⟩ := rx
  refine ⟨"str", _, F.slot_str_getitem.lookup, typeIs_str _ _ _, ?_⟩
  have fin : ∀ y, y = Txt.slice z lo hi → y.length ≤ z.length → ∀ t' k, EP X pins σ Q (.str y t') { s with toks := k } := fun y e hy t' k => ⟨.str y, H, I.tok _, ⟨_, rfl⟩, q y hy e⟩
  have le := Txt.slice_le z lo hi
  cases pl with
  | none =>
    cases pu with
    | none => exact wpAny_getItem_str_slice (l := none) (u := none) (st := none) hs rfl (post_val_or_str ⟨Nat.le_trans le hz, fin _ rfl le⟩)
    | int j uj => exact wpAny_getItem_str_slice (l := none) (u := some (j, uj)) (st := none) hs rfl (post_val_or_str ⟨Nat.le_trans le hz, fin _ rfl le⟩)
  | int i ui =>
    cases pu with
    | none => exact wpAny_getItem_str_slice (l := some (i, ui)) (u := none) (st := none) hs rfl (post_val_or_str ⟨Nat.le_trans le hz, fin _ rfl le⟩)
    | int j uj => exact wpAny_getItem_str_slice (l := some (i, ui)) (u := some (j, uj)) (st := none) hs rfl (post_val_or_str ⟨Nat.le_trans le hz, fin _ rfl le⟩)

/-! ### two lists of flat things compared -/
def eqVs : List V → List V → Bool
  | [], [] => true
  | x :: xs, y :: ys => eqV x y && eqVs xs ys
  | _, _ => false
theorem eqVs_len : ∀ {xs ys : List V}, xs.length ≠ ys.length → eqVs xs ys = false
  | [], [], h => absurd rfl h
  | [], _ :: _, _ => rfl
  | _ :: _, [], _ => rfl
  | x :: xs, y :: ys, h => by
    rw [eqVs, eqVs_len (fun e => h (by simp [e])), Bool.and_false]
theorem eqVs_range : ∀ {xs ys : List V}, xs.length = ys.length → (List.range xs.length).all (fun j => eqV (xs.getD j .non) (ys.getD j .non)) = eqVs xs ys
  | [], [], _ => rfl
  | x :: xs, y :: ys, h => by
    have h' : xs.length = ys.length := by simpa using h
    rw [eqVs, ← eqVs_range h', List.length_cons, List.range_succ_eq_map, List.all_cons, List.all_map]
    rfl
theorem op_eqL (hu : X.A.units < cLine) : OpR X (compareOp .Eq) (fun x y H Q => ∃ p q xs ys, x = .ref p ∧ y = .ref q ∧ SqL X.K H p xs ∧ SqL X.K H q ys ∧ xs.all flatV = true ∧ ys.all flatV = true ∧ Q (.bl (eqVs xs ys)) H) := by
  intro pins s σ H x y v u Q I rx ry h
  obtain ⟨p, q', xs, ys, rfl, rfl, h1, h2, f1, f2, q⟩ := h
  cases rx
  cases ry
  obtain ⟨its, r1, pl1, _⟩ := I.list h1
  obtain ⟨jts, r2, pl2, _⟩ := I.list h2
  by_cases hl : xs.length = ys.length
  · refine SeqAt.eq_listAt (e := fun j => eqV (xs.getD j .non) (ys.getD j .non)) pl1.isList pl2.isList (by simp [← r1.length, ← r2.length, hl]) hu (fun j g1 g2 => ?_) ⟨.bl (eqVs xs ys), H, I, ?_, q⟩
    · have j1 : j < xs.length := by rw [r1.length]; simpa using g1
      have j2 : j < ys.length := by rw [r2.length]; simpa using g2
      obtain ⟨u1, e1, ru1⟩ := r1.get (i := j) (x := xs[j]) (by simp [j1])
      obtain ⟨u2, e2, ru2⟩ := r2.get (i := j) (x := ys[j]) (by simp [j2])
      have z1 : its.toArray[j] = u1 := by
        have := (List.getElem?_eq_some_iff.mp e1).2
        simpa using this
      have z2 : jts.toArray[j] = u2 := by
        have := (List.getElem?_eq_some_iff.mp e2).2
        simpa using this
      rw [z1, z2]
      have w1 : xs.getD j .non = xs[j] := by simp [j1]
      have w2 : ys.getD j .non = ys[j] := by simp [j2]
      show SeqAt.EqAt _ _ _ _ (eqV (xs.getD j .non) (ys.getD j .non))
      rw [w1, w2]
      exact eqAt_V ru1 ru2 (List.all_eq_true.mp f1 _ (List.getElem_mem j1)) (List.all_eq_true.mp f2 _ (List.getElem_mem j2))
    · rw [List.size_toArray, ← r1.length, eqVs_range hl]; rfl
  · refine SeqAt.eq_list_lengthsAt pl1.isList pl2.isList (by simp [← r1.length, ← r2.length, hl]) hu ⟨.bl (eqVs xs ys), H, I, ?_, q⟩
    rw [eqVs_len hl]; rfl
end

/-! ### t[::-1] of a tuple -/
section
variable {prog : Program} {w : World} {A : Around} {E : Value → Shared → Prop} {s : Shared}
theorem fm_some {α β : Type} (f : α → Option β) (g : α → β) : ∀ (l : List α), (∀ k ∈ l, f k = some (g k)) → l.filterMap f = l.map g
  | [], _ => rfl
  | a :: r, h => by
    rw [List.filterMap_cons, h a List.mem_cons_self, List.map_cons, fm_some f g r fun k hk => h k (List.mem_cons_of_mem _ hk)]
theorem pick_rev (xs : Array Value) : ((List.range xs.size).filterMap fun (k : Nat) => xs[(((xs.size : Int) - 1) + (k : Int) * (-1)).toNat]?).toArray = xs.toList.reverse.toArray := by
  congr 1
  apply List.ext_getElem?
  intro i
  have e : ∀ k ∈ List.range xs.size, (fun (k : Nat) => xs[(((xs.size : Int) - 1) + (k : Int) * (-1)).toNat]?) k = some (xs.getD (xs.size - 1 - k) .none) := fun k hk => by
    have hk' : k < xs.size := List.mem_range.mp hk
    have e1 : (((xs.size : Int) - 1) + (k : Int) * (-1)).toNat = xs.size - 1 - k := by omega
    have e2 : xs.size - 1 - k < xs.size := by omega
    show xs[(((xs.size : Int) - 1) + (k : Int) * (-1)).toNat]? = _
    rw [e1, Array.getElem?_eq_getElem e2, Array.getD_eq_getD_getElem?, Array.getElem?_eq_getElem e2]
    rfl
  have e3 : (List.range xs.size).filterMap (fun (k : Nat) => xs[(((xs.size : Int) - 1) + (k : Int) * (-1)).toNat]?) = (List.range xs.size).map fun k => xs.getD (xs.size - 1 - k) .none := by
    exact fm_some _ _ _ e
  rw [e3, List.getElem?_map]
  by_cases hi : i < xs.size
  · have e2 : xs.size - 1 - i < xs.size := by omega
    rw [List.getElem?_range hi, List.getElem?_reverse (by simpa using hi)]
    show some (xs.getD (xs.size - 1 - i) .none) = _
    rw [Array.getD_eq_getD_getElem?, Array.getElem?_eq_getElem e2]
    simp [e2]
  · rw [List.getElem?_eq_none (by simpa using hi), List.getElem?_eq_none (by simpa using hi)]
    rfl
theorem getItem_rev {t sl : Addr} {its : Array Value} {tk : Tok} {Q : Value → Shared → Prop} (ht : IsTup s.heap t its) (hs : s.heap.IsSliceOf sl .none .none (.int (-1) tk)) (hsz : its.size ≤ sizeLine)
    (h : Q (.ref s.heap.objs.size) { s with heap := s.heap.push { cls := .type "tuple", data := .seq its.toList.reverse.toArray } }) : wpAny (model prog w) A (getItem (.ref t) (.ref sl)) Q E s := by
  have hok : sizeOk (.seq its.toList.reverse.toArray) := by
    show its.toList.reverse.toArray.size ≤ sizeLine
    simpa using hsz
  obtain ⟨os, hos, hcs, hds⟩ := id hs
  have hTs : s.TypeIs (.ref sl) "slice" := ⟨os, hos, hcs⟩
  unfold getItem
  try with_reducible refine wpAny_holding ?_
  first | refine wpAny_bind (wpAny_pure ?_) | skip
  refine wpAny_bind (wpAny_sequenceKey ht.typeIs (by decide) ?_)
  refine wpAny_bind (wpAny_callSpecial?_slot (name := Str.ofString "__getitem__") ht.typeIs PyProof.Rows.slot_tuple_getitem (wpAny_call_entry PyProof.Rows.slot_tuple_getitem ht.typeIs entry_tuple_getitem ?_ (args_tuple_getitem _ _)))
  show wpAny _ _ (Builtin.Tuple.tupleItemsOf (.ref t) >>= _) _ _ _
  refine wpAny_bind (tupleItemsOf_ ht (wpAny_bind (wpAny_typeOf hTs ?_)))
  rw [if_pos (by decide)]
  have app : wpAny (model prog w) A.in1 (Builtin.Slice.sliceApplied (.ref sl) (pure (its.size : Int))) (fun r s' => r = ((its.size : Int) - 1, -1, its.size) ∧ s' = s) E s := by
    unfold Builtin.Slice.sliceApplied Builtin.Slice.sliceFields
    refine wpAny_bind (wpAny_bind (wpAny_field hos hds (x := .none) rfl (wpAny_bind (wpAny_field hos hds (x := .none) rfl (wpAny_bind (wpAny_field hos hds (x := .int (-1) tk) rfl (wpAny_pure ?_)))))))
    refine wpAny_bind (HT.slicePart_ (IsPart.int (-1) tk) ?_)
    show wpAny _ _ (if ((-1 : Int) == 0) = true then _ else _) _ _ _
    rw [if_neg (by decide)]
    refine wpAny_bind (HT.slicePart_ .none (wpAny_bind (HT.slicePart_ .none (wpAny_bind (wpAny_pure ?_)))))
    refine wpAny_pure ⟨?_, rfl⟩
    show (((its.size : Int) - 1), (-1 : Int), Builtin.Slice.slicePlaces ((its.size : Int) - 1) (-1) (-1)) = _
    have e : Builtin.Slice.slicePlaces ((its.size : Int) - 1) (-1) (-1) = its.size := by
      unfold Builtin.Slice.slicePlaces
      rw [if_neg (by decide)]
      by_cases hz : its.size = 0
      · rw [if_neg (by omega)]; omega
      · rw [if_pos (by omega)]; simp
    rw [e]
  refine wpAny_bind (wpAny_mono app (fun r s' ⟨er, es⟩ => ?_) fun _ _ e => e)
  subst er es
  show wpAny _ _ (if (((its.size : Int) - 1) == 0 && (-1 : Int) == 1 && its.size == its.size) = true then _ else _) _ _ _
  rw [if_neg (by simp), pick_rev]
  first
    | exact wpAny_bind (m := Builtin.Tuple.tupleExact _) (wpAny_newObj_type (wpAny_pure ⟨_, rfl, wpAny_pure h⟩) hok)
    | exact wpAny_bind (m := Builtin.Tuple.tupleExact _) (wpAny_newObj_type (wpAny_bind (wpAny_pure (wpAny_pure ⟨_, rfl, wpAny_pure h⟩))) hok)
    | exact wpAny_bind (wpAny_bind (m := Builtin.Tuple.tupleExact _) (wpAny_newObj_type (wpAny_pure (wpAny_pure ⟨_, rfl, wpAny_pure h⟩)) hok))
    | exact wpAny_bind (wpAny_bind (m := Builtin.Tuple.tupleExact _) (wpAny_newObj_type (wpAny_pure ⟨_, rfl, wpAny_pure h⟩) hok))
end
def tRev (K : PySem.W.Frag) (te ts : TE) : TE := fun σ H Q => te σ H fun x H1 => ts σ H1 fun k H2 => ∃ a xs, x = .ref a ∧ k = .int (-1) ∧ SqT K H2 a xs ∧ ∀ p, H2 p = none → Q (.ref p) (upd H2 p (.tup xs.reverse))
theorem pe_rev {X : Cx} {e st : Expr} {te ts : TE} {pos p2 : Pos} (he : PE X e te) (hst : PE X st ts) : PE X (.Subscript e (.Slice none none (some st) p2) pos) (tRev X.K te ts) := by
  intro pins s σ H Q I h
  refine Subscript_ (thn (he pins s σ H _ I h) fun v s1 ⟨x, H1, I1, r1, q1⟩ => ?_)
  refine wpAny_Slice ?_
  rw [evalPart_none]
  refine wpAny_pure ?_
  refine wpAny_pure ?_
  rw [evalPart_some]
  refine thn (hst pins s1 σ H1 _ I1 q1) fun vk s3 ⟨k, H3, I3, rk, a, xs, e1, e2, hx, q⟩ => ?_
  subst e1 e2
  cases r1
  obtain ⟨tk, rfl⟩ := rk
  have I4 : Inv X pins σ H3 { s3 with heap := s3.heap.push { cls := .type "slice", data := .fields #[.none, .none, .int (-1) tk] } } := I3.kept (t' := s3.toks) fun b ob q => Heap.get?_push_of_some _ q
  obtain ⟨its, r, ht, hz⟩ := I4.tuple hx
  have hlen : its.toArray.size = xs.length := by rw [List.size_toArray]; exact r.length.symm
  show wpAny (model X.prog X.w) X.A (subscriptTail e (.Slice none none (some st) p2) (.ref a) (.ref s3.heap.objs.size)) (EP X pins σ Q) X.xe { s3 with heap := s3.heap.push { cls := .type "slice", data := .fields #[.none, .none, .int (-1) tk] } }
  refine tail_any (ops := [.ref a, .ref s3.heap.objs.size]) ht.typeIs PyProof.Rows.slot_tuple_getitem.lookup (getItem_rev ht ⟨_, Heap.get?_push_size _ rfl, rfl, rfl⟩ (by rw [hlen]; exact hz) ?_) (by with_unfolding_all rfl)
  refine ⟨.ref _, _, I4.laid (t' := s3.toks) (o := .tup xs.reverse) (fun b ob q => Heap.get?_push_of_some _ q) (Nat.le_refl _) ?_, rfl, q _ (I4.hok.fresh (Nat.le_refl _))⟩
  refine ⟨by rw [List.length_reverse]; exact hz, its.reverse, r.reverse, ?_⟩
  have := IsTup.new (h := s3.heap.push { cls := .type "slice", data := .fields #[.none, .none, .int (-1) tk] }) its.toArray.toList.reverse.toArray
  simpa using this
end L2
namespace L2
open PySem PySem.Spec PyProof.Rows
/-! ### t + u of two tuples, either may be empty -/
def rCatU : R2 := fun x y H Q => ∃ a b xs ys, x = .ref a ∧ y = .ref b ∧ H a = some (.tup xs) ∧ H b = some (.tup ys) ∧ xs.length + ys.length ≤ sizeLine ∧ ∀ p H', H' p = some (.tup (xs ++ ys)) → Same H H' → Q (.ref p) H'
theorem op_catU {X : Cx} : OpR X (binaryOp .Add) rCatU := by
  intro pins s σ H x y v u Q I rx ry h
  obtain ⟨a, b, xs, ys, rfl, rfl, ha, hb, hz, q⟩ := h
  by_cases hx : xs = []
  · subst hx
    cases rx
    cases ry
    obtain ⟨its, r1, p1, _⟩ := I.tuple (SqT.of ha)
    obtain ⟨its2, r2, p2, _⟩ := I.tuple (SqT.of hb)
    have e1 : its = [] := r1.nil_iff.mpr rfl
    obtain ⟨⟨cls, dd, data, sl⟩, ho, hc, n, hd⟩ := id p1
    obtain ⟨⟨cls2, dd2, data2, sl2⟩, ho2, hc2, n2, hd2⟩ := id p2
    simp only at hc hd hc2 hd2
    subst hc hd hc2 hd2
    exact concat_meets ⟨_, ho, rfl⟩ ⟨_, ho2, rfl⟩ noFill_tuple_add seq_tuple_add PySem.F.slot_tuple_add PySem.F.entry_tuple_add (PySem.F.args_tuple_add_2 _ _)
      (tuple_addW0 a b its.toArray its2.toArray n n2 dd dd2 sl sl2 (by simp [e1])) ⟨ho, ho2, ⟨.ref b, H, I, rfl, q b H (by simpa using hb) (Same.refl _)⟩⟩
  · refine op_catT pins s σ H (.ref a) (.ref b) v u Q I rx ry ⟨a, b, xs, ys, rfl, rfl, SqT.of ha, SqT.of hb, hx, hz, fun e => ?_, fun _ p hp => ?_⟩
    · subst e
      exact q a H (by simpa using ha) (Same.refl _)
    · exact q p _ upd_same fun c o e => by rw [upd_ne (ne_of_none e hp)]; exact e
theorem PT.weak {X : Cx} {e : Expr} {t t' : TT} (h : PT X e t) (w : ∀ σ H Q, t' σ H Q → t σ H Q) : PT X e t' := fun pins s σ H Q I q => h pins s σ H Q I (w σ H Q q)
theorem PE.weak {X : Cx} {e : Expr} {t t' : TE} (h : PE X e t) (w : ∀ σ H Q, t' σ H Q → t σ H Q) : PE X e t' := fun pins s σ H Q I q => h pins s σ H Q I (w σ H Q q)
end L2
set_option Elab.async false
set_option linter.all false
namespace Kp
open PySem PyProof.Rows
def isLow (c : Nat) : Bool := decide (97 ≤ c) && decide (c ≤ 122)
def abc : Str := "abcdefghijklmnopqrstuvwxyz"
theorem abc_cps : abc.cps = #[97,98,99,100,101,102,103,104,105,106,107,108,109,110,111,112,113,114,115,116,117,118,119,120,121,122] := by decide +kernel
theorem abc_at : ∀ (i : Nat), i < 26 → abc.cps[i]? = some (97 + i) := by rw [abc_cps]; decide
theorem abc_len : abc.length = 26 := by decide +kernel
theorem sub_one (x : Str) (c i : Nat) : Builtin.Str.subAt x ⟨#[c]⟩ i = true ↔ x.cps[i]? = some c := by
  unfold Builtin.Str.subAt
  have l1 : (⟨#[c]⟩ : Str).length = 1 := rfl
  rw [l1, beq_iff_eq]
  show x.cps.extract i (i + 1) = #[c] ↔ _
  by_cases h : i < x.cps.size
  · have e : x.cps.extract i (i + 1) = #[x.cps[i]] := by
      apply Array.ext
      · simp; omega
      · intro j h1 h2
        have : j = 0 := by simp at h2; omega
        subst this
        simp
    rw [e, Array.getElem?_eq_getElem h]
    simp
  · have e : x.cps.extract i (i + 1) = #[] := by
      apply Array.ext
      · simp; omega
      · intro j h1 h2; simp at h2
    rw [e, Array.getElem?_eq_none (by omega)]
    simp
theorem find_abc (c : Nat) : (Txt.find abc ⟨#[c]⟩ < 0) ↔ isLow c = false := by
  have at_iff : ∀ i, StrLaws.At abc ⟨#[c]⟩ abc.length i ↔ i < 26 ∧ c = 97 + i := by
    intro i
    unfold StrLaws.At
    rw [sub_one, abc_len]
    constructor
    · rintro ⟨h1, h2⟩
      have h3 : i < 26 := by have : (⟨#[c]⟩ : Str).length = 1 := rfl; omega
      rw [abc_at i h3] at h2
      exact ⟨h3, (Option.some.inj h2).symm⟩
    · rintro ⟨h1, rfl⟩
      exact ⟨by have : (⟨#[97 + i]⟩ : Str).length = 1 := rfl; omega, abc_at i h1⟩
  have low : isLow c = true ↔ 97 ≤ c ∧ c ≤ 122 := by unfold isLow; simp
  rcases find_whole abc ⟨#[c]⟩ with ⟨e, h⟩ | ⟨i, e, h, _⟩
  · rw [e]
    constructor
    · intro _
      cases hl : isLow c with
      | false => rfl
      | true =>
        obtain ⟨a, b⟩ := low.mp hl
        exact absurd ((at_iff (c - 97)).mpr ⟨by omega, by omega⟩) (h _)
    · intro _; decide
  · rw [e]
    obtain ⟨h1, h2⟩ := (at_iff i).mp h
    constructor
    · intro z; omega
    · intro z
      have : isLow c = true := low.mpr ⟨by omega, by omega⟩
      rw [this] at z; cases z
theorem le_a (c : Nat) : (!decide ((⟨#[c]⟩ : Str).cps.toList < ("a" : Str).cps.toList)) = decide (97 ≤ c) := by
  have e : ("a" : Str).cps.toList = [97] := by decide +kernel
  rw [e]
  show (!decide ([c] < [97])) = _
  have : ([c] < [97]) ↔ c < 97 := by
    constructor
    · intro h
      cases h with
      | rel h => exact h
      | cons h => cases h
    · intro h; exact List.Lex.rel h
  rw [Bool.eq_iff_iff]
  simp only [Bool.not_eq_true', decide_eq_false_iff_not, decide_eq_true_eq, this]
  omega
theorem le_z (c : Nat) : (!decide (("z" : Str).cps.toList < (⟨#[c]⟩ : Str).cps.toList)) = decide (c ≤ 122) := by
  have e : ("z" : Str).cps.toList = [122] := by decide +kernel
  rw [e]
  show (!decide ([122] < [c])) = _
  have : ([122] < [c]) ↔ 122 < c := by
    constructor
    · intro h
      cases h with
      | rel h => exact h
      | cons h => cases h
    · intro h; exact List.Lex.rel h
  rw [Bool.eq_iff_iff]
  simp only [Bool.not_eq_true', decide_eq_false_iff_not, decide_eq_true_eq, this]
  omega

/-- a thing, as data -/
inductive D where
  | non | bl (b : Bool) | int (i : Int) | str (x : Str) | tup (xs : List D) | lst (xs : List D)

/-! ### names -/
def nameP : D → Bool
  | .str x => (decide (1 ≤ x.length) && decide (x.length ≤ 8)) && x.cps.toList.all isLow
  | _ => false
def nameL : D → Bool
  | .str x => if x = "" ∨ 8 < x.length then false else (x.cps.toList.filter fun c => !isLow c).isEmpty
  | _ => false
theorem empty_iff (x : Str) : x = "" ↔ x.length = 0 := by
  constructor
  · rintro rfl; rfl
  · intro h
    obtain ⟨c⟩ := x
    have : c = #[] := Array.eq_empty_of_size_eq_zero h
    subst this
    rfl
theorem name_eq : ∀ d, nameP d = nameL d
  | .str x => by
    unfold nameP nameL
    dsimp only
    have e := empty_iff x
    by_cases h0 : x.length = 0
    · have h1 : ¬ 1 ≤ x.length := by omega
      rw [if_pos (.inl (e.mpr h0)), decide_eq_false h1]
      rfl
    · by_cases h8 : 8 < x.length
      · have h1 : ¬ x.length ≤ 8 := by omega
        rw [if_pos (.inr h8), decide_eq_false h1]
        simp
      · have h1 : 1 ≤ x.length := by omega
        have h2 : x.length ≤ 8 := by omega
        rw [if_neg (by rintro (z | z); exact h0 (e.mp z); exact h8 z), decide_eq_true h1, decide_eq_true h2]
        generalize x.cps.toList = l
        rw [Bool.eq_iff_iff]
        simp [List.isEmpty_iff, List.filter_eq_nil_iff]
  | .non => rfl
  | .bl _ => rfl
  | .int _ => rfl
  | .tup _ => rfl
  | .lst _ => rfl

/-! ### seats -/
def keeper : D → Bool
  | .int i => decide (0 ≤ i) && decide (i ≤ 8)
  | _ => false
def riseI : List Int → Bool
  | a :: b :: r => decide (a < b) && riseI (b :: r)
  | _ => true
def intsOf : List D → List Int
  | .int i :: r => i :: intsOf r
  | _ :: r => intsOf r
  | [] => []
def seatsP : D → Bool
  | .tup ds => ds.all keeper && ((decide (1 ≤ ds.length) && decide (ds.length ≤ 9)) && riseI (intsOf ds))
  | _ => false
def goL : List D → Int → Bool
  | [], _ => true
  | .int i :: r, l => (decide (l ≤ i) && decide (i ≤ 8)) && goL r (i + 1)
  | _ :: _, _ => false
def seatsL : D → Bool
  | .tup ds => if ds.length = 0 then false else goL ds 0
  | _ => false
theorem goL_len : ∀ (ds : List D) (l : Int), l ≤ 9 → goL ds l = true → (ds.length : Int) ≤ 9 - l
  | [], l, h, _ => by simp; omega
  | .int i :: r, l, h, g => by
    simp only [goL, Bool.and_eq_true, decide_eq_true_eq] at g
    have := goL_len r (i + 1) (by omega) g.2
    simp only [List.length_cons]; omega
  | .non :: _, _, _, g => by cases g
  | .bl _ :: _, _, _, g => by cases g
  | .str _ :: _, _, _, g => by cases g
  | .tup _ :: _, _, _, g => by cases g
  | .lst _ :: _, _, _, g => by cases g
theorem goL_iff : ∀ (ds : List D) (l : Int), 0 ≤ l → (goL ds l = true ↔ ds.all keeper = true ∧ riseI (intsOf ds) = true ∧ ∀ i, (intsOf ds).head? = some i → l ≤ i)
  | [], l, h => by simp [goL, riseI, intsOf]
  | .int i :: r, l, h => by
    simp only [goL, Bool.and_eq_true, decide_eq_true_eq, List.all_cons, keeper, intsOf, List.head?_cons, Option.some.injEq]
    constructor
    · rintro ⟨⟨a, b⟩, c⟩
      obtain ⟨c1, c2, c3⟩ := (goL_iff r (i + 1) (by omega)).mp c
      refine ⟨⟨⟨by omega, b⟩, c1⟩, ?_, fun j hj => by omega⟩
      cases hr : intsOf r with
      | nil => rfl
      | cons j t =>
        have := c3 j (by rw [hr]; rfl)
        rw [hr] at c2
        simp only [riseI, Bool.and_eq_true, decide_eq_true_eq]
        exact ⟨by omega, c2⟩
    · rintro ⟨⟨⟨a, b⟩, c⟩, d, e⟩
      refine ⟨⟨e i rfl, b⟩, (goL_iff r (i + 1) (by omega)).mpr ⟨c, ?_, ?_⟩⟩
      · cases hr : intsOf r with
        | nil => rfl
        | cons j t =>
          rw [hr] at d
          simp only [riseI, Bool.and_eq_true, decide_eq_true_eq] at d
          exact d.2
      · intro j hj
        cases hr : intsOf r with
        | nil => rw [hr] at hj; cases hj
        | cons k t =>
          rw [hr] at hj d
          cases hj
          simp only [riseI, Bool.and_eq_true, decide_eq_true_eq] at d
          omega
  | .non :: _, _, _ => by simp [goL, keeper]
  | .bl _ :: _, _, _ => by simp [goL, keeper]
  | .str _ :: _, _, _ => by simp [goL, keeper]
  | .tup _ :: _, _, _ => by simp [goL, keeper]
  | .lst _ :: _, _, _ => by simp [goL, keeper]
theorem head_keeper : ∀ (ds : List D), ds.all keeper = true → ∀ i, (intsOf ds).head? = some i → 0 ≤ i
  | [], _, _, h => by cases h
  | .int i :: r, h, j, e => by
    simp only [List.all_cons, keeper, Bool.and_eq_true, decide_eq_true_eq] at h
    cases e
    exact h.1.1
  | .non :: _, h, _, _ => by simp [keeper] at h
  | .bl _ :: _, h, _, _ => by simp [keeper] at h
  | .str _ :: _, h, _, _ => by simp [keeper] at h
  | .tup _ :: _, h, _, _ => by simp [keeper] at h
  | .lst _ :: _, h, _, _ => by simp [keeper] at h
theorem seats_eq : ∀ d, seatsP d = seatsL d
  | .tup ds => by
    unfold seatsP seatsL
    dsimp only
    by_cases h0 : ds.length = 0
    · rw [if_pos h0, decide_eq_false (by omega : ¬ 1 ≤ ds.length)]
      simp
    · rw [if_neg h0, Bool.eq_iff_iff]
      simp only [Bool.and_eq_true, decide_eq_true_eq]
      have g := goL_iff ds 0 (by omega)
      constructor
      · rintro ⟨a, ⟨b, c⟩, d⟩
        exact g.mpr ⟨a, d, head_keeper ds a⟩
      · intro h
        obtain ⟨a, d, _⟩ := g.mp h
        have := goL_len ds 0 (by omega) h
        exact ⟨a, ⟨by omega, by omega⟩, d⟩
  | .non => rfl
  | .bl _ => rfl
  | .int _ => rfl
  | .str _ => rfl
  | .lst _ => rfl
theorem keeper_ints : ∀ (ds : List D), ds.all keeper = true → ds = (intsOf ds).map D.int
  | [], _ => rfl
  | .int i :: r, h => by
    rw [List.all_cons, Bool.and_eq_true] at h
    rw [intsOf, List.map_cons, ← keeper_ints r h.2]
  | .non :: _, h => by simp [keeper] at h
  | .bl _ :: _, h => by simp [keeper] at h
  | .str _ :: _, h => by simp [keeper] at h
  | .tup _ :: _, h => by simp [keeper] at h
  | .lst _ :: _, h => by simp [keeper] at h
/-- neighbours, by pairs -/
theorem rise_zip : ∀ (ns : List Int), ((ns.zip ns.tail).map fun p => decide (p.1 < p.2)).all id = riseI ns
  | [] => rfl
  | [_] => rfl
  | a :: b :: r => by
    have ih := rise_zip (b :: r)
    simp only [List.tail_cons] at ih ⊢
    rw [List.zip_cons_cons, List.map_cons, List.all_cons, riseI, ← ih]
    rfl
end Kp
set_option Elab.async false
set_option linter.all false
set_option maxRecDepth 100000
set_option maxHeartbeats 4000000
namespace Kp
open PySem L2

mutual
/-- v is the thing d in the heap H; its texts and rows are of at most B parts -/
inductive Is (B : Nat) (H : Hp) : V → D → Prop
  | non : Is B H .non .non
  | bl (b : Bool) : Is B H (.bl b) (.bl b)
  | int (i : Int) : Is B H (.int i) (.int i)
  | str (x : Str) (h : x.length ≤ B) : Is B H (.str x) (.str x)
  | tup {a : Addr} {vs : List V} {ds : List D} (e : H a = some (.tup vs)) (l : vs.length ≤ B) (r : IsL B H vs ds) : Is B H (.ref a) (.tup ds)
  | lst {a : Addr} {vs : List V} {ds : List D} (e : H a = some (.lst vs)) (l : vs.length ≤ B) (r : IsL B H vs ds) : Is B H (.ref a) (.lst ds)
inductive IsL (B : Nat) (H : Hp) : List V → List D → Prop
  | nil : IsL B H [] []
  | cons {v : V} {d : D} {vs : List V} {ds : List D} (h : Is B H v d) (t : IsL B H vs ds) : IsL B H (v :: vs) (d :: ds)
end
mutual
theorem Is.mono {B B' : Nat} {H H' : Hp} (hB : B ≤ B') (s : Same H H') : ∀ {v d}, Is B H v d → Is B' H' v d
  | _, _, .non => .non
  | _, _, .bl b => .bl b
  | _, _, .int i => .int i
  | _, _, .str x h => .str x (Nat.le_trans h hB)
  | _, _, .tup e l r => .tup (s _ _ e) (Nat.le_trans l hB) (IsL.mono hB s r)
  | _, _, .lst e l r => .lst (s _ _ e) (Nat.le_trans l hB) (IsL.mono hB s r)
theorem IsL.mono {B B' : Nat} {H H' : Hp} (hB : B ≤ B') (s : Same H H') : ∀ {vs ds}, IsL B H vs ds → IsL B' H' vs ds
  | _, _, .nil => .nil
  | _, _, .cons h t => .cons (Is.mono hB s h) (IsL.mono hB s t)
end
theorem Is.same {B : Nat} {H H' : Hp} {v : V} {d : D} (h : Is B H v d) (s : Same H H') : Is B H' v d := h.mono (Nat.le_refl _) s
theorem IsL.same {B : Nat} {H H' : Hp} {v : List V} {d : List D} (h : IsL B H v d) (s : Same H H') : IsL B H' v d := h.mono (Nat.le_refl _) s
theorem IsL.length {B : Nat} {H : Hp} : ∀ {vs ds}, IsL B H vs ds → vs.length = ds.length
  | _, _, .nil => rfl
  | _, _, .cons _ t => by simp [IsL.length t]
theorem IsL.get {B : Nat} {H : Hp} : ∀ {vs ds} {i : Nat} {v : V}, IsL B H vs ds → vs[i]? = some v → ∃ d, ds[i]? = some d ∧ Is B H v d
  | _, _, _, _, .nil, h => by simp at h
  | _, _, 0, _, .cons h _, e => by simp at e; subst e; exact ⟨_, rfl, h⟩
  | _, _, i + 1, v, .cons _ t, e => by
    obtain ⟨d, e', h⟩ := IsL.get (i := i) (v := v) t (by simpa using e)
    exact ⟨d, by simpa using e', h⟩
theorem IsL.append {B : Nat} {H : Hp} : ∀ {vs ds vs' ds'}, IsL B H vs ds → IsL B H vs' ds' → IsL B H (vs ++ vs') (ds ++ ds')
  | _, _, _, _, .nil, h => h
  | _, _, _, _, .cons h t, h' => .cons h (IsL.append t h')
theorem IsL.take {B : Nat} {H : Hp} : ∀ (n : Nat) {vs ds}, IsL B H vs ds → IsL B H (vs.take n) (ds.take n)
  | 0, _, _, _ => .nil
  | _ + 1, _, _, .nil => .nil
  | n + 1, _, _, .cons h t => .cons h (IsL.take n t)
theorem IsL.drop {B : Nat} {H : Hp} : ∀ (n : Nat) {vs ds}, IsL B H vs ds → IsL B H (vs.drop n) (ds.drop n)
  | 0, _, _, h => h
  | _ + 1, _, _, .nil => .nil
  | n + 1, _, _, .cons _ t => IsL.drop n t
theorem IsL.reverse {B : Nat} {H : Hp} {vs ds} (h : IsL B H vs ds) : IsL B H vs.reverse ds.reverse := by
  induction vs generalizing ds with
  | nil => cases h; exact .nil
  | cons v vs ih =>
    cases h with
    | cons h t => rw [List.reverse_cons, List.reverse_cons]; exact (ih t).append (.cons h .nil)
theorem IsL.ints {B : Nat} {H : Hp} : ∀ (ns : List Int), IsL B H (ns.map V.int) (ns.map D.int)
  | [] => .nil
  | n :: r => .cons (.int n) (IsL.ints r)
/-- some thing of at most B parts -/
def Th (B : Nat) (H : Hp) (v : V) : Prop := ∃ d, Is B H v d
def ThL (B : Nat) (H : Hp) (vs : List V) : Prop := ∃ ds, IsL B H vs ds
theorem Th.mono {B B' : Nat} {H H' : Hp} {v : V} (h : Th B H v) (hB : B ≤ B') (s : Same H H') : Th B' H' v := let ⟨d, q⟩ := h; ⟨d, q.mono hB s⟩
theorem ThL.mono {B B' : Nat} {H H' : Hp} {v : List V} (h : ThL B H v) (hB : B ≤ B') (s : Same H H') : ThL B' H' v := let ⟨d, q⟩ := h; ⟨d, q.mono hB s⟩
theorem ThL.nil {B : Nat} {H : Hp} : ThL B H [] := ⟨[], .nil⟩
theorem ThL.cons {B : Nat} {H : Hp} {v : V} {vs : List V} (h : Th B H v) (t : ThL B H vs) : ThL B H (v :: vs) := let ⟨d, q⟩ := h; let ⟨ds, r⟩ := t; ⟨d :: ds, .cons q r⟩
theorem ThL.append {B : Nat} {H : Hp} {vs us : List V} (h : ThL B H vs) (t : ThL B H us) : ThL B H (vs ++ us) := let ⟨_, q⟩ := h; let ⟨_, r⟩ := t; ⟨_, q.append r⟩
theorem ThL.take {B : Nat} {H : Hp} {vs : List V} (n : Nat) (h : ThL B H vs) : ThL B H (vs.take n) := let ⟨_, q⟩ := h; ⟨_, q.take n⟩
theorem ThL.drop {B : Nat} {H : Hp} {vs : List V} (n : Nat) (h : ThL B H vs) : ThL B H (vs.drop n) := let ⟨_, q⟩ := h; ⟨_, q.drop n⟩
theorem ThL.reverse {B : Nat} {H : Hp} {vs : List V} (h : ThL B H vs) : ThL B H vs.reverse := let ⟨_, q⟩ := h; ⟨_, q.reverse⟩
theorem ThL.get {B : Nat} {H : Hp} {vs : List V} {i : Nat} {v : V} (h : ThL B H vs) (e : vs[i]? = some v) : Th B H v := let ⟨_, q⟩ := h; let ⟨d, _, r⟩ := q.get e; ⟨d, r⟩
theorem Th.tup {B : Nat} {H : Hp} {a : Addr} {vs : List V} (e : H a = some (.tup vs)) (l : vs.length ≤ B) (h : ThL B H vs) : Th B H (.ref a) := let ⟨_, q⟩ := h; ⟨_, .tup e l q⟩
theorem Th.lst {B : Nat} {H : Hp} {a : Addr} {vs : List V} (e : H a = some (.lst vs)) (l : vs.length ≤ B) (h : ThL B H vs) : Th B H (.ref a) := let ⟨_, q⟩ := h; ⟨_, .lst e l q⟩
theorem Th.int {B : Nat} {H : Hp} (i : Int) : Th B H (.int i) := ⟨_, .int i⟩
theorem Th.bl {B : Nat} {H : Hp} (i : Bool) : Th B H (.bl i) := ⟨_, .bl i⟩
theorem Th.non {B : Nat} {H : Hp} : Th B H .non := ⟨_, .non⟩
theorem Th.str {B : Nat} {H : Hp} (x : Str) (h : x.length ≤ B) : Th B H (.str x) := ⟨_, .str x h⟩
/-- a new object leaves all as it was -/
theorem same_upd {H : Hp} {p : Addr} {o : HO} (h : H p = none) : Same H (upd H p o) := fun b u e => by rw [upd_ne (ne_of_none e h)]; exact e

/-! ### the kinds -/
def tyN : D → String
  | .non => "NoneType" | .bl _ => "bool" | .int _ => "int" | .str _ => "str" | .tup _ => "tuple" | .lst _ => "list"
theorem Is.ty {B : Nat} {H : Hp} {K : PySem.W.Frag} {v : V} {d : D} (h : Is B H v d) : TyOf K H v (.type (tyN d)) := by
  cases h with
  | non => exact .non
  | bl b => exact .bl b
  | int i => exact .int i
  | str x _ => exact .str x
  | tup e _ _ => exact .tup e
  | lst e _ _ => exact .lst e
def isInt : D → Bool | .int _ => true | .bl _ => true | _ => false
def isBool : D → Bool | .bl _ => true | _ => false
def isStr : D → Bool | .str _ => true | _ => false
def isTup : D → Bool | .tup _ => true | _ => false
theorem kit_int (K : PySem.W.Frag) : ∀ d : D, PySem.W.kitOne K (.type (tyN d)) (.type "int") = some (isInt d)
  | .non => by with_unfolding_all rfl
  | .bl _ => by with_unfolding_all rfl
  | .int _ => by with_unfolding_all rfl
  | .str _ => by with_unfolding_all rfl
  | .tup _ => by with_unfolding_all rfl
  | .lst _ => by with_unfolding_all rfl
theorem kit_bool (K : PySem.W.Frag) : ∀ d : D, PySem.W.kitOne K (.type (tyN d)) (.type "bool") = some (isBool d)
  | .non => by with_unfolding_all rfl
  | .bl _ => by with_unfolding_all rfl
  | .int _ => by with_unfolding_all rfl
  | .str _ => by with_unfolding_all rfl
  | .tup _ => by with_unfolding_all rfl
  | .lst _ => by with_unfolding_all rfl
theorem kit_str (K : PySem.W.Frag) : ∀ d : D, PySem.W.kitOne K (.type (tyN d)) (.type "str") = some (isStr d)
  | .non => by with_unfolding_all rfl
  | .bl _ => by with_unfolding_all rfl
  | .int _ => by with_unfolding_all rfl
  | .str _ => by with_unfolding_all rfl
  | .tup _ => by with_unfolding_all rfl
  | .lst _ => by with_unfolding_all rfl
theorem kit_tup (K : PySem.W.Frag) : ∀ d : D, PySem.W.kitOne K (.type (tyN d)) (.type "tuple") = some (isTup d)
  | .non => by with_unfolding_all rfl
  | .bl _ => by with_unfolding_all rfl
  | .int _ => by with_unfolding_all rfl
  | .str _ => by with_unfolding_all rfl
  | .tup _ => by with_unfolding_all rfl
  | .lst _ => by with_unfolding_all rfl
theorem boot_isi : bootBuiltins "isinstance" = some (.builtin "isinstance") := by decide +kernel
theorem boot_int : bootBuiltins "int" = some (.type "int") := by decide +kernel
theorem boot_bool : bootBuiltins "bool" = some (.type "bool") := by decide +kernel
theorem boot_str : bootBuiltins "str" = some (.type "str") := by decide +kernel
theorem boot_tuple : bootBuiltins "tuple" = some (.type "tuple") := by decide +kernel
theorem boot_list : bootBuiltins "list" = some (.type "list") := by decide +kernel
theorem boot_allB : bootBuiltins "all" = some (.builtin "all") := by decide +kernel
theorem pe_ty {X : Cx} {x : Str} {n : String} {pos : Pos} (hg : Gl X x) (hm : X.mg x = none) (hv : bootBuiltins x = some (.type n)) (hn : x ≠ "__name__" := by decide) (hd : (x == ("__debug__" : Str)) = false := by decide) : PE X (.Name x pos) (tC (.ty n)) := pe_bltn (v := .ty n) hg hm hv rfl hn hd
end Kp
set_option Elab.async false
set_option linter.all false
set_option maxRecDepth 100000
set_option maxHeartbeats 4000000
namespace Kp
open PySem L2

/-! ### rules whose reading names the written part, for a block -/
section
variable {X : Cx} {K : PySem.W.Frag} {pos : Pos}
theorem pg_tupK {es : List Expr} {k : Nat} {t : TGs} {n : Nat} (hK : X.K = K) (hc : X.calm = true) (h : PGs X es t) (hn : (assignEach es X.env).length = n := by rfl) (hst : (assignEach es X.env).findIdx? (·.1) = none := by rfl) : PG X (.Tuple es k pos) (gTup K n t) := by
  subst hK
  exact pg_tup hc h hn hst
theorem ix_listK (hK : X.K = K) : IxR X (rIxL K) := by subst hK; exact ix_list
theorem pe_bmK {o e : Expr} {es : List Expr} {to : TE} {t : TA} {name : Str} {apos cpos : Pos} {T id : String} {r : V → List V → Hp → VK → Prop} (hK : X.K = K) (pa : PlainAttrs T) (slot : Slot T name id) (hty : typeOf (.builtin id) = pure (.type "method_descriptor")) (hm : MtR X id r) (ho : PE X o to) (ha : PA X (e :: es) t)
    (hbase : attributeBase o name X.env (eval o X.env) = eval o X.env := by rfl)
    (hfew : ((backTo cpos (starEach (e :: es) X.env)).all (fun x => !x.1) && (backToKw cpos (keywordEach [] X.env)).all (fun x => x.1.isSome) && decide ((e :: es).length + ([] : List Keyword).length + (if ([] : List Keyword).isEmpty then 0 else 1) < 30)) = true := by rfl)
    (hline : (apos.endLine == cpos.line) = true := by rfl) (hs : starEach (e :: es) X.env = (false, eval e X.env) :: starEach es X.env := by rfl) (hplain : (backTo cpos (starEach es X.env)).any (·.1) = false := by rfl) :
    PE X (.Call (.Attribute o name apos) (e :: es) [] cpos) (tBM K T r to t) := by
  subst hK
  exact pe_bm pa slot hty hm ho ha hbase hfew hline hs hplain
theorem pe_fn {x : Str} {f : Addr} (hg : Gl X x) (hm : X.mg x = some (.ref f)) (hd : (x == ("__debug__" : Str)) = false := by decide) : PE X (.Name x pos) (tC (.ref f)) := pe_glob (v := .ref f) hg hm rfl hd
end

/-! ### a comprehension's names -/
def compChk (outer scope : Scope) : Bool := scope.kind == .function && scope.names.all fun y => y.2 != .cell && (y.2 != .local || scope.names.lookup y.1 == some .local) && (y.2 != .free || outer.names.lookup y.1 == some .cell)
theorem compOkN {X : Cx} {outer scope : Scope} {NB : List Str} {n : Nat} {fr : List Nat} (hX : X.env.scope = outer) (h : compChk outer scope = true) (hl : NB.length = n + fr.length)
    (ho : ∀ (j k : Nat), fr[j]? = some k → ∃ x, NB[n + j]? = some x ∧ X.N[k]? = some x ∧ scope.names.lookup x = some .free) : CompOk X scope NB n fr := by
  unfold compChk at h
  rw [Bool.and_eq_true, List.all_eq_true] at h
  obtain ⟨h1, h2⟩ := h
  refine ⟨by simpa using h1, fun y hy => ?_, fun y hy hk => ?_, fun y hy hk => ?_, hl, ho⟩
  · have := h2 y hy
    simp only [Bool.and_eq_true, bne_iff_ne, ne_eq] at this
    exact this.1.1
  · have := h2 y hy
    simp only [Bool.and_eq_true, Bool.or_eq_true, bne_iff_ne, ne_eq, beq_iff_eq] at this
    exact this.1.2.resolve_left (fun z => z hk)
  · have := h2 y hy
    simp only [Bool.and_eq_true, Bool.or_eq_true, bne_iff_ne, ne_eq, beq_iff_eq] at this
    refine .inl ?_
    show X.env.scope.names.lookup y.1 = some .cell
    rw [hX]
    exact this.2.resolve_left (fun z => z hk)
theorem compOk0 {X : Cx} {outer scope : Scope} {NB : List Str} {n : Nat} (hX : X.env.scope = outer) (h : compChk outer scope = true) (hl : NB.length = n + 0) : CompOk X scope NB n [] :=
  compOkN hX h hl fun j k e => by simp at e
theorem compOk1 {X : Cx} {outer scope : Scope} {NB : List Str} {n k0 : Nat} {x : Str} (hX : X.env.scope = outer) (h : compChk outer scope = true) (hl : NB.length = n + 1) (h1 : NB[n]? = some x) (h2 : X.N[k0]? = some x) (h3 : scope.names.lookup x = some .free) : CompOk X scope NB n [k0] :=
  compOkN hX h hl fun j k e => by
    cases j with
    | zero => cases e; exact ⟨x, h1, h2, h3⟩
    | succ j => simp at e
theorem compOk2 {X : Cx} {outer scope : Scope} {NB : List Str} {n k0 k1 : Nat} {x y : Str} (hX : X.env.scope = outer) (h : compChk outer scope = true) (hl : NB.length = n + 2) (h1 : NB[n]? = some x) (h2 : X.N[k0]? = some x) (h3 : scope.names.lookup x = some .free)
    (g1 : NB[n + 1]? = some y) (g2 : X.N[k1]? = some y) (g3 : scope.names.lookup y = some .free) : CompOk X scope NB n [k0, k1] :=
  compOkN hX h hl fun j k e => by
    match j, e with
    | 0, e => cases e; exact ⟨x, h1, h2, h3⟩
    | 1, e => cases e; exact ⟨y, g1, g2, g3⟩
    | j + 2, e => simp at e

/-! ### a comprehension that changes nothing -/
theorem comp_pure {J : It} {H1 : Hp} {n k : Nat} {frs : St} {g : TG} {tt : TT} {te : TE} {Q : VK} (p : Nat → Bool) (f : Nat → V) (hn : n < sizeLine)
    (go : ∀ i H, i < n → Same H1 H → J.go i H) (stop : ∀ H, Same H1 H → J.stop n H)
    (turn : ∀ i H t x H2 (R : St → Hp → Option V → Prop), i < n → Same H1 H → t.length = k → J.yld i H x H2 →
      (∀ t' H', t'.length = k → Same H H' → R (t' ++ frs) H' (if p i = true then some (f i) else none)) →
      g x (t ++ frs) H2 fun σ3 H3 => tt σ3 H3 fun b H4 => if b = true then te σ3 H4 fun v H5 => R σ3 H5 (some v) else R σ3 H4 none)
    (hq : ∀ D H', Same H1 H' → H1 D = none → H' D = some (.lst (((List.range n).filter p).map f)) → Q (.ref D) H') : CompGo (List.replicate k none ++ frs) g tt te Q J H1 := by
  intro D hD
  refine ⟨fun i m ys σ H => i ≤ n ∧ m = n - i ∧ ys = ((List.range i).filter p).map f ∧ Same H1 H ∧ ∃ t, t.length = k ∧ σ = t ++ frs, ⟨n, Nat.zero_le _, rfl, rfl, same_upd hD, _, by simp, rfl⟩, ?_⟩
  rintro i m ys σ H ⟨hi, rfl, rfl, s1, t, ht, rfl⟩ hd
  by_cases hlt : i < n
  · right
    refine ⟨go i H hlt s1, ?_, fun x H2 y => ?_⟩
    · refine Nat.lt_of_le_of_lt ?_ hn
      rw [List.length_map]
      exact Nat.le_trans (List.length_filter_le _ _) (by simpa using hi)
    · have h := turn i H t x H2 (fun σ3 H5 r => match r with
        | some v => H5 D = some (.lst (((List.range i).filter p).map f)) ∧ ∃ m', m' < n - i ∧ (i + 1 ≤ n ∧ m' = n - (i + 1) ∧ ((List.range i).filter p).map f ++ [v] = ((List.range (i + 1)).filter p).map f ∧ Same H1 (upd H5 D (.lst (((List.range i).filter p).map f ++ [v]))) ∧ ∃ t, t.length = k ∧ σ3 = t ++ frs)
        | none => H5 D = some (.lst (((List.range i).filter p).map f)) ∧ ∃ m', m' < n - i ∧ (i + 1 ≤ n ∧ m' = n - (i + 1) ∧ ((List.range i).filter p).map f = ((List.range (i + 1)).filter p).map f ∧ Same H1 H5 ∧ ∃ t, t.length = k ∧ σ3 = t ++ frs)) hlt s1 ht y ?_
      · exact h
      · intro t' H' ht' s2
        cases hp : p i with
        | true =>
          rw [if_pos rfl]
          refine ⟨s2 _ _ hd, n - (i + 1), by omega, by omega, rfl, ?_, fun b o e => ?_, t', ht', rfl⟩
          · rw [List.range_succ, List.filter_append, List.map_append]
            simp [hp]
          · rw [upd_ne (ne_of_none e hD)]; exact s2 _ _ (s1 _ _ e)
        | false =>
          rw [if_neg Bool.false_ne_true]
          refine ⟨s2 _ _ hd, n - (i + 1), by omega, by omega, rfl, ?_, s1.trans s2, t', ht', rfl⟩
          rw [List.range_succ, List.filter_append, List.map_append]
          simp [hp]
  · have e : i = n := by omega
    subst e
    exact .inl ⟨stop H s1, hq D H s1 hD hd⟩

/-! ### promises -/
/-- a teller: of a thing, a truth; nothing is changed -/
def spP (f : D → Bool) : Sp := fun vs H Q _ => ∃ B v d, B ≤ 1000 ∧ vs = [v] ∧ Is B H v d ∧ ∀ H', Same H H' → Q (.bl (f d)) H'
theorem spP_len {f : D → Bool} : ∀ vs H Q E, spP f vs H Q E → vs.length = 1 := fun vs H Q E ⟨_, _, _, _, e, _⟩ => by subst e; rfl
/-- a def of the text that keeps its promise, as a caller sees it -/
structure Cal (P : Program) (w : World) (K : PySem.W.Frag) (mg : Str → Option Value) (base : Heap) (name : Str) (k : Nat) (ps : List Str) (sp : Sp) : Prop where
  ex : ∃ f fd, FnOk P w K mg base CX0 k f fd ps sp ∧ mg name = some (.ref f) ∧ PySem.W.keepIn K (.ref f) = true ∧ Binds K fd ps []
theorem le1000 {n B : Nat} (h : n ≤ B) (hB : B ≤ 1000) : n ≤ sizeLine := by rw [sizeLine_eq]; omega
def whole (d : D) : Bool := isInt d && !isBool d
theorem whole_int {d : D} (h : whole d = true) : ∃ i, d = .int i := by
  cases d with
  | int i => exact ⟨i, rfl⟩
  | _ => cases h
end Kp
set_option Elab.async false
set_option linter.all false
namespace Kp
open PySem L2
section
variable {X : Cx} {es : List Expr} {te : TE} {t : TA} {pos : Pos}
/-! ### argument lists by the first one's form: that it is no star is known once -/
theorem pa_i {c : Const} {k : Nat} (ha : PE X (.Constant c k pos) te) (hr : PA X es t) : PA X (.Constant c k pos :: es) (tCons te t) := pa_cons ha hr rfl
theorem pa_n {x : Str} (ha : PE X (.Name x pos) te) (hr : PA X es t) : PA X (.Name x pos :: es) (tCons te t) := pa_cons ha hr rfl
theorem pa_t {l : List Expr} {k : Nat} (ha : PE X (.Tuple l k pos) te) (hr : PA X es t) : PA X (.Tuple l k pos :: es) (tCons te t) := pa_cons ha hr rfl
theorem pa_u {o : UnaryOp} {a : Expr} (ha : PE X (.UnaryOp o a pos) te) (hr : PA X es t) : PA X (.UnaryOp o a pos :: es) (tCons te t) := pa_cons ha hr rfl
theorem pa_b {o : Operator} {a b : Expr} (ha : PE X (.BinOp a o b pos) te) (hr : PA X es t) : PA X (.BinOp a o b pos :: es) (tCons te t) := pa_cons ha hr rfl
theorem pa_k {f : Expr} {as : List Expr} {ks : List Keyword} (ha : PE X (.Call f as ks pos) te) (hr : PA X es t) : PA X (.Call f as ks pos :: es) (tCons te t) := pa_cons ha hr rfl
theorem pa_s {a b : Expr} (ha : PE X (.Subscript a b pos) te) (hr : PA X es t) : PA X (.Subscript a b pos :: es) (tCons te t) := pa_cons ha hr rfl
theorem pa_c {a : Expr} {o : List CmpOp} {b : List Expr} (ha : PE X (.Compare a o b pos) te) (hr : PA X es t) : PA X (.Compare a o b pos :: es) (tCons te t) := pa_cons ha hr rfl
end
end Kp
namespace Kp
open PySem L2
theorem px_b {a b : Expr} {o : Operator} {pos : Pos} : PlainIx (.BinOp a o b pos) := fun _ _ => rfl
theorem px_i {c : Const} {k : Nat} {pos : Pos} : PlainIx (.Constant c k pos) := fun _ _ => rfl
end Kp
namespace Kp
open PySem L2
theorem sw_l {l : List Expr} {p : Pos} {t : Option Expr} {n : Nat} {env : Env} : swapsWith (.List l p) t n env = pure false := rfl
theorem sw_b {a b : Expr} {o : Operator} {p : Pos} {t : Option Expr} {n : Nat} {env : Env} : swapsWith (.BinOp a o b p) t n env = pure false := rfl
end Kp
namespace Kp
open PySem L2
/-! ### displays of written things -/
structure QA (X : Cx) (es : List Expr) (t : TA) : Prop where
  h : PA X es t
section
variable {X : Cx} {es l : List Expr} {t u : TA} {p p' : Pos} {j : Nat}
theorem qa_nil : QA X [] tNil := ⟨pa_nil⟩
theorem qa_str {i : Str} (r : QA X es t) : QA X (.Constant (.str i) j p :: es) (tCons (tC (.str i)) t) := ⟨pa_cons pe_str r.h rfl⟩
end
end Kp
namespace Kp
open PySem L2
/-! ### judgements in boxes: the elaborator looks into the bare ones, and runs a written display -/
structure QE (X : Cx) (e : Expr) (t : TE) : Prop where
  h : PE X e t
structure QS (X : Cx) (st : Stmt) (t : TS) : Prop where
  h : PS X st t
structure QB (X : Cx) (sts : List Stmt) (t : TS) : Prop where
  h : PSs X sts t
section
variable {X : Cx} {es : List Expr} {t : TA} {p p' pos : Pos} {j : Nat}
theorem qx_lst (a : QA X es t) : QE X (.List es p) (tLst t) := ⟨pe_lst a.h⟩
theorem qs_set {i : Nat} {x : Str} {e : Expr} {te : TE} (hN : X.N.Nodup) (hi : X.N[i]? = some x) (hx : Loc X.env.scope x) (he : QE X e te) (hs : swapsWith e (some (.Name x p')) pos.line X.env = pure false) (hf : X.fn x = true ∨ X.env.scope.names.lookup x = some .local := by first | exact .inl rfl | exact .inr rfl | assumption) :
    QS X (.Assign [.Name x p'] e pos) (tAsg te (gName i)) := ⟨ps_set hN hi hx he.h hs hf⟩
end
end Kp
set_option Elab.async false
set_option linter.all false
set_option maxRecDepth 100000
set_option maxHeartbeats 4000000
namespace Kp
open PySem L2 PyProof.Rows

/-! ### D.get(word) of a dict of the module -/
def tKGet (K : PySem.W.Frag) (w : World) (to : TE) (t : TA) : TE := fun σ H Q => to σ H fun x H1 => ∃ a es n, x = .ref a ∧ K.lookup a = some ⟨.type "dict", none, .dict es n, #[]⟩ ∧ PySem.W.KeysLit w.params es.toList ∧ (a == sysModules) = false ∧
  t σ H1 fun xs H2 => ∃ k v, xs = [.str k] ∧ RelV v ((findBy Value.isStrOf es k).getD .none) ∧ Q v H2
theorem pe_kget {X : Cx} {o e : Expr} {to : TE} {t : TA} {apos cpos : Pos} (ho : PE X o to) (ha : PA X [e] t)
    (hbase : attributeBase o "get" X.env (eval o X.env) = eval o X.env := by rfl)
    (hfew : ((backTo cpos (starEach [e] X.env)).all (fun x => !x.1) && (backToKw cpos (keywordEach [] X.env)).all (fun x => x.1.isSome)
      && decide ([e].length + ([] : List Keyword).length + (if ([] : List Keyword).isEmpty then 0 else 1) < 30)) = true := by rfl)
    (hline : (apos.endLine == cpos.line) = true := by rfl) (hs : starEach [e] X.env = (false, eval e X.env) :: starEach [] X.env := by rfl) :
    PE X (.Call (.Attribute o "get" apos) [e] [] cpos) (tKGet X.K X.w to t) := by
  intro pins s σ H Q I h
  refine wpAny_Call_method_late hbase hfew hline rfl (thn (ho pins s σ H _ I h) fun v s1 ⟨x, H1, I1, r1, a, es, n, ex, hl, hk, hsys, q1⟩ => ?_)
  subst ex
  cases r1
  have hm := PySem.W.mapOf_K (prog := X.prog) (w := X.w) I1.kIn hl hk
  refine ⟨"dict", "dict.get", PySem.F.plainAttrs_dict, PySem.F.slot_dict_get, PySem.F.type_dict_get, hm.typeIs, fun b e => ?_, ?_⟩
  · cases e
    exact ⟨_, I1.kIn _ _ hl, rfl⟩
  have hA := ha cpos pins s1 σ H1 _ I1 q1
  rw [hs] at hA ⊢
  refine Calls.callWith_builtin rfl (Calls.evalArgs_plain ?_)
  refine thn hA fun us s2 ⟨vs, H2, I2, r2, k, vv, e2, rv, q2⟩ => ?_
  subst e2
  obtain ⟨u, rfl, t', rfl⟩ := vals1 r2
  have hm2 := PySem.W.mapOf_K (prog := X.prog) (w := X.w) I2.kIn hl hk
  exact call_meetsIn PySem.F.slot_dict_get hm2.typeIs PySem.F.entry_dict_get (PySem.F.args_dict_get_2 _ _) (meets_dict_get (strKind X.prog X.w) a (strKind_is X.prog X.w k t') hsys) ⟨_, hm2, vv, H2, I2.tok _, rv, q2⟩

/-! ### a teller that is known by its address only -/
structure Tl (P : Program) (w : World) (K : PySem.W.Frag) (mg : Str → Option Value) (base : Heap) (k : Nat) (g : Addr) (p : D → Bool) : Prop where
  ex : ∃ k' fd px, k' ≤ k ∧ FnOk P w K mg base CX0 k' g fd [px] (spP p) ∧ PySem.W.keepIn K (.ref g) = true ∧ Binds K fd [px] []
def tCallR (P : Program) (w : World) (K : PySem.W.Frag) (mg : Str → Option Value) (base : Heap) (k : Nat) (E : XK) (tf : TE) (t : TA) : TE := fun σ H Q => tf σ H fun x H1 => ∃ g p, x = .ref g ∧ Tl P w K mg base k g p ∧ t σ H1 fun vs H2 => spP p (vs ++ []) H2 Q E
theorem pe_callR {X : Cx} {P : Program} {w : World} {K : PySem.W.Frag} {mg : Str → Option Value} {base : Heap} {k : Nat} {E : XK} {x : Str} {p pos : Pos} {e : Expr} {es : List Expr} {tf : TE} {t : TA} (h1 : X.prog = P) (h2 : X.w = w) (h3 : X.K = K) (h4 : X.mg = mg) (h5 : X.base = base) (hr : Room k X.A)
    (hx : Passes CX0 X E) (hf : PE X (.Name x p) tf) (ha : PA X (e :: es) t)
    (he : starEach (e :: es) X.env = (false, eval e X.env) :: starEach es X.env := by rfl) (hpl : (backTo pos (starEach es X.env)).any (·.1) = false := by rfl) :
    PE X (.Call (.Name x p) (e :: es) [] pos) (tCallR P w K mg base k E tf t) := by
  subst h1 h2 h3 h4 h5
  intro pins s σ H Q I h
  refine wpAny_Call_Name_kw (thn (hf pins s σ H _ I h) fun u s0 ⟨v, H0, I0, r0, g, p, e0, T, q0⟩ => ?_)
  subst e0
  cases r0
  obtain ⟨k', fd, px, hk', F, hk, hb⟩ := T.ex
  refine PySem.W.callWith_K (h₀ := X.base) I.ok.mod.kin hk (thn (ha pos pins s0 σ H0 _ I0 q0) fun us s1 ⟨vs, H1, I1, r, q⟩ => ⟨I1.kIn, ?_⟩) he hpl
  exact run_fn F (hr.mono hk') hb .nil hx I1 r q
section
variable {P : Program} {w : World} {K : PySem.W.Frag} {mg : Str → Option Value} {base : Heap}
theorem Tl.mono {k k' : Nat} {g : Addr} {p : D → Bool} (h : Tl P w K mg base k g p) (hk : k ≤ k') : Tl P w K mg base k' g p := let ⟨j, fd, px, a, b⟩ := h.ex; ⟨j, fd, px, Nat.le_trans a hk, b⟩
/-- tellers and what they tell -/
inductive Tls (P : Program) (w : World) (K : PySem.W.Frag) (mg : Str → Option Value) (base : Heap) (k : Nat) : List V → List (D → Bool) → Prop
  | nil : Tls P w K mg base k [] []
  | cons {g : Addr} {p : D → Bool} {gs : List V} {ps : List (D → Bool)} (h : Tl P w K mg base k g p) (t : Tls P w K mg base k gs ps) : Tls P w K mg base k (.ref g :: gs) (p :: ps)
theorem Tls.length {k : Nat} : ∀ {gs ps}, Tls P w K mg base k gs ps → gs.length = ps.length
  | _, _, .nil => rfl
  | _, _, .cons _ t => by simp [Tls.length t]
theorem Tls.get {k : Nat} : ∀ {gs ps} {i : Nat} {v : V}, Tls P w K mg base k gs ps → gs[i]? = some v → ∃ g p, v = .ref g ∧ ps[i]? = some p ∧ Tl P w K mg base k g p
  | _, _, _, _, .nil, e => by simp at e
  | _, _, 0, _, .cons h _, e => by simp at e; subst e; exact ⟨_, _, rfl, rfl, h⟩
  | _, _, i + 1, v, .cons _ t, e => by
    obtain ⟨g, p, a, b, c⟩ := Tls.get (i := i) (v := v) t (by simpa using e)
    exact ⟨g, p, a, by simpa using b, c⟩
theorem Tls.mono {k k' : Nat} (hk : k ≤ k') : ∀ {gs ps}, Tls P w K mg base k gs ps → Tls P w K mg base k' gs ps
  | _, _, .nil => .nil
  | _, _, .cons h t => .cons (h.mono hk) (Tls.mono hk t)

/-! ### a table of tellers by words -/
inductive Tbl (P : Program) (w : World) (K : PySem.W.Frag) (mg : Str → Option Value) (base : Heap) (k : Nat) : List DictEntry → List (Str × List (D → Bool)) → Prop
  | nil : Tbl P w K mg base k [] []
  | cons {x : Str} {tk : Tok} {t : Addr} {gs : List V} {ps : List (D → Bool)} {es : List DictEntry} {tb : List (Str × List (D → Bool))} (hs : ∀ H : Hp, SqT K H t gs) (ht : Tls P w K mg base k gs ps) (r : Tbl P w K mg base k es tb) :
      Tbl P w K mg base k (⟨PyData.keyHash w.params x, .str x tk, .ref t⟩ :: es) ((x, ps) :: tb)
theorem Tbl.keys {k : Nat} : ∀ {es tb}, Tbl P w K mg base k es tb → PySem.W.KeysLit w.params es
  | _, _, .nil => trivial
  | _, _, .cons _ _ r => ⟨⟨_, _, rfl, rfl⟩, Tbl.keys r⟩
theorem Tbl.find {k : Nat} {x : Str} : ∀ {es tb}, Tbl P w K mg base k es tb → ∃ v, RelV v (((es.find? fun e => Value.isStrOf x e.key).map (·.val)).getD .none) ∧
    ((tb.lookup x = none ∧ v = .non) ∨ ∃ ps t gs, tb.lookup x = some ps ∧ v = .ref t ∧ (∀ H : Hp, SqT K H t gs) ∧ Tls P w K mg base k gs ps)
  | _, _, .nil => ⟨.non, rfl, .inl ⟨rfl, rfl⟩⟩
  | _, _, @Tbl.cons _ _ _ _ _ _ y tk t gs ps es tb hs ht r => by
    rw [List.find?_cons, List.lookup_cons]
    have e : Value.isStrOf x (Value.str y tk) = (x == y) := by
      show (y == x) = (x == y)
      rw [Bool.eq_iff_iff, beq_iff_eq, beq_iff_eq]
      exact eq_comm
    dsimp only
    rw [e]
    cases hx : x == y with
    | true => exact ⟨.ref t, rfl, .inr ⟨ps, t, gs, rfl, rfl, hs, ht⟩⟩
    | false => exact Tbl.find r
end
end Kp
set_option Elab.async false
set_option linter.all false
set_option maxRecDepth 100000
set_option maxHeartbeats 4000000
namespace Kp
open PySem

/-! ### tuples by tellers, things by their first word -/
def geD (l : Int) : D → Bool
  | .int i => decide (l ≤ i)
  | _ => false
def fitsL : List (D → Bool) → List D → Bool
  | [], [] => true
  | p :: ps, d :: ds => p d && fitsL ps ds
  | _, _ => false
def fitsD (ps : List (D → Bool)) : D → Bool
  | .tup ds => fitsL ps ds
  | _ => false
def wordD : D → Str
  | .tup (.str x :: _) => x
  | _ => ""
def byWord (tb : List (Str × List (D → Bool))) : D → Bool
  | .tup (.str x :: r) => match tb.lookup x with
    | some ps => fitsL ps r
    | none => false
  | _ => false
theorem word_inv {d : D} {x : Str} (h : wordD d = x) (hx : x ≠ "") : ∃ r, d = .tup (.str x :: r) := by
  unfold wordD at h
  split at h
  · subst h; exact ⟨_, rfl⟩
  · exact absurd h.symm hx
theorem fitsL_len : ∀ {ps : List (D → Bool)} {ds : List D}, ds.length ≠ ps.length → fitsL ps ds = false
  | [], [], h => absurd rfl h
  | [], _ :: _, _ => rfl
  | _ :: _, [], _ => rfl
  | p :: ps, d :: ds, h => by rw [fitsL, fitsL_len (fun e => h (by simp [e])), Bool.and_false]
theorem fitsL_range : ∀ {ps : List (D → Bool)} {ds : List D}, ds.length = ps.length → ((List.range ps.length).map fun i => (ps.getD i fun _ => true) (ds.getD i .non)).all id = fitsL ps ds
  | [], [], _ => rfl
  | p :: ps, d :: ds, h => by
    have h' : ds.length = ps.length := by simpa using h
    rw [fitsL, ← fitsL_range h', List.length_cons, List.range_succ_eq_map, List.map_cons, List.all_cons, List.map_map]
    rfl
theorem byWord_none {tb : List (Str × List (D → Bool))} {d : D} (h : tb.lookup (wordD d) = none) : byWord tb d = false := by
  unfold byWord
  split
  · rename_i x r
    have h' : tb.lookup x = none := h
    rw [h']
  · rfl

def deedT (nm : D → Bool) : List (Str × List (D → Bool)) := [("set", [nm, whole]), ("add", [nm, whole]), ("get", [nm])]
def deedP : D → Bool := byWord (deedT nameP)
def whatT : List (Str × List (D → Bool)) := [("open", []), ("wish", [nameP, geD 1, deedP]), ("seats", [seatsP])]
def whatP : D → Bool := byWord whatT
def entryP : D → Bool := fitsD [geD 1, whatP]

/-! ### the law's -/
def one (p : D → Bool) : List D → Bool
  | [a] => p a
  | _ => false
def two (p q : D → Bool) : List D → Bool
  | [a, b] => p a && q b
  | _ => false
def three (p q s : D → Bool) : List D → Bool
  | [a, b, c] => p a && (q b && s c)
  | _ => false
def deedL : D → Bool
  | .tup (.str x :: r) => if x = "get" then one nameL r else if x = "set" ∨ x = "add" then two nameL whole r else false
  | _ => false
def whatL : D → Bool
  | .tup (.str x :: r) => match r with
    | [a, b, c] => if x = "wish" then nameL a && (geD 1 b && deedL c) else false
    | [a] => if x = "seats" then seatsL a else false
    | [] => decide (x = "open")
    | _ => false
  | _ => false
def entryL : D → Bool
  | .tup [a, b] => geD 1 a && whatL b
  | _ => false
theorem fits2 (p q : D → Bool) : ∀ r : List D, fitsL [p, q] r = two p q r
  | [] => rfl
  | [_] => by simp [fitsL, one, two, three]
  | [a, b] => by simp [fitsL, one, two, three]
  | _ :: _ :: _ :: _ => by simp [fitsL, one, two, three]
theorem fits1 (p : D → Bool) : ∀ r : List D, fitsL [p] r = one p r
  | [] => rfl
  | [a] => by simp [fitsL, one, two, three]
  | _ :: _ :: _ => by simp [fitsL, one, two, three]
theorem fits3 (p q s : D → Bool) : ∀ r : List D, fitsL [p, q, s] r = three p q s r
  | [] => rfl
  | [_] => by simp [fitsL, one, two, three]
  | [_, _] => by simp [fitsL, one, two, three]
  | [a, b, c] => by simp [fitsL, one, two, three]
  | _ :: _ :: _ :: _ :: _ => by simp [fitsL, one, two, three]
theorem name_fn : nameP = nameL := funext name_eq
theorem seats_fn : seatsP = seatsL := funext seats_eq
theorem s_ne1 : ("set" : Str) ≠ "get" := by decide +kernel
theorem s_ne2 : ("add" : Str) ≠ "get" := by decide +kernel
theorem deed_eq (d : D) : deedP d = deedL d := by
  unfold deedP byWord deedL
  split
  · rename_i x r
    unfold deedT
    rw [List.lookup_cons, List.lookup_cons, List.lookup_cons, List.lookup_nil, name_fn]
    by_cases h1 : x = "set"
    · have e1 : (x == ("set" : Str)) = true := by simp [h1]
      rw [e1, if_neg (by rw [h1]; exact s_ne1), if_pos (.inl h1)]
      exact fits2 _ _ r
    · have e1 : (x == ("set" : Str)) = false := by simp [h1]
      by_cases h2 : x = "add"
      · have e2 : (x == ("add" : Str)) = true := by simp [h2]
        rw [e1, e2, if_neg (by rw [h2]; exact s_ne2), if_pos (.inr h2)]
        exact fits2 _ _ r
      · have e2 : (x == ("add" : Str)) = false := by simp [h2]
        by_cases h3 : x = "get"
        · have e3 : (x == ("get" : Str)) = true := by simp [h3]
          rw [e1, e2, e3, if_pos h3]
          exact fits1 _ r
        · have e3 : (x == ("get" : Str)) = false := by simp [h3]
          rw [e1, e2, e3, if_neg h3, if_neg (by rintro (z | z); exact h1 z; exact h2 z)]
  · rfl
theorem deed_fn : deedP = deedL := funext deed_eq
theorem w_ne1 : ("open" : Str) ≠ "wish" := by decide +kernel
theorem w_ne2 : ("open" : Str) ≠ "seats" := by decide +kernel
theorem w_ne3 : ("wish" : Str) ≠ "seats" := by decide +kernel
theorem w_ne4 : ("wish" : Str) ≠ "open" := by decide +kernel
theorem w_ne5 : ("seats" : Str) ≠ "wish" := by decide +kernel
theorem w_ne6 : ("seats" : Str) ≠ "open" := by decide +kernel
theorem what_eq (d : D) : whatP d = whatL d := by
  unfold whatP byWord whatL
  split
  · rename_i x r
    unfold whatT
    rw [List.lookup_cons, List.lookup_cons, List.lookup_cons, List.lookup_nil, name_fn, deed_fn, seats_fn]
    by_cases h1 : x = "open"
    · subst h1
      rw [show ((("open" : Str)) == ("open" : Str)) = true by simp]
      match r with
      | [] => simp [fitsL]
      | [a] => exact (if_neg w_ne2).symm
      | [a, b] => rfl
      | [a, b, c] => exact (if_neg w_ne1).symm
      | _ :: _ :: _ :: _ :: _ => rfl
    · have e1 : (x == ("open" : Str)) = false := by simp [h1]
      rw [e1]
      by_cases h2 : x = "wish"
      · subst h2
        rw [show ((("wish" : Str)) == ("wish" : Str)) = true by simp]
        show fitsL [nameL, geD 1, deedL] r = _
        rw [fits3]
        match r with
        | [] => exact (decide_eq_false w_ne4).symm
        | [a] => exact (if_neg w_ne3).symm
        | [a, b] => rfl
        | [a, b, c] => exact (if_pos rfl).symm
        | _ :: _ :: _ :: _ :: _ => rfl
      · have e2 : (x == ("wish" : Str)) = false := by simp [h2]
        rw [e2]
        by_cases h3 : x = "seats"
        · subst h3
          rw [show ((("seats" : Str)) == ("seats" : Str)) = true by simp]
          show fitsL [seatsL] r = _
          rw [fits1]
          match r with
          | [] => exact (decide_eq_false w_ne6).symm
          | [a] => exact (if_pos rfl).symm
          | [a, b] => rfl
          | [a, b, c] => exact (if_neg w_ne5).symm
          | _ :: _ :: _ :: _ :: _ => rfl
        · have e3 : (x == ("seats" : Str)) = false := by simp [h3]
          rw [e3]
          match r with
          | [] => exact (decide_eq_false h1).symm
          | [a] => exact (if_neg h3).symm
          | [a, b] => rfl
          | [a, b, c] => exact (if_neg h2).symm
          | _ :: _ :: _ :: _ :: _ => rfl
  · rfl
theorem what_fn : whatP = whatL := funext what_eq
theorem entry_eq (d : D) : entryP d = entryL d := by
  unfold entryP fitsD entryL
  rw [what_fn]
  split
  · rename_i ds
    rw [fits2]
    match ds with
    | [] => rfl
    | [_] => rfl
    | [a, b] => rfl
    | _ :: _ :: _ :: _ => rfl
  · rename_i h
    cases d with
    | tup ds => exact absurd rfl (h ds)
    | _ => rfl

theorem deedL_get (r : List D) : deedL (.tup (.str "get" :: r)) = one nameL r := by unfold deedL; exact if_pos rfl
def lenD : D → Nat
  | .tup ds => ds.length
  | _ => 0
def tailD : D → List D
  | .tup (_ :: r) => r
  | _ => []
/-- the law's what, as its text goes -/
def whatC (d : D) : Bool := if wordD d = "wish" ∧ lenD d = 4 then three nameL (geD 1) deedL (tailD d) else if wordD d = "seats" ∧ lenD d = 2 then one seatsL (tailD d) else decide (wordD d = "open" ∧ lenD d = 1)
theorem whatC_no {d : D} (h : wordD d = "") : whatC d = false := by
  unfold whatC
  rw [h, if_neg (fun z => absurd z.1 (by decide +kernel)), if_neg (fun z => absurd z.1 (by decide +kernel)), decide_eq_false (fun z => absurd z.1 (by decide +kernel))]
theorem what_c (d : D) : whatC d = whatL d := by
  by_cases h : wordD d = ""
  · rw [whatC_no h]
    unfold whatL
    split
    · rename_i x r
      have hx : x = "" := h
      subst hx
      match r with
      | [] => exact (decide_eq_false (by decide +kernel)).symm
      | [a] => exact (if_neg (by decide +kernel)).symm
      | [a, b] => rfl
      | [a, b, c] => exact (if_neg (by decide +kernel)).symm
      | _ :: _ :: _ :: _ :: _ => rfl
    · rfl
  · obtain ⟨r, e⟩ := word_inv (d := d) rfl h
    generalize wordD d = x at e h
    subst e
    show (if x = "wish" ∧ r.length + 1 = 4 then three nameL (geD 1) deedL r else if x = "seats" ∧ r.length + 1 = 2 then one seatsL r else decide (x = "open" ∧ r.length + 1 = 1)) = _
    match r with
    | [] =>
      rw [if_neg (fun z => absurd z.2 (by decide)), if_neg (fun z => absurd z.2 (by decide))]
      show decide (x = "open" ∧ 0 + 1 = 1) = decide (x = "open")
      simp
    | [a] =>
      rw [if_neg (fun z => absurd z.2 (by simp))]
      show _ = if x = "seats" then seatsL a else false
      by_cases hs : x = "seats"
      · rw [if_pos ⟨hs, rfl⟩, if_pos hs]; rfl
      · rw [if_neg (fun z => hs z.1), if_neg hs, decide_eq_false (fun z => absurd z.2 (by simp))]
    | [a, b] =>
      rw [if_neg (fun z => absurd z.2 (by simp)), if_neg (fun z => absurd z.2 (by simp)), decide_eq_false (fun z => absurd z.2 (by simp))]
      rfl
    | [a, b, c] =>
      show _ = if x = "wish" then nameL a && (geD 1 b && deedL c) else false
      by_cases hs : x = "wish"
      · rw [if_pos ⟨hs, rfl⟩, if_pos hs]; rfl
      · rw [if_neg (fun z => hs z.1), if_neg hs, if_neg (fun z => absurd z.2 (by simp)), decide_eq_false (fun z => absurd z.2 (by simp))]
    | _ :: _ :: _ :: _ :: _ =>
      rw [if_neg (fun z => absurd z.2 (by simp)), if_neg (fun z => absurd z.2 (by simp)), decide_eq_false (fun z => absurd z.2 (by simp))]
      rfl
theorem what_cfn : whatC = whatL := funext what_c
end Kp
set_option Elab.async false
set_option linter.all false
set_option maxRecDepth 100000
namespace Kp
open PySem L2
theorem tiny {n : Nat} (h : n ≤ 1000) : n ≤ sizeLine := by rw [sizeLine_eq]; omega
section
variable {X : Cx} {es l : List Expr} {te : TE} {t u : TA} {p p' pos : Pos} {j : Nat}
theorem qa_n {x : Str} (ha : PE X (.Name x p) te) (r : QA X es t) : QA X (.Name x p :: es) (tCons te t) := ⟨pa_n ha r.h⟩
theorem qa_k {f : Expr} {as : List Expr} {ks : List Keyword} (ha : PE X (.Call f as ks p) te) (r : QA X es t) : QA X (.Call f as ks p :: es) (tCons te t) := ⟨pa_k ha r.h⟩
theorem qa_s {a b : Expr} (ha : PE X (.Subscript a b p) te) (r : QA X es t) : QA X (.Subscript a b p :: es) (tCons te t) := ⟨pa_s ha r.h⟩
theorem qa_b {o : Operator} {a b : Expr} (ha : PE X (.BinOp a o b p) te) (r : QA X es t) : QA X (.BinOp a o b p :: es) (tCons te t) := ⟨pa_b ha r.h⟩
theorem qx_tup (a : QA X es t) : QE X (.Tuple es j p) (tTup t) := ⟨pe_tup a.h⟩
theorem qx_ix {a b : Expr} {ta tb : TE} {r : R2} (hx : IxR X r) (ha : QE X a ta) (hb : PE X b tb) (px : PlainIx b) : QE X (.Subscript a b pos) (tOp r ta tb) := ⟨pe_ix hx ha.h hb px⟩
end
end Kp
set_option Elab.async false
set_option linter.all false
set_option maxRecDepth 100000
set_option maxHeartbeats 4000000
namespace Kp
open PySem L2
/-! ### displays of written things, by «things of at most 16 parts» -/
theorem PA.weak {X : Cx} {es : List Expr} {t t' : TA} (h : PA X es t) (w : ∀ σ H Q, t' σ H Q → t σ H Q) : PA X es t' := fun pos pins s σ H Q I q => h pos pins s σ H Q I (w σ H Q q)
def tAnyA (n : Nat) : TA := fun _ H Q => ∀ vs H', ThL 16 H' vs → vs.length = n → Same H H' → Q vs H'
def tAnyL (n : Nat) : TE := fun _ H Q => ∀ p vs H', H' p = some (.lst vs) → vs.length = n → ThL 16 H' vs → Same H H' → Q (.ref p) H'
structure DA (X : Cx) (es : List Expr) (n : Nat) : Prop where
  h : PA X es (tAnyA n)
section
variable {X : Cx} {es l : List Expr} {n m : Nat} {p p' : Pos} {j : Nat}
theorem da_nil : DA X [] 0 := ⟨PA.weak pa_nil fun σ H Q q => q [] H .nil rfl (Same.refl _)⟩
theorem da_int {i : Int} (r : DA X es n) : DA X (.Constant (.int i) j p :: es) (n + 1) := ⟨PA.weak (pa_i pe_int r.h) fun σ H Q q => fun vs H' h l s => q _ _ (.cons (.int i) h) (by simp [l]) s⟩
theorem da_non (r : DA X es n) : DA X (.Constant .none j p :: es) (n + 1) := ⟨PA.weak (pa_i pe_non r.h) fun σ H Q q => fun vs H' h l s => q _ _ (.cons .non h) (by simp [l]) s⟩
theorem dx_lst (a : DA X es n) (hn : n ≤ 1000) : QE X (.List es p) (tAnyL n) :=
  ⟨PE.weak (pe_lst a.h) fun σ H Q q => fun xs H1 hx lx s1 => ⟨tiny (by omega), fun p hp => q p xs _ upd_same lx (hx.mono (Nat.le_refl _) (same_upd hp)) (s1.trans (same_upd hp))⟩⟩
/-- a display of tuples alone -/
def TupV (H : Hp) (v : V) : Prop := ∃ a xs, v = .ref a ∧ H a = some (.tup xs) ∧ xs.length ≤ 16 ∧ ThL 16 H xs
theorem TupV.mono {H H' : Hp} {v : V} (h : TupV H v) (s : Same H H') : TupV H' v := let ⟨a, xs, e, ha, l, t⟩ := h; ⟨a, xs, e, s _ _ ha, l, t.mono (Nat.le_refl _) s⟩
def tTupA (n : Nat) : TA := fun _ H Q => ∀ vs H', (∀ v ∈ vs, TupV H' v) → vs.length = n → Same H H' → Q vs H'
structure DT (X : Cx) (es : List Expr) (n : Nat) : Prop where
  h : PA X es (tTupA n)
end
end Kp
set_option Elab.async false
set_option linter.all false
set_option maxRecDepth 100000
namespace Kp
open PySem L2
section
variable {es l : List Expr} {te : TE} {t u : TA} {p p' pos : Pos} {j : Nat}
/- written with @ and holes for the rest: what is under them is built first, and met with the goal at the end -/
theorem pss_q {X : Cx} {st : Stmt} {rest : List Stmt} {t u : TS} (h1 : QS X st t) (h2 : PSs X rest u) : PSs X (st :: rest) (tSeq t u) := pss_cons h1.h h2
theorem pss_p {X : Cx} {st : Stmt} {rest : List Stmt} {t u : TS} (h1 : PS X st t) (h2 : PSs X rest u) : PSs X (st :: rest) (tSeq t u) := pss_cons h1 h2
theorem pss_o {X : Cx} {st : Stmt} {t : TS} (h1 : PS X st t) : PSs X [st] t := pss_one h1
theorem ps_retQ {X : Cx} {e : Expr} (h : QE X e te) : PS X (.Return (some e) pos) (tRet te) := ps_ret h.h
theorem qa_sQ {X : Cx} {a b : Expr} (ha : QE X (.Subscript a b p) te) (r : QA X es t) : QA X (.Subscript a b p :: es) (tCons te t) := ⟨pa_s ha.h r.h⟩
end
end Kp
set_option Elab.async false
set_option linter.all false
set_option maxRecDepth 100000
set_option maxHeartbeats 4000000
namespace L2
open PySem PySem.Spec PyProof.Rows
/-! ### for k, x in enumerate(list) -/
def Ite (a : Addr) : It :=
  ⟨fun i H => ∃ xs x, H a = some (.lst xs) ∧ xs[i]? = some x,
   fun i H v H' => ∃ p x, v = .ref p ∧ H p = none ∧ H' = upd H p (.tup [.int i, x]) ∧ ∀ xs, H a = some (.lst xs) → xs[i]? = some x,
   fun i H => ∃ xs, H a = some (.lst xs) ∧ xs.length ≤ i⟩
theorem turn_enum {P : Program} {w : World} {K : PySem.W.Frag} {es : List Expr} {k0 : Nat} {tp : Pos} {a e it : Addr} (D : e ≠ it) :
    Turn P w K (.Tuple es k0 tp) (Ite a) [e, it] e (fun i h => (∃ old, IsEnum h e it i old) ∧ h.IsListIter it a i) where
  mem := by simp
  obj := fun i h st c hc => by
    obtain ⟨⟨old, h1⟩, o, h2, _, h3⟩ := st
    simp only [List.mem_cons, List.not_mem_nil, or_false] at hc
    rcases hc with rfl | rfl
    · exact ⟨_, h1, fun v z => by cases z⟩
    · exact ⟨o, h2, fun v z => by rw [h3] at z; cases z⟩
  keep := fun i h h' st k => by
    obtain ⟨⟨old, h1⟩, o, h2, h3⟩ := st
    exact ⟨⟨old, k e (by simp) _ h1⟩, o, k it (by simp) o h2, h3⟩
  item := by
    intro X hP hw hK hc i pins s σ H E I hf st hg
    subst hP hw hK
    obtain ⟨⟨old, h1⟩, h2⟩ := st
    obtain ⟨xs, x, q1, hx⟩ := hg
    obtain ⟨z1, its, n1, r1, p1⟩ := I.hok a _ q1
    have pl : s.heap.IsList a its.toArray := ⟨_, p1, rfl, _, rfl⟩
    obtain ⟨ux, ex, rx⟩ := r1.get hx
    have fe := hf e (by simp)
    have fi := hf it (by simp)
    have nea : a ≠ e := fun z => by subst z; rw [fe.1] at q1; cases q1
    have nia : a ≠ it := fun z => by subst z; rw [fi.1] at q1; cases q1
    refine wpAny_pyNext_enum_item h1 h2 pl (x := ux) (by simpa using ex) D fun h' heo hit' ht hz hk => ⟨_, rfl, wpAny_letOwnedTupleGo_enum heo fun h2' he2 hs2 => ?_⟩
    have lt : ∀ {c o}, s.heap.get? c = some o → s.heap.objs.size ≠ c := fun q => Nat.ne_of_gt (Heap.lt_size q)
    have hk2 : ∀ c o, c ∉ [e, it] → s.heap.get? c = some o → h2'.get? c = some o := fun c o hcn q => by
      simp only [List.mem_cons, List.not_mem_nil, or_false, not_or] at hcn
      exact hs2.extBut c o hcn.1 (hk c o hcn.1 hcn.2 q)
    have I1 : Inv X pins σ H { s with heap := h2', toks := s.toks + 1 } := by
      refine I.step (g' := s.gens) (d' := s.drawn) (t' := s.toks + 1) (ch := [e, it]) (fun c hcm => ?_) (fun c o _ _ hcn q _ => hk2 c o hcn q) (fun c o _ _ hcn q _ => ⟨o.slots, hk2 c o hcn q⟩) (fun _ _ _ _ n => n)
        (fun c o hcn q => ⟨o, hk2 c o hcn q⟩) (fun _ _ q => q) (fun _ _ _ q => q) (fun c ps q => ⟨#[], by rw [q]; simp⟩) (fun m hm => ?_) (fun c u' q => ?_) I.bare
      · obtain ⟨_, g1, _, g3, g4, g5⟩ := hf c hcm
        exact ⟨g3, g1, g4, g5⟩
      · obtain ⟨o, es', ep, ho, r⟩ := hm
        exact ⟨o, es', ep, hk2 _ o (fun hm' => (hf _ hm').2.1 rfl) ho, r⟩
      · have nin : ∀ c' u'', H c' = some u'' → c' ∉ [e, it] := fun c' u'' e' hm' => by rw [(hf _ hm').1] at e'; cases e'
        refine (I.hok c u' q).stay (fun c' v' hc' q => hk2 c' v' ?_ q) (fun _ q => q) fun _ _ q => q
        rcases hc' with rfl | hc'
        · exact nin _ _ q
        · exact nin _ _ hc'
    have ne0 : s.heap.objs.size ≠ e := lt h1
    have ni0 : s.heap.objs.size ≠ it := by obtain ⟨o, q, _⟩ := h2; exact lt q
    have hp : h2'.get? s.heap.objs.size = some { cls := .type "tuple", data := .seq #[.int i s.toks, ux] } := hs2.extBut _ _ ne0 ht
    have fp0 : H s.heap.objs.size = none := I.hok.fresh (Nat.le_refl _)
    have I2 : Inv X pins σ (upd H s.heap.objs.size (.tup [.int i, x])) { s with heap := h2', toks := s.toks + 1 } := by
      refine I1.step (s := { s with heap := h2', toks := s.toks + 1 }) (g' := s.gens) (d' := s.drawn) (t' := s.toks + 1) (h' := h2') (ch := [s.heap.objs.size]) (fun c hcm => ?_) (fun c o _ _ _ q _ => q) (fun c o _ _ _ q _ => ⟨o.slots, q⟩) (fun c o hcn q n => ?_)
        (fun c o _ q => ⟨o, q⟩) (fun c xs' q => ?_) (fun c o u' q => ?_) (fun c ps q => ⟨#[], ?_⟩) (fun m hm => hm) (fun c u' q => ?_) I.bare
      · have q : c = s.heap.objs.size := by simpa using hcm
        subst q
        obtain ⟨_, g1, _, g3, g4, g5⟩ := I.fpOk (Nat.le_refl _) fp0
        exact ⟨g3, g1, g4, g5⟩
      · rw [upd_ne (by simpa using hcn)]; exact n
      · rw [upd_ne (ne_of_none q fp0)]; exact q
      · rw [upd_ne (ne_of_none q fp0)]; exact q
      · rw [upd_ne (ne_of_none q fp0), q]; simp
      · by_cases hcs : c = s.heap.objs.size
        · subst hcs
          rw [upd_same] at q
          cases q
          exact ⟨by simp [sizeLine_eq], [.int i s.toks, ux], .cons ⟨_, rfl⟩ (.cons rx .nil), ⟨_, hp, rfl, _, rfl⟩⟩
        · rw [upd_ne hcs] at q
          exact (I1.hok c u' q).stay (fun _ _ _ q => q) (fun c' q => by rw [upd_ne (ne_of_none q fp0)]; exact q) fun c' xs' q => by rw [upd_ne (ne_of_none q fp0)]; exact q
    refine ⟨.ref s.heap.objs.size, _, I2, rfl, ⟨s.heap.objs.size, x, rfl, fp0, rfl, fun xs' q' => by rw [q1] at q'; cases q'; exact hx⟩, ⟨⟨ux, he2⟩, ?_⟩, fun c hcm => ?_⟩
    · obtain ⟨o, q, r⟩ := hit'
      exact ⟨o, hs2.extBut _ o (Ne.symm D) q, r⟩
    · rw [upd_ne (fun q => by
        simp only [List.mem_cons, List.not_mem_nil, or_false] at hcm
        rcases hcm with z | z
        · exact ne0 (by rw [← q]; exact z)
        · exact ni0 (by rw [← q]; exact z))]
      exact (hf c hcm).1
  done := by
    intro X hP hw hK hc i pins s σ H E I hf st hg
    subst hP hw hK
    obtain ⟨⟨old, h1⟩, h2⟩ := st
    obtain ⟨xs, q1, hx⟩ := hg
    obtain ⟨z1, its, n1, r1, p1⟩ := I.hok a _ q1
    have pl : s.heap.IsList a its.toArray := ⟨_, p1, rfl, _, rfl⟩
    have l1 := r1.length
    refine wpAny_pyNext_enum_end (I.ok.hd hc) h1 h2 pl (by simp; omega) fun h' hk => ⟨rfl, ?_⟩
    have hk2 : ∀ c o, c ∉ [e, it] → s.heap.get? c = some o → h'.get? c = some o := fun c o hcn q => by
      simp only [List.mem_cons, List.not_mem_nil, or_false, not_or] at hcn
      exact hk c o hcn.2 q
    refine I.step (g' := s.gens) (d' := s.drawn) (t' := s.toks) (ch := [e, it]) (fun c hcm => ?_) (fun c o _ _ hcn q _ => hk2 c o hcn q) (fun c o _ _ hcn q _ => ⟨o.slots, hk2 c o hcn q⟩) (fun _ _ _ _ n => n)
      (fun c o hcn q => ⟨o, hk2 c o hcn q⟩) (fun _ _ q => q) (fun _ _ _ q => q) (fun c ps q => ⟨#[], by rw [q]; simp⟩) (fun m hm => ?_) (fun c u' q => ?_) I.bare
    · obtain ⟨_, g1, _, g3, g4, g5⟩ := hf c hcm
      exact ⟨g3, g1, g4, g5⟩
    · obtain ⟨o, es', ep, ho, r⟩ := hm
      exact ⟨o, es', ep, hk2 _ o (fun hm' => (hf _ hm').2.1 rfl) ho, r⟩
    · have nin : ∀ c' u'', H c' = some u'' → c' ∉ [e, it] := fun c' u'' e' hm' => by rw [(hf _ hm').1] at e'; cases e'
      refine (I.hok c u' q).stay (fun c' v' hc' q => hk2 c' v' ?_ q) (fun _ q => q) fun _ _ q => q
      rcases hc' with rfl | hc'
      · exact nin _ _ q
      · exact nin _ _ hc'
  self := fun _ _ _ _ _ st h => let ⟨_, h1⟩ := st.1; wpAny_pyIter_enum h1 h
def iEnum (ta : TA) : TI := fun σ H R => ta σ H fun vs H1 => ∃ a xs, vs = [.ref a] ∧ H1 a = some (.lst xs) ∧ R (Ite a) H1
theorem enum_apart (n : Nat) : n + 1 ≠ n := by omega
theorem enum_above (n x : Nat) (h : x = n + 1 ∨ x = n) : n ≤ x := by omega
theorem boot_enum : bootBuiltins "enumerate" = some (.type "enumerate") := by decide +kernel
theorem pi_enum {X : Cx} {es0 : List Expr} {k0 : Nat} {tp : Pos} {a : Expr} {ta : TA} {p pos : Pos} (hg : Gl X "enumerate") (hm : X.mg "enumerate" = none) (ha : PA X [a] ta)
    (hs : starEach [a] X.env = [(false, eval a X.env)] := by rfl) : PI X (.Tuple es0 k0 tp) (.Call (.Name "enumerate" p) [a] [] pos) (iEnum ta) := by
  intro pins s σ H R I h
  refine Call_ (ld_blt I hg hm boot_enum (PyProof.Rows.callWith_type1 (thn (ha pos pins s σ H _ I h) fun us s1 ⟨vs, H1, I1, r1, q1⟩ => ?_) (by rw [hs]; rfl) (by rfl)))
  obtain ⟨c, xs, e, q1, q⟩ := q1
  subst e
  obtain ⟨u, rfl, ru⟩ := vals1 r1
  cases ru
  obtain ⟨z1, its, n1, rr, p1⟩ := I1.hok c _ q1
  refine call_enumerate_1 p1 fun h' a1 a2 a3 kk => ?_
  refine wpAny_pyIter_enum (s := { s1 with heap := h' }) a1 ?_
  have I2 : Inv X pins σ H1 { s1 with heap := h' } := I1.kept (t' := s1.toks) kk
  refine ⟨_, [s1.heap.objs.size + 1, s1.heap.objs.size], _, _, H1, rfl, I2, turn_enum (a := c) (enum_apart _), ⟨⟨_, a1⟩, a2⟩, fun x hx => ?_, q⟩
  have hge : s1.heap.objs.size ≤ x := by
    simp only [List.mem_cons, List.not_mem_nil, or_false] at hx
    exact enum_above _ _ hx
  exact I1.fpOk hge (I1.hok.fresh hge)

/-! ### sorted(list of texts), list.count(text) -/
section
variable {X : Cx}
theorem strs_are : ∀ {xs : List Str} {us : List Value}, Vals (xs.map V.str) us → StrsAre us xs
  | [], _, h => by cases h; exact .nil
  | x :: xs, _, h => by
    cases h with
    | cons r t => obtain ⟨tk, rfl⟩ := r; exact .cons _ _ (strs_are t)
theorem strs_back : ∀ {xs : List Str} {us : List Value}, StrsAre us xs → Vals (xs.map V.str) us
  | [], _, h => by cases h; exact .nil
  | x :: xs, _, h => by
    cases h with
    | cons _ _ t => exact .cons ⟨_, rfl⟩ (strs_back t)
theorem call_sorted : CallR X (.builtin "sorted") (fun xs H Q => ∃ (p : Addr) (ys : List Str), xs = [.ref p] ∧ SqL X.K H p (ys.map V.str) ∧ ys.length < 64 ∧ ∀ l (ys' : List Str), H l = none → ys'.Perm ys → Q (.ref l) (upd H l (.lst (ys'.map V.str)))) := by
  intro pins s σ H xs us Q I r h
  obtain ⟨p, ys, rfl, hq, h64, q⟩ := h
  obtain ⟨u, rfl, rx⟩ := vals1 r
  cases rx
  obtain ⟨its, rv, pl, hz⟩ := I.list hq
  have hlen : its.length = ys.length := by rw [← rv.length, List.length_map]
  refine sorted_strs pl.isList (strs_are rv) (by omega) fun out ys' h1 h2 h3 => ?_
  obtain ⟨e, he⟩ := sortedAll_at s.heap its out
  have hl : ys'.length = ys.length := h2.length_eq
  have fr : H (s.heap.objs.size + 1) = none := I.hok.fresh (Nat.le_add_right s.heap.objs.size 1)
  refine ⟨.ref _, _, I.laid (t' := s.toks) (o := .lst (ys'.map V.str)) (fun b o => sortedAll_old) (Nat.le_add_right s.heap.objs.size 1) ⟨?_, out.toList, e, strs_back h1, by simpa using he⟩, rfl, q _ ys' fr h2⟩
  rw [List.length_map, sizeLine_eq]; omega
theorem mt_count : MtR X "list.count" (fun x xs H Q => ∃ (p : Addr) (ys : List Str) (z : Str), x = .ref p ∧ xs = [.str z] ∧ SqL X.K H p (ys.map V.str) ∧ ∀ n : Int, Q (.int n) H) := by
  intro pins s σ H x xs v us Q I rx rv h
  obtain ⟨p, ys, z, rfl, rfl, hq, q⟩ := h
  cases rx
  obtain ⟨u, rfl, t', rfl⟩ := vals1 rv
  obtain ⟨its, r1, pl, hz⟩ := I.list hq
  exact count_list_strs pl.isList (strs_are r1) ⟨.int _, H, I.tok _, ⟨_, rfl⟩, q _⟩
end
end L2
set_option Elab.async false
set_option linter.all false
set_option maxRecDepth 100000
set_option maxHeartbeats 4000000
namespace Kp
open PySem

/-! ### rows by the alphabet -/
def ltS (a b : Str) : Bool := decide (a.cps.toList < b.cps.toList)
def riseS : List Str → Bool
  | a :: b :: r => ltS a b && riseS (b :: r)
  | _ => true
def alphaD (p : D → Bool) : D → Bool
  | .tup ds => ds.all p && riseS (ds.map wordD)
  | _ => false
def pairP : D → Bool := fitsD [nameP, whole]
def tripleP : D → Bool := fitsD [nameP, geD 1, whole]
def namesP : D → Bool := alphaD pairP
def callersP : D → Bool := alphaD tripleP
def storeP : D → Bool := fitsD [namesP, callersP]
def endD : D → Bool
  | .tup (.int a :: .int b :: _) => decide (decide (a = 0) = decide (b = 0))
  | _ => false
def packP (d : D) : Bool := fitsD [geD 0, geD 0, seatsP, storeP] d && endD d

/-! ### the law's -/
def goR (p : D → Bool) : List D → Str → Bool
  | [], _ => true
  | d :: r, ah => (p d && ltS ah (wordD d)) && goR p r (wordD d)
def risesL (p : D → Bool) : D → Bool
  | .tup ds => goR p ds ""
  | _ => false
def pairL : D → Bool := fitsD [nameL, whole]
def tripleL : D → Bool := fitsD [nameL, geD 1, whole]
def storeL : D → Bool
  | .tup [a, b] => risesL pairL a && risesL tripleL b
  | _ => false
def standL (a b : D) : Bool := (geD 0 a && geD 0 b) && (match a, b with
  | .int i, .int j => (decide (i = 0) && decide (j = 0)) || (decide (0 < i) && decide (0 < j))
  | _, _ => false)
def packL : D → Bool
  | .tup [a, b, c, d] => standL a b && (seatsL c && storeL d)
  | _ => false
theorem pair_fn : pairP = pairL := by unfold pairP pairL; rw [name_fn]
theorem triple_fn : tripleP = tripleL := by unfold tripleP tripleL; rw [name_fn]
theorem goR_iff (p : D → Bool) : ∀ (ds : List D) (ah : Str), goR p ds ah = (ds.all p && riseS (ah :: ds.map wordD))
  | [], ah => rfl
  | d :: r, ah => by
    rw [goR, goR_iff p r, List.all_cons, List.map_cons, riseS]
    cases p d <;> cases ltS ah (wordD d) <;> simp
theorem lt_nil (x : Str) (h : x ≠ "") : ltS "" x = true := by
  unfold ltS
  rw [decide_eq_true_eq]
  have e : ("" : Str).cps.toList = [] := by decide +kernel
  rw [e]
  obtain ⟨c⟩ := x
  cases hc : c.toList with
  | nil =>
    exfalso
    apply h
    have : c = #[] := by simpa using hc
    subst this
    rfl
  | cons a r =>
    exact List.Lex.nil
theorem nameL_word {d : D} {r : List D} (h : nameL d = true) : wordD (.tup (d :: r)) ≠ "" := by
  cases d with
  | str x =>
    intro z
    have z' : x = "" := z
    rw [nameL, if_pos (.inl z')] at h
    cases h
  | _ => cases h
theorem pair_word {d : D} (h : pairL d = true) : ∃ x y, d = .tup [x, y] ∧ nameL x = true ∧ whole y = true := by
  cases d with
  | tup ds =>
    have h' : fitsL [nameL, whole] ds = true := h
    rw [fits2] at h'
    match ds, h' with
    | [x, y], h' =>
      have h2 : (nameL x && whole y) = true := h'
      rw [Bool.and_eq_true] at h2
      exact ⟨x, y, rfl, h2⟩
  | _ => cases h
theorem triple_word {d : D} (h : tripleL d = true) : ∃ x y z, d = .tup [x, y, z] ∧ nameL x = true ∧ geD 1 y = true ∧ whole z = true := by
  cases d with
  | tup ds =>
    have h' : fitsL [nameL, geD 1, whole] ds = true := h
    rw [fits3] at h'
    match ds, h' with
    | [x, y, z], h' =>
      have h2 : (nameL x && (geD 1 y && whole z)) = true := h'
      rw [Bool.and_eq_true, Bool.and_eq_true] at h2
      exact ⟨x, y, z, rfl, h2⟩
  | _ => cases h
theorem rises_eq {p : D → Bool} (hp : ∀ d, p d = true → wordD d ≠ "") (d : D) : alphaD p d = risesL p d := by
  cases d with
  | tup ds =>
    show (ds.all p && riseS (ds.map wordD)) = goR p ds ""
    rw [goR_iff]
    cases ds with
    | nil => rfl
    | cons a r =>
      rw [List.all_cons, List.map_cons, riseS]
      cases h : p a with
      | false => rfl
      | true => rw [lt_nil _ (hp a h), Bool.true_and, Bool.true_and]
  | _ => rfl
theorem pair_ne : ∀ d, pairL d = true → wordD d ≠ "" := fun d h => by
  obtain ⟨x, y, rfl, hx, _⟩ := pair_word h
  exact nameL_word hx
theorem triple_ne : ∀ d, tripleL d = true → wordD d ≠ "" := fun d h => by
  obtain ⟨x, y, z, rfl, hx, _⟩ := triple_word h
  exact nameL_word hx
theorem names_fn : namesP = risesL pairL := by unfold namesP; rw [pair_fn]; exact funext (rises_eq pair_ne)
theorem callers_fn : callersP = risesL tripleL := by unfold callersP; rw [triple_fn]; exact funext (rises_eq triple_ne)
theorem store_eq (d : D) : storeP d = storeL d := by
  unfold storeP
  rw [names_fn, callers_fn]
  cases d with
  | tup ds =>
    show fitsL [risesL pairL, risesL tripleL] ds = _
    rw [fits2]
    match ds with
    | [] => rfl
    | [_] => rfl
    | [a, b] => rfl
    | _ :: _ :: _ :: _ => rfl
  | _ => rfl
theorem store_fn : storeP = storeL := funext store_eq
theorem stand_eq (a b : D) (r : List D) : ((geD 0 a && geD 0 b) && endD (.tup (a :: b :: r))) = standL a b := by
  unfold standL
  cases ha : geD 0 a with
  | false => rfl
  | true =>
    cases hb : geD 0 b with
    | false => rfl
    | true =>
      cases a with
      | int i =>
        cases b with
        | int j =>
          have hi : 0 ≤ i := of_decide_eq_true ha
          have hj : 0 ≤ j := of_decide_eq_true hb
          show (true && true && decide (decide (i = 0) = decide (j = 0))) = (true && true && ((decide (i = 0) && decide (j = 0)) || (decide (0 < i) && decide (0 < j))))
          by_cases h1 : i = 0
          · by_cases h2 : j = 0
            · simp [h1, h2]
            · simp [h1, h2]
          · have h1' : 0 < i := by omega
            by_cases h2 : j = 0
            · simp [h1, h2]
            · have h2' : 0 < j := by omega
              simp [h1, h2, h1', h2']
        | _ => cases hb
      | _ => cases ha
theorem pack_eq (d : D) : packP d = packL d := by
  unfold packP
  rw [store_fn, seats_fn]
  cases d with
  | tup ds =>
    show (fitsL [geD 0, geD 0, seatsL, storeL] ds && endD (.tup ds)) = _
    match ds with
    | [] => rfl
    | [_] => simp [fitsL, packL]
    | [_, _] => simp [fitsL, packL]
    | [_, _, _] => simp [fitsL, packL]
    | [a, b, c, e] =>
      show ((geD 0 a && (geD 0 b && (seatsL c && (storeL e && true)))) && endD (.tup [a, b, c, e])) = (standL a b && (seatsL c && storeL e))
      rw [← stand_eq a b [c, e]]
      cases geD 0 a <;> cases geD 0 b <;> cases seatsL c <;> cases storeL e <;> simp
    | _ :: _ :: _ :: _ :: _ :: _ => simp [fitsL, packL]
  | _ => rfl
end Kp
set_option Elab.async false
set_option linter.all false
set_option maxRecDepth 100000
set_option maxHeartbeats 4000000
namespace Kp
open PySem L2
/-! ### a comprehension whose items are known by a property only -/
/-- tuples stay -/
def SameT (H H' : Hp) : Prop := ∀ b xs, H b = some (.tup xs) → H' b = some (.tup xs)
theorem comp_ex {J : It} {H1 : Hp} {n k : Nat} {frs : St} {g : TG} {tt : TT} {te : TE} {Q : VK} (R : Hp → V → Prop) (mono : ∀ H H' v, SameT H H' → R H v → R H' v) (hn : n < sizeLine)
    (go : ∀ i H, i < n → Same H1 H → J.go i H) (stop : ∀ H, Same H1 H → J.stop n H)
    (turn : ∀ i H t x H2 (S : St → Hp → Option V → Prop), i < n → Same H1 H → t.length = k → J.yld i H x H2 →
      (∀ t' H' v, t'.length = k → Same H H' → R H' v → S (t' ++ frs) H' (some v)) → (∀ t' H', t'.length = k → Same H H' → S (t' ++ frs) H' none) →
      g x (t ++ frs) H2 fun σ3 H3 => tt σ3 H3 fun b H4 => if b = true then te σ3 H4 fun v H5 => S σ3 H5 (some v) else S σ3 H4 none)
    (hq : ∀ D H' ys, Same H1 H' → H1 D = none → H' D = some (.lst ys) → ys.length ≤ n → (∀ v ∈ ys, R H' v) → Q (.ref D) H') : CompGo (List.replicate k none ++ frs) g tt te Q J H1 := by
  intro D hD
  refine ⟨fun i m ys σ H => i ≤ n ∧ m = n - i ∧ ys.length ≤ i ∧ (∀ v ∈ ys, R H v) ∧ Same H1 H ∧ ∃ t, t.length = k ∧ σ = t ++ frs, ⟨n, Nat.zero_le _, rfl, Nat.le_refl _, fun v hv => (List.not_mem_nil hv).elim, same_upd hD, _, by simp, rfl⟩, ?_⟩
  rintro i m ys σ H ⟨hi, rfl, hl, hR, s1, t, ht, rfl⟩ hd
  by_cases hlt : i < n
  · right
    refine ⟨go i H hlt s1, by omega, fun x H2 y => ?_⟩
    have keep : ∀ (H5 : Hp) (zs : List V), H5 D = some (.lst ys) → SameT H5 (upd H5 D (.lst zs)) := fun H5 zs h5 b xs e => by
      rw [upd_ne (fun q => by rw [q, h5] at e; cases e)]; exact e
    have tup : ∀ {H H' : Hp}, Same H H' → SameT H H' := fun s b xs e => s _ _ e
    refine turn i H t x H2 (fun σ3 H5 r => match r with
      | some v => H5 D = some (.lst ys) ∧ ∃ m', m' < n - i ∧ (i + 1 ≤ n ∧ m' = n - (i + 1) ∧ (ys ++ [v]).length ≤ i + 1 ∧ (∀ u ∈ ys ++ [v], R (upd H5 D (.lst (ys ++ [v]))) u) ∧ Same H1 (upd H5 D (.lst (ys ++ [v]))) ∧ ∃ t, t.length = k ∧ σ3 = t ++ frs)
      | none => H5 D = some (.lst ys) ∧ ∃ m', m' < n - i ∧ (i + 1 ≤ n ∧ m' = n - (i + 1) ∧ ys.length ≤ i + 1 ∧ (∀ u ∈ ys, R H5 u) ∧ Same H1 H5 ∧ ∃ t, t.length = k ∧ σ3 = t ++ frs)) hlt s1 ht y ?_ ?_
    · intro t' H' v ht' s2 rv
      have h5 := s2 _ _ hd
      refine ⟨h5, n - (i + 1), by omega, by omega, rfl, by rw [List.length_append]; show ys.length + 1 ≤ _; omega, fun u hu => ?_, fun b o e => ?_, t', ht', rfl⟩
      · rcases List.mem_append.mp hu with z | z
        · exact mono _ _ _ (keep H' _ h5) (mono _ _ _ (tup s2) (hR u z))
        · rw [List.mem_singleton.mp z]
          exact mono _ _ _ (keep H' _ h5) rv
      · rw [upd_ne (ne_of_none e hD)]; exact s2 _ _ (s1 _ _ e)
    · intro t' H' ht' s2
      exact ⟨s2 _ _ hd, n - (i + 1), by omega, by omega, rfl, by omega, fun u hu => mono _ _ _ (tup s2) (hR u hu), s1.trans s2, t', ht', rfl⟩
  · have e : i = n := by omega
    subst e
    exact .inl ⟨stop H s1, hq D H ys s1 hD hd hl hR⟩
/-- a short text -/
def ShortS (_ : Hp) (v : V) : Prop := ∃ x : Str, v = .str x ∧ x.length ≤ 16
theorem ShortS.list {H : Hp} : ∀ {ys : List V}, (∀ v ∈ ys, ShortS H v) → ∃ ws : List Str, ys = ws.map V.str ∧ ∀ x ∈ ws, x.length ≤ 16
  | [], _ => ⟨[], rfl, fun x hx => (List.not_mem_nil hx).elim⟩
  | y :: ys, h => by
    obtain ⟨x, rfl, hx⟩ := h y List.mem_cons_self
    obtain ⟨ws, rfl, hw⟩ := ShortS.list (fun v hv => h v (List.mem_cons_of_mem _ hv))
    exact ⟨x :: ws, rfl, fun z hz => by
      rcases List.mem_cons.mp hz with rfl | hz
      · exact hx
      · exact hw z hz⟩
theorem mt_countK {X : Cx} {K : PySem.W.Frag} (hK : X.K = K) : MtR X "list.count" (fun x xs H Q => ∃ (p : Addr) (ys : List Str) (z : Str), x = .ref p ∧ xs = [.str z] ∧ SqL K H p (ys.map V.str) ∧ ∀ n : Int, Q (.int n) H) := by
  subst hK; exact mt_count
theorem one_slot {t : St} (h : t.length = 1) : ∃ t0, t = [t0] := by
  match t, h with
  | [t0], _ => exact ⟨t0, rfl⟩
theorem two_slots {t : St} (h : t.length = 2) : ∃ t0 t1, t = [t0, t1] := by
  match t, h with
  | [t0, t1], _ => exact ⟨t0, t1, rfl⟩
end Kp
set_option Elab.async false
set_option linter.all false
set_option maxRecDepth 100000
set_option maxHeartbeats 4000000
namespace Kp
open PySem L2 PySem.Spec PyProof.Rows
/-- a list == [], whatever it holds -/
theorem op_eqE {X : Cx} (hu : X.A.units < cLine) : OpR X (compareOp .Eq) (fun x y H Q => ∃ p q xs, x = .ref p ∧ y = .ref q ∧ SqL X.K H p xs ∧ SqL X.K H q [] ∧ Q (.bl xs.isEmpty) H) := by
  intro pins s σ H x y v u Q I rx ry h
  obtain ⟨p, q', xs, rfl, rfl, h1, h2, q⟩ := h
  cases xs with
  | nil => exact op_eqL hu pins s σ H _ _ _ _ Q I rx ry ⟨p, q', [], [], rfl, rfl, h1, h2, rfl, rfl, q⟩
  | cons a r =>
    cases rx
    cases ry
    obtain ⟨its, r1, pl1, _⟩ := I.list h1
    obtain ⟨jts, r2, pl2, _⟩ := I.list h2
    exact SeqAt.eq_list_lengthsAt pl1.isList pl2.isList (by simp [← r1.length, ← r2.length]) hu ⟨.bl false, H, I, rfl, q⟩
/-- the keys of a written dict stand apart -/
theorem valV_merge {kvs : List (Key × V)} {k : Key} {v : V} (h : decide (valV (mergeK [] kvs) k = some v) = true) : valV (mergeK [] kvs) k = some v := of_decide_eq_true h
end Kp
set_option Elab.async false
set_option linter.all false
set_option maxRecDepth 100000
set_option maxHeartbeats 4000000
namespace Kp
open PySem L2
/-! ### things without lists: they stay while tuples stay -/
mutual
inductive ThN (B : Nat) (H : Hp) : V → Prop
  | non : ThN B H .non
  | bl (b : Bool) : ThN B H (.bl b)
  | int (i : Int) : ThN B H (.int i)
  | str (x : Str) (h : x.length ≤ B) : ThN B H (.str x)
  | tup {a : Addr} {vs : List V} (e : H a = some (.tup vs)) (l : vs.length ≤ B) (r : ThNL B H vs) : ThN B H (.ref a)
inductive ThNL (B : Nat) (H : Hp) : List V → Prop
  | nil : ThNL B H []
  | cons {v : V} {vs : List V} (h : ThN B H v) (t : ThNL B H vs) : ThNL B H (v :: vs)
end
mutual
theorem ThN.sameT {B B' : Nat} {H H' : Hp} (hB : B ≤ B') (s : SameT H H') : ∀ {v}, ThN B H v → ThN B' H' v
  | _, .non => .non
  | _, .bl b => .bl b
  | _, .int i => .int i
  | _, .str x h => .str x (Nat.le_trans h hB)
  | _, .tup e l r => .tup (s _ _ e) (Nat.le_trans l hB) (ThNL.sameT hB s r)
theorem ThNL.sameT {B B' : Nat} {H H' : Hp} (hB : B ≤ B') (s : SameT H H') : ∀ {vs}, ThNL B H vs → ThNL B' H' vs
  | _, .nil => .nil
  | _, .cons h t => .cons (ThN.sameT hB s h) (ThNL.sameT hB s t)
end
mutual
theorem ThN.th {B : Nat} {H : Hp} : ∀ {v}, ThN B H v → Th B H v
  | _, .non => Th.non
  | _, .bl b => Th.bl b
  | _, .int i => Th.int i
  | _, .str x h => Th.str x h
  | _, .tup e l r => Th.tup e l (ThNL.th r)
theorem ThNL.th {B : Nat} {H : Hp} : ∀ {vs}, ThNL B H vs → ThL B H vs
  | _, .nil => ThL.nil
  | _, .cons h t => ThL.cons (ThN.th h) (ThNL.th t)
end
theorem sameT_of {H H' : Hp} (s : Same H H') : SameT H H' := fun b xs e => s _ _ e
theorem ThN.mono {B B' : Nat} {H H' : Hp} {v : V} (h : ThN B H v) (hB : B ≤ B') (s : Same H H') : ThN B' H' v := ThN.sameT hB (sameT_of s) h
theorem ThNL.mono {B B' : Nat} {H H' : Hp} {v : List V} (h : ThNL B H v) (hB : B ≤ B') (s : Same H H') : ThNL B' H' v := ThNL.sameT hB (sameT_of s) h
theorem ThNL.ints {B : Nat} {H : Hp} : ∀ (ns : List Int), ThNL B H (ns.map V.int)
  | [] => .nil
  | n :: r => .cons (.int n) (ThNL.ints r)
theorem ThNL.of {B : Nat} {H : Hp} : ∀ {vs : List V}, (∀ v ∈ vs, ThN B H v) → ThNL B H vs
  | [], _ => .nil
  | v :: vs, h => .cons (h v List.mem_cons_self) (ThNL.of fun u hu => h u (List.mem_cons_of_mem _ hu))
end Kp
set_option Elab.async false
set_option linter.all false
set_option maxRecDepth 100000
set_option maxHeartbeats 4000000
namespace Kp
open PySem L2
theorem comp_exN {J : It} {H1 : Hp} {n k : Nat} {frs : St} {g : TG} {tt : TT} {te : TE} {Q : VK} (R : Hp → V → Prop) (mono : ∀ H H' v, SameT H H' → R H v → R H' v) (hn : n < sizeLine)
    (go : ∀ i H, i < n → Same H1 H → J.go i H) (stop : ∀ H, Same H1 H → J.stop n H)
    (turn : ∀ i H t x H2 (S : St → Hp → Option V → Prop), i < n → Same H1 H → t.length = k → J.yld i H x H2 →
      (∀ t' H' v, t'.length = k → Same H H' → R H' v → S (t' ++ frs) H' (some v)) →
      g x (t ++ frs) H2 fun σ3 H3 => tt σ3 H3 fun b H4 => if b = true then te σ3 H4 fun v H5 => S σ3 H5 (some v) else S σ3 H4 none)
    (hq : ∀ D H' ys, Same H1 H' → H1 D = none → H' D = some (.lst ys) → ys.length = n → (∀ v ∈ ys, R H' v) → Q (.ref D) H') : CompGo (List.replicate k none ++ frs) g tt te Q J H1 := by
  intro D hD
  refine ⟨fun i m ys σ H => i ≤ n ∧ m = n - i ∧ ys.length = i ∧ (∀ v ∈ ys, R H v) ∧ Same H1 H ∧ ∃ t, t.length = k ∧ σ = t ++ frs, ⟨n, Nat.zero_le _, rfl, rfl, fun v hv => (List.not_mem_nil hv).elim, same_upd hD, _, by simp, rfl⟩, ?_⟩
  rintro i m ys σ H ⟨hi, rfl, hl, hR, s1, t, ht, rfl⟩ hd
  by_cases hlt : i < n
  · right
    refine ⟨go i H hlt s1, by omega, fun x H2 y => ?_⟩
    have keep : ∀ (H5 : Hp) (zs : List V), H5 D = some (.lst ys) → SameT H5 (upd H5 D (.lst zs)) := fun H5 zs h5 b xs e => by
      rw [upd_ne (fun q => by rw [q, h5] at e; cases e)]; exact e
    have z := turn i H t x H2 (fun σ3 H5 r => match r with
      | some v => H5 D = some (.lst ys) ∧ ∃ m', m' < n - i ∧ (i + 1 ≤ n ∧ m' = n - (i + 1) ∧ (ys ++ [v]).length = i + 1 ∧ (∀ u ∈ ys ++ [v], R (upd H5 D (.lst (ys ++ [v]))) u) ∧ Same H1 (upd H5 D (.lst (ys ++ [v]))) ∧ ∃ t, t.length = k ∧ σ3 = t ++ frs)
      | none => H5 D = some (.lst ys) ∧ ∃ m', m' < n - i ∧ (i + 1 ≤ n ∧ m' = n - (i + 1) ∧ ys.length = i + 1 ∧ (∀ u ∈ ys, R H5 u) ∧ Same H1 H5 ∧ ∃ t, t.length = k ∧ σ3 = t ++ frs)) hlt s1 ht y (fun t' H' v ht' s2 rv => ?_)
    · exact z
    · have h5 := s2 _ _ hd
      refine ⟨h5, n - (i + 1), by omega, by omega, rfl, by rw [List.length_append]; show ys.length + 1 = _; omega, fun u hu => ?_, fun b o e => ?_, t', ht', rfl⟩
      · rcases List.mem_append.mp hu with z | z
        · exact mono _ _ _ (keep H' _ h5) (mono _ _ _ (sameT_of s2) (hR u z))
        · rw [List.mem_singleton.mp z]
          exact mono _ _ _ (keep H' _ h5) rv
      · rw [upd_ne (ne_of_none e hD)]; exact s2 _ _ (s1 _ _ e)
  · have e : i = n := by omega
    subst e
    exact .inl ⟨stop H s1, hq D H ys s1 hD hd hl hR⟩

/-! ### displays among which names of the def stand: S says what these are -/
def tSomeE (S : St → Hp → Prop) : TE := fun σ H Q => S σ H ∧ ∀ v H', Th 200 H' v → Same H H' → Q v H'
def tSomeA (S : St → Hp → Prop) (n : Nat) : TA := fun σ H Q => S σ H ∧ ∀ vs H', ThL 200 H' vs → vs.length = n → Same H H' → Q vs H'
def tSomeL (S : St → Hp → Prop) (n : Nat) : TE := fun σ H Q => S σ H ∧ ∀ p vs H', H' p = some (.lst vs) → vs.length = n → ThL 200 H' vs → Same H H' → Q (.ref p) H'
structure SE (X : Cx) (S : St → Hp → Prop) (e : Expr) : Prop where
  h : PE X e (tSomeE S)
structure SA (X : Cx) (S : St → Hp → Prop) (es : List Expr) (n : Nat) : Prop where
  h : PA X es (tSomeA S n)
structure Mon (S : St → Hp → Prop) : Prop where
  mono : ∀ {σ H H'}, S σ H → Same H H' → S σ H'
section
variable {X : Cx} {S : St → Hp → Prop} {es l : List Expr} {n m : Nat} {p p' : Pos} {j : Nat}
theorem se_of {e : Expr} {te : TE} (h : PE X e te) (w : ∀ σ H Q, S σ H → (∀ v H', Th 200 H' v → Same H H' → Q v H') → te σ H Q) : SE X S e := ⟨PE.weak h fun σ H Q ⟨hs, q⟩ => w σ H Q hs q⟩
theorem sa_nil : SA X S [] 0 := ⟨PA.weak pa_nil fun σ H Q ⟨_, q⟩ => q [] H .nil rfl (Same.refl _)⟩
theorem sa_int {i : Int} (r : SA X S es n) : SA X S (.Constant (.int i) j p :: es) (n + 1) := ⟨PA.weak (pa_i pe_int r.h) fun σ H Q ⟨hs, q⟩ => ⟨hs, fun vs H' h l s => q _ _ (.cons (.int i) h) (by simp [l]) s⟩⟩
theorem sa_bl {i : Bool} (r : SA X S es n) : SA X S (.Constant (.bool i) j p :: es) (n + 1) := ⟨PA.weak (pa_i pe_bl r.h) fun σ H Q ⟨hs, q⟩ => ⟨hs, fun vs H' h l s => q _ _ (.cons (.bl i) h) (by simp [l]) s⟩⟩
theorem sa_non (r : SA X S es n) : SA X S (.Constant .none j p :: es) (n + 1) := ⟨PA.weak (pa_i pe_non r.h) fun σ H Q ⟨hs, q⟩ => ⟨hs, fun vs H' h l s => q _ _ (.cons .non h) (by simp [l]) s⟩⟩
theorem sa_str {x : Str} (hx : decide (x.length ≤ 200) = true) (r : SA X S es n) : SA X S (.Constant (.str x) j p :: es) (n + 1) := ⟨PA.weak (pa_i pe_str r.h) fun σ H Q ⟨hs, q⟩ => ⟨hs, fun vs H' h l s => q _ _ (.cons (.str x (of_decide_eq_true hx)) h) (by simp [l]) s⟩⟩
theorem sa_neg {i : Int} (r : SA X S es n) : SA X S (.UnaryOp .USub (.Constant (.int i) j p) p' :: es) (n + 1) := ⟨PA.weak (pa_u (pe_un un_neg pe_int) r.h) fun σ H Q ⟨hs, q⟩ => ⟨_, rfl, hs, fun vs H' h l s => q _ _ (.cons (.int (-i)) h) (by simp [l]) s⟩⟩
theorem sa_tup (M : Mon S) (a : SA X S l m) (hm : m ≤ 200) (r : SA X S es n) : SA X S (.Tuple l j p :: es) (n + 1) :=
  ⟨PA.weak (pa_t (pe_tup a.h) r.h) fun σ H Q ⟨hs, q⟩ => ⟨hs, fun xs H1 hx lx s1 => ⟨tiny (by omega), fun p hp => ⟨M.mono hs (s1.trans (same_upd hp)), fun vs H' h l s =>
    q _ _ (.cons (.tup (s _ _ upd_same) (by omega) (hx.mono (Nat.le_refl _) ((same_upd hp).trans s))) h) (by simp [l]) (s1.trans ((same_upd hp).trans s))⟩⟩⟩⟩
theorem sa_go {Q : List V → Hp → Prop} (M : Mon S) {σ : St} {H : Hp} (hs : S σ H) (q : ∀ vs H', ThL 200 H' vs → vs.length = n + 1 → Same H H' → Q vs H') : S σ H ∧ ∀ v H1, Th 200 H1 v → Same H H1 → S σ H1 ∧ ∀ vs H', ThL 200 H' vs → vs.length = n → Same H1 H' → Q (v :: vs) H' :=
  ⟨hs, fun v H1 tv s1 => ⟨M.mono hs s1, fun vs H' h l s => q _ _ (.cons (tv.mono (Nat.le_refl _) s) h) (by simp [l]) (s1.trans s)⟩⟩
theorem sa_n {x : Str} (M : Mon S) (a : SE X S (.Name x p)) (r : SA X S es n) : SA X S (.Name x p :: es) (n + 1) := ⟨PA.weak (pa_n a.h r.h) fun σ H Q ⟨hs, q⟩ => sa_go M hs q⟩
theorem sa_s {a b : Expr} (M : Mon S) (h : SE X S (.Subscript a b p)) (r : SA X S es n) : SA X S (.Subscript a b p :: es) (n + 1) := ⟨PA.weak (pa_s h.h r.h) fun σ H Q ⟨hs, q⟩ => sa_go M hs q⟩
theorem sa_b {o : Operator} {a b : Expr} (M : Mon S) (h : SE X S (.BinOp a o b p)) (r : SA X S es n) : SA X S (.BinOp a o b p :: es) (n + 1) := ⟨PA.weak (pa_b h.h r.h) fun σ H Q ⟨hs, q⟩ => sa_go M hs q⟩
theorem sa_k {f : Expr} {as : List Expr} {ks : List Keyword} (M : Mon S) (h : SE X S (.Call f as ks p)) (r : SA X S es n) : SA X S (.Call f as ks p :: es) (n + 1) := ⟨PA.weak (pa_k h.h r.h) fun σ H Q ⟨hs, q⟩ => sa_go M hs q⟩
theorem sx_lst (a : SA X S es n) (hn : n ≤ 1000) : PE X (.List es p) (tSomeL S n) :=
  PE.weak (pe_lst a.h) fun σ H Q ⟨hs, q⟩ => ⟨hs, fun xs H1 hx lx s1 => ⟨tiny (by omega), fun p hp => q p xs _ upd_same lx (hx.mono (Nat.le_refl _) (same_upd hp)) (s1.trans (same_upd hp))⟩⟩
/-- x = x + [ .. ] -/
def tGrow (i : Nat) (S : St → Hp → Prop) (n : Nat) : TS := fun D σ H => ∃ l vs, σ[i]? = some (some (.ref l)) ∧ H l = some (.lst vs) ∧ vs.length ≤ 400 ∧ ThL 200 H vs ∧ S σ H ∧
  ∀ l' vs' H', H' l' = some (.lst vs') → vs'.length = vs.length + n → ThL 200 H' vs' → Same H H' → D.nx (σ.set i (some (.ref l'))) H'
theorem ps_grow {i : Nat} {x : Str} {p1 p2 p3 p4 pos : Pos} (hN : X.N.Nodup) (hi : X.N[i]? = some x) (hx : Loc X.env.scope x) (hv : PE X (.Name x p2) (tVar i)) (a : SA X S es n) (hn : n ≤ 400)
    (hf : X.fn x = true ∨ X.env.scope.names.lookup x = some .local := by first | exact .inl rfl | exact .inr rfl | assumption) : PS X (.Assign [.Name x p1] (.BinOp (.Name x p2) .Add (.List es p3) p4) pos) (tGrow i S n) := by
  intro pins s σ H D I h
  refine ps_set hN hi hx (pe_op op_cat hv (sx_lst a (by omega))) sw_b hf pins s σ H D I ?_
  obtain ⟨l, vs, e, hl, hlen, tv, hs, q⟩ := h
  refine ⟨_, e, hs, fun p ws H1 e1 l1 t1 s1 => ⟨l, p, vs, ws, rfl, rfl, s1 _ _ hl, e1, tiny (by omega), fun p' hp' => ?_⟩⟩
  have s2 := same_upd (o := HO.lst (vs ++ ws)) hp'
  exact q p' (vs ++ ws) _ upd_same (by rw [List.length_append, l1]) ((tv.mono (Nat.le_refl _) (s1.trans s2)).append (t1.mono (Nat.le_refl _) s2)) (s1.trans s2)
end
end Kp
set_option Elab.async false
set_option linter.all false
set_option maxRecDepth 100000
set_option maxHeartbeats 4000000
namespace Kp
open PySem

/-! ### letters: the program's tellers -/
def truthD : D → Bool
  | .bl _ => true
  | _ => false
def headP : D → Bool
  | .non => true
  | d => keeper d
def rowE (p : D → Bool) : D → Bool
  | .tup ds => ds.all p
  | _ => false
def entriesP (d : D) : Bool := rowE entryP d && decide (lenD d ≤ 5)
def leastD : D → Bool
  | .tup (.int i :: _) => decide (1 ≤ i)
  | _ => false
def sendP (d : D) : Bool := packP d && leastD d
def letterT : List (Str × List (D → Bool)) := [("ask", [keeper, keeper, geD 1, geD 0, geD 0]), ("voice", [keeper, keeper, geD 1, truthD]), ("hand", [keeper, keeper, geD 1, geD 0, geD 0, entriesP, geD 0]), ("pack", [keeper, keeper, geD 1, sendP]),
  ("held", [keeper, keeper, geD 1, truthD, geD 0]), ("wish", [nameP, keeper, geD 1, deedP]), ("told", [keeper, nameP, geD 1, whole]), ("away", [keeper, nameP, geD 1, headP])]
def sameD : D → D → Bool
  | .int i, .int j => decide (i = j)
  | .str i, .str j => decide (i = j)
  | _, _ => false
def unlikeD : D → Bool
  | .tup (_ :: a :: b :: _) => !sameD a b
  | _ => false
def endsD : D → Bool
  | .tup (.str x :: _ :: _ :: _ :: a :: b :: r) => if x = "ask" ∨ x = "hand" then endD (.tup (a :: b :: r)) else true
  | _ => true
def letterP (d : D) : Bool := byWord letterT d && (unlikeD d && endsD d)

/-! ### the law's -/
def btwL (a b t : D) : Bool := ((keeper a && keeper b) && !sameD a b) && geD 1 t
def entriesL : D → Bool
  | .tup ds => decide (ds.length ≤ 5) && ds.all entryL
  | _ => false
def nzD : D → Bool
  | .tup (.int i :: _) => !decide (i = 0)
  | _ => false
def restL (x : Str) (r : List D) : Bool :=
  if x = "ask" then (match r with | [a, b, t, p, l] => btwL a b t && standL p l | _ => false)
  else if x = "voice" then (match r with | [a, b, t, v] => btwL a b t && truthD v | _ => false)
  else if x = "hand" then (match r with | [a, b, t, p, l, e, m] => btwL a b t && (standL p l && (entriesL e && geD 0 m)) | _ => false)
  else if x = "pack" then (match r with | [a, b, t, k] => btwL a b t && (packL k && nzD k) | _ => false)
  else if x = "held" then (match r with | [a, b, t, v, m] => btwL a b t && (truthD v && geD 0 m) | _ => false)
  else if x = "wish" then (match r with | [n, k, c, d] => geD 1 c && (nameL n && (keeper k && deedL d)) | _ => false)
  else if x = "told" then (match r with | [k, n, c, v] => geD 1 c && ((keeper k && nameL n) && whole v) | _ => false)
  else if x = "away" then (match r with | [k, n, c, h] => geD 1 c && ((keeper k && nameL n) && headP h) | _ => false)
  else false
def letterL : D → Bool
  | .tup (.str x :: r) => restL x r
  | _ => false
theorem fits4 (p q s t : D → Bool) : ∀ r : List D, fitsL [p, q, s, t] r = (match r with | [a, b, c, d] => p a && (q b && (s c && t d)) | _ => false)
  | [] => rfl
  | [_] => by simp [fitsL]
  | [_, _] => by simp [fitsL]
  | [_, _, _] => by simp [fitsL]
  | [a, b, c, d] => by simp [fitsL]
  | _ :: _ :: _ :: _ :: _ :: _ => by simp [fitsL]
theorem fits5 (p q s t u : D → Bool) : ∀ r : List D, fitsL [p, q, s, t, u] r = (match r with | [a, b, c, d, e] => p a && (q b && (s c && (t d && u e))) | _ => false)
  | [] => rfl
  | [_] => by simp [fitsL]
  | [_, _] => by simp [fitsL]
  | [_, _, _] => by simp [fitsL]
  | [_, _, _, _] => by simp [fitsL]
  | [a, b, c, d, e] => by simp [fitsL]
  | _ :: _ :: _ :: _ :: _ :: _ :: _ => by simp [fitsL]
theorem fits7 (p q s t u v w : D → Bool) : ∀ r : List D, fitsL [p, q, s, t, u, v, w] r = (match r with | [a, b, c, d, e, f, g] => p a && (q b && (s c && (t d && (u e && (v f && w g))))) | _ => false)
  | [] => rfl
  | [_] => by simp [fitsL]
  | [_, _] => by simp [fitsL]
  | [_, _, _] => by simp [fitsL]
  | [_, _, _, _] => by simp [fitsL]
  | [_, _, _, _, _] => by simp [fitsL]
  | [_, _, _, _, _, _] => by simp [fitsL]
  | [a, b, c, d, e, f, g] => by simp [fitsL]
  | _ :: _ :: _ :: _ :: _ :: _ :: _ :: _ :: _ => by simp [fitsL]
theorem entry_fn : entryP = entryL := funext entry_eq
theorem entries_eq (d : D) : entriesP d = entriesL d := by
  unfold entriesP
  rw [entry_fn]
  cases d with
  | tup ds =>
    show (ds.all entryL && decide (ds.length ≤ 5)) = (decide (ds.length ≤ 5) && ds.all entryL)
    rw [Bool.and_comm]
  | _ => rfl
theorem pack_int {d : D} (h : packL d = true) : ∃ i r, d = .tup (.int i :: r) ∧ 0 ≤ i := by
  cases d with
  | tup ds =>
    match ds, h with
    | [a, b, c, e], h =>
      have h' : (standL a b && (seatsL c && storeL e)) = true := h
      unfold standL at h'
      rw [Bool.and_eq_true, Bool.and_eq_true, Bool.and_eq_true] at h'
      have ha := h'.1.1.1
      cases a with
      | int i => exact ⟨i, _, rfl, of_decide_eq_true ha⟩
      | _ => cases ha
  | _ => cases h
theorem send_eq (d : D) : sendP d = (packL d && nzD d) := by
  unfold sendP
  rw [pack_eq]
  cases h : packL d with
  | false => rfl
  | true =>
    obtain ⟨i, r, rfl, hi⟩ := pack_int h
    show (true && decide (1 ≤ i)) = (true && !decide (i = 0))
    rw [Bool.true_and, Bool.true_and, Bool.eq_iff_iff]
    simp only [decide_eq_true_eq, Bool.not_eq_true', decide_eq_false_iff_not]
    omega
theorem unlike_nk {n k : D} (h1 : nameL n = true) (h2 : keeper k = true) : sameD n k = false ∧ sameD k n = false := by
  cases n with
  | str x =>
    cases k with
    | int i => exact ⟨rfl, rfl⟩
    | _ => cases h2
  | _ => cases h1
theorem letter_eq (d : D) : letterP d = letterL d := by
  unfold letterP letterL byWord
  split
  · rename_i x r
    unfold letterT restL
    simp only [List.lookup_cons, List.lookup_nil]
    have ne : ∀ {s t : Str}, s ≠ t → (s == t) = false := fun h => by simp [h]
    by_cases h1 : x = "ask"
    · subst h1
      rw [if_pos rfl, show (("ask" : Str) == ("ask" : Str)) = true by simp]
      show (fitsL [keeper, keeper, geD 1, geD 0, geD 0] r && _) = _
      rw [fits5]
      match r with
      | [a, b, t, p, l] =>
        show ((keeper a && (keeper b && (geD 1 t && (geD 0 p && geD 0 l)))) && (!sameD a b && (if ("ask" : Str) = "ask" ∨ ("ask" : Str) = "hand" then endD (.tup [p, l]) else true))) = (btwL a b t && standL p l)
        rw [if_pos (.inl rfl), ← stand_eq p l []]
        unfold btwL
        ac_rfl
      | [] => rfl
      | [_] => rfl
      | [_, _] => rfl
      | [_, _, _] => rfl
      | [_, _, _, _] => rfl
      | _ :: _ :: _ :: _ :: _ :: _ :: _ => rfl
    rw [if_neg h1, ne h1]
    by_cases h2 : x = "voice"
    · subst h2
      rw [if_pos rfl, show (("voice" : Str) == ("voice" : Str)) = true by simp]
      show (fitsL [keeper, keeper, geD 1, truthD] r && _) = _
      rw [fits4]
      match r with
      | [a, b, t, v] =>
        show ((keeper a && (keeper b && (geD 1 t && truthD v))) && (!sameD a b && true)) = (btwL a b t && truthD v)
        unfold btwL
        rw [Bool.and_true]
        ac_rfl
      | [] => rfl
      | [_] => rfl
      | [_, _] => rfl
      | [_, _, _] => rfl
      | _ :: _ :: _ :: _ :: _ :: _ => rfl
    rw [if_neg h2, ne h2]
    by_cases h3 : x = "hand"
    · subst h3
      rw [if_pos rfl, show (("hand" : Str) == ("hand" : Str)) = true by simp]
      show (fitsL [keeper, keeper, geD 1, geD 0, geD 0, entriesP, geD 0] r && _) = _
      rw [fits7]
      match r with
      | [a, b, t, p, l, e, m] =>
        show ((keeper a && (keeper b && (geD 1 t && (geD 0 p && (geD 0 l && (entriesP e && geD 0 m)))))) && (!sameD a b && (if ("hand" : Str) = "ask" ∨ ("hand" : Str) = "hand" then endD (.tup [p, l, e, m]) else true))) = (btwL a b t && (standL p l && (entriesL e && geD 0 m)))
        rw [if_pos (.inr rfl), ← stand_eq p l [e, m], entries_eq]
        unfold btwL
        ac_rfl
      | [] => rfl
      | [_] => rfl
      | [_, _] => rfl
      | [_, _, _] => rfl
      | [_, _, _, _] => rfl
      | [_, _, _, _, _] => rfl
      | [_, _, _, _, _, _] => rfl
      | _ :: _ :: _ :: _ :: _ :: _ :: _ :: _ :: _ => rfl
    rw [if_neg h3, ne h3]
    have hx : ¬ (x = "ask" ∨ x = "hand") := by rintro (z | z); exact h1 z; exact h3 z
    have ends : ∀ r, endsD (.tup (.str x :: r)) = true := fun r => by
      match r with
      | [] => rfl
      | [_] => rfl
      | [_, _] => rfl
      | [_, _, _] => rfl
      | [_, _, _, _] => rfl
      | _ :: _ :: _ :: a :: b :: t =>
        show (if x = "ask" ∨ x = "hand" then endD (.tup (a :: b :: t)) else true) = true
        rw [if_neg hx]
    rw [ends, Bool.and_true]
    by_cases h4 : x = "pack"
    · subst h4
      rw [if_pos rfl, show (("pack" : Str) == ("pack" : Str)) = true by simp]
      show (fitsL [keeper, keeper, geD 1, sendP] r && _) = _
      rw [fits4]
      match r with
      | [a, b, t, v] =>
        show ((keeper a && (keeper b && (geD 1 t && sendP v))) && !sameD a b) = (btwL a b t && (packL v && nzD v))
        rw [send_eq]
        unfold btwL
        ac_rfl
      | [] => rfl
      | [_] => rfl
      | [_, _] => rfl
      | [_, _, _] => rfl
      | _ :: _ :: _ :: _ :: _ :: _ => rfl
    rw [if_neg h4, ne h4]
    by_cases h5 : x = "held"
    · subst h5
      rw [if_pos rfl, show (("held" : Str) == ("held" : Str)) = true by simp]
      show (fitsL [keeper, keeper, geD 1, truthD, geD 0] r && _) = _
      rw [fits5]
      match r with
      | [a, b, t, v, m] =>
        show ((keeper a && (keeper b && (geD 1 t && (truthD v && geD 0 m)))) && !sameD a b) = (btwL a b t && (truthD v && geD 0 m))
        unfold btwL
        ac_rfl
      | [] => rfl
      | [_] => rfl
      | [_, _] => rfl
      | [_, _, _] => rfl
      | [_, _, _, _] => rfl
      | _ :: _ :: _ :: _ :: _ :: _ :: _ => rfl
    rw [if_neg h5, ne h5]
    by_cases h6 : x = "wish"
    · subst h6
      rw [if_pos rfl, show (("wish" : Str) == ("wish" : Str)) = true by simp]
      show (fitsL [nameP, keeper, geD 1, deedP] r && _) = _
      rw [fits4, name_fn, deed_fn]
      match r with
      | [n, k, c, d] =>
        show ((nameL n && (keeper k && (geD 1 c && deedL d))) && !sameD n k) = (geD 1 c && (nameL n && (keeper k && deedL d)))
        cases hn : nameL n with
        | false => simp
        | true =>
          cases hk : keeper k with
          | false => simp
          | true => rw [(unlike_nk hn hk).1]; simp
      | [] => rfl
      | [_] => rfl
      | [_, _] => rfl
      | [_, _, _] => rfl
      | _ :: _ :: _ :: _ :: _ :: _ => rfl
    rw [if_neg h6, ne h6]
    by_cases h7 : x = "told"
    · subst h7
      rw [if_pos rfl, show (("told" : Str) == ("told" : Str)) = true by simp]
      show (fitsL [keeper, nameP, geD 1, whole] r && _) = _
      rw [fits4, name_fn]
      match r with
      | [k, n, c, d] =>
        show ((keeper k && (nameL n && (geD 1 c && whole d))) && !sameD k n) = (geD 1 c && ((keeper k && nameL n) && whole d))
        cases hn : nameL n with
        | false => simp
        | true =>
          cases hk : keeper k with
          | false => simp
          | true => rw [(unlike_nk hn hk).2]; simp
      | [] => rfl
      | [_] => rfl
      | [_, _] => rfl
      | [_, _, _] => rfl
      | _ :: _ :: _ :: _ :: _ :: _ => rfl
    rw [if_neg h7, ne h7]
    by_cases h8 : x = "away"
    · subst h8
      rw [if_pos rfl, show (("away" : Str) == ("away" : Str)) = true by simp]
      show (fitsL [keeper, nameP, geD 1, headP] r && _) = _
      rw [fits4, name_fn]
      match r with
      | [k, n, c, d] =>
        show ((keeper k && (nameL n && (geD 1 c && headP d))) && !sameD k n) = (geD 1 c && ((keeper k && nameL n) && headP d))
        cases hn : nameL n with
        | false => simp
        | true =>
          cases hk : keeper k with
          | false => simp
          | true => rw [(unlike_nk hn hk).2]; simp
      | [] => rfl
      | [_] => rfl
      | [_, _] => rfl
      | [_, _, _] => rfl
      | _ :: _ :: _ :: _ :: _ :: _ => rfl
    rw [if_neg h8, ne h8]
    rfl
  · rename_i h
    cases d with
    | tup ds =>
      match ds with
      | [] => rfl
      | .str x :: r => exact absurd rfl (h x r)
      | .non :: _ => rfl
      | .bl _ :: _ => rfl
      | .int _ :: _ => rfl
      | .tup _ :: _ => rfl
      | .lst _ :: _ => rfl
    | _ => rfl
end Kp
set_option Elab.async false
set_option linter.all false
set_option maxRecDepth 100000
set_option maxHeartbeats 4000000
namespace K1
open PySem L2 Kp
def top (i : Nat) : Stmt := PySem.Challenge.pw_keeplog_k04_letters.main.body.getD i (.Pass ⟨0, 0, 0, 0⟩)
abbrev sWhole : Stmt := top 1
abbrev s_is_truth : Stmt := top 2
abbrev s_is_from_nought : Stmt := top 3
abbrev s_is_from_one : Stmt := top 4
abbrev sKeeper : Stmt := top 5
abbrev s_is_head : Stmt := top 6
abbrev sName : Stmt := top 7
abbrev sRising : Stmt := top 8
abbrev sRow : Stmt := top 9
abbrev s_fits : Stmt := top 10
abbrev s_first_word : Stmt := top 11
abbrev s_fits_behind_word : Stmt := top 12
abbrev s_is_deed : Stmt := top 14
abbrev sSeats : Stmt := top 15
abbrev s_is_what : Stmt := top 17
abbrev s_is_entry : Stmt := top 18
abbrev s_is_entries : Stmt := top 19
abbrev s_is_name_pair : Stmt := top 20
abbrev s_is_caller_triple : Stmt := top 21
abbrev s_is_by_alphabet : Stmt := top 22
abbrev s_is_names : Stmt := top 23
abbrev s_is_callers : Stmt := top 24
abbrev s_is_store : Stmt := top 25
abbrev s_is_end : Stmt := top 26
abbrev s_is_pack : Stmt := top 27
abbrev s_is_pack_to_send : Stmt := top 28
abbrev s_is_letter : Stmt := top 30
abbrev sCell : Stmt := top 32
abbrev sMixed : Stmt := top 33
abbrev sNameBy : Stmt := top 34
abbrev s__law_number_by : Stmt := top 35
abbrev s__law_value_by : Stmt := top 36
abbrev s__law_deed_by : Stmt := top 37
abbrev sSeatsBy : Stmt := top 38
abbrev s__law_what_by : Stmt := top 39
abbrev s__law_entry_by : Stmt := top 40
abbrev s__law_names_by : Stmt := top 41
abbrev s__law_store_by : Stmt := top 42
abbrev s__law_stand_by : Stmt := top 43
abbrev s__law_pack_by : Stmt := top 44
abbrev s__law_between_by : Stmt := top 45
abbrev s__law_letter_by : Stmt := top 46
abbrev sFrom : Stmt := top 47
abbrev s__law_any : Stmt := top 48
abbrev s__law_sized : Stmt := top 49
abbrev s__law_keeper : Stmt := top 50
abbrev sNameL : Stmt := top 51
abbrev s__law_kind : Stmt := top 52
abbrev s__law_deed : Stmt := top 53
abbrev sSeatsL : Stmt := top 54
abbrev s__law_what : Stmt := top 55
abbrev s__law_entry : Stmt := top 56
abbrev s__law_rises : Stmt := top 57
abbrev s__law_store : Stmt := top 58
abbrev s__law_stand : Stmt := top 59
abbrev s__law_pack : Stmt := top 60
abbrev s__law_between : Stmt := top 61
abbrev s__law_letter : Stmt := top 62
abbrev sOdd : Stmt := top 63
abbrev sSpoilt : Stmt := top 64
abbrev s__law_near_by : Stmt := top 65
abbrev sLaw : Stmt := top 66
end K1
set_option Elab.async false
set_option linter.all false
set_option maxRecDepth 100000
set_option maxHeartbeats 4000000
namespace K1
open PySem L2 Kp
/-- the built-in names that the text uses are its own nowhere -/
structure Txt (mg : Str → Option Value) : Prop where
  isi : mg "isinstance" = none
  int : mg "int" = none
  bool : mg "bool" = none
  str : mg "str" = none
  tuple : mg "tuple" = none
  list : mg "list" = none
  all : mg "all" = none
  zip : mg "zip" = none
  len : mg "len" = none
  range : mg "range" = none
section
variable {P : Program} {w : World} {K : PySem.W.Frag} {mg : Str → Option Value} {base : Heap}

theorem scW : FnScope ["thing"] ["thing"] (defScope sWhole) := ⟨rfl, rfl, rfl, by decide +kernel, rfl, by decide +kernel, by decide +kernel⟩
theorem ok_whole {f : Addr} {fd : FuncData} (F : Fun K "is_whole" "is_whole" sWhole f fd) (T : Txt mg) : FnOk P w K mg base CX0 1 f fd ["thing"] (spP whole) := by
  refine F.ok scW spP_len (fun cdv A outer s H vs Q E hr h => ?_)
  obtain ⟨B, v, d, hB, rfl, I, k⟩ := h
  refine ⟨_, pss_one (ps_ret (pe_and (pe_callB call_isi rfl T.isi boot_isi (pa_cons (pv 0) (pa_cons (pe_ty rfl T.int boot_int) pa_nil)))
    (pe_one (pe_not (pe_callB call_isi rfl T.isi boot_isi (pa_cons (pv 0) (pa_cons (pe_ty rfl T.bool boot_bool) pa_nil))))))), ?_⟩
  refine ⟨_, rfl, _, _, _, _, rfl, I.ty, kit_int K d, _, rfl, ?_⟩
  have k0 := k H (Same.refl _)
  unfold whole at k0
  cases e : isInt d with
  | false => rw [e] at k0; exact iteF k0
  | true =>
    rw [e] at k0
    exact iteT ⟨_, rfl, _, _, _, _, rfl, I.ty, kit_bool K d, _, rfl, k0⟩

theorem scK : FnScope ["thing"] ["thing"] (defScope sKeeper) := ⟨rfl, rfl, rfl, by decide +kernel, rfl, by decide +kernel, by decide +kernel⟩
theorem keeper_not {d : D} (h : whole d = false) : keeper d = false := by
  cases d with
  | int i => cases h
  | _ => rfl
theorem ok_keeper {f : Addr} {fd : FuncData} (F : Fun K "is_keeper" "is_keeper" sKeeper f fd) (T : Txt mg) (CW : Cal P w K mg base "is_whole" 1 ["thing"] (spP whole)) : FnOk P w K mg base CX0 2 f fd ["thing"] (spP keeper) := by
  refine F.ok scK spP_len (fun cdv A outer s H vs Q E hr h => ?_)
  obtain ⟨B, v, d, hB, rfl, I, k⟩ := h
  obtain ⟨g, gd, G, m, kp, b⟩ := CW.ex
  refine ⟨_, pss_one (ps_ret (pe_and (pe_call G hr rfl m kp b .nil pass0 (pa_cons (pv 0) pa_nil)) (pe_one (pe_chain op_le op_le pe_int (pv 0) pe_int)))), ?_⟩
  refine ⟨_, rfl, B, v, d, hB, rfl, I, fun H' s' => ⟨_, rfl, ?_⟩⟩
  have k0 := k H' s'
  cases e : whole d with
  | false => rw [keeper_not e] at k0; exact iteF k0
  | true =>
    obtain ⟨i, rfl⟩ := whole_int e
    cases I
    refine iteT ⟨_, rfl, _, _, rfl, rfl, _, rfl, ?_⟩
    have k0 : Q (.bl (decide (0 ≤ i) && decide (i ≤ 8))) H' := k0
    by_cases h0 : (0 : Int) ≤ i
    · rw [decide_eq_true h0] at k0 ⊢
      exact iteT ⟨_, _, rfl, rfl, k0⟩
    · rw [decide_eq_false h0] at k0 ⊢
      exact iteF k0

theorem scN : FnScope ["thing"] ["thing"] (defScope sName) := ⟨rfl, rfl, rfl, by decide +kernel, rfl, by decide +kernel, by decide +kernel⟩
theorem all_range {α : Type} (l : Array Nat) (p : Nat → Bool) : ((List.range l.size).map fun i => p (l.getD i 0)).all id = l.toList.all p := by
  rw [Bool.eq_iff_iff]
  simp only [List.all_eq_true, List.mem_map, List.mem_range, id, forall_exists_index, and_imp]
  constructor
  · intro h x hx
    obtain ⟨i, hi, rfl⟩ := List.mem_iff_getElem.mp hx
    have hi' : i < l.size := by simpa using hi
    have := h _ i hi' rfl
    simpa [hi'] using this
  · intro h b i hi e
    subst e
    have := h l[i] (by simp)
    simpa [hi] using this
theorem ok_name {f : Addr} {fd : FuncData} (F : Fun K "is_name" "is_name" sName f fd) (T : Txt mg) : FnOk P w K mg base CX0 1 f fd ["thing"] (spP nameP) := by
  refine F.ok scN spP_len (fun cdv A outer s H vs Q E hr h => ?_)
  obtain ⟨B, v, d, hB, rfl, I, k⟩ := h
  refine ⟨_, pss_one (ps_ret (pe_and (pe_callB call_isi rfl T.isi boot_isi (pa_cons (pv 0) (pa_cons (pe_ty rfl T.str boot_str) pa_nil)))
    (pe_and (pe_chain op_le op_le pe_int (pe_callB call_len_str rfl T.len PySem.boot_len (pa_cons (pv 0) pa_nil)) pe_int)
    (pe_one (pe_callB (call_all rfl) rfl T.all boot_allB (pa_cons (pe_comp (NB := ["sign"]) (n := 1) (fr := []) (compOk0 (outer := defScope sName) rfl (by decide +kernel) rfl) rfl (pi_str (pv 0))
      (fun _ _ _ _ _ => pg_name (i := 0) (show (["sign"] : List Str).Nodup by decide +kernel) rfl (Or.inl rfl)) (fun _ _ _ _ _ => pifs_nil) (fun _ _ _ _ _ => pe_chain op_le_str op_le_str pe_str (pv 0) pe_str)) pa_nil)))))), ?_⟩
  refine ⟨_, rfl, _, _, _, _, rfl, I.ty, kit_str K d, _, rfl, ?_⟩
  cases d with
  | str x =>
    cases I with
    | str _ hx =>
    refine iteT ⟨_, rfl, x, rfl, le1000 hx hB, 1, _, rfl, rfl, _, rfl, ?_⟩
    have k1 : ∀ H', Same H H' → Q (.bl ((decide (1 ≤ x.length) && decide (x.length ≤ 8)) && x.cps.toList.all isLow)) H' := k
    by_cases h1 : 1 ≤ x.length
    · rw [decide_eq_true (show (1 : Int) ≤ (x.length : Int) by omega)]
      refine iteT ⟨_, 8, rfl, rfl, _, rfl, ?_⟩
      by_cases h8 : x.length ≤ 8
      · rw [decide_eq_true (show (x.length : Int) ≤ 8 by omega)]
        refine iteT ⟨_, rfl, x, rfl, comp_pure (J := Its x) (k := 1) (fun _ => true) (fun i => .bl (isLow (x.cps.getD i 0))) (show x.cps.size < sizeLine by rw [sizeLine_eq]; have : x.cps.size = x.length := rfl; omega) (fun i H hi _ => hi) (fun H _ => rfl) ?_ ?_⟩
        · intro i H2 t v H3 R hi s1 ht y hR
          obtain ⟨rfl, c, hc, rfl⟩ := y
          have ht' : ∃ t0, t = [t0] := by
            match t, ht with
            | [t0], _ => exact ⟨t0, rfl⟩
          obtain ⟨t0, rfl⟩ := ht'
          have ec : x.cps.getD i 0 = c := by rw [Array.getD_eq_getD_getElem?, hc]; rfl
          have hR' := hR [some (.str ⟨#[c]⟩)] H3 rfl (Same.refl _)
          rw [ec] at hR'
          refine ⟨_, rfl, _, _, rfl, rfl, _, rfl, ?_⟩
          rw [le_a]
          unfold isLow at hR'
          by_cases h97 : 97 ≤ c
          · rw [decide_eq_true h97] at hR' ⊢
            refine iteT ⟨_, _, rfl, rfl, ?_⟩
            rw [le_z]
            exact hR'
          · rw [decide_eq_false h97] at hR' ⊢
            exact iteF hR'
        · intro D H' s1 hD hd
          refine ⟨D, (List.range x.cps.size).map fun i => isLow (x.cps.getD i 0), rfl, SqL.of ?_, ?_⟩
          · rw [hd, List.filter_eq_self.mpr (fun _ _ => rfl), List.map_map]
            rfl
          · have k2 := k1 H' s1
            rw [decide_eq_true h1, decide_eq_true h8] at k2
            rw [all_range (α := Nat)]
            exact k2
      · rw [decide_eq_false (show ¬ (x.length : Int) ≤ 8 by omega)]
        have k2 := k1 H (Same.refl _)
        rw [decide_eq_true h1, decide_eq_false h8] at k2
        exact iteF k2
    · rw [decide_eq_false (show ¬ (1 : Int) ≤ (x.length : Int) by omega)]
      have k2 := k1 H (Same.refl _)
      rw [decide_eq_false h1] at k2
      exact iteF ⟨_, rfl, iteF k2⟩
  | non => exact iteF (k H (Same.refl _))
  | bl _ => exact iteF (k H (Same.refl _))
  | int _ => exact iteF (k H (Same.refl _))
  | tup _ => exact iteF (k H (Same.refl _))
  | lst _ => exact iteF (k H (Same.refl _))

/-! ### is_row_of, for a teller that keeps its promise -/
def rowD (p : D → Bool) : D → Bool
  | .tup ds => ds.all p
  | _ => false
def spRow (f : Addr) (p : D → Bool) : Sp := fun vs H Q _ => ∃ B v d, B ≤ 1000 ∧ vs = [v, .ref f] ∧ Is B H v d ∧ ∀ H', Same H H' → Q (.bl (rowD p d)) H'
theorem scR : FnScope ["thing", "teller"] ["thing", "teller"] (defScope sRow) := ⟨rfl, rfl, rfl, by decide +kernel, rfl, by decide +kernel, by decide +kernel⟩
theorem all_rangeD (l : List D) (p : D → Bool) : ((List.range l.length).map fun i => p (l.getD i .non)).all id = l.all p := by
  rw [Bool.eq_iff_iff]
  simp only [List.all_eq_true, List.mem_map, List.mem_range, id, forall_exists_index, and_imp]
  constructor
  · intro h x hx
    obtain ⟨i, hi, rfl⟩ := List.mem_iff_getElem.mp hx
    have := h _ i hi rfl
    simpa [hi] using this
  · intro h b i hi e
    subst e
    have := h l[i] (List.getElem_mem hi)
    simpa [hi] using this
theorem ok_row {f g : Addr} {fd gd : FuncData} {p : D → Bool} {kk : Nat} {px : Str} (F : Fun K "is_row_of" "is_row_of" sRow f fd) (T : Txt mg) (G : FnOk P w K mg base CX0 kk g gd [px] (spP p)) (kp : PySem.W.keepIn K (.ref g) = true) (b : Binds K gd [px] []) :
    FnOk P w K mg base CX0 (kk + 1) f fd ["thing", "teller"] (spRow g p) := by
  refine F.ok scR (fun vs H Q E ⟨_, _, _, _, e, _⟩ => by subst e; rfl) (fun cdv A outer s H vs Q E hr h => ?_)
  obtain ⟨B, v, d, hB, rfl, I, k⟩ := h
  refine ⟨_, pss_one (ps_ret (pe_and (pe_callB call_isi rfl T.isi boot_isi (pa_cons (pv 0) (pa_cons (pe_ty rfl T.tuple boot_tuple) pa_nil)))
    (pe_one (pe_callB (call_all rfl) rfl T.all boot_allB (pa_cons (pe_comp (NB := ["part", "teller"]) (n := 1) (fr := [1]) (compOk1 (outer := defScope sRow) (x := "teller") rfl (by decide +kernel) rfl rfl rfl rfl) rfl (pi_tup (pv 0))
      (fun _ _ _ _ _ => pg_name (i := 0) (show (["part", "teller"] : List Str).Nodup by decide +kernel) rfl (Or.inl rfl)) (fun _ _ _ _ _ => pifs_nil) (fun _ _ _ _ _ => pe_callV G hr kp b pass0 (pv 1) (pa_cons (pv 0) pa_nil))) pa_nil))))), ?_⟩
  refine ⟨_, rfl, _, _, _, _, rfl, I.ty, kit_tup K d, _, rfl, ?_⟩
  cases d with
  | tup ds =>
    cases I with
    | @tup a xs _ ea hl r =>
    have k1 : ∀ H', Same H H' → Q (.bl (ds.all p)) H' := k
    have hlen := r.length
    refine iteT ⟨_, rfl, a, rfl, ⟨xs, SqT.of ea⟩, comp_pure (J := Itt K a) (k := 1) (n := xs.length) (fun _ => true) (fun i => .bl (p (ds.getD i .non))) (show xs.length < sizeLine by rw [sizeLine_eq]; omega)
      (fun i H2 hi s1 => ⟨xs, xs[i], SqT.of (s1 _ _ ea), by simp [hi]⟩) (fun H2 s1 => ⟨xs, SqT.of (s1 _ _ ea), Nat.le_refl _⟩) ?_ ?_⟩
    · intro i H2 t v H3 R hi s1 ht y hR
      obtain ⟨rfl, hy⟩ := y
      have hv := hy xs (SqT.of (s1 _ _ ea))
      obtain ⟨di, hdi, Ii⟩ := r.get hv
      have ht' : ∃ t0, t = [t0] := by
        match t, ht with
        | [t0], _ => exact ⟨t0, rfl⟩
      obtain ⟨t0, rfl⟩ := ht'
      refine ⟨_, rfl, rfl, _, rfl, B, v, di, hB, rfl, Ii.same s1, fun H' s2 => ?_⟩
      have hR' := hR [some v] H' rfl s2
      have ed : ds.getD i .non = di := by rw [List.getD_eq_getElem?_getD, hdi]; rfl
      rw [ed] at hR'
      exact hR'
    · intro D H' s1 hD hd
      refine ⟨D, (List.range xs.length).map fun i => p (ds.getD i .non), rfl, SqL.of ?_, ?_⟩
      · rw [hd, List.filter_eq_self.mpr (fun _ _ => rfl), List.map_map]
        rfl
      · rw [hlen, all_rangeD]
        exact k1 H' s1
  | non => exact iteF (k H (Same.refl _))
  | bl _ => exact iteF (k H (Same.refl _))
  | int _ => exact iteF (k H (Same.refl _))
  | str _ => exact iteF (k H (Same.refl _))
  | lst _ => exact iteF (k H (Same.refl _))

/-! ### is_rising of a row of ints -/
def spRise : Sp := fun vs H Q _ => ∃ a ns, vs = [.ref a] ∧ H a = some (.tup (ns.map V.int)) ∧ 1 ≤ ns.length ∧ ns.length ≤ 1000 ∧ ∀ H', Same H H' → Q (.bl (riseI ns)) H'
theorem scRi : FnScope ["parts"] ["parts"] (defScope sRising) := ⟨rfl, rfl, rfl, by decide +kernel, rfl, by decide +kernel, by decide +kernel⟩
theorem cut_tail (ns : List Int) (h : 1 ≤ ns.length) : cutV (ns.map V.int) (some 1) none = ns.tail.map V.int := by
  unfold cutV
  have e1 : HT.sIx (ns.map V.int).length 0 (some 1) = 1 := by
    have := HT.sIx_nat (ns.map V.int).length 0 1
    rw [show ((1 : Nat) : Int) = 1 from rfl] at this
    rw [this, List.length_map]
    omega
  rw [e1, HT.sIx_none, List.length_map, List.take_of_length_le (by simp)]
  cases ns with
  | nil => simp at h
  | cons a r => rfl
theorem rise_range (ns : List Int) : ((List.range (ns.length - 1)).map fun i => decide (ns.getD i 0 < ns.getD (i + 1) 0)).all id = riseI ns := by
  rw [← rise_zip]
  congr 1
  apply List.ext_getElem?
  intro i
  by_cases hi : i < ns.length - 1
  · have h1 : i < ns.length := by omega
    have h2 : i + 1 < ns.length := by omega
    simp [hi, List.getElem?_zip_eq_some, h1, h2, List.getElem?_tail]
  · rw [List.getElem?_eq_none (by simpa using hi), List.getElem?_eq_none]
    simp
    omega
theorem ok_rising {f : Addr} {fd : FuncData} (F : Fun K "is_rising" "is_rising" sRising f fd) (T : Txt mg) : FnOk P w K mg base CX0 1 f fd ["parts"] spRise := by
  refine F.ok scRi (fun vs H Q E ⟨_, _, e, _⟩ => by subst e; rfl) (fun cdv A outer s H vs Q E hr h => ?_)
  obtain ⟨a, ns, rfl, ha, h1, h2, k⟩ := h
  refine ⟨_, pss_one (ps_ret (pe_callB (call_all rfl) rfl T.all boot_allB (pa_cons (pe_comp (NB := ["part", "later"]) (n := 2) (fr := []) (compOk0 (outer := defScope sRising) rfl (by decide +kernel) rfl) rfl
      (pi_zip (t1 := true) (t2 := true) rfl T.zip (pa_cons (pv 0) (pa_cons (pe_slice sl_tup (pv 0) (po_some pe_int) po_none) pa_nil)))
      (fun _ _ _ _ _ => pg_tupK (K := K) (n := 2) rfl rfl (pgs_cons (pg_name (i := 0) (show (["part", "later"] : List Str).Nodup by decide +kernel) rfl (Or.inl rfl)) (pgs_cons (pg_name (i := 1) (show (["part", "later"] : List Str).Nodup by decide +kernel) rfl (Or.inl rfl)) pgs_nil))) (fun _ _ _ _ _ => pifs_nil) (fun _ _ _ _ _ => pe_cmpR op_lt (pv 0) (pv 1) (nomark _))) pa_nil))), ?_⟩
  have hcut := cut_tail ns h1
  have hs1 : HT.sIx (ns.map V.int).length 0 (some 1) = 1 := by
    have := HT.sIx_nat (ns.map V.int).length 0 1
    rw [show ((1 : Nat) : Int) = 1 from rfl] at this
    rw [this, List.length_map]
    omega
  refine ⟨_, rfl, _, rfl, 1, rfl, a, ns.map V.int, rfl, SqT.of ha, fun z => by rw [hs1] at z; exact absurd z.1 (by decide), fun p hp => ?_⟩
  rw [hcut]
  have sp : Same H (upd H p (.tup (ns.tail.map V.int))) := same_upd hp
  refine ⟨a, p, ns.map V.int, ns.tail.map V.int, rfl, SqT.of (sp _ _ ha), SqT.of upd_same, comp_pure (J := Itz K true true a p) (k := 2) (n := ns.length - 1) (fun _ => true) (fun i => .bl (decide (ns.getD i 0 < ns.getD (i + 1) 0))) (by rw [sizeLine_eq]; omega) ?_ ?_ ?_ ?_⟩
  · intro i H2 hi s1
    have i1 : i < ns.length := by omega
    have i2 : i < ns.tail.length := by rw [List.length_tail]; omega
    exact ⟨ns.map V.int, ns.tail.map V.int, .int ns[i], .int ns.tail[i], SqT.of (s1 _ _ (sp _ _ ha)), SqT.of (s1 _ _ upd_same), by simp [i1], by rw [List.getElem?_map, List.getElem?_eq_getElem i2]; rfl⟩
  · intro H2 s1
    exact ⟨ns.map V.int, ns.tail.map V.int, SqT.of (s1 _ _ (sp _ _ ha)), SqT.of (s1 _ _ upd_same), .inr (by simp)⟩
  · intro i H2 t v H3 R hi s1 ht y hR
    obtain ⟨q, x, y, rfl, hq, rfl, e1, e2⟩ := y
    have i1 : i < ns.length := by omega
    have i2 : i + 1 < ns.length := by omega
    have e1' := e1 _ (SqT.of (s1 _ _ (sp _ _ ha)))
    have e2' := e2 _ (SqT.of (s1 _ _ upd_same))
    rw [List.getElem?_map, List.getElem?_eq_getElem i1] at e1'
    rw [List.getElem?_map, List.getElem?_tail, List.getElem?_eq_getElem i2] at e2'
    cases e1'
    cases e2'
    have ht' : ∃ t0 t1, t = [t0, t1] := by
      match t, ht with
      | [t0, t1], _ => exact ⟨t0, t1, rfl⟩
    obtain ⟨t0, t1, rfl⟩ := ht'
    refine ⟨q, _, rfl, SqT.of upd_same, rfl, _, _, rfl, _, _, rfl, rfl, ⟨_, rfl, _, rfl, _, _, rfl, rfl, ?_⟩⟩
    have hR' := hR [some (.int ns[i]), some (.int ns[i + 1])] _ rfl (same_upd (o := .tup [.int ns[i], .int ns[i + 1]]) hq)
    have g1 : ns.getD i 0 = ns[i] := by simp [i1]
    have g2 : ns.getD (i + 1) 0 = ns[i + 1] := by simp [i2]
    rw [g1, g2] at hR'
    exact hR'
  · intro D H' s1 hD hd
    refine ⟨D, (List.range (ns.length - 1)).map fun i => decide (ns.getD i 0 < ns.getD (i + 1) 0), rfl, SqL.of ?_, ?_⟩
    · rw [hd, List.filter_eq_self.mpr (fun _ _ => rfl), List.map_map]
      rfl
    · rw [rise_range]
      exact k H' (sp.trans s1)

/-! ### is_seats -/
theorem scS : FnScope ["thing"] ["thing"] (defScope sSeats) := ⟨rfl, rfl, rfl, by decide +kernel, rfl, by decide +kernel, by decide +kernel⟩
theorem IsL_ints {B : Nat} {H : Hp} : ∀ {ns : List Int} {vs : List V}, IsL B H vs (ns.map D.int) → vs = ns.map V.int
  | [], _, h => by cases h; rfl
  | n :: r, _, h => by
    cases h with
    | cons h t => cases h; rw [IsL_ints t]; rfl
theorem ok_seats {f : Addr} {fd : FuncData} (F : Fun K "is_seats" "is_seats" sSeats f fd) (T : Txt mg) (CK : Cal P w K mg base "is_keeper" 2 ["thing"] (spP keeper))
    (CR : ∀ g gd, FnOk P w K mg base CX0 2 g gd ["thing"] (spP keeper) → PySem.W.keepIn K (.ref g) = true → Binds K gd ["thing"] [] → Cal P w K mg base "is_row_of" 3 ["thing", "teller"] (spRow g keeper))
    (CI : Cal P w K mg base "is_rising" 1 ["parts"] spRise) : FnOk P w K mg base CX0 4 f fd ["thing"] (spP seatsP) := by
  refine F.ok scS spP_len (fun cdv A outer s H vs Q E hr h => ?_)
  obtain ⟨B, v, d, hB, rfl, I, k⟩ := h
  obtain ⟨g, gd, G, m, kp, b⟩ := CK.ex
  obtain ⟨g2, gd2, G2, m2, kp2, b2⟩ := (CR g gd G kp b).ex
  obtain ⟨g3, gd3, G3, m3, kp3, b3⟩ := CI.ex
  refine ⟨_, pss_one (ps_ret (pe_and (pe_call G2 hr rfl m2 kp2 b2 .nil pass0 (pa_cons (pv 0) (pa_cons (pe_fn rfl m) pa_nil)))
    (pe_and (pe_chain op_le op_le pe_int (pe_callB call_len_seq rfl T.len PySem.boot_len (pa_cons (pv 0) pa_nil)) pe_int)
    (pe_one (pe_call G3 (hr.mono (by decide)) rfl m3 kp3 b3 .nil pass0 (pa_cons (pv 0) pa_nil)))))), ?_⟩
  refine ⟨_, rfl, B, v, d, hB, rfl, I, fun H' s' => ⟨_, rfl, ?_⟩⟩
  cases d with
  | tup ds =>
    have k1 : ∀ H', Same H H' → Q (.bl (ds.all keeper && ((decide (1 ≤ ds.length) && decide (ds.length ≤ 9)) && riseI (intsOf ds)))) H' := k
    show if ds.all keeper = true then _ else _
    cases hall : ds.all keeper with
    | false =>
      have k2 := k1 H' s'
      rw [hall] at k2
      exact iteF k2
    | true =>
      cases I with
      | @tup a xs _ ea hl r =>
      have hlen := r.length
      refine iteT ⟨_, rfl, a, xs, rfl, .inr (SqT.of (s' _ _ ea)), 1, _, rfl, rfl, _, rfl, ?_⟩
      by_cases h1 : 1 ≤ ds.length
      · rw [decide_eq_true (show (1 : Int) ≤ (xs.length : Int) by omega)]
        refine iteT ⟨_, 9, rfl, rfl, _, rfl, ?_⟩
        by_cases h9 : ds.length ≤ 9
        · rw [decide_eq_true (show (xs.length : Int) ≤ 9 by omega)]
          have eds := keeper_ints ds hall
          have exs : xs = (intsOf ds).map V.int := by
            rw [eds] at r
            exact IsL_ints r
          have eln : (intsOf ds).length = ds.length := by
            have := congrArg List.length eds
            rw [List.length_map] at this
            exact this.symm
          refine iteT ⟨_, rfl, a, intsOf ds, rfl, by rw [← exs]; exact s' _ _ ea, by omega, by omega, fun H2 s2 => ?_⟩
          have k2 := k1 H2 (s'.trans s2)
          rw [hall, decide_eq_true h1, decide_eq_true h9] at k2
          exact k2
        · rw [decide_eq_false (show ¬ (xs.length : Int) ≤ 9 by omega)]
          have k2 := k1 H' s'
          rw [hall, decide_eq_true h1, decide_eq_false h9] at k2
          exact iteF k2
      · rw [decide_eq_false (show ¬ (1 : Int) ≤ (xs.length : Int) by omega)]
        have k2 := k1 H' s'
        rw [hall, decide_eq_false h1] at k2
        exact iteF ⟨_, rfl, iteF k2⟩
  | non => exact iteF (k H' s')
  | bl _ => exact iteF (k H' s')
  | int _ => exact iteF (k H' s')
  | str _ => exact iteF (k H' s')
  | lst _ => exact iteF (k H' s')
end
end K1
set_option Elab.async false
set_option linter.all false
set_option maxRecDepth 100000
set_option maxHeartbeats 4000000
namespace K1
open PySem L2 Kp
section
variable {P : Program} {w : World} {K : PySem.W.Frag} {mg : Str → Option Value} {base : Heap}

/-! ### cells of the script -/
def spCell (K : PySem.W.Frag) : Sp := fun vs H Q _ => ∃ (a : Addr) (ns : List Int) (k : Int), vs = [.ref a, .int k] ∧ SqL K H a (ns.map V.int) ∧ 0 ≤ k ∧ ∀ z, Q (.int z) H
theorem scC : FnScope ["_law_script", "_law_k"] ["_law_script", "_law_k"] (defScope sCell) := ⟨rfl, rfl, rfl, by decide +kernel, rfl, by decide +kernel, by decide +kernel⟩
theorem ok_cell {f : Addr} {fd : FuncData} (F : Fun K "_law_cell_at" "_law_cell_at" sCell f fd) (T : Txt mg) : FnOk P w K mg base CX0 1 f fd ["_law_script", "_law_k"] (spCell K) := by
  refine F.ok scC (fun vs H Q E ⟨_, _, _, e, _⟩ => by subst e; rfl) (fun cdv A outer s H vs Q E hr h => ?_)
  obtain ⟨a, ns, k, rfl, hS, h0, q⟩ := h
  refine ⟨_, pss_cons (ps_if (pt_cmpR op_lt (pv 1) (pe_callB call_len_seq rfl T.len PySem.boot_len (pa_cons (pv 0) pa_nil)) (nomark _)) (pss_one (ps_ret (pe_ix ix_list (pv 0) (pv 1) (fun _ _ => rfl)))) pss_nil) (pss_one (ps_ret pe_int)), ?_⟩
  refine ⟨_, rfl, _, rfl, a, _, rfl, .inl hS, k, _, rfl, rfl, _, rfl, ite2 (fun hlt => ?_) (fun _ => q 0)⟩
  have hlt' : k < ((ns.map V.int).length : Int) := of_decide_eq_true hlt
  obtain ⟨j, rfl⟩ := Int.eq_ofNat_of_zero_le h0
  have hj : j < ns.length := by rw [List.length_map] at hlt'; omega
  exact ⟨_, rfl, _, rfl, a, _, _, .int ns[j], rfl, rfl, hS, atI_nat (by simp [hj]), q _⟩

def spMixed (K : PySem.W.Frag) : Sp := fun vs H Q _ => ∃ (a : Addr) (ns : List Int) (k : Int), vs = [.ref a, .int k] ∧ SqL K H a (ns.map V.int) ∧ 0 ≤ k ∧ k ≤ 100000 ∧ ∀ z, 0 ≤ z → z < 2147483629 → Q (.int z) H
theorem scM : FnScope ["_law_script", "_law_k", "_law_number"] ["_law_script", "_law_k"] (defScope sMixed) := ⟨rfl, rfl, rfl, by decide +kernel, rfl, by decide +kernel, by decide +kernel⟩
theorem ok_mixed {f : Addr} {fd : FuncData} (F : Fun K "_law_mixed" "_law_mixed" sMixed f fd) (CC : Cal P w K mg base "_law_cell_at" 1 ["_law_script", "_law_k"] (spCell K)) : FnOk P w K mg base CX0 2 f fd ["_law_script", "_law_k"] (spMixed K) := by
  refine F.ok scM (fun vs H Q E ⟨_, _, _, e, _⟩ => by subst e; rfl) (fun cdv A outer s H vs Q E hr h => ?_)
  obtain ⟨a, ns, k, rfl, hS, h0, h1, q⟩ := h
  obtain ⟨g, gd, G, m, kp, b⟩ := CC.ex
  refine ⟨_, pss_cons (ps_set (i := 2) scM.nd rfl (Or.inl rfl) (pe_op op_mod (pe_op op_mul (pe_op op_add (pe_op op_add (pe_call G hr rfl m kp b .nil pass0 (pa_cons (pv 0) (pa_cons (pv 1) pa_nil))) (pe_op op_mul pe_int (pv 1))) pe_int) pe_int) pe_int))
    (pss_one (ps_ret (pe_op op_mod (pe_op op_add (pe_op op_add (pe_op op_mul (pv 2) (pv 2)) (pe_op op_mul pe_int (pv 2))) (pv 1)) pe_int))), ?_⟩
  refine ⟨_, rfl, _, rfl, a, ns, k, rfl, hS, h0, fun z => ?_⟩
  refine ⟨_, rfl, _, _, rfl, rfl, .inl ⟨by decide, by decide⟩, _, _, rfl, rfl, _, _, rfl, rfl, _, _, rfl, rfl, .inr ⟨by decide, by decide⟩, _, _, rfl, rfl, (by show (0 : Int) < 2147483647; decide), ?_⟩
  generalize hn : (z + 7919 * k + 1) * 48271 % 2147483647 = n
  have n0 : 0 ≤ n := by rw [← hn]; exact Int.emod_nonneg _ (by decide)
  have n1 : n < 2147483647 := by rw [← hn]; exact Int.emod_lt_of_pos _ (by decide)
  refine ⟨_, rfl, _, rfl, _, _, rfl, rfl, .inl ⟨by omega, by omega⟩, _, rfl, _, _, rfl, rfl, .inl ⟨by decide, by decide⟩, _, _, rfl, rfl, _, rfl, _, _, rfl, rfl, _, _, rfl, rfl, (by show (0 : Int) < 2147483629; decide), ?_⟩
  exact q _ (Int.emod_nonneg _ (by decide)) (Int.emod_lt_of_pos _ (by decide))

end
end K1
set_option Elab.async false
set_option linter.all false
set_option maxRecDepth 100000
set_option maxHeartbeats 4000000
namespace K1
open PySem L2 Kp
section
variable {P : Program} {w : World} {K : PySem.W.Frag} {mg : Str → Option Value} {base : Heap}

/-! ### a name by a number -/
theorem atI_mem {α : Type} {xs : List α} {i : Int} (h0 : 0 ≤ i) (h1 : i < xs.length) : ∃ v, atI xs i = some v ∧ v ∈ xs := by
  obtain ⟨j, rfl⟩ := Int.eq_ofNat_of_zero_le h0
  have hj : j < xs.length := by omega
  exact ⟨xs[j], atI_nat (by simp [hj]), List.getElem_mem hj⟩
theorem emod_in (x : Int) {m : Int} (h : 0 < m) : 0 ≤ x % m ∧ x % m < m := ⟨Int.emod_nonneg _ (Int.ne_of_gt h), Int.emod_lt_of_pos _ h⟩
theorem fold_len (a : Array Nat) : ∀ (k : Nat) (b : Array Nat), (List.foldl (fun x y => x ++ y) b (List.replicate k a)).size = b.size + k * a.size
  | 0, b => by simp
  | k + 1, b => by
    rw [List.replicate_succ, List.foldl_cons, fold_len a k]
    simp [Nat.succ_mul]
    omega
theorem mul_len (z : Str) (n : Int) : (Txt.mul z n).length ≤ z.length * n.toNat := by
  unfold Txt.mul
  split
  · exact Nat.zero_le _
  · split
    · rename_i h1 h2
      have : 1 ≤ n.toNat := by omega
      exact Nat.le_trans (by omega) (Nat.mul_le_mul_left z.length this)
    · show (List.foldl (fun x y => x ++ y) #[] (List.replicate n.toNat z.cps)).size ≤ _
      rw [fold_len]
      show 0 + n.toNat * z.length ≤ _
      rw [Nat.zero_add, Nat.mul_comm]
      exact Nat.le_refl _
theorem app_len (x y : Str) : (x ++ y).length = x.length + y.length := by
  show (x.cps ++ y.cps).size = _
  rw [Array.size_append]
  rfl
def spNameBy : Sp := fun vs H Q _ => ∃ n, vs = [.int n] ∧ 0 ≤ n ∧ ∀ x H', x.length ≤ 16 → Same H H' → Q (.str x) H'
theorem scNB : FnScope ["_law_number", "_law_letters", "_law_name_here", "_law_at"] ["_law_number"] (defScope sNameBy) := ⟨rfl, rfl, rfl, by decide +kernel, rfl, by decide +kernel, by decide +kernel⟩
theorem ok_name_by {f : Addr} {fd : FuncData} (F : Fun K "_law_name_by" "_law_name_by" sNameBy f fd) (T : Txt mg) : FnOk P w K mg base CX0 1 f fd ["_law_number"] spNameBy := by
  refine F.ok scNB (fun vs H Q E ⟨_, e, _⟩ => by subst e; rfl) (fun cdv A outer s H vs Q E hr h => ?_)
  obtain ⟨n, rfl, h0, q⟩ := h
  refine ⟨_, pss_cons (ps_if (pt_cmpR op_eq (pe_op op_mod (pv 0) pe_int) pe_int (nomark _)) (pss_one (ps_ret (pe_ix ix_list (pe_lst (pa_cons pe_str (pa_cons pe_str (pa_cons pe_str (pa_cons pe_str (pa_cons pe_str (pa_cons pe_str (pa_cons pe_str (pa_cons pe_str (pa_cons pe_str pa_nil))))))))))
      (pe_op op_mod (pe_op op_fdiv (pv 0) pe_int) pe_int) (fun _ _ => rfl)))) pss_nil)
    (pss_cons (ps_set (i := 1) scNB.nd rfl (Or.inl rfl) pe_str)
    (pss_cons (ps_set (i := 2) scNB.nd rfl (Or.inl rfl) (pe_ix ix_str (pv 1) (pe_op op_mod (pv 0) pe_int) (fun _ _ => rfl)))
    (pss_cons (ps_while PassesOwn.never (pt_cmpR op_lt (pe_callB call_len_str rfl T.len PySem.boot_len (pa_cons (pv 2) pa_nil)) (pe_op op_add pe_int (pe_op op_mod (pe_op op_fdiv (pv 0) pe_int) pe_int)) (nomark _))
      (pss_cons (ps_set (i := 3) scNB.nd rfl (Or.inl rfl) (pe_op op_add (pe_op op_fdiv (pv 0) pe_int) (pe_op op_mul (pe_op op_mul pe_int (pe_callB call_len_str rfl T.len PySem.boot_len (pa_cons (pv 2) pa_nil))) (pe_op op_mod (pv 0) pe_int))))
      (pss_one (ps_set (i := 2) scNB.nd rfl (Or.inl rfl) (pe_op op_add_str (pv 2) (pe_ix ix_str (pv 1) (pe_op op_mod (pv 3) pe_int) (fun _ _ => rfl)))))))
    (pss_cons (ps_if (pt_cmpR op_eq (pe_op op_mod (pe_op op_fdiv (pv 0) pe_int) pe_int) pe_int (nomark _)) (pss_one (ps_ret (pv 2))) pss_nil)
    (pss_cons (ps_set (i := 3) scNB.nd rfl (Or.inl rfl) (pe_op op_mod (pe_op op_fdiv (pv 0) pe_int) (pe_callB call_len_str rfl T.len PySem.boot_len (pa_cons (pv 2) pa_nil))))
    (pss_one (ps_ret (pe_op op_add_str (pe_op op_add_str (pe_op op_mul_str pe_str (pv 3)) (pe_ix ix_str (pv 2) (pv 3) (fun _ _ => rfl))) (pe_op op_mul_str pe_str (pe_op op_sub (pe_op op_sub (pe_callB call_len_str rfl T.len PySem.boot_len (pa_cons (pv 2) pa_nil)) pe_int) (pv 3))))))))))), ?_⟩
  refine ⟨_, rfl, _, _, rfl, rfl, (by show (0 : Int) < 8; decide), rfl, _, rfl, ite2 (fun _ => ?_) (fun _ => ?_)⟩
  · -- a word
    refine ⟨by rw [sizeLine_eq]; decide, fun p hp => ⟨_, rfl, _, _, rfl, rfl, ⟨by decide, by decide⟩, _, _, rfl, rfl, (by show (0 : Int) < 9; decide), ?_⟩⟩
    obtain ⟨e0, e1⟩ := emod_in (n / 8) (m := 9) (by decide)
    obtain ⟨v, hv, hm⟩ := atI_mem (xs := [V.str "open", V.str "wish", V.str "seats", V.str "set", V.str "add", V.str "get", V.str "none", V.str "yes", V.str "no"]) e0 (by simpa using e1)
    have hx : ∃ x : Str, v = .str x ∧ x.length ≤ 16 := by
      simp only [List.mem_cons, List.not_mem_nil, or_false] at hm
      rcases hm with rfl | rfl | rfl | rfl | rfl | rfl | rfl | rfl | rfl <;> exact ⟨_, rfl, by decide +kernel⟩
    obtain ⟨x, rfl, hl⟩ := hx
    exact ⟨p, _, _, _, rfl, rfl, SqL.of upd_same, hv, q x _ hl (same_upd hp)⟩
  · -- letters
    have la : ("abcdefghijklmnopqrstuvwxyz" : Str).length = 26 := by decide +kernel
    have lb : (("abcdefghijklmnopqrstuvwxyz" : Str).cps.toList).length = 26 := by rw [Array.length_toList]; exact la
    obtain ⟨e0, e1⟩ := emod_in n (m := 26) (by decide)
    obtain ⟨c, hc, _⟩ := atI_mem (xs := ("abcdefghijklmnopqrstuvwxyz" : Str).cps.toList) e0 (by rw [lb]; exact e1)
    refine ⟨_, rfl, _, rfl, _, _, rfl, rfl, (by show (0 : Int) < 26; decide), _, _, c, rfl, rfl, (by rw [la, sizeLine_eq]; decide), hc, ?_⟩
    refine ⟨fun m σ H' => ∃ x t, σ = [some (.int n), some (.str "abcdefghijklmnopqrstuvwxyz"), some (.str x), t] ∧ H = H' ∧ 1 ≤ x.length ∧ x.length ≤ 8 ∧ m = 8 - x.length, ⟨7, ⟨#[c]⟩, none, rfl, rfl, Nat.le_refl _, (show 1 ≤ 8 by decide), rfl⟩, ?_⟩
    rintro m σ H' ⟨x, t, rfl, rfl, l1, l8, rfl⟩
    obtain ⟨f0, f1⟩ := emod_in (n / 26) (m := 8) (by decide)
    have lx : x.length ≤ sizeLine := by rw [sizeLine_eq]; omega
    refine ⟨_, rfl, x, rfl, lx, _, rfl, _, _, rfl, rfl, ⟨by decide, by decide⟩, _, _, rfl, rfl, (by show (0 : Int) < 8; decide), _, _, rfl, rfl, _, _, rfl, rfl, _, rfl, ite2 (fun hlt => ?_) (fun _ => ?_)⟩
    · have hlt' : (x.length : Int) < 1 + n / 26 % 8 := of_decide_eq_true hlt
      refine ⟨fun σ' H2 => ∃ x' t', σ' = [some (.int n), some (.str "abcdefghijklmnopqrstuvwxyz"), some (.str x'), t'] ∧ H = H2 ∧ x'.length = x.length + 1, ?_, ?_⟩
      · rintro σ' H2 ⟨x', t', rfl, rfl, e⟩
        exact ⟨8 - x'.length, by omega, x', t', rfl, rfl, by omega, by omega, rfl⟩
      · obtain ⟨g0, g1⟩ := emod_in (n / 208 + 5 * (x.length : Int) * (n % 3)) (m := 26) (by decide)
        obtain ⟨d, hd, _⟩ := atI_mem (xs := ("abcdefghijklmnopqrstuvwxyz" : Str).cps.toList) g0 (by rw [lb]; exact g1)
        refine ⟨_, rfl, _, _, rfl, rfl, ⟨by decide, by decide⟩, _, rfl, x, rfl, lx, _, _, rfl, rfl, .inl ⟨by decide, by decide⟩, _, rfl, _, _, rfl, rfl, (by show (0 : Int) < 3; decide), _, _, rfl, rfl, .inl ⟨by omega, by omega⟩, _, _, rfl, rfl, ?_⟩
        refine ⟨_, rfl, _, rfl, _, rfl, _, _, rfl, rfl, (by show (0 : Int) < 26; decide), _, _, d, rfl, rfl, (by rw [la, sizeLine_eq]; decide), hd, _, _, rfl, rfl, (by show x.length + 1 ≤ sizeLine; rw [sizeLine_eq]; omega), ?_⟩
        exact ⟨_, _, rfl, rfl, by rw [app_len]; rfl⟩
    · refine ⟨_, rfl, _, _, rfl, rfl, ⟨by decide, by decide⟩, _, _, rfl, rfl, (by show (0 : Int) < 2; decide), rfl, _, rfl, ite2 (fun _ => ?_) (fun _ => ?_)⟩
      · exact ⟨_, rfl, q x H (by omega) (Same.refl _)⟩
      · have lp : (0 : Int) < (x.length : Int) := by omega
        refine ⟨_, rfl, _, _, rfl, rfl, ⟨by decide, by decide⟩, _, rfl, x, rfl, lx, _, _, rfl, rfl, lp, ?_⟩
        obtain ⟨a0, a1⟩ := emod_in (n / 208) lp
        obtain ⟨d, hd, _⟩ := atI_mem (xs := x.cps.toList) a0 (by rw [Array.length_toList]; exact a1)
        have ml := mul_len "a" (n / 208 % (x.length : Int))
        have ml2 := mul_len "a" ((x.length : Int) - 1 - n / 208 % (x.length : Int))
        have one : ("a" : Str).length = 1 := by decide +kernel
        rw [one] at ml ml2
        have s1 : (⟨#[d]⟩ : Str).length = 1 := rfl
        refine ⟨_, rfl, _, _, rfl, rfl, (by rw [one]; decide), (by omega), (by omega), _, rfl, _, rfl, _, _, d, rfl, rfl, lx, hd, _, _, rfl, rfl, (by rw [s1, sizeLine_eq]; omega), _, rfl, x, rfl, lx, _, _, rfl, rfl, _, rfl, _, _, rfl, rfl, _, _, rfl, rfl, (by rw [one]; decide), (by omega), (by omega), _, _, rfl, rfl, ?_, ?_⟩
        · rw [app_len, s1, sizeLine_eq]; omega
        · refine q _ H ?_ (Same.refl _)
          rw [app_len, app_len, s1]; omega

end
end K1
set_option Elab.async false
set_option linter.all false
set_option maxRecDepth 100000
set_option maxHeartbeats 4000000
namespace K1
open PySem L2 Kp
section
variable {P : Program} {w : World} {K : PySem.W.Frag} {mg : Str → Option Value} {base : Heap}

/-! ### seats by a number -/
def spSeatsBy : Sp := fun vs H Q _ => ∃ n, vs = [.int n] ∧ 0 ≤ n ∧ ∀ (ns : List Int) (a : Addr) (H' : Hp), ns.length ≤ 9 → H' a = some (.tup (ns.map V.int)) → Same H H' → Q (.ref a) H'
theorem scSB : FnScope ["_law_number", "_law_powers"] ["_law_number"] (defScope sSeatsBy) := ⟨rfl, rfl, rfl, by decide +kernel, rfl, by decide +kernel, by decide +kernel⟩
def pows : List Int := [1, 2, 4, 8, 16, 32, 64, 128, 256]
theorem pows_pos : ∀ x ∈ pows, 0 < x ∧ x < 1073741824 := by decide
theorem ok_seats_by {f : Addr} {fd : FuncData} (F : Fun K "_law_seats_by" "_law_seats_by" sSeatsBy f fd) (T : Txt mg) : FnOk P w K mg base CX0 1 f fd ["_law_number"] spSeatsBy := by
  refine F.ok scSB (fun vs H Q E ⟨_, e, _⟩ => by subst e; rfl) (fun cdv A outer s H vs Q E hr h => ?_)
  obtain ⟨n, rfl, h0, q⟩ := h
  refine ⟨_, pss_cons (ps_set (i := 0) scSB.nd rfl (Or.inr rfl) (pe_op op_add pe_int (pe_op op_mod (pv 0) pe_int)))
    (pss_cons (ps_set (i := 1) scSB.nd rfl (Or.inr rfl) (pe_lst (pa_cons pe_int (pa_cons pe_int (pa_cons pe_int (pa_cons pe_int (pa_cons pe_int (pa_cons pe_int (pa_cons pe_int (pa_cons pe_int (pa_cons pe_int pa_nil)))))))))))
    (pss_one (ps_ret (pe_callTy call_tuple_of rfl T.tuple boot_tuple (pa_cons (pe_comp (NB := ["_law_k", "_law_number", "_law_powers"]) (n := 1) (fr := [0, 1]) (compOk2 (outer := defScope sSeatsBy) (x := "_law_number") (y := "_law_powers") rfl (by decide +kernel) rfl rfl rfl rfl rfl rfl rfl) rfl
      (pi_range1 rfl T.range (pa_cons pe_int pa_nil)) (fun _ _ _ _ _ => pg_name (i := 0) (show (["_law_k", "_law_number", "_law_powers"] : List Str).Nodup by decide +kernel) rfl (Or.inl rfl))
      (fun _ _ _ _ _ => pifs_one (pt_cmpR op_eq (pe_op op_mod (pe_op op_fdiv (pv 1) (pe_ix (ix_listK (K := K) rfl) (pv 2) (pv 0) (fun _ _ => rfl))) pe_int) pe_int (nomark _))) (fun _ _ _ _ _ => pv 0)) pa_nil))))), ?_⟩
  refine ⟨_, rfl, _, _, rfl, rfl, (by show (0 : Int) < 511; decide), _, _, rfl, rfl, (by rw [sizeLine_eq]; decide), fun l hl => ?_⟩
  have sl : Same H (upd H l (.lst (pows.map V.int))) := same_upd hl
  refine ⟨9, rfl, by decide, by decide, comp_pure (J := Itr 0 9) (k := 1) (n := 9) (fun i => decide (V.int ((1 + n % 511) / pows.getD i 1 % 2) = V.int 1)) (fun i => .int (0 + (i : Int))) (by rw [sizeLine_eq]; decide) (fun i H2 hi _ => hi) (fun H2 _ => Nat.le_refl _) ?_ ?_⟩
  · intro i H2 t v H3 R hi s1 ht y hR
    obtain ⟨rfl, rfl⟩ := y
    have ht' : ∃ t0, t = [t0] := by
      match t, ht with
      | [t0], _ => exact ⟨t0, rfl⟩
    obtain ⟨t0, rfl⟩ := ht'
    have hi' : i < pows.length := hi
    have hat : atI (pows.map V.int) (0 + (i : Int)) = some (.int (pows.getD i 1)) := by
      rw [Int.zero_add]
      exact atI_nat (by rw [List.getElem?_map, List.getElem?_eq_getElem hi', List.getD_eq_getElem?_getD, List.getElem?_eq_getElem hi']; rfl)
    have hpos := pows_pos (pows.getD i 1) (by rw [List.getD_eq_getElem?_getD, List.getElem?_eq_getElem hi']; exact List.getElem_mem hi')
    refine ⟨_, rfl, _, rfl, _, rfl, l, _, _, _, rfl, rfl, SqL.of (s1 _ _ upd_same), hat, _, _, rfl, rfl, hpos, _, _, rfl, rfl, (by show (0 : Int) < 2; decide), rfl, _, rfl, ?_⟩
    have hR' := hR [some (.int (0 + (i : Int)))] H3 rfl (Same.refl _)
    show if decide (V.int ((1 + n % 511) / pows.getD i 1 % 2) = V.int 1) = true then _ else _
    cases e : decide (V.int ((1 + n % 511) / pows.getD i 1 % 2) = V.int 1) with
    | true => rw [e] at hR'; exact iteT ⟨_, rfl, hR'⟩
    | false => rw [e] at hR'; exact iteF hR'
  · intro D H' s1 hD hd
    refine ⟨D, _, rfl, .inl ⟨SqL.of hd, fun l2 hl2 => ?_⟩⟩
    refine q (((List.range 9).filter (fun i => decide (V.int ((1 + n % 511) / pows.getD i 1 % 2) = V.int 1))).map fun i : Nat => (0 : Int) + (i : Int)) l2 _ ?_ ?_ ((sl.trans s1).trans (same_upd hl2))
    · rw [List.length_map]
      exact Nat.le_trans (List.length_filter_le _ _) (by simp)
    · rw [upd_same, List.map_map]
      rfl

end
end K1
set_option Elab.async false
set_option linter.all false
set_option maxRecDepth 100000
set_option maxHeartbeats 4000000
namespace K1
open PySem L2 Kp
section
variable {P : Program} {w : World} {K : PySem.W.Frag} {mg : Str → Option Value} {base : Heap}

/-! ### the law's own tellers -/
def spFrom : Sp := fun vs H Q _ => ∃ B v d l, B ≤ 1000 ∧ vs = [v, .int l] ∧ Is B H v d ∧ ∀ H', Same H H' → Q (.bl (geD l d)) H'
theorem scF : FnScope ["_law_thing", "_law_least"] ["_law_thing", "_law_least"] (defScope sFrom) := ⟨rfl, rfl, rfl, by decide +kernel, rfl, by decide +kernel, by decide +kernel⟩
theorem ok_from {f : Addr} {fd : FuncData} (F : Fun K "_law_from" "_law_from" sFrom f fd) (T : Txt mg) : FnOk P w K mg base CX0 1 f fd ["_law_thing", "_law_least"] spFrom := by
  refine F.ok scF (fun vs H Q E ⟨_, _, _, _, _, e, _⟩ => by subst e; rfl) (fun cdv A outer s H vs Q E hr h => ?_)
  obtain ⟨B, v, d, l, hB, rfl, I, k⟩ := h
  refine ⟨_, pss_one (ps_ret (pe_and (pe_callB call_isi rfl T.isi boot_isi (pa_cons (pv 0) (pa_cons (pe_ty rfl T.int boot_int) pa_nil)))
    (pe_and (pe_not (pe_callB call_isi rfl T.isi boot_isi (pa_cons (pv 0) (pa_cons (pe_ty rfl T.bool boot_bool) pa_nil)))) (pe_one (pe_cmpR op_ge (pv 0) (pv 1) (nomark _)))))), ?_⟩
  refine ⟨_, rfl, _, _, _, _, rfl, I.ty, kit_int K d, _, rfl, ?_⟩
  have k0 := k H (Same.refl _)
  cases d with
  | int i =>
    refine iteT ⟨_, rfl, _, _, _, _, rfl, I.ty, kit_bool K _, _, rfl, _, rfl, iteT ?_⟩
    cases I
    exact ⟨_, rfl, _, rfl, _, _, rfl, rfl, k0⟩
  | bl b => exact iteT ⟨_, rfl, _, _, _, _, rfl, I.ty, kit_bool K _, _, rfl, _, rfl, iteF k0⟩
  | non => exact iteF k0
  | str _ => exact iteF k0
  | tup _ => exact iteF k0
  | lst _ => exact iteF k0

theorem scNL : FnScope ["_law_thing"] ["_law_thing"] (defScope sNameL) := ⟨rfl, rfl, rfl, by decide +kernel, rfl, by decide +kernel, by decide +kernel⟩
theorem filt_range (l : Array Nat) (p : Nat → Bool) : (((List.range l.size).filter fun i => p (l.getD i 0)).map fun i => V.str ⟨#[l.getD i 0]⟩) = (l.toList.filter p).map fun c => V.str ⟨#[c]⟩ := by
  have e : l.toList = (List.range l.size).map fun i => l.getD i 0 := by
    apply List.ext_getElem?
    intro i
    by_cases hi : i < l.size
    · simp [hi]
    · rw [List.getElem?_eq_none (by simpa using hi), List.getElem?_eq_none (by simpa using hi)]
  conv => rhs; rw [e]
  rw [List.filter_map, List.map_map]
  rfl
theorem eqVs_nil (xs : List V) : eqVs xs [] = xs.isEmpty := by cases xs <;> rfl
theorem flat_signs (l : List Nat) : (l.map fun c => V.str ⟨#[c]⟩).all flatV = true := by
  rw [List.all_eq_true]
  intro x hx
  obtain ⟨c, _, rfl⟩ := List.mem_map.mp hx
  rfl
theorem ok_nameL {f : Addr} {fd : FuncData} (F : Fun K "_law_name" "_law_name" sNameL f fd) (T : Txt mg) : FnOk P w K mg base CX0 1 f fd ["_law_thing"] (spP nameL) := by
  refine F.ok scNL spP_len (fun cdv A outer s H vs Q E hr h => ?_)
  obtain ⟨B, v, d, hB, rfl, I, k⟩ := h
  refine ⟨_, pss_cons (ps_if (PW.pt (pw_or (pt_not (pt_val (pe_callB call_isi rfl T.isi boot_isi (pa_cons (pv 0) (pa_cons (pe_ty rfl T.str boot_str) pa_nil))))) (pw_or (pt_cmpR op_eq (pv 0) pe_str (nomark _)) (pw_or1 (pt_cmpR op_gt (pe_callB call_len_str rfl T.len PySem.boot_len (pa_cons (pv 0) pa_nil)) pe_int (nomark _)))))) (pss_one (ps_ret pe_bl)) pss_nil)
    (pss_one (ps_ret (pe_cmpR (op_eqL hr.units0) (pe_comp (NB := ["_law_sign"]) (n := 1) (fr := []) (compOk0 (outer := defScope sNameL) rfl (by decide +kernel) rfl) rfl (pi_str (pv 0))
      (fun _ _ _ _ _ => pg_name (i := 0) (show (["_law_sign"] : List Str).Nodup by decide +kernel) rfl (Or.inl rfl)) (fun _ _ _ _ _ => pifs_one (pt_cmpR op_lt (pe_bmK (K := K) rfl PySem.F.plainAttrs_str PySem.F.slot_str_find PySem.F.type_str_find mt_find pe_str (pa_cons (pv 0) pa_nil)) pe_int (nomark _))) (fun _ _ _ _ _ => pv 0)) (pe_lst pa_nil) (nomark _)))), ?_⟩
  refine ⟨_, rfl, _, _, _, _, rfl, I.ty, kit_str K d, _, rfl, ?_⟩
  cases d with
  | str x =>
    cases I with
    | str _ hx =>
    have k1 : ∀ H', Same H H' → Q (.bl (if x = "" ∨ 8 < x.length then false else (x.cps.toList.filter fun c => !isLow c).isEmpty)) H' := k
    refine iteF ⟨_, rfl, rfl, _, rfl, ?_⟩
    by_cases hE : x = ""
    · have k2 := k1 H (Same.refl _)
      rw [if_pos (.inl hE)] at k2
      rw [decide_eq_true (show V.str x = V.str "" by rw [hE])]
      exact iteT (iteT k2)
    · rw [decide_eq_false (show ¬ V.str x = V.str "" from fun z => hE (V.str.inj z))]
      refine iteF ⟨_, rfl, x, rfl, le1000 hx hB, _, _, rfl, rfl, _, rfl, ?_⟩
      by_cases h8 : 8 < x.length
      · have k2 := k1 H (Same.refl _)
        rw [if_pos (.inr h8)] at k2
        rw [decide_eq_true (show (8 : Int) < (x.length : Int) by omega)]
        exact iteT k2
      · rw [decide_eq_false (show ¬ (8 : Int) < (x.length : Int) by omega)]
        refine iteF ⟨_, rfl, x, rfl, comp_pure (J := Its x) (k := 1) (n := x.cps.size) (fun i => !isLow (x.cps.getD i 0)) (fun i => .str ⟨#[x.cps.getD i 0]⟩) (show x.cps.size < sizeLine by rw [sizeLine_eq]; have : x.cps.size = x.length := rfl; omega) (fun i H hi _ => hi) (fun H _ => rfl) ?_ ?_⟩
        · intro i H2 t v H3 R hi s1 ht y hR
          obtain ⟨rfl, c, hc, rfl⟩ := y
          have ht' : ∃ t0, t = [t0] := by
            match t, ht with
            | [t0], _ => exact ⟨t0, rfl⟩
          obtain ⟨t0, rfl⟩ := ht'
          have ec : x.cps.getD i 0 = c := by rw [Array.getD_eq_getD_getElem?, hc]; rfl
          have hR' := hR [some (.str ⟨#[c]⟩)] H3 rfl (Same.refl _)
          rw [ec] at hR'
          refine ⟨rfl, _, rfl, abc, _, rfl, rfl, _, _, rfl, rfl, _, rfl, ?_⟩
          cases hl : isLow c with
          | true =>
            rw [decide_eq_false (fun z => by have := (find_abc c).mp z; rw [hl] at this; cases this)]
            rw [hl] at hR'
            exact iteF hR'
          | false =>
            rw [decide_eq_true ((find_abc c).mpr hl)]
            rw [hl] at hR'
            exact iteT ⟨_, rfl, hR'⟩
        · intro D H' s1 hD hd
          rw [filt_range x.cps (fun c => !isLow c)] at hd
          refine ⟨by simp [sizeLine_eq], fun p hp => ⟨D, p, _, [], rfl, rfl, SqL.of (same_upd hp _ _ hd), SqL.of upd_same, flat_signs _, rfl, ?_⟩⟩
          have k2 := k1 _ (s1.trans (same_upd (o := .lst []) hp))
          rw [if_neg (by rintro (z | z); exact hE z; exact h8 z)] at k2
          rw [eqVs_nil, List.isEmpty_map]
          exact k2
  | non => exact iteT (iteT (k H (Same.refl _)))
  | bl _ => exact iteT (iteT (k H (Same.refl _)))
  | int _ => exact iteT (iteT (k H (Same.refl _)))
  | tup _ => exact iteT (iteT (k H (Same.refl _)))
  | lst _ => exact iteT (iteT (k H (Same.refl _)))
end
end K1
set_option Elab.async false
set_option linter.all false
set_option maxRecDepth 100000
set_option maxHeartbeats 4000000
namespace K1
open PySem L2 Kp
section
variable {P : Program} {w : World} {K : PySem.W.Frag} {mg : Str → Option Value} {base : Heap}

theorem scSL : FnScope ["_law_thing", "_law_least", "_law_one"] ["_law_thing"] (defScope sSeatsL) := ⟨rfl, rfl, rfl, by decide +kernel, rfl, by decide +kernel, by decide +kernel⟩
theorem ge_not {l : Int} {d : D} {r : List D} (h : geD l d = false) : goL (d :: r) l = false := by
  cases d with
  | int i =>
    have h' : decide (l ≤ i) = false := h
    show ((decide (l ≤ i) && decide (i ≤ 8)) && goL r (i + 1)) = false
    rw [h']; rfl
  | _ => rfl
theorem ok_seatsL {f : Addr} {fd : FuncData} (F : Fun K "_law_seats" "_law_seats" sSeatsL f fd) (T : Txt mg) (CF : Cal P w K mg base "_law_from" 1 ["_law_thing", "_law_least"] spFrom) : FnOk P w K mg base CX0 2 f fd ["_law_thing"] (spP seatsL) := by
  refine F.ok scSL spP_len (fun cdv A outer s H vs Q E hr h => ?_)
  obtain ⟨B, v, d, hB, rfl, I, k⟩ := h
  obtain ⟨g, gd, G, m, kp, b⟩ := CF.ex
  refine ⟨_, pss_cons (ps_if (PW.pt (pw_or (pt_not (pt_val (pe_callB call_isi rfl T.isi boot_isi (pa_cons (pv 0) (pa_cons (pe_ty rfl T.tuple boot_tuple) pa_nil))))) (pw_or1 (pt_cmpR op_eq (pe_callB call_len_seq rfl T.len PySem.boot_len (pa_cons (pv 0) pa_nil)) pe_int (nomark _))))) (pss_one (ps_ret pe_bl)) pss_nil)
    (pss_cons (ps_set (i := 1) scSL.nd rfl (Or.inl rfl) pe_int)
    (pss_cons (ps_for PassesOwn.never rfl (pi_tup (pv 0)) (pg_name (i := 2) scSL.nd rfl (Or.inl rfl))
      (pss_cons (ps_if (PW.pt (pw_or (pt_not (pt_val (pe_call G hr rfl m kp b .nil pass0 (pa_cons (pv 2) (pa_cons (pv 1) pa_nil))))) (pw_or1 (pt_cmpR op_gt (pv 2) pe_int (nomark _))))) (pss_one (ps_ret pe_bl)) pss_nil)
      (pss_one (ps_set (i := 1) scSL.nd rfl (Or.inl rfl) (pe_op op_add (pv 2) pe_int)))))
    (pss_one (ps_ret pe_bl)))), ?_⟩
  refine ⟨_, rfl, _, _, _, _, rfl, I.ty, kit_tup K d, _, rfl, ?_⟩
  cases d with
  | tup ds =>
    cases I with
    | @tup a xs _ ea hl r =>
    have hlen := r.length
    have k1 : ∀ H', Same H H' → Q (.bl (if ds.length = 0 then false else goL ds 0)) H' := k
    refine iteF ⟨_, rfl, a, xs, rfl, .inr (SqT.of ea), rfl, _, rfl, ?_⟩
    by_cases h0 : ds.length = 0
    · have k2 := k1 H (Same.refl _)
      rw [if_pos h0] at k2
      rw [decide_eq_true (show V.int (xs.length : Int) = V.int 0 by rw [hlen, h0]; rfl)]
      exact iteT k2
    · rw [decide_eq_false (show ¬ V.int (xs.length : Int) = V.int 0 from fun z => h0 (by have := V.int.inj z; omega))]
      have k2 : ∀ H', Same H H' → Q (.bl (goL ds 0)) H' := fun H' s' => by
        have := k1 H' s'
        rw [if_neg h0] at this
        exact this
      refine iteF ⟨_, rfl, a, rfl, ⟨xs, SqT.of ea⟩, for_tup (K := K) (a := a) (xs := xs) (fun i σ H' => ∃ l t, σ = [some (.ref a), some (.int l), t] ∧ Same H H' ∧ goL (ds.drop i) l = goL ds 0)
        ⟨0, none, rfl, Same.refl _, rfl⟩ (fun i σ H' _ ⟨_, _, _, s', _⟩ => SqT.of (s' _ _ ea)) ?_ ?_⟩
      · rintro i x σ H' hx ⟨l, t, rfl, s', e⟩
        obtain ⟨d, hd, Id⟩ := r.get hx
        have hi : i < ds.length := (List.getElem?_eq_some_iff.mp hd).1
        have edr : ds.drop i = d :: ds.drop (i + 1) := by
          rw [List.drop_eq_getElem_cons hi, (List.getElem?_eq_some_iff.mp hd).2]
        rw [edr] at e
        refine ⟨_, rfl, _, rfl, B, x, d, l, hB, rfl, Id.same s', fun H2 s2 => ⟨_, rfl, ?_⟩⟩
        cases hg : geD l d with
        | false =>
          rw [ge_not hg] at e
          have k3 := k2 H2 (s'.trans s2)
          rw [← e] at k3
          exact iteT (iteT k3)
        | true =>
          obtain ⟨j, rfl⟩ : ∃ j, d = .int j := by
            cases d with
            | int j => exact ⟨j, rfl⟩
            | _ => cases hg
          cases Id
          have hj : l ≤ j := of_decide_eq_true hg
          have e' : ((decide (l ≤ j) && decide (j ≤ 8)) && goL (ds.drop (i + 1)) (j + 1)) = goL ds 0 := e
          rw [decide_eq_true hj] at e'
          refine iteF ⟨_, rfl, _, _, rfl, rfl, _, rfl, ?_⟩
          by_cases h8 : j ≤ 8
          · rw [decide_eq_true h8] at e'
            rw [decide_eq_false (show ¬ (8 : Int) < j by omega)]
            exact iteF ⟨_, rfl, _, _, rfl, rfl, _, _, rfl, s'.trans s2, e'⟩
          · rw [decide_eq_false h8] at e'
            rw [decide_eq_true (show (8 : Int) < j by omega)]
            have k3 := k2 H2 (s'.trans s2)
            rw [← e'] at k3
            exact iteT k3
      · rintro σ H' ⟨l, t, rfl, s', e⟩
        rw [hlen, List.drop_length] at e
        have k3 := k2 H' s'
        rw [← e] at k3
        exact k3
  | non => exact iteT (iteT (k H (Same.refl _)))
  | bl _ => exact iteT (iteT (k H (Same.refl _)))
  | int _ => exact iteT (iteT (k H (Same.refl _)))
  | str _ => exact iteT (iteT (k H (Same.refl _)))
  | lst _ => exact iteT (iteT (k H (Same.refl _)))

end
end K1
set_option Elab.async false
set_option linter.all false
set_option maxRecDepth 100000
set_option maxHeartbeats 4000000
namespace K1
open PySem L2 Kp
section
variable {P : Program} {w : World} {K : PySem.W.Frag} {mg : Str → Option Value} {base : Heap}

/-! ### another thing in its place -/
def spOdd : Sp := fun vs H Q _ => ∃ B v n, vs = [v, .int n] ∧ Th B H v ∧ 16 ≤ B ∧ B ≤ 300 ∧ 0 ≤ n ∧ ∀ v' H', Th (3 * B + 2) H' v' → Same H H' → Q v' H'
theorem scO : FnScope ["_law_part", "_law_number", "_law_odd", "_law_parts", "_law_texts", "_law_k"] ["_law_part", "_law_number"] (defScope sOdd) := ⟨rfl, rfl, rfl, by decide +kernel, rfl, by decide +kernel, by decide +kernel⟩
theorem th_at {B : Nat} {H : Hp} {xs : List V} {i : Int} (h : ThL B H xs) (h0 : 0 ≤ i) (h1 : i < xs.length) : ∃ v, atI xs i = some v ∧ Th B H v := by
  obtain ⟨j, rfl⟩ := Int.eq_ofNat_of_zero_le h0
  have hj : j < xs.length := by omega
  exact ⟨xs[j], atI_nat (by simp [hj]), h.get (i := j) (by simp [hj])⟩
theorem last_at {B : Nat} {H : Hp} {xs : List V} (h : ThL B H xs) (h1 : xs ≠ []) : ∃ v, atI xs (-1) = some v ∧ Th B H v := by
  have e := (List.dropLast_concat_getLast h1).symm
  refine ⟨xs.getLast h1, ?_, ?_⟩
  · have := atI_last xs.dropLast (xs.getLast h1)
    rw [List.dropLast_concat_getLast h1] at this
    exact this
  · obtain ⟨i, hi, e⟩ := List.mem_iff_getElem.mp (List.getLast_mem h1)
    exact h.get (i := i) (by rw [List.getElem?_eq_getElem hi, e])
theorem sIx_neg1 (n d : Nat) (h : 1 ≤ n) : HT.sIx n d (some (-1)) = n - 1 := by
  have := HT.clip_eq (-1) n d
  rw [if_pos (by decide)] at this
  omega
theorem th_cut {B : Nat} {H : Hp} {xs : List V} (lo hi : Option Int) (h : ThL B H xs) : ThL B H (cutV xs lo hi) := (h.drop _).take _
/-- a test: of that kind, and the number's rest by 3 -/
def tKind (p : D → Bool) (r : Int) : TT := fun σ H Q => ∃ B v d n, σ[0]? = some (some v) ∧ Is B H v d ∧ σ[1]? = some (some (.int n)) ∧ Q (p d && decide (V.int (n % 3) = V.int r)) H
abbrev tMod3 (r : Int) : TT := tTest (tOp rEq (tOp (rI (fun _ j => 0 < j) fun i j => .int (i % j)) (tVar 1) (tC (.int 3))) (tC (.int r)))
theorem pt_kind {X : Cx} {a b : Expr} {pos : Pos} {c : String} {p : D → Bool} {r : Int} (hk : ∀ d, PySem.W.kitOne X.K (.type (tyN d)) (.type c) = some (p d)) (h1 : PT X a (tB (tCB (rIsi X.K) (tCons (tVar 0) (tCons (tC (.ty c)) tNil))))) (h2 : PT X b (tMod3 r)) :
    PT X (.BoolOp .And [a, b] pos) (tKind p r) := by
  refine PT.weak (pw_and h1 (pw_and1 h2)).pt ?_
  rintro σ H Q ⟨B, v, d, n, e0, I, e1, q⟩
  refine ⟨v, e0, _, _, _, _, rfl, I.ty, hk d, _, rfl, ?_⟩
  cases hp : p d with
  | false => rw [hp] at q; exact iteF q
  | true => rw [hp] at q; exact iteT ⟨_, e1, _, _, rfl, rfl, (by show (0 : Int) < 3; decide), rfl, _, rfl, q⟩
def lenPos : D → Bool
  | .tup ds => decide (0 < ds.length)
  | _ => false
def tKindL : TT := fun σ H Q => ∃ B v d n, σ[0]? = some (some v) ∧ Is B H v d ∧ σ[1]? = some (some (.int n)) ∧ Q (isTup d && (decide (V.int (n % 3) = V.int 1) && lenPos d)) H
theorem pt_kindL {X : Cx} {a b c : Expr} {pos : Pos} (h1 : PT X a (tB (tCB (rIsi X.K) (tCons (tVar 0) (tCons (tC (.ty "tuple")) tNil))))) (h2 : PT X b (tMod3 1))
    (h3 : PT X c (tTest (tOp (rI0 fun i j => .bl (decide (j < i))) (tCB (fun xs H Q => ∃ p ys, xs = [.ref p] ∧ (SqL X.K H p ys ∨ SqT X.K H p ys) ∧ Q (.int ys.length) H) (tCons (tVar 0) tNil)) (tC (.int 0))))) :
    PT X (.BoolOp .And [a, b, c] pos) tKindL := by
  refine PT.weak (pw_and h1 (pw_and h2 (pw_and1 h3))).pt ?_
  rintro σ H Q ⟨B, v, d, n, e0, I, e1, q⟩
  refine ⟨v, e0, _, _, _, _, rfl, I.ty, kit_tup X.K d, _, rfl, ?_⟩
  cases I with
  | @tup a xs ds ea hl r =>
    refine iteT ⟨_, e1, _, _, rfl, rfl, (by show (0 : Int) < 3; decide), rfl, _, rfl, ?_⟩
    have q' : Q (decide (V.int (n % 3) = V.int 1) && decide (0 < ds.length)) H := q
    cases hm : decide (V.int (n % 3) = V.int 1) with
    | false => rw [hm] at q'; exact iteF q'
    | true =>
      rw [hm] at q'
      refine iteT ⟨_, e0, a, xs, rfl, .inr (SqT.of ea), _, _, rfl, rfl, _, rfl, ?_⟩
      have e : decide ((0 : Int) < (xs.length : Int)) = decide (0 < ds.length) := by
        rw [r.length, Bool.eq_iff_iff]; simp
      rw [e]
      exact q'
  | non => exact iteF q
  | bl _ => exact iteF q
  | int _ => exact iteF q
  | str _ _ => exact iteF q
  | lst _ _ _ => exact iteF q

theorem small {n : Nat} (h : n ≤ 5000) : n ≤ sizeLine := by rw [sizeLine_eq]; omega
theorem small' {n : Nat} (h : n ≤ 5000) : n < sizeLine := by rw [sizeLine_eq]; omega
theorem ok_odd {f : Addr} {fd : FuncData} (F : Fun K "_law_odd_by" "_law_odd_by" sOdd f fd) (T : Txt mg) : FnOk P w K mg base CX0 1 f fd ["_law_part", "_law_number"] spOdd := by
  refine F.ok scO (fun vs H Q E ⟨_, _, _, e, _⟩ => by subst e; rfl) (fun cdv A outer s H vs Q E hr h => ?_)
  obtain ⟨B, v, n, rfl, hv, hB1, hB2, hn, k⟩ := h
  refine ⟨_, pss_cons (ps_set (i := 2) scO.nd rfl (Or.inl rfl) (pe_lst (pa_cons (pe_un un_neg pe_int) (pa_cons pe_int (pa_cons pe_int (pa_cons (pe_op op_pow pe_int pe_int) (pa_cons pe_bl (pa_cons pe_bl (pa_cons pe_non (pa_cons pe_str (pa_cons pe_str (pa_cons pe_str pa_nil))))))))))))
    (pss_cons (ps_set (i := 2) scO.nd rfl (Or.inl rfl) (pe_op op_cat (pv 2) (pe_lst (pa_cons pe_str (pa_cons pe_str (pa_cons (pe_tup pa_nil) (pa_cons (pe_lst pa_nil) (pa_cons (pe_tup (pa_cons pe_int pa_nil)) (pa_cons (pe_tup (pa_cons pe_str pa_nil)) (pa_cons pe_str pa_nil))))))))))
    (pss_cons (ps_if (pt_kind (kit_tup _) (pt_val (pe_callB call_isi rfl T.isi boot_isi (pa_cons (pv 0) (pa_cons (pe_ty rfl T.tuple boot_tuple) pa_nil)))) (pt_cmpR op_eq (pe_op op_mod (pv 1) pe_int) pe_int (nomark _)))
      (pss_one (ps_ret (pe_callTy call_list_of rfl T.list boot_list (pa_cons (pv 0) pa_nil)))) pss_nil)
    (pss_cons (ps_if (pt_kindL (pt_val (pe_callB call_isi rfl T.isi boot_isi (pa_cons (pv 0) (pa_cons (pe_ty rfl T.tuple boot_tuple) pa_nil)))) (pt_cmpR op_eq (pe_op op_mod (pv 1) pe_int) pe_int (nomark _)) (pt_cmpR op_gt (pe_callB call_len_seq rfl T.len PySem.boot_len (pa_cons (pv 0) pa_nil)) pe_int (nomark _)))
      (pss_cons (ps_set (i := 3) scO.nd rfl (Or.inl rfl) (pe_lst (pa_cons (pe_slice sl_tup (pv 0) po_none (po_some (pe_un un_neg pe_int))) (pa_cons (pe_op op_catU (pv 0) (pe_tup (pa_cons (pe_ix ix_tup (pv 0) (pe_un un_neg pe_int) (fun _ _ => rfl)) pa_nil))) (pa_cons (pe_rev (pv 0) (pe_un un_neg pe_int)) pa_nil)))))
      (pss_cons (ps_expr (pe_bm PySem.F.plainAttrs_list PySem.F.slot_list_append PySem.F.type_list_append mt_append (pv 3) (pa_cons (pe_op op_catU (pv 0) (pe_tup (pa_cons pe_int pa_nil))) pa_nil)))
      (pss_one (ps_ret (pe_ix ix_list (pv 3) (pe_op op_mod (pe_op op_fdiv (pv 1) pe_int) pe_int) (fun _ _ => rfl)))))) pss_nil)
    (pss_cons (ps_if (pt_kind (kit_bool _) (pt_val (pe_callB call_isi rfl T.isi boot_isi (pa_cons (pv 0) (pa_cons (pe_ty rfl T.bool boot_bool) pa_nil)))) (pt_cmpR op_eq (pe_op op_mod (pv 1) pe_int) pe_int (nomark _)))
      (pss_one (ps_ret (pe_callTy call_int1 rfl T.int boot_int (pa_cons (pv 0) pa_nil)))) pss_nil)
    (pss_cons (ps_if (pt_kind (kit_int _) (pt_val (pe_callB call_isi rfl T.isi boot_isi (pa_cons (pv 0) (pa_cons (pe_ty rfl T.int boot_int) pa_nil)))) (pt_cmpR op_eq (pe_op op_mod (pv 1) pe_int) pe_int (nomark _)))
      (pss_one (ps_ret (pe_ix ix_list (pe_lst (pa_cons (pe_cmpR op_eq (pv 0) pe_int (nomark _)) (pa_cons (pe_op op_sub (pv 0) pe_int) (pa_cons (pe_op op_add (pv 0) pe_int) (pa_cons (pe_un un_neg (pv 0)) pa_nil))))) (pe_op op_mod (pe_op op_fdiv (pv 1) pe_int) pe_int) (fun _ _ => rfl)))) pss_nil)
    (pss_cons (ps_if (pt_kind (kit_str _) (pt_val (pe_callB call_isi rfl T.isi boot_isi (pa_cons (pv 0) (pa_cons (pe_ty rfl T.str boot_str) pa_nil)))) (pt_cmpR op_eq (pe_op op_mod (pv 1) pe_int) pe_int (nomark _)))
      (pss_cons (ps_set (i := 4) scO.nd rfl (Or.inl rfl) (pe_lst (pa_cons (pe_op op_add_str (pv 0) pe_str) (pa_cons (pe_slice sl_str (pv 0) (po_some pe_int) po_none) (pa_cons (pe_op op_add_str (pe_slice sl_str (pv 0) po_none (po_some (pe_un un_neg pe_int))) pe_str) (pa_cons (pe_bm0 PySem.F.plainAttrs_str PySem.F.slot_str_upper PySem.F.type_str_upper mt_upper (pv 0)) (pa_cons (pe_op op_add_str (pv 0) pe_str) pa_nil)))))))
      (pss_one (ps_ret (pe_ix ix_list (pe_op op_cat (pv 4) (pe_lst (pa_cons (pe_op op_add_str pe_str (pv 0)) (pa_cons (pe_op op_add_str (pv 0) pe_str) pa_nil)))) (pe_op op_mod (pe_op op_fdiv (pv 1) pe_int) pe_int) (fun _ _ => rfl))))) pss_nil)
    (pss_cons (ps_if (pt_cmpR op_lt (pe_op op_mod (pe_op op_fdiv (pv 1) pe_int) pe_int) pe_int (nomark _)) (pss_one (ps_ret (pe_ix ix_list (pv 2) (pe_op op_mod (pe_op op_fdiv (pv 1) pe_int) pe_int) (fun _ _ => rfl)))) pss_nil)
    (pss_cons (ps_for PassesOwn.never rfl (pi_range1 rfl T.range (pa_cons pe_int pa_nil)) (pg_name (i := 5) scO.nd rfl (Or.inl rfl)) (pss_one (ps_set (i := 0) scO.nd rfl (Or.inl rfl) (pe_tup (pa_cons (pv 0) pa_nil)))))
    (pss_one (ps_ret (pv 0))))))))))), ?_⟩
  refine ⟨1, rfl, _, _, rfl, rfl, ⟨by decide, by decide, by decide⟩, small (by decide), fun p1 h1 => ?_⟩
  refine ⟨_, rfl, small (by decide), fun p2 h2 => ⟨small (by decide), fun p3 h3 => ⟨small (by decide), fun p4 h4 => ⟨small (by decide), fun p5 h5 => ⟨small (by show 7 ≤ 5000; decide), fun p6 h6 => ?_⟩⟩⟩⟩⟩
  have q2 := same_upd (o := HO.tup []) h2
  have q3 := same_upd (o := HO.lst []) h3
  have q4 := same_upd (o := HO.tup [V.int 1]) h4
  have q5 := same_upd (o := HO.tup [V.str "open"]) h5
  obtain ⟨LA, hLA⟩ : ∃ L : List V, L = [.int (-1), .int 0, .int 9, .int (10 ^ (60 : Int).toNat), .bl true, .bl false, .non, .str "", .str "a", .str "A"] := ⟨_, rfl⟩
  obtain ⟨LB, hLB⟩ : ∃ L : List V, L = [.str "abcdefghi", .str "open", .ref p2, .ref p3, .ref p4, .ref p5, .str "get"] := ⟨_, rfl⟩
  refine ⟨p1, p6, LA, LB, rfl, rfl, ?_, ?_, ?_, fun p7 h7 => ?_⟩
  · exact same_upd h6 _ _ (q5 _ _ (q4 _ _ (q3 _ _ (q2 _ _ (upd_same.trans (by rw [hLA]))))))
  · exact upd_same.trans (by rw [hLB])
  · rw [hLA, hLB]; exact small (by show 10 + 7 ≤ 5000; decide)
  have q6 := same_upd (o := HO.lst [V.str "abcdefghi", V.str "open", V.ref p2, V.ref p3, V.ref p4, V.ref p5, V.str "get"]) h6
  have q7 := same_upd (o := HO.lst (LA ++ LB)) h7
  have s7 := ((((((same_upd h1).trans q2).trans q3).trans q4).trans q5).trans q6).trans q7
  have hil : (LA ++ LB).length = 17 := by rw [hLA, hLB]; rfl
  have e2 := q7 _ _ (q6 _ _ (q5 _ _ (q4 _ _ (q3 _ _ (upd_same (a := p2) (o := HO.tup []))))))
  have e3 := q7 _ _ (q6 _ _ (q5 _ _ (q4 _ _ (upd_same (a := p3) (o := HO.lst [])))))
  have e4 := q7 _ _ (q6 _ _ (q5 _ _ (upd_same (a := p4) (o := HO.tup [V.int 1]))))
  have e5 := q7 _ _ (q6 _ _ (upd_same (a := p5) (o := HO.tup [V.str "open"])))
  obtain ⟨H7, e7, s7, hit, e2, e3, e4, e5⟩ : ∃ H7 : Hp, H7 = _ ∧ Same H H7 ∧ H7 p7 = some (.lst (LA ++ LB)) ∧ H7 p2 = some (.tup []) ∧ H7 p3 = some (.lst []) ∧ H7 p4 = some (.tup [V.int 1]) ∧ H7 p5 = some (.tup [V.str "open"]) := ⟨_, rfl, s7, upd_same, e2, e3, e4, e5⟩
  rw [← e7]
  clear e7 q2 q3 q4 q5 q6 q7 h1 h2 h3 h4 h5 h6 h7
  have hth : ThL 16 H7 (LA ++ LB) := by
    refine .append (?_ : ThL 16 _ LA) ?_
    · rw [hLA]
      exact .cons (.int _) (.cons (.int _) (.cons (.int _) (.cons (.int _) (.cons (.bl _) (.cons (.bl _) (.cons .non (.cons (.str _ (by decide +kernel)) (.cons (.str _ (by decide +kernel)) (.cons (.str _ (by decide +kernel)) .nil)))))))))
    · rw [hLB]
      exact .cons (.str _ (by decide +kernel)) (.cons (.str _ (by decide +kernel)) (.cons (.tup e2 (by decide) .nil) (.cons (.lst e3 (by decide) .nil) (.cons (.tup e4 (by decide) (.cons (.int _) .nil)) (.cons (.tup e5 (by decide) (.cons (.str _ (by decide +kernel)) .nil)) (.cons (.str _ (by decide +kernel)) .nil))))))
  obtain ⟨d, I0⟩ := hv
  have I := I0.same s7
  obtain ⟨m4a, m4b⟩ := emod_in (n / 3) (m := 4) (by decide)
  obtain ⟨m7a, m7b⟩ := emod_in (n / 3) (m := 7) (by decide)
  obtain ⟨m18a, m18b⟩ := emod_in (n / 3) (m := 18) (by decide)
  refine ⟨B, v, d, n, rfl, I, rfl, ite2 (fun c1 => ?_) (fun c1 => ?_)⟩
  · cases I with
    | @tup a xs ds ea hl r => exact ⟨_, rfl, a, xs, rfl, .inr (SqT.of ea), fun l hl' => k _ _ (Th.lst upd_same (by omega) ⟨ds, r.mono (by omega) (same_upd hl')⟩) (s7.trans (same_upd hl'))⟩
    | _ => cases c1
  refine ⟨B, v, d, n, rfl, I, rfl, ite2 (fun c2 => ?_) (fun c2 => ?_)⟩
  · cases I with
    | @tup a xs ds ea hl r =>
      have hpos : 0 < ds.length := by
        have c2' : (isTup (.tup ds) && (decide (V.int (n % 3) = V.int 1) && decide (0 < ds.length))) = true := c2
        simp only [Bool.and_eq_true, decide_eq_true_eq] at c2'
        exact c2'.2.2
      have hlen := r.length
      have hx : xs ≠ [] := fun z => by rw [z] at hlen; simp at hlen; omega
      have rT : ThL B H7 xs := ⟨ds, r⟩
      obtain ⟨lv, elv, tlv⟩ := last_at rT hx
      refine ⟨_, rfl, 1, rfl, -1, rfl, a, xs, rfl, SqT.of ea, fun z => ?_, fun p8 h8 => ?_⟩
      · have z2 := z.2
        rw [sIx_neg1 _ _ (by omega)] at z2
        omega
      have a8 := same_upd (o := HO.tup (cutV xs none (some (-1)))) h8
      refine ⟨_, rfl, _, rfl, 1, rfl, a, xs, -1, lv, rfl, rfl, SqT.of (a8 _ _ ea), elv, small (by show 1 ≤ 5000; decide), fun p9 h9 => ?_⟩
      have a9 := same_upd (o := HO.tup [lv]) h9
      refine ⟨a, p9, xs, [lv], rfl, rfl, a9 _ _ (a8 _ _ ea), upd_same, small (by show xs.length + 1 ≤ 5000; omega), fun p10 H10 e10 a10 => ?_⟩
      refine ⟨_, rfl, 1, rfl, a, xs, rfl, rfl, SqT.of (a10 _ _ (a9 _ _ (a8 _ _ ea))), fun p11 h11 => ⟨small (by show 3 ≤ 5000; decide), fun p12 h12 => ?_⟩⟩
      have a11 := same_upd (o := HO.tup xs.reverse) h11
      have a12 := same_upd (o := HO.lst [V.ref p8, V.ref p10, V.ref p11]) h12
      refine ⟨_, rfl, .inl ⟨rfl, _, SqL.of upd_same⟩, _, rfl, small (by show 1 ≤ 5000; decide), fun p13 h13 => ?_⟩
      have a13 := same_upd (o := HO.tup [V.int 0]) h13
      have a712 : Same H7 _ := (((a8.trans a9).trans a10).trans a11).trans a12
      refine ⟨a, p13, xs, [V.int 0], rfl, rfl, a13 _ _ (a712 _ _ ea), upd_same, small (by show xs.length + 1 ≤ 5000; omega), fun p14 H14 e14 a14 => ?_⟩
      have hp12 := a14 _ _ (a13 _ _ (upd_same (a := p12) (o := HO.lst [V.ref p8, V.ref p10, V.ref p11])))
      refine ⟨p12, _, _, rfl, rfl, hp12, small' (by show 3 ≤ 5000; decide), ?_⟩
      have up : ∀ b o, b ≠ p12 → H14 b = some o → upd H14 p12 (.lst ([V.ref p8, V.ref p10, V.ref p11] ++ [V.ref p14])) b = some o := fun b o ne e => by rw [upd_ne ne]; exact e
      have n8 : p8 ≠ p12 := ne_of_none (a11 _ _ (a10 _ _ (a9 _ _ (upd_same (a := p8) (o := HO.tup (cutV xs none (some (-1)))))))) h12
      have n10 : p10 ≠ p12 := ne_of_none (a11 _ _ e10) h12
      have n11 : p11 ≠ p12 := ne_of_none (upd_same (a := p11) (o := HO.tup xs.reverse)) h12
      have n14 : p14 ≠ p12 := ne_of e14 hp12 (by intro z; cases z)
      have s14 : Same H7 (upd H14 p12 (.lst ([V.ref p8, V.ref p10, V.ref p11] ++ [V.ref p14]))) := fun b o e => by
        have ne : b ≠ p12 := ne_of_none ((((a8.trans a9).trans a10).trans a11) _ _ e) h12
        exact up b o ne (a14 _ _ (a13 _ _ (a712 _ _ e)))
      have big : ∀ {ys : List V}, ThL B H7 ys → ThL (3 * B + 2) (upd H14 p12 (.lst ([V.ref p8, V.ref p10, V.ref p11] ++ [V.ref p14]))) ys := fun h => h.mono (by omega) s14
      have lc := cutV_length xs none (some (-1))
      have hth15 : ThL (3 * B + 2) (upd H14 p12 (.lst ([V.ref p8, V.ref p10, V.ref p11] ++ [V.ref p14]))) ([V.ref p8, V.ref p10, V.ref p11] ++ [V.ref p14]) :=
        .cons (.tup (up _ _ n8 (a14 _ _ (a13 _ _ (a12 _ _ (a11 _ _ (a10 _ _ (a9 _ _ upd_same))))))) (by omega) (big (th_cut _ _ rT)))
        (.cons (.tup (up _ _ n10 (a14 _ _ (a13 _ _ (a12 _ _ (a11 _ _ e10))))) (by rw [List.length_append]; show xs.length + 1 ≤ _; omega) ((big rT).append (.cons (tlv.mono (by omega) s14) .nil)))
        (.cons (.tup (up _ _ n11 (a14 _ _ (a13 _ _ (a12 _ _ upd_same)))) (by rw [List.length_reverse]; omega) (big rT.reverse))
        (.cons (.tup (up _ _ n14 e14) (by rw [List.length_append]; show xs.length + 1 ≤ _; omega) ((big rT).append (.cons (.int _) .nil))) .nil)))
      have s15 := s7.trans s14
      obtain ⟨v', ev', tv'⟩ := th_at hth15 m4a m4b
      exact ⟨_, rfl, _, rfl, _, _, rfl, rfl, ⟨by decide, by decide⟩, _, _, rfl, rfl, (by show (0 : Int) < 4; decide), p12, _, _, v', rfl, rfl, SqL.of upd_same, ev', k _ _ tv' s15⟩
    | _ => cases c2
  refine ⟨B, v, d, n, rfl, I, rfl, ite2 (fun c3 => ?_) (fun c3 => ?_)⟩
  · cases I with
    | bl b => exact ⟨_, rfl, .inr ⟨b, rfl, k _ _ (.int _) s7⟩⟩
    | _ => cases c3
  refine ⟨B, v, d, n, rfl, I, rfl, ite2 (fun c4 => ?_) (fun c4 => ?_)⟩
  · cases I with
    | int i =>
      refine ⟨_, rfl, rfl, _, rfl, _, _, rfl, rfl, _, rfl, _, _, rfl, rfl, _, rfl, _, rfl, small (by show 4 ≤ 5000; decide), fun p8 h8 => ?_⟩
      have tl : ThL (3 * B + 2) (upd H7 p8 (.lst [V.bl (decide (V.int i = V.int 1)), V.int (i - 1), V.int (i + 1), V.int (-i)])) [V.bl (decide (V.int i = V.int 1)), V.int (i - 1), V.int (i + 1), V.int (-i)] := .cons (.bl _) (.cons (.int _) (.cons (.int _) (.cons (.int _) .nil)))
      obtain ⟨v', ev', tv'⟩ := th_at tl m4a m4b
      exact ⟨_, rfl, _, _, rfl, rfl, ⟨by decide, by decide⟩, _, _, rfl, rfl, (by show (0 : Int) < 4; decide), p8, _, _, v', rfl, rfl, SqL.of upd_same, ev', k _ _ tv' (s7.trans (same_upd h8))⟩
    | bl b =>
      have : decide (V.int (n % 3) = V.int 0) = true := by
        have c4' : (isInt (.bl b) && decide (V.int (n % 3) = V.int 0)) = true := c4
        rw [Bool.and_eq_true] at c4'
        exact c4'.2
      exact absurd (show (isBool (.bl b) && decide (V.int (n % 3) = V.int 0)) = true by rw [this]; rfl) c3
    | _ => cases c4
  refine ⟨B, v, d, n, rfl, I, rfl, ite2 (fun c5 => ?_) (fun c5 => ?_)⟩
  · cases I with
    | str x hx =>
      have b1 : ("b" : Str).length = 1 := by decide +kernel
      have b2 : ("_" : Str).length = 1 := by decide +kernel
      have b3 : ("\t" : Str).length = 1 := by decide +kernel
      have b4 : (" " : Str).length = 1 := by decide +kernel
      have b5 : ("\n" : Str).length = 1 := by decide +kernel
      refine ⟨_, rfl, x, _, rfl, rfl, small (by rw [b1]; omega), _, rfl, 1, rfl, x, rfl, small (by omega), fun y1 hy1 _ => ?_⟩
      refine ⟨_, rfl, 1, rfl, -1, rfl, x, rfl, small (by omega), fun y2 hy2 _ => ⟨_, _, rfl, rfl, small (by rw [b2]; omega), ?_⟩⟩
      refine ⟨_, rfl, rfl, x, rfl, rfl, by omega, fun hu => ?_⟩
      refine ⟨_, rfl, x, _, rfl, rfl, small (by rw [b3]; omega), small (by show 5 ≤ 5000; decide), fun p8 h8 => ?_⟩
      refine ⟨_, rfl, _, rfl, _, _, rfl, rfl, small (by rw [b4]; omega), _, rfl, _, _, rfl, rfl, small (by rw [b5]; omega), small (by show 2 ≤ 5000; decide), fun p9 h9 => ?_⟩
      obtain ⟨L1, hL1⟩ : ∃ L : List V, L = [.str (x ++ "b"), .str y1, .str (y2 ++ "_"), .str (Txt.upper x), .str (x ++ "\t")] := ⟨_, rfl⟩
      obtain ⟨L2', hL2⟩ : ∃ L : List V, L = [.str (" " ++ x), .str (x ++ "\n")] := ⟨_, rfl⟩
      refine ⟨p8, p9, L1, L2', rfl, rfl, same_upd h9 _ _ (upd_same.trans (by rw [hL1])), upd_same.trans (by rw [hL2]), by rw [hL1, hL2]; exact small (by show 5 + 2 ≤ 5000; decide), fun p10 h10 => ?_⟩
      have s10 := (s7.trans (same_upd (o := HO.lst _) h8)).trans ((same_upd (o := HO.lst _) h9).trans (same_upd (o := HO.lst (L1 ++ L2')) h10))
      have hLl : (L1 ++ L2').length = 7 := by rw [hL1, hL2]; rfl
      obtain ⟨H10, e10, s10, hit10⟩ : ∃ H10 : Hp, H10 = _ ∧ Same H H10 ∧ H10 p10 = some (.lst (L1 ++ L2')) := ⟨_, rfl, s10, upd_same⟩
      rw [← e10]
      have hLt : ThL (3 * B + 2) H10 (L1 ++ L2') := by
        rw [hL1, hL2]
        exact .cons (.str _ (by rw [app_len, b1]; omega)) (.cons (.str _ (by omega)) (.cons (.str _ (by rw [app_len, b2]; omega)) (.cons (.str _ (by omega)) (.cons (.str _ (by rw [app_len, b3]; omega)) (.cons (.str _ (by rw [app_len, b4]; omega)) (.cons (.str _ (by rw [app_len, b5]; omega)) .nil))))))
      obtain ⟨v', ev', tv'⟩ := th_at hLt m7a (by rw [hLl]; exact m7b)
      exact ⟨_, rfl, _, _, rfl, rfl, ⟨by decide, by decide⟩, _, _, rfl, rfl, (by show (0 : Int) < 7; decide), p10, _, _, v', rfl, rfl, SqL.of hit10, ev', k _ _ tv' s10⟩
    | _ => cases c5
  refine ⟨_, rfl, _, _, rfl, rfl, ⟨by decide, by decide⟩, _, _, rfl, rfl, (by show (0 : Int) < 18; decide), _, _, rfl, rfl, _, rfl, ite2 (fun c6 => ?_) (fun c6 => ?_)⟩
  · have c6' : n / 3 % 18 < 17 := of_decide_eq_true c6
    obtain ⟨v', ev', tv'⟩ := th_at hth m18a (by rw [hil]; exact c6')
    exact ⟨_, rfl, _, rfl, _, _, rfl, rfl, ⟨by decide, by decide⟩, _, _, rfl, rfl, (by show (0 : Int) < 18; decide), p7, _, _, v', rfl, rfl, SqL.of hit, ev', k _ _ (tv'.mono (by omega) (Same.refl _)) s7⟩
  · refine ⟨90, rfl, by decide, by decide, for_range (n := 90) (fun i σ H' => ∃ u t, σ = [some u, some (.int n), some (.ref p7), none, none, t] ∧ Th (3 * B + 2) H' u ∧ Same H H') ⟨v, none, rfl, ⟨d, I.mono (by omega) (Same.refl _)⟩, s7⟩ ?_ ?_⟩
    · rintro i σ H' hi ⟨u, t, rfl, tu, s'⟩
      refine ⟨_, rfl, small (by show 1 ≤ 5000; decide), fun p8 h8 => ⟨_, _, rfl, ?_, s'.trans (same_upd h8)⟩⟩
      exact .tup upd_same (by show 1 ≤ _; omega) (.cons (tu.mono (Nat.le_refl _) (same_upd h8)) .nil)
    · rintro σ H' ⟨u, t, rfl, tu, s'⟩
      exact ⟨_, rfl, k _ _ tu s'⟩
end
end K1
set_option Elab.async false
set_option linter.all false
set_option maxRecDepth 100000
set_option maxHeartbeats 4000000
namespace K1
open PySem L2 Kp
section
variable {P : Program} {w : World} {K : PySem.W.Frag} {mg : Str → Option Value} {base : Heap}

def spSpoilt (dp : Int) : Sp := fun vs H Q _ => ∃ B v n, vs = [v, .int n, .int dp] ∧ Th B H v ∧ 16 ≤ B ∧ B ≤ 300 ∧ 0 ≤ n ∧ ∀ v' H', Th (3 * B + 2) H' v' → Same H H' → Q v' H'
theorem scSp : FnScope ["_law_thing", "_law_number", "_law_deep", "_law_at", "_law_part"] ["_law_thing", "_law_number", "_law_deep"] (defScope sSpoilt) := ⟨rfl, rfl, rfl, by decide +kernel, rfl, by decide +kernel, by decide +kernel⟩
/-- the test of spoilt: where it is False the thing is a tuple that is not empty, and the depth is not 0 -/
def tSp : TT := fun σ H Q => ∃ B v d n dp, σ[0]? = some (some v) ∧ Is B H v d ∧ σ[1]? = some (some (.int n)) ∧ σ[2]? = some (some (.int dp)) ∧
  ∀ c : Bool, (c = false → dp ≠ 0 ∧ ∃ a xs, v = .ref a ∧ H a = some (.tup xs) ∧ xs ≠ [] ∧ xs.length ≤ B ∧ ThL B H xs) → Q c H
theorem pt_sp {X : Cx} {a b c e : Expr} {pos : Pos} (h1 : PT X a (tTest (tOp rEq (tVar 2) (tC (.int 0))))) (h2 : PT X b (tNot (tB (tCB (rIsi X.K) (tCons (tVar 0) (tCons (tC (.ty "tuple")) tNil))))))
    (h3 : PT X c (tTest (tOp rEq (tCB (fun xs H Q => ∃ p ys, xs = [.ref p] ∧ (SqL X.K H p ys ∨ SqT X.K H p ys) ∧ Q (.int ys.length) H) (tCons (tVar 0) tNil)) (tC (.int 0)))))
    (h4 : PT X e (tTest (tOp rEq (tOp (rI (fun _ j => 0 < j) fun i j => .int (i % j)) (tVar 1) (tC (.int 7))) (tC (.int 0))))) : PT X (.BoolOp .Or [a, b, c, e] pos) tSp := by
  refine PT.weak (PW.pt (pw_or h1 (pw_or h2 (pw_or h3 (pw_or1 h4))))) ?_
  rintro σ H Q ⟨B, v, d, n, dp, e0, I, e1, e2, q⟩
  have qt := q true (fun z => by cases z)
  refine ⟨_, e2, rfl, _, rfl, ?_⟩
  by_cases hd : dp = 0
  · rw [decide_eq_true (show V.int dp = V.int 0 by rw [hd])]
    exact iteT qt
  · rw [decide_eq_false (fun z => hd (V.int.inj z))]
    refine iteF ⟨_, e0, _, _, _, _, rfl, I.ty, kit_tup X.K d, _, rfl, ?_⟩
    cases I with
    | @tup a xs ds ea hl r =>
      refine iteF ⟨_, e0, a, xs, rfl, .inr (SqT.of ea), rfl, _, rfl, ?_⟩
      by_cases hx : xs = []
      · rw [decide_eq_true (show V.int (xs.length : Int) = V.int 0 by rw [hx]; rfl)]
        exact iteT qt
      · rw [decide_eq_false (fun z => hx (List.eq_nil_of_length_eq_zero (by have := V.int.inj z; omega)))]
        exact iteF ⟨_, e1, _, _, rfl, rfl, (by show (0 : Int) < 7; decide), rfl, _, rfl, q _ (fun _ => ⟨hd, a, xs, rfl, ea, hx, hl, ⟨ds, r⟩⟩)⟩
    | non => exact iteT qt
    | bl _ => exact iteT qt
    | int _ => exact iteT qt
    | str _ _ => exact iteT qt
    | lst _ _ _ => exact iteT qt

theorem ok_spoilt0 {f : Addr} {fd : FuncData} (F : Fun K "_law_spoilt" "_law_spoilt" sSpoilt f fd) (T : Txt mg) (CO : Cal P w K mg base "_law_odd_by" 1 ["_law_part", "_law_number"] spOdd) : FnOk P w K mg base CX0 2 f fd ["_law_thing", "_law_number", "_law_deep"] (spSpoilt 0) := by
  refine F.ok scSp (fun vs H Q E ⟨_, _, _, e, _⟩ => by subst e; rfl) (fun cdv A outer s H vs Q E hr h => ?_)
  obtain ⟨B, v, n, rfl, hv, hB1, hB2, hn, k⟩ := h
  obtain ⟨g, gd, G, m, kp, b⟩ := CO.ex
  refine ⟨_, pss_cons (ps_if (pt_sp (pt_cmpR op_eq (pv 2) pe_int (nomark _)) (pt_not (pt_val (pe_callB call_isi rfl T.isi boot_isi (pa_cons (pv 0) (pa_cons (pe_ty rfl T.tuple boot_tuple) pa_nil))))) (pt_cmpR op_eq (pe_callB call_len_seq rfl T.len PySem.boot_len (pa_cons (pv 0) pa_nil)) pe_int (nomark _)) (pt_cmpR op_eq (pe_op op_mod (pv 1) pe_int) pe_int (nomark _)))
    (pss_one (ps_ret (pe_call G hr rfl m kp b .nil pass0 (pa_cons (pv 0) (pa_cons (pe_op op_fdiv (pv 1) pe_int) pa_nil))))) pss_nil) pss_never, ?_⟩
  obtain ⟨d, I⟩ := id hv
  refine ⟨B, v, d, n, 0, rfl, I, rfl, rfl, fun c hc => ?_⟩
  cases c with
  | false => exact absurd rfl (hc rfl).1
  | true => exact iteT ⟨_, rfl, _, rfl, _, _, rfl, rfl, ⟨by decide, by decide⟩, B, v, n / 7, rfl, hv, hB1, hB2, Int.ediv_nonneg hn (by decide), k⟩

theorem ok_spoilt {f : Addr} {fd : FuncData} {kk : Nat} {dp : Int} (F : Fun K "_law_spoilt" "_law_spoilt" sSpoilt f fd) (T : Txt mg) (hk : 1 ≤ kk) (CO : Cal P w K mg base "_law_odd_by" 1 ["_law_part", "_law_number"] spOdd)
    (IH : Cal P w K mg base "_law_spoilt" kk ["_law_thing", "_law_number", "_law_deep"] (spSpoilt (dp - 1))) : FnOk P w K mg base CX0 (kk + 1) f fd ["_law_thing", "_law_number", "_law_deep"] (spSpoilt dp) := by
  refine F.ok scSp (fun vs H Q E ⟨_, _, _, e, _⟩ => by subst e; rfl) (fun cdv A outer s H vs Q E hr h => ?_)
  obtain ⟨B, v, n, rfl, hv, hB1, hB2, hn, k⟩ := h
  obtain ⟨g, gd, G, m, kp, b⟩ := CO.ex
  obtain ⟨g2, gd2, G2, m2, kp2, b2⟩ := IH.ex
  refine ⟨_, pss_cons (ps_if (pt_sp (pt_cmpR op_eq (pv 2) pe_int (nomark _)) (pt_not (pt_val (pe_callB call_isi rfl T.isi boot_isi (pa_cons (pv 0) (pa_cons (pe_ty rfl T.tuple boot_tuple) pa_nil))))) (pt_cmpR op_eq (pe_callB call_len_seq rfl T.len PySem.boot_len (pa_cons (pv 0) pa_nil)) pe_int (nomark _)) (pt_cmpR op_eq (pe_op op_mod (pv 1) pe_int) pe_int (nomark _)))
      (pss_one (ps_ret (pe_call G (hr.mono hk) rfl m kp b .nil pass0 (pa_cons (pv 0) (pa_cons (pe_op op_fdiv (pv 1) pe_int) pa_nil))))) pss_nil)
    (pss_cons (ps_set (i := 3) scSp.nd rfl (Or.inl rfl) (pe_op op_mod (pe_op op_fdiv (pv 1) pe_int) (pe_callB call_len_seq rfl T.len PySem.boot_len (pa_cons (pv 0) pa_nil))))
    (pss_cons (ps_set (i := 4) scSp.nd rfl (Or.inl rfl) (pe_call G2 hr rfl m2 kp2 b2 .nil pass0 (pa_cons (pe_ix ix_tup (pv 0) (pv 3) (fun _ _ => rfl)) (pa_cons (pe_op op_fdiv (pe_op op_fdiv (pv 1) pe_int) (pe_callB call_len_seq rfl T.len PySem.boot_len (pa_cons (pv 0) pa_nil))) (pa_cons (pe_op op_sub (pv 2) pe_int) pa_nil)))))
    (pss_one (ps_ret (pe_op op_catU (pe_op op_catU (pe_slice sl_tup (pv 0) po_none (po_some (pv 3))) (pe_tup (pa_cons (pv 4) pa_nil))) (pe_slice sl_tup (pv 0) (po_some (pe_op op_add (pv 3) pe_int)) po_none)))))), ?_⟩
  obtain ⟨d, I⟩ := id hv
  refine ⟨B, v, d, n, dp, rfl, I, rfl, rfl, fun c hc => ?_⟩
  cases c with
  | true => exact iteT ⟨_, rfl, _, rfl, _, _, rfl, rfl, ⟨by decide, by decide⟩, B, v, n / 7, rfl, hv, hB1, hB2, Int.ediv_nonneg hn (by decide), k⟩
  | false =>
    obtain ⟨hd0, a, xs, rfl, ea, hx, hl, hth⟩ := hc rfl
    have hpos : 0 < xs.length := List.length_pos_iff.mpr hx
    have hposI : (0 : Int) < (xs.length : Int) := by omega
    obtain ⟨a0, a1⟩ := emod_in (n / 7) hposI
    obtain ⟨j, hj⟩ := Int.eq_ofNat_of_zero_le a0
    have hjl : j < xs.length := by omega
    obtain ⟨tv, etv, ttv⟩ := th_at hth a0 a1
    refine iteF ⟨_, rfl, _, _, rfl, rfl, ⟨by decide, by decide⟩, _, rfl, a, xs, rfl, .inr (SqT.of ea), _, _, rfl, rfl, hposI, ?_⟩
    refine ⟨_, rfl, _, rfl, a, xs, _, tv, rfl, rfl, SqT.of ea, etv, _, rfl, _, _, rfl, rfl, ⟨by decide, by decide⟩, _, rfl, a, xs, rfl, .inr (SqT.of ea), _, _, rfl, rfl, ⟨hposI, by omega⟩, _, rfl, _, _, rfl, rfl, B, tv, _, rfl, ttv, hB1, hB2, Int.ediv_nonneg (Int.ediv_nonneg hn (by decide)) (by omega), fun v2 H2 t2 s2 => ?_⟩
    refine ⟨_, rfl, _, rfl, _, rfl, a, xs, rfl, SqT.of (s2 _ _ ea), fun z => ?_, fun p1 h1 => ?_⟩
    · have z2 : HT.sIx xs.length xs.length (some (n / 7 % (xs.length : Int))) = xs.length := z.2
      rw [hj, HT.sIx_nat] at z2
      omega
    have q1 := same_upd (o := HO.tup (cutV xs none (some (n / 7 % (xs.length : Int))))) h1
    have l1 := cutV_length xs none (some (n / 7 % (xs.length : Int)))
    refine ⟨_, rfl, small (by show 1 ≤ 5000; decide), fun p2 h2 => ?_⟩
    have q2 := same_upd (o := HO.tup [v2]) h2
    refine ⟨p1, p2, _, [v2], rfl, rfl, q2 _ _ upd_same, upd_same, small (by show (cutV xs none (some (n / 7 % (xs.length : Int)))).length + 1 ≤ 5000; omega), fun p3 H3 e3 q3 => ?_⟩
    refine ⟨_, rfl, _, rfl, _, _, rfl, rfl, _, rfl, a, xs, rfl, SqT.of (q3 _ _ (q2 _ _ (q1 _ _ (s2 _ _ ea)))), fun z => ?_, fun p4 h4 => ?_⟩
    · have z1 : HT.sIx xs.length 0 (some (n / 7 % (xs.length : Int) + 1)) = 0 := z.1
      have e : n / 7 % (xs.length : Int) + 1 = ((j + 1 : Nat) : Int) := by omega
      rw [e, HT.sIx_nat] at z1
      omega
    have q4 := same_upd (o := HO.tup (cutV xs (some (n / 7 % (xs.length : Int) + 1)) none)) h4
    have l4 := cutV_length xs (some (n / 7 % (xs.length : Int) + 1)) none
    refine ⟨p3, p4, _, _, rfl, rfl, q4 _ _ e3, upd_same, small (by rw [List.length_append]; show (cutV xs none (some (n / 7 % (xs.length : Int)))).length + 1 + (cutV xs (some (n / 7 % (xs.length : Int) + 1)) none).length ≤ 5000; omega), fun p5 H5 e5 q5 => ?_⟩
    have sAll : Same H2 H5 := ((q1.trans q2).trans q3).trans (q4.trans q5)
    refine k _ _ (Th.tup e5 ?_ ?_) (s2.trans sAll)
    · rw [List.length_append, List.length_append]
      show (cutV xs none (some (n / 7 % (xs.length : Int)))).length + 1 + (cutV xs (some (n / 7 % (xs.length : Int) + 1)) none).length ≤ 3 * B + 2
      omega
    · have big : ∀ lo hi, ThL (3 * B + 2) H5 (cutV xs lo hi) := fun lo hi => (th_cut lo hi hth).mono (by omega) (s2.trans sAll)
      exact ((big _ _).append (.cons (t2.mono (Nat.le_refl _) sAll) .nil)).append (big _ _)
end
end K1
set_option Elab.async false
set_option linter.all false
set_option maxRecDepth 100000
set_option maxHeartbeats 4000000
namespace K1
open PySem L2 Kp
section
variable {P : Program} {w : World} {K : PySem.W.Frag} {mg : Str → Option Value} {base : Heap}

/-! ### is_from_one -/
theorem scF1 : FnScope ["thing"] ["thing"] (defScope s_is_from_one) := ⟨rfl, rfl, rfl, by decide +kernel, rfl, by decide +kernel, by decide +kernel⟩
theorem ge_whole {l : Int} {d : D} (h : whole d = false) : geD l d = false := by
  cases d with
  | int i => cases h
  | _ => rfl
theorem ok_from_one {f : Addr} {fd : FuncData} (F : Fun K "is_from_one" "is_from_one" s_is_from_one f fd) (T : Txt mg) (CW : Cal P w K mg base "is_whole" 1 ["thing"] (spP whole)) : FnOk P w K mg base CX0 2 f fd ["thing"] (spP (geD 1)) := by
  refine F.ok scF1 spP_len (fun cdv A outer s H vs Q E hr h => ?_)
  obtain ⟨B, v, d, hB, rfl, I, k⟩ := h
  obtain ⟨g, gd, G, m, kp, b⟩ := CW.ex
  refine ⟨_, pss_one (ps_ret (pe_and (pe_call G hr rfl m kp b .nil pass0 (pa_cons (pv 0) pa_nil)) (pe_one (pe_cmpR op_ge (pv 0) pe_int (nomark _))))), ?_⟩
  refine ⟨_, rfl, B, v, d, hB, rfl, I, fun H' s' => ⟨_, rfl, ?_⟩⟩
  have k0 := k H' s'
  cases e : whole d with
  | false => rw [ge_whole e] at k0; exact iteF k0
  | true =>
    obtain ⟨i, rfl⟩ := whole_int e
    cases I
    exact iteT ⟨_, rfl, _, _, rfl, rfl, k0⟩

/-! ### fits -/
def spFits (P : Program) (w : World) (K : PySem.W.Frag) (mg : Str → Option Value) (base : Heap) (kk : Nat) : Sp := fun vs H Q _ => ∃ B v d t gs ps, B ≤ 1000 ∧ vs = [v, .ref t] ∧ Is B H v d ∧ SqT K H t gs ∧ Tls P w K mg base kk gs ps ∧ gs.length ≤ 1000 ∧ ∀ H', Same H H' → Q (.bl (fitsD ps d)) H'
theorem scFi : FnScope ["thing", "tellers"] ["thing", "tellers"] (defScope s_fits) := ⟨rfl, rfl, rfl, by decide +kernel, rfl, by decide +kernel, by decide +kernel⟩
theorem SqT.same {H H' : Hp} {a : Addr} {xs : List V} (h : SqT K H a xs) (s : Same H H') : SqT K H' a xs := by
  rcases h with h | h
  · exact .inl (h.elim (fun e => .inl (s _ _ e)) fun ⟨o, e⟩ => .inr ⟨o, s _ _ e⟩)
  · exact .inr h
theorem ok_fits {f : Addr} {fd : FuncData} {kk : Nat} (F : Fun K "fits" "fits" s_fits f fd) (T : Txt mg) : FnOk P w K mg base CX0 (kk + 1) f fd ["thing", "tellers"] (spFits P w K mg base kk) := by
  refine F.ok scFi (fun vs H Q E ⟨_, _, _, _, _, _, _, e, _⟩ => by subst e; rfl) (fun cdv A outer s H vs Q E hr h => ?_)
  obtain ⟨B, v, d, t, gs, ps, hB, rfl, I, hS, hT, hg, k⟩ := h
  refine ⟨_, pss_cons (ps_if (PW.pt (pw_or (pt_not (pt_val (pe_callB call_isi rfl T.isi boot_isi (pa_cons (pv 0) (pa_cons (pe_ty rfl T.tuple boot_tuple) pa_nil))))) (pw_or1 (pt_cmpR op_ne (pe_callB call_len_seq rfl T.len PySem.boot_len (pa_cons (pv 0) pa_nil)) (pe_callB call_len_seq rfl T.len PySem.boot_len (pa_cons (pv 1) pa_nil)) (nomark _))))) (pss_one (ps_ret pe_bl)) pss_nil)
    (pss_one (ps_ret (pe_callB (call_all rfl) rfl T.all boot_allB (pa_cons (pe_comp (NB := ["teller", "part"]) (n := 2) (fr := []) (compOk0 (outer := defScope s_fits) rfl (by decide +kernel) rfl) rfl
      (pi_zip (t1 := true) (t2 := true) rfl T.zip (pa_cons (pv 1) (pa_cons (pv 0) pa_nil)))
      (fun _ _ _ _ _ => pg_tupK (K := K) (n := 2) rfl rfl (pgs_cons (pg_name (i := 0) (show (["teller", "part"] : List Str).Nodup by decide +kernel) rfl (Or.inl rfl)) (pgs_cons (pg_name (i := 1) (show (["teller", "part"] : List Str).Nodup by decide +kernel) rfl (Or.inl rfl)) pgs_nil))) (fun _ _ _ _ _ => pifs_nil)
      (fun _ _ _ _ _ => pe_callR (P := P) (w := w) (K := K) (mg := mg) (base := base) (k := kk) rfl rfl rfl rfl rfl hr pass0 (pv 0) (pa_cons (pv 1) pa_nil))) pa_nil)))), ?_⟩
  refine ⟨_, rfl, _, _, _, _, rfl, I.ty, kit_tup K d, _, rfl, ?_⟩
  have hlt := hT.length
  cases d with
  | tup ds =>
    cases I with
    | @tup a xs _ ea hl r =>
    have hlen := r.length
    have k1 : ∀ H', Same H H' → Q (.bl (fitsL ps ds)) H' := k
    refine iteF ⟨_, rfl, a, xs, rfl, .inr (SqT.of ea), _, rfl, t, gs, rfl, .inr hS, rfl, _, rfl, ?_⟩
    by_cases hne : ds.length = ps.length
    · rw [show (!decide (V.int (xs.length : Int) = V.int (gs.length : Int))) = false by rw [hlen, hne, hlt]; simp]
      refine iteF ⟨_, rfl, _, rfl, t, a, gs, xs, rfl, hS, SqT.of ea, comp_pure (J := Itz K true true t a) (k := 2) (n := ps.length) (fun _ => true) (fun i => .bl ((ps.getD i fun _ => true) (ds.getD i .non))) (by rw [sizeLine_eq]; omega) ?_ ?_ ?_ ?_⟩
      · intro i H2 hi s1
        have i1 : i < gs.length := by omega
        have i2 : i < xs.length := by omega
        exact ⟨gs, xs, gs[i], xs[i], SqT.same hS s1, SqT.of (s1 _ _ ea), by simp [i1], by simp [i2]⟩
      · intro H2 s1
        exact ⟨gs, xs, SqT.same hS s1, SqT.of (s1 _ _ ea), .inl (by omega)⟩
      · intro i H2 tt v H3 R hi s1 ht y hR
        obtain ⟨q, x, y, rfl, hq, rfl, e1, e2⟩ := y
        have e1' := e1 _ (SqT.same hS s1)
        have e2' := e2 _ (SqT.of (s1 _ _ ea))
        obtain ⟨g, p, rfl, hp, Tg⟩ := hT.get e1'
        obtain ⟨di, hdi, Ii⟩ := r.get e2'
        have ht' : ∃ t0 t1, tt = [t0, t1] := by
          match tt, ht with
          | [t0, t1], _ => exact ⟨t0, t1, rfl⟩
        obtain ⟨t0, t1, rfl⟩ := ht'
        refine ⟨q, _, rfl, SqT.of upd_same, rfl, _, _, rfl, _, _, rfl, rfl, ⟨_, rfl, g, p, rfl, Tg, _, rfl, B, y, di, hB, rfl, (Ii.same s1).same (same_upd hq), fun H' s2 => ?_⟩⟩
        have hR' := hR [some (.ref g), some y] H' rfl ((same_upd (o := .tup [.ref g, y]) hq).trans s2)
        have g1 : (ps.getD i fun _ => true) = p := by rw [List.getD_eq_getElem?_getD, hp]; rfl
        have g2 : ds.getD i .non = di := by rw [List.getD_eq_getElem?_getD, hdi]; rfl
        rw [g1, g2] at hR'
        exact hR'
      · intro D H' s1 hD hd
        refine ⟨D, (List.range ps.length).map fun i => (ps.getD i fun _ => true) (ds.getD i .non), rfl, SqL.of ?_, ?_⟩
        · rw [hd, List.filter_eq_self.mpr (fun _ _ => rfl), List.map_map]
          rfl
        · rw [fitsL_range hne]
          exact k1 H' s1
    · rw [show (!decide (V.int (xs.length : Int) = V.int (gs.length : Int))) = true by rw [decide_eq_false (fun z => hne (by have := V.int.inj z; omega))]; rfl]
      have k2 := k1 H (Same.refl _)
      rw [fitsL_len hne] at k2
      exact iteT k2
  | non => exact iteT (iteT (k H (Same.refl _)))
  | bl _ => exact iteT (iteT (k H (Same.refl _)))
  | int _ => exact iteT (iteT (k H (Same.refl _)))
  | str _ => exact iteT (iteT (k H (Same.refl _)))
  | lst _ => exact iteT (iteT (k H (Same.refl _)))

theorem _root_.Kp.Cal.tl {name : Str} {k kk : Nat} {px : Str} {p : D → Bool} {g : Addr} (C : Cal P w K mg base name k [px] (spP p)) (hm : mg name = some (.ref g)) (hk : k ≤ kk) : Tl P w K mg base kk g p := by
  obtain ⟨f, fd, F, m, kp, b⟩ := C.ex
  rw [hm] at m
  cases m
  exact ⟨k, fd, px, hk, F, kp, b⟩
theorem _root_.Kp.Cal.at {name : Str} {k : Nat} {px : Str} {p : D → Bool} (C : Cal P w K mg base name k [px] (spP p)) : ∃ g, mg name = some (.ref g) ∧ ∀ kk, k ≤ kk → Tl P w K mg base kk g p := by
  obtain ⟨f, fd, F, m, kp, b⟩ := id C.ex
  exact ⟨f, m, fun kk h => C.tl m h⟩
end
end K1
set_option Elab.async false
set_option linter.all false
set_option maxRecDepth 100000
set_option maxHeartbeats 4000000
namespace K1
open PySem L2 Kp
section
variable {P : Program} {w : World} {K : PySem.W.Frag} {mg : Str → Option Value} {base : Heap}
/-! ### first_word -/
def spWord : Sp := fun vs H Q _ => ∃ B v d, B ≤ 1000 ∧ vs = [v] ∧ Is B H v d ∧ Q (.str (wordD d)) H
theorem scFW : FnScope ["thing"] ["thing"] (defScope s_first_word) := ⟨rfl, rfl, rfl, by decide +kernel, rfl, by decide +kernel, by decide +kernel⟩
theorem word_nostr {d : D} {r : List D} (h : isStr d = false) : wordD (.tup (d :: r)) = "" := by
  cases d with
  | str x => cases h
  | _ => rfl
theorem isStr_inv {d : D} (h : isStr d = true) : ∃ x, d = .str x := by
  cases d with
  | str x => exact ⟨x, rfl⟩
  | _ => cases h
theorem ok_first_word {f : Addr} {fd : FuncData} (F : Fun K "first_word" "first_word" s_first_word f fd) (T : Txt mg) : FnOk P w K mg base CX0 1 f fd ["thing"] spWord := by
  refine F.ok scFW (fun vs H Q E ⟨_, _, _, _, e, _⟩ => by subst e; rfl) (fun cdv A outer s H vs Q E hr h => ?_)
  obtain ⟨B, v, d, hB, rfl, I, k⟩ := h
  refine ⟨_, pss_cons (ps_if (PW.pt (pw_and (pt_val (pe_callB call_isi rfl T.isi boot_isi (pa_cons (pv 0) (pa_cons (pe_ty rfl T.tuple boot_tuple) pa_nil)))) (pw_and (pt_cmpR op_ge (pe_callB call_len_seq rfl T.len PySem.boot_len (pa_cons (pv 0) pa_nil)) pe_int (nomark _)) (pw_and1 (pt_val (pe_callB call_isi rfl T.isi boot_isi (pa_cons (pe_ix ix_tup (pv 0) pe_int (fun _ _ => rfl)) (pa_cons (pe_ty rfl T.str boot_str) pa_nil)))))))) (pss_one (ps_ret (pe_ix ix_tup (pv 0) pe_int (fun _ _ => rfl)))) pss_nil)
    (pss_one (ps_ret pe_str)), ?_⟩
  refine ⟨_, rfl, _, _, _, _, rfl, I.ty, kit_tup K d, _, rfl, ?_⟩
  cases d with
  | tup ds =>
    cases I with
    | @tup a xs _ ea hl r =>
    refine iteT ⟨_, rfl, a, xs, rfl, .inr (SqT.of ea), _, _, rfl, rfl, _, rfl, ?_⟩
    cases r with
    | nil => exact iteF (iteF k)
    | @cons x d0 xs0 ds0 Ix It =>
      rw [decide_eq_true (show (1 : Int) ≤ (((x :: xs0).length : Nat) : Int) by simp; omega)]
      refine iteT ⟨_, rfl, a, _, 0, x, rfl, rfl, SqT.of ea, atI_nat (j := 0) rfl, _, _, _, _, rfl, Ix.ty, kit_str K d0, _, rfl, ?_⟩
      cases hs : isStr d0 with
      | false =>
        rw [word_nostr hs] at k
        exact iteF k
      | true =>
        obtain ⟨y, rfl⟩ := isStr_inv hs
        cases Ix
        exact iteT ⟨_, rfl, a, _, 0, _, rfl, rfl, SqT.of ea, atI_nat (j := 0) rfl, k⟩
  | non => exact iteF (iteF k)
  | bl _ => exact iteF (iteF k)
  | int _ => exact iteF (iteF k)
  | str _ => exact iteF (iteF k)
  | lst _ => exact iteF (iteF k)

/-! ### fits_behind_word -/
def spFbw (P : Program) (w : World) (K : PySem.W.Frag) (mg : Str → Option Value) (base : Heap) (kk : Nat) : Sp := fun vs H Q _ => ∃ B v d tv, B ≤ 1000 ∧ vs = [v, tv] ∧ Is B H v d ∧
  ((tv = .non ∧ Q (.bl false) H) ∨ ∃ t gs ps d0 ds, tv = .ref t ∧ d = .tup (d0 :: ds) ∧ SqT K H t gs ∧ Tls P w K mg base kk gs ps ∧ gs.length ≤ 1000 ∧ ∀ H', Same H H' → Q (.bl (fitsL ps ds)) H')
theorem scFb : FnScope ["thing", "tellers"] ["thing", "tellers"] (defScope s_fits_behind_word) := ⟨rfl, rfl, rfl, by decide +kernel, rfl, by decide +kernel, by decide +kernel⟩
theorem cut_one (x : V) (xs : List V) : cutV (x :: xs) (some 1) none = xs := by
  unfold cutV
  have e1 : HT.sIx (x :: xs).length 0 (some 1) = 1 := by
    have := HT.sIx_nat (x :: xs).length 0 1
    rw [show ((1 : Nat) : Int) = 1 from rfl] at this
    rw [this, List.length_cons]
    omega
  rw [e1, HT.sIx_none, List.take_of_length_le (by simp)]
  rfl
theorem ok_fbw {f : Addr} {fd : FuncData} {kk : Nat} (F : Fun K "fits_behind_word" "fits_behind_word" s_fits_behind_word f fd) (T : Txt mg) (CF : Cal P w K mg base "fits" (kk + 1) ["thing", "tellers"] (spFits P w K mg base kk)) :
    FnOk P w K mg base CX0 (kk + 2) f fd ["thing", "tellers"] (spFbw P w K mg base kk) := by
  refine F.ok scFb (fun vs H Q E ⟨_, _, _, _, _, e, _⟩ => by subst e; rfl) (fun cdv A outer s H vs Q E hr h => ?_)
  obtain ⟨B, v, d, tv, hB, rfl, I, hw⟩ := h
  obtain ⟨g, gd, G, m, kp, b⟩ := CF.ex
  refine ⟨_, pss_one (ps_ret (pe_and (pe_cmpR op_notN (pv 1) pe_non (nomark _)) (pe_one (pe_call G hr rfl m kp b .nil pass0 (pa_cons (pe_slice sl_tup (pv 0) (po_some pe_int) po_none) (pa_cons (pv 1) pa_nil)))))), ?_⟩
  rcases hw with ⟨rfl, k⟩ | ⟨t, gs, ps, d0, ds, rfl, rfl, hS, hT, hg, k⟩
  · exact ⟨_, rfl, rfl, _, rfl, iteF k⟩
  · cases I with
    | @tup a xs _ ea hl r =>
    cases r with
    | @cons x _ xs0 _ Ix It =>
    refine ⟨_, rfl, rfl, _, rfl, iteT ⟨_, rfl, 1, rfl, a, _, rfl, SqT.of ea, fun z => ?_, fun p hp => ?_⟩⟩
    · have z1 := z.1
      have e := HT.sIx_nat (x :: xs0).length 0 1
      rw [show ((1 : Nat) : Int) = 1 from rfl] at e
      rw [e, List.length_cons] at z1
      omega
    · rw [cut_one]
      have s1 := same_upd (o := HO.tup xs0) hp
      exact ⟨_, rfl, B, .ref p, .tup ds, t, gs, ps, hB, rfl, .tup upd_same (by simp at hl; omega) (It.same s1), SqT.same hS s1, hT, hg, fun H' s2 => k H' (s1.trans s2)⟩
end
end K1
set_option Elab.async false
set_option linter.all false
set_option maxRecDepth 100000
set_option maxHeartbeats 4000000
namespace K1
open PySem L2 Kp
section
variable {P : Program} {w : World} {K : PySem.W.Frag} {mg : Str → Option Value} {base : Heap}
theorem byWord_some {tb : List (Str × List (D → Bool))} {d : D} {ps : List (D → Bool)} (h : tb.lookup (wordD d) = some ps) (h0 : tb.lookup ("" : Str) = none) : ∃ x r, d = .tup (.str x :: r) ∧ byWord tb d = fitsL ps r := by
  obtain ⟨r, e⟩ := word_inv (d := d) rfl (fun z => by rw [z, h0] at h; cases h)
  generalize wordD d = x at e h
  subst e
  refine ⟨_, r, rfl, ?_⟩
  show (match tb.lookup x with | some ps => fitsL ps r | none => false) = _
  rw [h]
theorem lookup_mem {tb : List (Str × List (D → Bool))} {x : Str} {ps : List (D → Bool)} (h : tb.lookup x = some ps) : (x, ps) ∈ tb := L2.mem_lookup h
/-- a table of tellers of the module -/
structure TabOk (P : Program) (w : World) (K : PySem.W.Frag) (mg : Str → Option Value) (base : Heap) (name : Str) (kk : Nat) (tb : List (Str × List (D → Bool))) : Prop where
  ex : ∃ a es n, mg name = some (.ref a) ∧ K.lookup a = some ⟨.type "dict", none, .dict es n, #[]⟩ ∧ (a == sysModules) = false ∧ Tbl P w K mg base kk es.toList tb
  no : tb.lookup ("" : Str) = none
  few : ∀ q ∈ tb, q.2.length ≤ 1000
theorem findBy_list (es : Array DictEntry) (x : Str) : findBy Value.isStrOf es x = ((es.toList.find? fun e => Value.isStrOf x e.key).map (·.val)) := by
  unfold findBy
  rw [← Array.find?_toList]
theorem scDe : FnScope ["thing"] ["thing"] (defScope s_is_deed) := ⟨rfl, rfl, rfl, by decide +kernel, rfl, by decide +kernel, by decide +kernel⟩
theorem ok_deed {f : Addr} {fd : FuncData} {kk : Nat} {tb : List (Str × List (D → Bool))} (F : Fun K "is_deed" "is_deed" s_is_deed f fd) (TB : TabOk P w K mg base "DEED_TELLERS" kk tb)
    (CW : Cal P w K mg base "first_word" 1 ["thing"] spWord) (CB : Cal P w K mg base "fits_behind_word" (kk + 2) ["thing", "tellers"] (spFbw P w K mg base kk)) : FnOk P w K mg base CX0 (kk + 3) f fd ["thing"] (spP (byWord tb)) := by
  refine F.ok scDe spP_len (fun cdv A outer s H vs Q E hr h => ?_)
  obtain ⟨B, v, d, hB, rfl, I, k⟩ := h
  obtain ⟨aD, es, n, mD, lD, hsys, hT⟩ := TB.ex
  obtain ⟨gW, dW, GW, mW, kW, bW⟩ := CW.ex
  obtain ⟨gB, dB, GB, mB, kB, bB⟩ := CB.ex
  refine ⟨_, pss_one (ps_ret (pe_call GB hr rfl mB kB bB .nil pass0 (pa_cons (pv 0) (pa_cons (pe_kget (pe_fn rfl mD) (pa_cons (pe_call GW (hr.mono (by omega)) rfl mW kW bW .nil pass0 (pa_cons (pv 0) pa_nil)) pa_nil)) pa_nil)))), ?_⟩
  obtain ⟨vv, rel, hv⟩ := hT.find (x := wordD d)
  rw [← findBy_list] at rel
  refine ⟨_, rfl, aD, es, n, rfl, lD, hT.keys, hsys, _, rfl, B, v, d, hB, rfl, I, _, vv, rfl, rel, B, v, d, vv, hB, rfl, I, ?_⟩
  rcases hv with ⟨hn, rfl⟩ | ⟨ps, t, gs, hs, rfl, hq, ht⟩
  · have k0 := k H (Same.refl _)
    rw [byWord_none hn] at k0
    exact .inl ⟨rfl, k0⟩
  · obtain ⟨x, r, rfl, e⟩ := byWord_some hs TB.no
    refine .inr ⟨t, gs, ps, _, r, rfl, rfl, hq H, ht, ?_, fun H' s' => ?_⟩
    · rw [ht.length]; exact TB.few _ (lookup_mem hs)
    · have k0 := k H' s'
      rw [e] at k0
      exact k0
theorem scWh : FnScope ["thing"] ["thing"] (defScope s_is_what) := ⟨rfl, rfl, rfl, by decide +kernel, rfl, by decide +kernel, by decide +kernel⟩
theorem ok_what {f : Addr} {fd : FuncData} {kk : Nat} {tb : List (Str × List (D → Bool))} (F : Fun K "is_what" "is_what" s_is_what f fd) (TB : TabOk P w K mg base "WHAT_TELLERS" kk tb)
    (CW : Cal P w K mg base "first_word" 1 ["thing"] spWord) (CB : Cal P w K mg base "fits_behind_word" (kk + 2) ["thing", "tellers"] (spFbw P w K mg base kk)) : FnOk P w K mg base CX0 (kk + 3) f fd ["thing"] (spP (byWord tb)) := by
  refine F.ok scWh spP_len (fun cdv A outer s H vs Q E hr h => ?_)
  obtain ⟨B, v, d, hB, rfl, I, k⟩ := h
  obtain ⟨aD, es, n, mD, lD, hsys, hT⟩ := TB.ex
  obtain ⟨gW, dW, GW, mW, kW, bW⟩ := CW.ex
  obtain ⟨gB, dB, GB, mB, kB, bB⟩ := CB.ex
  refine ⟨_, pss_one (ps_ret (pe_call GB hr rfl mB kB bB .nil pass0 (pa_cons (pv 0) (pa_cons (pe_kget (pe_fn rfl mD) (pa_cons (pe_call GW (hr.mono (by omega)) rfl mW kW bW .nil pass0 (pa_cons (pv 0) pa_nil)) pa_nil)) pa_nil)))), ?_⟩
  obtain ⟨vv, rel, hv⟩ := hT.find (x := wordD d)
  rw [← findBy_list] at rel
  refine ⟨_, rfl, aD, es, n, rfl, lD, hT.keys, hsys, _, rfl, B, v, d, hB, rfl, I, _, vv, rfl, rel, B, v, d, vv, hB, rfl, I, ?_⟩
  rcases hv with ⟨hn, rfl⟩ | ⟨ps, t, gs, hs, rfl, hq, ht⟩
  · have k0 := k H (Same.refl _)
    rw [byWord_none hn] at k0
    exact .inl ⟨rfl, k0⟩
  · obtain ⟨x, r, rfl, e⟩ := byWord_some hs TB.no
    refine .inr ⟨t, gs, ps, _, r, rfl, rfl, hq H, ht, ?_, fun H' s' => ?_⟩
    · rw [ht.length]; exact TB.few _ (lookup_mem hs)
    · have k0 := k H' s'
      rw [e] at k0
      exact k0

/-! ### is_entry -/
theorem scEn : FnScope ["thing"] ["thing"] (defScope s_is_entry) := ⟨rfl, rfl, rfl, by decide +kernel, rfl, by decide +kernel, by decide +kernel⟩
theorem ok_entry {f : Addr} {fd : FuncData} {kk k1 k2 : Nat} (F : Fun K "is_entry" "is_entry" s_is_entry f fd) (C1 : Cal P w K mg base "is_from_one" k1 ["thing"] (spP (geD 1))) (C2 : Cal P w K mg base "is_what" k2 ["thing"] (spP whatP)) (h1 : k1 ≤ kk) (h2 : k2 ≤ kk)
    (CF : Cal P w K mg base "fits" (kk + 1) ["thing", "tellers"] (spFits P w K mg base kk)) : FnOk P w K mg base CX0 (kk + 2) f fd ["thing"] (spP entryP) := by
  refine F.ok scEn spP_len (fun cdv A outer s H vs Q E hr h => ?_)
  obtain ⟨B, v, d, hB, rfl, I, k⟩ := h
  obtain ⟨g1, m1, t1⟩ := C1.at
  obtain ⟨g2, m2, t2⟩ := C2.at
  obtain ⟨gF, dF, GF, mF, kF, bF⟩ := CF.ex
  refine ⟨_, pss_one (ps_ret (pe_call GF hr rfl mF kF bF .nil pass0 (pa_cons (pv 0) (pa_cons (pe_tup (pa_cons (pe_fn rfl m1) (pa_cons (pe_fn rfl m2) pa_nil))) pa_nil)))), ?_⟩
  refine ⟨_, rfl, (by show 2 ≤ sizeLine; rw [sizeLine_eq]; decide), fun p hp => ⟨B, v, d, p, _, [geD 1, whatP], hB, rfl, I.same (same_upd hp), SqT.of upd_same, .cons (t1 kk h1) (.cons (t2 kk h2) .nil), (by show 2 ≤ 1000; decide), fun H' s' => k H' ((same_upd hp).trans s')⟩⟩
end
end K1
set_option Elab.async false
set_option linter.all false
set_option maxRecDepth 100000
set_option maxHeartbeats 4000000
namespace K1
open PySem L2 Kp
theorem _root_.Kp.ix_tupK {X : Cx} {K : PySem.W.Frag} (hK : X.K = K) : IxR X (rIxT K) := by subst hK; exact ix_tup
theorem atI0 {α : Type} (x : α) (xs : List α) : atI (x :: xs) 0 = some x := atI_nat (j := 0) rfl
theorem atI1 {α : Type} (x y : α) (xs : List α) : atI (x :: y :: xs) 1 = some y := atI_nat (j := 1) rfl
section
variable {P : Program} {w : World} {K : PySem.W.Frag} {mg : Str → Option Value} {base : Heap}

/-! ### is_from_nought -/
theorem scF0 : FnScope ["thing"] ["thing"] (defScope s_is_from_nought) := ⟨rfl, rfl, rfl, by decide +kernel, rfl, by decide +kernel, by decide +kernel⟩
theorem ok_from_nought {f : Addr} {fd : FuncData} (F : Fun K "is_from_nought" "is_from_nought" s_is_from_nought f fd) (T : Txt mg) (CW : Cal P w K mg base "is_whole" 1 ["thing"] (spP whole)) : FnOk P w K mg base CX0 2 f fd ["thing"] (spP (geD 0)) := by
  refine F.ok scF0 spP_len (fun cdv A outer s H vs Q E hr h => ?_)
  obtain ⟨B, v, d, hB, rfl, I, k⟩ := h
  obtain ⟨g, gd, G, m, kp, b⟩ := CW.ex
  refine ⟨_, pss_one (ps_ret (pe_and (pe_call G hr rfl m kp b .nil pass0 (pa_cons (pv 0) pa_nil)) (pe_one (pe_cmpR op_ge (pv 0) pe_int (nomark _))))), ?_⟩
  refine ⟨_, rfl, B, v, d, hB, rfl, I, fun H' s' => ⟨_, rfl, ?_⟩⟩
  have k0 := k H' s'
  cases e : whole d with
  | false => rw [ge_whole e] at k0; exact iteF k0
  | true =>
    obtain ⟨i, rfl⟩ := whole_int e
    cases I
    exact iteT ⟨_, rfl, _, _, rfl, rfl, k0⟩

/-! ### is_rising of a list of texts -/
def spRiseS : Sp := fun vs H Q _ => ∃ (a : Addr) (ws : List Str), vs = [.ref a] ∧ H a = some (.lst (ws.map V.str)) ∧ ws.length ≤ 1000 ∧ ∀ H', Same H H' → Q (.bl (riseS ws)) H'
theorem cut_tailV (xs : List V) : cutV xs (some 1) none = xs.tail := by
  unfold cutV
  have e1 : HT.sIx xs.length 0 (some 1) = min 1 xs.length := by
    have := HT.sIx_nat xs.length 0 1
    rw [show ((1 : Nat) : Int) = 1 from rfl] at this
    rw [this]
  rw [e1, HT.sIx_none]
  cases xs with
  | nil => rfl
  | cons a r =>
    rw [show min 1 (a :: r).length = 1 by simp, List.take_of_length_le (by simp)]
    rfl
theorem riseS_range : ∀ ws : List Str, ((List.range (ws.length - 1)).map fun i => ltS (ws.getD i "") (ws.getD (i + 1) "")).all id = riseS ws
  | [] => rfl
  | [_] => rfl
  | a :: b :: r => by
    have ih := riseS_range (b :: r)
    rw [riseS, ← ih]
    show ((List.range (r.length + 1)).map _).all id = _
    rw [List.range_succ_eq_map, List.map_cons, List.all_cons, List.map_map]
    rfl
theorem ok_risingS {f : Addr} {fd : FuncData} (F : Fun K "is_rising" "is_rising" sRising f fd) (T : Txt mg) : FnOk P w K mg base CX0 1 f fd ["parts"] spRiseS := by
  refine F.ok scRi (fun vs H Q E ⟨_, _, e, _⟩ => by subst e; rfl) (fun cdv A outer s H vs Q E hr h => ?_)
  obtain ⟨a, ws, rfl, ha, h2, k⟩ := h
  refine ⟨_, pss_one (ps_ret (pe_callB (call_all rfl) rfl T.all boot_allB (pa_cons (pe_comp (NB := ["part", "later"]) (n := 2) (fr := []) (compOk0 (outer := defScope sRising) rfl (by decide +kernel) rfl) rfl
      (pi_zip (t1 := false) (t2 := false) rfl T.zip (pa_cons (pv 0) (pa_cons (pe_slice sl_list (pv 0) (po_some pe_int) po_none) pa_nil)))
      (fun _ _ _ _ _ => pg_tupK (K := K) (n := 2) rfl rfl (pgs_cons (pg_name (i := 0) (show (["part", "later"] : List Str).Nodup by decide +kernel) rfl (Or.inl rfl)) (pgs_cons (pg_name (i := 1) (show (["part", "later"] : List Str).Nodup by decide +kernel) rfl (Or.inl rfl)) pgs_nil))) (fun _ _ _ _ _ => pifs_nil) (fun _ _ _ _ _ => pe_cmpR op_lt_str (pv 0) (pv 1) (nomark _))) pa_nil))), ?_⟩
  refine ⟨_, rfl, _, rfl, 1, rfl, a, ws.map V.str, rfl, SqL.of ha, fun p hp => ?_⟩
  rw [cut_tailV, ← List.map_tail]
  have sp : Same H (upd H p (.lst (ws.tail.map V.str))) := same_upd hp
  refine ⟨a, p, ws.map V.str, ws.tail.map V.str, rfl, SqL.of (sp _ _ ha), SqL.of upd_same, comp_pure (J := Itz K false false a p) (k := 2) (n := ws.length - 1) (fun _ => true) (fun i => .bl (ltS (ws.getD i "") (ws.getD (i + 1) ""))) (by rw [sizeLine_eq]; omega) ?_ ?_ ?_ ?_⟩
  · intro i H2 hi s1
    have i1 : i < ws.length := by omega
    have i2 : i < ws.tail.length := by rw [List.length_tail]; omega
    exact ⟨ws.map V.str, ws.tail.map V.str, .str ws[i], .str ws.tail[i], SqL.of (s1 _ _ (sp _ _ ha)), SqL.of (s1 _ _ upd_same), by simp [i1], by rw [List.getElem?_map, List.getElem?_eq_getElem i2]; rfl⟩
  · intro H2 s1
    exact ⟨ws.map V.str, ws.tail.map V.str, SqL.of (s1 _ _ (sp _ _ ha)), SqL.of (s1 _ _ upd_same), .inr (by simp)⟩
  · intro i H2 t v H3 R hi s1 ht y hR
    obtain ⟨q, x, y, rfl, hq, rfl, e1, e2⟩ := y
    have i1 : i < ws.length := by omega
    have i2 : i + 1 < ws.length := by omega
    have e1' := e1 _ (SqL.of (s1 _ _ (sp _ _ ha)))
    have e2' := e2 _ (SqL.of (s1 _ _ upd_same))
    rw [List.getElem?_map, List.getElem?_eq_getElem i1] at e1'
    rw [List.getElem?_map, List.getElem?_tail, List.getElem?_eq_getElem i2] at e2'
    cases e1'
    cases e2'
    have ht' : ∃ t0 t1, t = [t0, t1] := by
      match t, ht with
      | [t0, t1], _ => exact ⟨t0, t1, rfl⟩
    obtain ⟨t0, t1, rfl⟩ := ht'
    refine ⟨q, _, rfl, SqT.of upd_same, rfl, _, _, rfl, _, _, rfl, rfl, ⟨_, rfl, _, rfl, _, _, rfl, rfl, ?_⟩⟩
    have hR' := hR [some (.str ws[i]), some (.str ws[i + 1])] _ rfl (same_upd (o := .tup [.str ws[i], .str ws[i + 1]]) hq)
    have g1 : ws.getD i "" = ws[i] := by simp [i1]
    have g2 : ws.getD (i + 1) "" = ws[i + 1] := by simp [i2]
    rw [g1, g2] at hR'
    exact hR'
  · intro D H' s1 hD hd
    refine ⟨D, (List.range (ws.length - 1)).map fun i => ltS (ws.getD i "") (ws.getD (i + 1) ""), rfl, SqL.of ?_, ?_⟩
    · rw [hd, List.filter_eq_self.mpr (fun _ _ => rfl), List.map_map]
      rfl
    · rw [riseS_range]
      exact k H' (sp.trans s1)

/-! ### pairs, triples -/
theorem scNP : FnScope ["thing"] ["thing"] (defScope s_is_name_pair) := ⟨rfl, rfl, rfl, by decide +kernel, rfl, by decide +kernel, by decide +kernel⟩
theorem ok_pair {f : Addr} {fd : FuncData} {kk k1 k2 : Nat} (F : Fun K "is_name_pair" "is_name_pair" s_is_name_pair f fd) (C1 : Cal P w K mg base "is_name" k1 ["thing"] (spP nameP)) (C2 : Cal P w K mg base "is_whole" k2 ["thing"] (spP whole)) (h1 : k1 ≤ kk) (h2 : k2 ≤ kk)
    (CF : Cal P w K mg base "fits" (kk + 1) ["thing", "tellers"] (spFits P w K mg base kk)) : FnOk P w K mg base CX0 (kk + 2) f fd ["thing"] (spP pairP) := by
  refine F.ok scNP spP_len (fun cdv A outer s H vs Q E hr h => ?_)
  obtain ⟨B, v, d, hB, rfl, I, k⟩ := h
  obtain ⟨g1, m1, t1⟩ := C1.at
  obtain ⟨g2, m2, t2⟩ := C2.at
  obtain ⟨gF, dF, GF, mF, kF, bF⟩ := CF.ex
  refine ⟨_, pss_one (ps_ret (pe_call GF hr rfl mF kF bF .nil pass0 (pa_cons (pv 0) (pa_cons (pe_tup (pa_cons (pe_fn rfl m1) (pa_cons (pe_fn rfl m2) pa_nil))) pa_nil)))), ?_⟩
  exact ⟨_, rfl, tiny (by show 2 ≤ 1000; decide), fun p hp => ⟨B, v, d, p, _, [nameP, whole], hB, rfl, I.same (same_upd hp), SqT.of upd_same, .cons (t1 kk h1) (.cons (t2 kk h2) .nil), (by show 2 ≤ 1000; decide), fun H' s' => k H' ((same_upd hp).trans s')⟩⟩
theorem scCT : FnScope ["thing"] ["thing"] (defScope s_is_caller_triple) := ⟨rfl, rfl, rfl, by decide +kernel, rfl, by decide +kernel, by decide +kernel⟩
theorem ok_triple {f : Addr} {fd : FuncData} {kk k1 k2 k3 : Nat} (F : Fun K "is_caller_triple" "is_caller_triple" s_is_caller_triple f fd) (C1 : Cal P w K mg base "is_name" k1 ["thing"] (spP nameP)) (C2 : Cal P w K mg base "is_from_one" k2 ["thing"] (spP (geD 1))) (C3 : Cal P w K mg base "is_whole" k3 ["thing"] (spP whole)) (h1 : k1 ≤ kk) (h2 : k2 ≤ kk) (h3 : k3 ≤ kk)
    (CF : Cal P w K mg base "fits" (kk + 1) ["thing", "tellers"] (spFits P w K mg base kk)) : FnOk P w K mg base CX0 (kk + 2) f fd ["thing"] (spP tripleP) := by
  refine F.ok scCT spP_len (fun cdv A outer s H vs Q E hr h => ?_)
  obtain ⟨B, v, d, hB, rfl, I, k⟩ := h
  obtain ⟨g1, m1, t1⟩ := C1.at
  obtain ⟨g2, m2, t2⟩ := C2.at
  obtain ⟨g3, m3, t3⟩ := C3.at
  obtain ⟨gF, dF, GF, mF, kF, bF⟩ := CF.ex
  refine ⟨_, pss_one (ps_ret (pe_call GF hr rfl mF kF bF .nil pass0 (pa_cons (pv 0) (pa_cons (pe_tup (pa_cons (pe_fn rfl m1) (pa_cons (pe_fn rfl m2) (pa_cons (pe_fn rfl m3) pa_nil)))) pa_nil)))), ?_⟩
  exact ⟨_, rfl, tiny (by show 3 ≤ 1000; decide), fun p hp => ⟨B, v, d, p, _, [nameP, geD 1, whole], hB, rfl, I.same (same_upd hp), SqT.of upd_same, .cons (t1 kk h1) (.cons (t2 kk h2) (.cons (t3 kk h3) .nil)), (by show 3 ≤ 1000; decide), fun H' s' => k H' ((same_upd hp).trans s')⟩⟩

/-! ### is_by_alphabet -/
def spAlpha (f : Addr) (p : D → Bool) : Sp := fun vs H Q _ => ∃ B v d, B ≤ 1000 ∧ vs = [v, .ref f] ∧ Is B H v d ∧ ∀ H', Same H H' → Q (.bl (alphaD p d)) H'
theorem scAl : FnScope ["thing", "teller"] ["thing", "teller"] (defScope s_is_by_alphabet) := ⟨rfl, rfl, rfl, by decide +kernel, rfl, by decide +kernel, by decide +kernel⟩
theorem map_rangeD (l : List D) (f : D → Str) : ((List.range l.length).map fun i => f (l.getD i .non)) = l.map f := by
  apply List.ext_getElem?
  intro i
  by_cases hi : i < l.length
  · simp [hi]
  · rw [List.getElem?_eq_none (by simpa using hi), List.getElem?_eq_none (by simpa using hi)]
theorem ok_alpha {f g : Addr} {fd : FuncData} {p : D → Bool} {kk : Nat} (F : Fun K "is_by_alphabet" "is_by_alphabet" s_is_by_alphabet f fd) (hp : ∀ d, p d = true → ∃ x r, d = .tup (.str x :: r))
    (CR : Cal P w K mg base "is_row_of" (kk + 1) ["thing", "teller"] (spRow g p)) (CI : Cal P w K mg base "is_rising" 1 ["parts"] spRiseS) : FnOk P w K mg base CX0 (kk + 2) f fd ["thing", "teller"] (spAlpha g p) := by
  refine F.ok scAl (fun vs H Q E ⟨_, _, _, _, e, _⟩ => by subst e; rfl) (fun cdv A outer s H vs Q E hr h => ?_)
  obtain ⟨B, v, d, hB, rfl, I, k⟩ := h
  obtain ⟨gR, dR, GR, mR, kR, bR⟩ := CR.ex
  obtain ⟨gI, dI, GI, mI, kI, bI⟩ := CI.ex
  refine ⟨_, pss_one (ps_ret (pe_and (pe_call GR hr rfl mR kR bR .nil pass0 (pa_cons (pv 0) (pa_cons (pv 1) pa_nil))) (pe_one (pe_call GI (hr.mono (by omega)) rfl mI kI bI .nil pass0 (pa_cons (pe_comp (NB := ["part"]) (n := 1) (fr := []) (compOk0 (outer := defScope s_is_by_alphabet) rfl (by decide +kernel) rfl) rfl (pi_tup (pv 0))
      (fun _ _ _ _ _ => pg_name (i := 0) (show (["part"] : List Str).Nodup by decide +kernel) rfl (Or.inl rfl)) (fun _ _ _ _ _ => pifs_nil) (fun _ _ _ _ _ => pe_ix (ix_tupK (K := K) rfl) (pv 0) pe_int (fun _ _ => rfl))) pa_nil))))), ?_⟩
  refine ⟨_, rfl, _, rfl, B, v, d, hB, rfl, I, fun H1 s1 => ⟨_, rfl, ?_⟩⟩
  cases d with
  | tup ds =>
    have k1 : ∀ H', Same H H' → Q (.bl (ds.all p && riseS (ds.map wordD))) H' := k
    show if ds.all p = true then _ else _
    cases hall : ds.all p with
    | false => rw [hall] at k1; exact iteF (k1 H1 s1)
    | true =>
      rw [hall] at k1
      cases I with
      | @tup a xs _ ea hl r =>
      have ea1 := s1 _ _ ea
      have hlen := r.length
      refine iteT ⟨_, rfl, a, rfl, ⟨xs, SqT.of ea1⟩, comp_pure (J := Itt K a) (k := 1) (n := xs.length) (fun _ => true) (fun i => .str (wordD (ds.getD i .non))) (show xs.length < sizeLine by rw [sizeLine_eq]; omega)
        (fun i H2 hi s2 => ⟨xs, xs[i], SqT.of (s2 _ _ ea1), by simp [hi]⟩) (fun H2 s2 => ⟨xs, SqT.of (s2 _ _ ea1), Nat.le_refl _⟩) ?_ ?_⟩
      · intro i H2 t v H3 R hi s2 ht y hR
        obtain ⟨rfl, hy⟩ := y
        have hv := hy xs (SqT.of (s2 _ _ ea1))
        obtain ⟨di, hdi, Ii⟩ := r.get hv
        have ht' : ∃ t0, t = [t0] := by
          match t, ht with
          | [t0], _ => exact ⟨t0, rfl⟩
        obtain ⟨t0, rfl⟩ := ht'
        obtain ⟨x, rr, rfl⟩ := hp di (List.all_eq_true.mp hall di (List.mem_of_getElem? hdi))
        have Ii2 := (Ii.same s1).same s2
        cases Ii2 with
        | @tup b ys _ eb hl2 r2 =>
        cases r2 with
        | cons h0 h1 =>
        cases h0
        have hR' := hR [some (.ref b)] H3 rfl (Same.refl _)
        have ed : ds.getD i .non = .tup (.str x :: rr) := by rw [List.getD_eq_getElem?_getD, hdi]; rfl
        rw [ed] at hR'
        exact ⟨_, rfl, b, _, 0, _, rfl, rfl, SqT.of eb, atI0 _ _, hR'⟩
      · intro D H' s2 hD hd
        refine ⟨D, ds.map wordD, rfl, ?_, by rw [List.length_map]; omega, fun H3 s3 => k1 H3 ((s1.trans s2).trans s3)⟩
        rw [hd, List.filter_eq_self.mpr (fun _ _ => rfl), ← map_rangeD ds wordD, List.map_map, hlen]
        rfl
  | non => exact iteF (k H1 s1)
  | bl _ => exact iteF (k H1 s1)
  | int _ => exact iteF (k H1 s1)
  | str _ => exact iteF (k H1 s1)
  | lst _ => exact iteF (k H1 s1)
theorem scNs : FnScope ["thing"] ["thing"] (defScope s_is_names) := ⟨rfl, rfl, rfl, by decide +kernel, rfl, by decide +kernel, by decide +kernel⟩
theorem ok_names {f : Addr} {fd : FuncData} {kk : Nat} (F : Fun K "is_names" "is_names" s_is_names f fd) (CP : Cal P w K mg base "is_name_pair" kk ["thing"] (spP pairP))
    (CA : ∀ g gd, FnOk P w K mg base CX0 kk g gd ["thing"] (spP pairP) → PySem.W.keepIn K (.ref g) = true → Binds K gd ["thing"] [] → Cal P w K mg base "is_by_alphabet" (kk + 2) ["thing", "teller"] (spAlpha g pairP)) : FnOk P w K mg base CX0 (kk + 3) f fd ["thing"] (spP namesP) := by
  refine F.ok scNs spP_len (fun cdv A outer s H vs Q E hr h => ?_)
  obtain ⟨B, v, d, hB, rfl, I, k⟩ := h
  obtain ⟨g, gd, G, m, kp, b⟩ := CP.ex
  obtain ⟨gA, dA, GA, mA, kA, bA⟩ := (CA g gd G kp b).ex
  exact ⟨_, pss_one (ps_ret (pe_call GA hr rfl mA kA bA .nil pass0 (pa_cons (pv 0) (pa_cons (pe_fn rfl m) pa_nil)))), _, rfl, B, v, d, hB, rfl, I, k⟩
theorem scCs : FnScope ["thing"] ["thing"] (defScope s_is_callers) := ⟨rfl, rfl, rfl, by decide +kernel, rfl, by decide +kernel, by decide +kernel⟩
theorem ok_callers {f : Addr} {fd : FuncData} {kk : Nat} (F : Fun K "is_callers" "is_callers" s_is_callers f fd) (CP : Cal P w K mg base "is_caller_triple" kk ["thing"] (spP tripleP))
    (CA : ∀ g gd, FnOk P w K mg base CX0 kk g gd ["thing"] (spP tripleP) → PySem.W.keepIn K (.ref g) = true → Binds K gd ["thing"] [] → Cal P w K mg base "is_by_alphabet" (kk + 2) ["thing", "teller"] (spAlpha g tripleP)) : FnOk P w K mg base CX0 (kk + 3) f fd ["thing"] (spP callersP) := by
  refine F.ok scCs spP_len (fun cdv A outer s H vs Q E hr h => ?_)
  obtain ⟨B, v, d, hB, rfl, I, k⟩ := h
  obtain ⟨g, gd, G, m, kp, b⟩ := CP.ex
  obtain ⟨gA, dA, GA, mA, kA, bA⟩ := (CA g gd G kp b).ex
  exact ⟨_, pss_one (ps_ret (pe_call GA hr rfl mA kA bA .nil pass0 (pa_cons (pv 0) (pa_cons (pe_fn rfl m) pa_nil)))), _, rfl, B, v, d, hB, rfl, I, k⟩
theorem scSt : FnScope ["thing"] ["thing"] (defScope s_is_store) := ⟨rfl, rfl, rfl, by decide +kernel, rfl, by decide +kernel, by decide +kernel⟩
theorem ok_store {f : Addr} {fd : FuncData} {kk k1 k2 : Nat} (F : Fun K "is_store" "is_store" s_is_store f fd) (C1 : Cal P w K mg base "is_names" k1 ["thing"] (spP namesP)) (C2 : Cal P w K mg base "is_callers" k2 ["thing"] (spP callersP)) (h1 : k1 ≤ kk) (h2 : k2 ≤ kk)
    (CF : Cal P w K mg base "fits" (kk + 1) ["thing", "tellers"] (spFits P w K mg base kk)) : FnOk P w K mg base CX0 (kk + 2) f fd ["thing"] (spP storeP) := by
  refine F.ok scSt spP_len (fun cdv A outer s H vs Q E hr h => ?_)
  obtain ⟨B, v, d, hB, rfl, I, k⟩ := h
  obtain ⟨g1, m1, t1⟩ := C1.at
  obtain ⟨g2, m2, t2⟩ := C2.at
  obtain ⟨gF, dF, GF, mF, kF, bF⟩ := CF.ex
  refine ⟨_, pss_one (ps_ret (pe_call GF hr rfl mF kF bF .nil pass0 (pa_cons (pv 0) (pa_cons (pe_tup (pa_cons (pe_fn rfl m1) (pa_cons (pe_fn rfl m2) pa_nil))) pa_nil)))), ?_⟩
  exact ⟨_, rfl, tiny (by show 2 ≤ 1000; decide), fun p hp => ⟨B, v, d, p, _, [namesP, callersP], hB, rfl, I.same (same_upd hp), SqT.of upd_same, .cons (t1 kk h1) (.cons (t2 kk h2) .nil), (by show 2 ≤ 1000; decide), fun H' s' => k H' ((same_upd hp).trans s')⟩⟩

/-! ### is_end, is_pack -/
def spEnd : Sp := fun vs H Q _ => ∃ a b : Int, vs = [.int a, .int b] ∧ Q (.bl (decide (decide (a = 0) = decide (b = 0)))) H
theorem scEd : FnScope ["place", "last"] ["place", "last"] (defScope s_is_end) := ⟨rfl, rfl, rfl, by decide +kernel, rfl, by decide +kernel, by decide +kernel⟩
theorem dec_int (a b : Int) : decide (V.int a = V.int b) = decide (a = b) := by
  rw [Bool.eq_iff_iff]; simp only [decide_eq_true_eq]
  exact ⟨fun h => V.int.inj h, fun h => by rw [h]⟩
theorem dec_bl (a b : Bool) : decide (V.bl a = V.bl b) = decide (a = b) := by
  rw [Bool.eq_iff_iff]; simp only [decide_eq_true_eq]
  exact ⟨fun h => V.bl.inj h, fun h => by rw [h]⟩
theorem ok_end {f : Addr} {fd : FuncData} (F : Fun K "is_end" "is_end" s_is_end f fd) : FnOk P w K mg base CX0 1 f fd ["place", "last"] spEnd := by
  refine F.ok scEd (fun vs H Q E ⟨_, _, e, _⟩ => by subst e; rfl) (fun cdv A outer s H vs Q E hr h => ?_)
  obtain ⟨a, b, rfl, k⟩ := h
  refine ⟨_, pss_one (ps_ret (pe_cmpR op_eq (pe_cmpR op_eq (pv 0) pe_int (nomark _)) (pe_cmpR op_eq (pv 1) pe_int (nomark _)) (nomark _))), ?_⟩
  refine ⟨_, rfl, rfl, _, rfl, rfl, rfl, ?_⟩
  show Q (.bl (decide (V.bl (decide (V.int a = V.int 0)) = V.bl (decide (V.int b = V.int 0))))) H
  rw [dec_bl, dec_int, dec_int]
  exact k
theorem scPk : FnScope ["thing"] ["thing"] (defScope s_is_pack) := ⟨rfl, rfl, rfl, by decide +kernel, rfl, by decide +kernel, by decide +kernel⟩
theorem fits4_inv {p q r s : D → Bool} {d : D} (h : fitsD [p, q, r, s] d = true) : ∃ a b c e, d = .tup [a, b, c, e] ∧ p a = true ∧ q b = true := by
  cases d with
  | tup ds =>
    have h' : fitsL [p, q, r, s] ds = true := h
    match ds, h' with
    | [a, b, c, e], h' =>
      simp only [fitsL, Bool.and_eq_true] at h'
      exact ⟨a, b, c, e, rfl, h'.1, h'.2.1⟩
    | [], h' => cases h'
    | [_], h' => simp [fitsL] at h'
    | [_, _], h' => simp [fitsL] at h'
    | [_, _, _], h' => simp [fitsL] at h'
    | _ :: _ :: _ :: _ :: _ :: _, h' => simp [fitsL] at h'
  | _ => cases h
theorem ge_int {l : Int} {d : D} (h : geD l d = true) : ∃ i, d = .int i := by
  cases d with
  | int i => exact ⟨i, rfl⟩
  | _ => cases h
theorem ok_pack {f : Addr} {fd : FuncData} {kk k1 k3 k4 : Nat} (F : Fun K "is_pack" "is_pack" s_is_pack f fd) (C1 : Cal P w K mg base "is_from_nought" k1 ["thing"] (spP (geD 0))) (C3 : Cal P w K mg base "is_seats" k3 ["thing"] (spP seatsP)) (C4 : Cal P w K mg base "is_store" k4 ["thing"] (spP storeP)) (h1 : k1 ≤ kk) (h3 : k3 ≤ kk) (h4 : k4 ≤ kk)
    (CF : Cal P w K mg base "fits" (kk + 1) ["thing", "tellers"] (spFits P w K mg base kk)) (CE : Cal P w K mg base "is_end" 1 ["place", "last"] spEnd) : FnOk P w K mg base CX0 (kk + 2) f fd ["thing"] (spP packP) := by
  refine F.ok scPk spP_len (fun cdv A outer s H vs Q E hr h => ?_)
  obtain ⟨B, v, d, hB, rfl, I, k⟩ := h
  obtain ⟨g1, m1, t1⟩ := C1.at
  obtain ⟨g3, m3, t3⟩ := C3.at
  obtain ⟨g4, m4, t4⟩ := C4.at
  obtain ⟨gF, dF, GF, mF, kF, bF⟩ := CF.ex
  obtain ⟨gE, dE, GE, mE, kE, bE⟩ := CE.ex
  refine ⟨_, pss_one (ps_ret (pe_and (pe_call GF hr rfl mF kF bF .nil pass0 (pa_cons (pv 0) (pa_cons (pe_tup (pa_cons (pe_fn rfl m1) (pa_cons (pe_fn rfl m1) (pa_cons (pe_fn rfl m3) (pa_cons (pe_fn rfl m4) pa_nil))))) pa_nil)))
    (pe_one (pe_call GE (hr.mono (by omega)) rfl mE kE bE .nil pass0 (pa_cons (pe_ix ix_tup (pv 0) pe_int (fun _ _ => rfl)) (pa_cons (pe_ix ix_tup (pv 0) pe_int (fun _ _ => rfl)) pa_nil)))))), ?_⟩
  refine ⟨_, rfl, tiny (by show 4 ≤ 1000; decide), fun p hp => ⟨B, v, d, p, _, [geD 0, geD 0, seatsP, storeP], hB, rfl, I.same (same_upd hp), SqT.of upd_same, .cons (t1 kk h1) (.cons (t1 kk h1) (.cons (t3 kk h3) (.cons (t4 kk h4) .nil))), (by show 4 ≤ 1000; decide), fun H' s' => ⟨_, rfl, ?_⟩⟩⟩
  have k0 := k H' ((same_upd hp).trans s')
  unfold packP at k0
  cases hf : fitsD [geD 0, geD 0, seatsP, storeP] d with
  | false => rw [hf] at k0; exact iteF k0
  | true =>
    rw [hf] at k0
    obtain ⟨a, b, c, e, rfl, ha, hb⟩ := fits4_inv hf
    obtain ⟨i, rfl⟩ := ge_int ha
    obtain ⟨j, rfl⟩ := ge_int hb
    have I2 := (I.same (same_upd (o := HO.tup [V.ref g1, V.ref g1, V.ref g3, V.ref g4]) hp)).same s'
    cases I2 with
    | @tup b0 ys _ eb hl r =>
    cases r with
    | cons i0 r =>
    cases r with
    | cons i1 r =>
    cases i0
    cases i1
    exact iteT ⟨_, rfl, b0, _, 0, _, rfl, rfl, SqT.of eb, atI0 _ _, _, rfl, b0, _, 1, _, rfl, rfl, SqT.of eb, atI1 _ _ _, i, j, rfl, k0⟩
end
end K1
set_option Elab.async false
set_option linter.all false
set_option maxRecDepth 100000
set_option maxHeartbeats 4000000
namespace K1
open PySem L2 Kp
section
variable {P : Program} {w : World} {K : PySem.W.Frag} {mg : Str → Option Value} {base : Heap}
theorem SqL.same {H H' : Hp} {a : Addr} {xs : List V} (h : SqL K H a xs) (s : Same H H') : SqL K H' a xs := by
  rcases h with h | h
  · exact .inl (h.elim (fun e => .inl (s _ _ e)) fun ⟨o, e⟩ => .inr ⟨o, s _ _ e⟩)
  · exact .inr h

/-! ### numbers and values by a number -/
def spNumBy : Sp := fun vs H Q _ => ∃ n l, vs = [.int n, .int l] ∧ 0 ≤ n ∧ n < 2147483629 ∧ 0 ≤ l ∧ l ≤ 1 ∧ ∀ z, Q (.int z) H
theorem scNu : FnScope ["_law_number", "_law_least"] ["_law_number", "_law_least"] (defScope s__law_number_by) := ⟨rfl, rfl, rfl, by decide +kernel, rfl, by decide +kernel, by decide +kernel⟩
theorem ok_number_by {f : Addr} {fd : FuncData} (F : Fun K "_law_number_by" "_law_number_by" s__law_number_by f fd) : FnOk P w K mg base CX0 1 f fd ["_law_number", "_law_least"] spNumBy := by
  refine F.ok scNu (fun vs H Q E ⟨_, _, e, _⟩ => by subst e; rfl) (fun cdv A outer s H vs Q E hr h => ?_)
  obtain ⟨n, l, rfl, h0, h1, h2, h3, q⟩ := h
  refine ⟨_, pss_cons (ps_if (pt_cmpR op_eq (pe_op op_mod (pv 0) pe_int) pe_int (nomark _)) (pss_one (ps_ret (pe_op op_add (pv 1) (pe_op op_mod (pe_op op_pow (pv 0) pe_int) (pe_op op_sub (pe_op op_pow pe_int pe_int) (pv 1)))))) pss_nil)
    (pss_cons (ps_if (pt_cmpR op_eq (pe_op op_mod (pv 0) pe_int) pe_int (nomark _)) (pss_one (ps_ret (pe_op op_add (pv 1) (pe_op op_mod (pe_op op_fdiv (pv 0) pe_int) pe_int)))) pss_nil)
    (pss_one (ps_ret (pe_op op_add (pv 1) (pe_op op_mod (pe_op op_fdiv (pv 0) pe_int) pe_int))))), ?_⟩
  refine ⟨_, rfl, _, _, rfl, rfl, (by show (0 : Int) < 5; decide), rfl, _, rfl, ite2 (fun _ => ?_) (fun _ => ?_)⟩
  · refine ⟨_, rfl, _, rfl, _, _, rfl, rfl, ⟨by decide, by decide, by omega⟩, _, _, rfl, rfl, ⟨by decide, by decide, by decide⟩, _, rfl, _, _, rfl, rfl, _, _, rfl, rfl, ?_, _, _, rfl, rfl, q _⟩
    have : (1000 : Int) ≤ 10 ^ (60 : Int).toNat := by decide
    omega
  · refine ⟨_, rfl, _, _, rfl, rfl, (by show (0 : Int) < 5; decide), rfl, _, rfl, ite2 (fun _ => ?_) (fun _ => ?_)⟩
    · exact ⟨_, rfl, _, rfl, _, _, rfl, rfl, ⟨by decide, by decide⟩, _, _, rfl, rfl, (by show (0 : Int) < 3; decide), _, _, rfl, rfl, q _⟩
    · exact ⟨_, rfl, _, rfl, _, _, rfl, rfl, ⟨by decide, by decide⟩, _, _, rfl, rfl, (by show (0 : Int) < 400; decide), _, _, rfl, rfl, q _⟩
def spValBy : Sp := fun vs H Q _ => ∃ n, vs = [.int n] ∧ 0 ≤ n ∧ n < 2147483629 ∧ ∀ z, Q (.int z) H
theorem scVa : FnScope ["_law_number", "_law_found"] ["_law_number"] (defScope s__law_value_by) := ⟨rfl, rfl, rfl, by decide +kernel, rfl, by decide +kernel, by decide +kernel⟩
theorem ok_value_by {f : Addr} {fd : FuncData} (F : Fun K "_law_value_by" "_law_value_by" s__law_value_by f fd) (CN : Cal P w K mg base "_law_number_by" 1 ["_law_number", "_law_least"] spNumBy) : FnOk P w K mg base CX0 2 f fd ["_law_number"] spValBy := by
  refine F.ok scVa (fun vs H Q E ⟨_, e, _⟩ => by subst e; rfl) (fun cdv A outer s H vs Q E hr h => ?_)
  obtain ⟨n, rfl, h0, h1, q⟩ := h
  obtain ⟨g, gd, G, m, kp, b⟩ := CN.ex
  refine ⟨_, pss_cons (ps_set (i := 1) scVa.nd rfl (Or.inl rfl) (pe_call G hr rfl m kp b .nil pass0 (pa_cons (pe_op op_fdiv (pv 0) pe_int) (pa_cons pe_int pa_nil))))
    (pss_cons (ps_if (pt_cmpR op_eq (pe_op op_mod (pv 0) pe_int) pe_int (nomark _)) (pss_one (ps_ret (pe_un un_neg (pv 1)))) pss_nil)
    (pss_one (ps_ret (pv 1)))), ?_⟩
  refine ⟨_, rfl, _, _, rfl, rfl, ⟨by decide, by decide⟩, n / 3, 0, rfl, by omega, by omega, by decide, by decide, fun z => ?_⟩
  refine ⟨_, rfl, _, _, rfl, rfl, (by show (0 : Int) < 3; decide), rfl, _, rfl, ite2 (fun _ => ?_) (fun _ => ?_)⟩
  · exact ⟨_, rfl, _, rfl, q _⟩
  · exact ⟨_, rfl, q _⟩
/-- a maker by the script and a place -/
def spBy (K : PySem.W.Frag) (lim : Int) (R : Hp → V → Prop) : Sp := fun vs H Q _ => ∃ (a : Addr) (ns : List Int) (k : Int), vs = [.ref a, .int k] ∧ SqL K H a (ns.map V.int) ∧ 0 ≤ k ∧ k ≤ lim ∧ ∀ v H', R H' v → Same H H' → Q v H'
theorem spBy_len {lim : Int} {R : Hp → V → Prop} : ∀ vs H Q E, spBy K lim R vs H Q E → vs.length = 2 := fun vs H Q E ⟨_, _, _, e, _⟩ => by subst e; rfl
end
end K1
set_option Elab.async false
set_option linter.all false
set_option maxRecDepth 100000
set_option maxHeartbeats 4000000
namespace K1
open PySem L2 Kp
section
variable {P : Program} {w : World} {K : PySem.W.Frag} {mg : Str → Option Value} {base : Heap}
theorem scDB : FnScope ["_law_script", "_law_at", "_law_number", "_law_name_here"] ["_law_script", "_law_at"] (defScope s__law_deed_by) := ⟨rfl, rfl, rfl, by decide +kernel, rfl, by decide +kernel, by decide +kernel⟩
theorem ok_deed_by {f : Addr} {fd : FuncData} (F : Fun K "_law_deed_by" "_law_deed_by" s__law_deed_by f fd) (CM : Cal P w K mg base "_law_mixed" 2 ["_law_script", "_law_k"] (spMixed K)) (CN : Cal P w K mg base "_law_name_by" 1 ["_law_number"] spNameBy)
    (CV : Cal P w K mg base "_law_value_by" 2 ["_law_number"] spValBy) : FnOk P w K mg base CX0 3 f fd ["_law_script", "_law_at"] (spBy K 900 (ThN 16)) := by
  refine F.ok scDB spBy_len (fun cdv A outer s H vs Q E hr h => ?_)
  obtain ⟨a, ns, k, rfl, hS, h0, h1, q⟩ := h
  obtain ⟨gM, dM, GM, mM, kM, bM⟩ := CM.ex
  obtain ⟨gN, dN, GN, mN, kN, bN⟩ := CN.ex
  obtain ⟨gV, dV, GV, mV, kV, bV⟩ := CV.ex
  have r1 := hr.mono (show 1 ≤ 2 by decide)
  refine ⟨_, pss_cons (ps_set (i := 2) scDB.nd rfl (Or.inl rfl) (pe_call GM hr rfl mM kM bM .nil pass0 (pa_n (pv 0) (pa_n (pv 1) pa_nil))))
    (pss_cons (ps_set (i := 3) scDB.nd rfl (Or.inl rfl) (pe_call GN r1 rfl mN kN bN .nil pass0 (pa_k (pe_call GM hr rfl mM kM bM .nil pass0 (pa_n (pv 0) (pa_b (pe_op op_add (pv 1) pe_int) pa_nil))) pa_nil)))
    (pss_cons (ps_if (pt_cmpR op_eq (pe_op op_mod (pv 2) pe_int) pe_int (nomark _)) (pss_one (ps_ret (QE.h (qx_tup (qa_str (qa_n (pv 3) qa_nil)))))) pss_nil)
    (pss_one (ps_ret (QE.h (qx_tup (qa_s (QE.h (qx_ix ix_list (qx_lst (qa_str (qa_str qa_nil))) (pe_op op_sub (pe_op op_mod (pv 2) pe_int) pe_int) px_b)) (qa_n (pv 3) (qa_k (pe_call GV hr rfl mV kV bV .nil pass0 (pa_k (pe_call GM hr rfl mM kM bM .nil pass0 (pa_n (pv 0) (pa_b (pe_op op_add (pv 1) pe_int) pa_nil))) pa_nil)) qa_nil))))))))), ?_⟩
  refine ⟨_, rfl, _, rfl, a, ns, k, rfl, hS, h0, by omega, fun n n0 n1 => ?_⟩
  refine ⟨_, rfl, _, rfl, _, _, rfl, rfl, a, ns, k + 1, rfl, hS, by omega, by omega, fun n2 n20 n21 => ⟨n2, rfl, n20, fun x H1 hx s1 => ?_⟩⟩
  have hS1 := SqL.same hS s1
  refine ⟨_, rfl, _, _, rfl, rfl, (by show (0 : Int) < 3; decide), rfl, _, rfl, ite2 (fun _ => ?_) (fun hne => ?_)⟩
  · refine ⟨_, rfl, tiny (by show 2 ≤ 1000; decide), fun p hp => q _ _ (ThN.tup upd_same (by show 2 ≤ 16; decide) (.cons (.str _ (by decide +kernel)) (.cons (.str x hx) .nil))) (s1.trans (same_upd hp))⟩
  · have hne' : ¬ n % 3 = 0 := fun z => hne (decide_eq_true (show V.int (n % 3) = V.int 0 by rw [z]))
    refine ⟨tiny (by show 2 ≤ 1000; decide), fun p hp => ?_⟩
    have s2 := same_upd (o := HO.lst [V.str "set", V.str "add"]) hp
    have e0 : 0 ≤ n % 3 - 1 := by omega
    obtain ⟨wd, hw, hm⟩ := atI_mem (xs := [V.str "set", V.str "add"]) (i := n % 3 - 1) e0 (by show n % 3 - 1 < ((2 : Nat) : Int); omega)
    have hx' : ∃ y : Str, wd = .str y ∧ y.length ≤ 16 := by
      simp only [List.mem_cons, List.not_mem_nil, or_false] at hm
      rcases hm with rfl | rfl <;> exact ⟨_, rfl, by decide +kernel⟩
    obtain ⟨y, rfl, hy⟩ := hx'
    refine ⟨_, rfl, _, _, rfl, rfl, (by show (0 : Int) < 3; decide), _, _, rfl, rfl, p, _, _, _, rfl, rfl, SqL.of upd_same, hw, _, rfl, ?_⟩
    refine ⟨_, rfl, _, rfl, _, _, rfl, rfl, a, ns, k + 2, rfl, SqL.same hS1 s2, by omega, by omega, fun n3 n30 n31 => ⟨n3, rfl, n30, n31, fun z => ?_⟩⟩
    exact ⟨tiny (by show 3 ≤ 1000; decide), fun p2 hp2 => q _ _ (ThN.tup upd_same (by show 3 ≤ 16; decide) (.cons (.str _ hy) (.cons (.str x hx) (.cons (.int z) .nil)))) ((s1.trans s2).trans (same_upd hp2))⟩

theorem scWB : FnScope ["_law_script", "_law_at", "_law_number", "_law_caller"] ["_law_script", "_law_at"] (defScope s__law_what_by) := ⟨rfl, rfl, rfl, by decide +kernel, rfl, by decide +kernel, by decide +kernel⟩
theorem ok_what_by {f : Addr} {fd : FuncData} (F : Fun K "_law_what_by" "_law_what_by" s__law_what_by f fd) (CM : Cal P w K mg base "_law_mixed" 2 ["_law_script", "_law_k"] (spMixed K)) (CN : Cal P w K mg base "_law_name_by" 1 ["_law_number"] spNameBy)
    (CS : Cal P w K mg base "_law_seats_by" 1 ["_law_number"] spSeatsBy) (CU : Cal P w K mg base "_law_number_by" 1 ["_law_number", "_law_least"] spNumBy) (CD : Cal P w K mg base "_law_deed_by" 3 ["_law_script", "_law_at"] (spBy K 900 (ThN 16))) :
    FnOk P w K mg base CX0 4 f fd ["_law_script", "_law_at"] (spBy K 890 (ThN 16)) := by
  refine F.ok scWB spBy_len (fun cdv A outer s H vs Q E hr h => ?_)
  obtain ⟨a, ns, k, rfl, hS, h0, h1, q⟩ := h
  obtain ⟨gM, dM, GM, mM, kM, bM⟩ := CM.ex
  obtain ⟨gN, dN, GN, mN, kN, bN⟩ := CN.ex
  obtain ⟨gS, dS, GS, mS, kS, bS⟩ := CS.ex
  obtain ⟨gU, dU, GU, mU, kU, bU⟩ := CU.ex
  obtain ⟨gD, dD, GD, mD, kD, bD⟩ := CD.ex
  have r1 := hr.mono (show 1 ≤ 3 by decide)
  have r2 := hr.mono (show 2 ≤ 3 by decide)
  refine ⟨_, pss_cons (ps_set (i := 2) scWB.nd rfl (Or.inl rfl) (pe_call GM r2 rfl mM kM bM .nil pass0 (pa_n (pv 0) (pa_n (pv 1) pa_nil))))
    (pss_cons (ps_if (pt_cmpR op_eq (pe_op op_mod (pv 2) pe_int) pe_int (nomark _)) (pss_one (ps_ret (QE.h (qx_tup (qa_str qa_nil))))) pss_nil)
    (pss_cons (ps_if (pt_cmpR op_eq (pe_op op_mod (pv 2) pe_int) pe_int (nomark _)) (pss_one (ps_ret (QE.h (qx_tup (qa_str (qa_k (pe_call GS r1 (by rfl) mS kS bS .nil pass0 (pa_b (pe_op op_fdiv (pv 2) pe_int) pa_nil)) qa_nil)))))) pss_nil)
    (pss_cons (ps_set (i := 3) scWB.nd rfl (Or.inl rfl) (pe_call GN r1 rfl mN kN bN .nil pass0 (pa_k (pe_call GM r2 rfl mM kM bM .nil pass0 (pa_n (pv 0) (pa_b (pe_op op_add (pv 1) pe_int) pa_nil))) pa_nil)))
    (pss_one (ps_ret (QE.h (qx_tup (qa_str (qa_n (pv 3) (qa_k (pe_call GU r1 (by rfl) mU kU bU .nil pass0 (pa_k (pe_call GM r2 (by rfl) mM kM bM .nil pass0 (pa_n (pv 0) (pa_b (pe_op op_add (pv 1) pe_int) pa_nil))) (pa_i pe_int pa_nil)))
      (qa_k (pe_call GD hr (by rfl) mD kD bD .nil pass0 (pa_n (pv 0) (pa_b (pe_op op_add (pv 1) pe_int) pa_nil))) qa_nil)))))))))))  , ?_⟩
  refine ⟨_, rfl, _, rfl, a, ns, k, rfl, hS, h0, by omega, fun n n0 n1 => ?_⟩
  refine ⟨_, rfl, _, _, rfl, rfl, (by show (0 : Int) < 4; decide), rfl, _, rfl, ite2 (fun _ => ?_) (fun _ => ?_)⟩
  · exact ⟨tiny (by show 1 ≤ 1000; decide), fun p hp => q _ _ (ThN.tup upd_same (by show 1 ≤ 16; decide) (.cons (.str _ (by decide +kernel)) .nil)) (same_upd hp)⟩
  refine ⟨_, rfl, _, _, rfl, rfl, (by show (0 : Int) < 4; decide), rfl, _, rfl, ite2 (fun _ => ?_) (fun _ => ?_)⟩
  · refine ⟨_, rfl, _, _, rfl, rfl, ⟨by decide, by decide⟩, n / 4, rfl, Int.ediv_nonneg n0 (by decide), fun ms b H1 hl hb s1 => ⟨tiny (by show 2 ≤ 1000; decide), fun p hp => ?_⟩⟩
    have s2 := same_upd (o := HO.tup [V.str "seats", V.ref b]) hp
    exact q _ _ (ThN.tup upd_same (by show 2 ≤ 16; decide) (.cons (.str _ (by decide +kernel)) (.cons (.tup (s2 _ _ hb) (by rw [List.length_map]; omega) (ThNL.ints ms)) .nil))) (s1.trans s2)
  refine ⟨_, rfl, _, rfl, _, _, rfl, rfl, a, ns, k + 1, rfl, hS, by omega, by omega, fun n2 n20 n21 => ⟨n2, rfl, n20, fun x H1 hx s1 => ?_⟩⟩
  have hS1 := SqL.same hS s1
  refine ⟨_, rfl, _, rfl, _, rfl, _, _, rfl, rfl, a, ns, k + 2, rfl, hS1, by omega, by omega, fun n3 n30 n31 => ⟨n3, 1, rfl, n30, n31, by decide, by decide, fun z => ?_⟩⟩
  refine ⟨_, rfl, _, rfl, _, _, rfl, rfl, a, ns, k + 3, rfl, hS1, by omega, by omega, fun v H2 tv s2 => ⟨tiny (by show 4 ≤ 1000; decide), fun p hp => ?_⟩⟩
  have s3 := same_upd (o := HO.tup [V.str "wish", V.str x, V.int z, v]) hp
  exact q _ _ (ThN.tup upd_same (by show 4 ≤ 16; decide) (.cons (.str _ (by decide +kernel)) (.cons (.str x hx) (.cons (.int z) (.cons (tv.mono (Nat.le_refl _) s3) .nil))))) ((s1.trans s2).trans s3)

/-- a pair of things -/
def PairT (B : Nat) (H : Hp) (v : V) : Prop := ∃ p x y, v = .ref p ∧ H p = some (.tup [x, y]) ∧ ThN B H x ∧ ThN B H y
theorem PairT.mono {B : Nat} (H H' : Hp) (v : V) (s : SameT H H') (h : PairT B H v) : PairT B H' v := let ⟨p, x, y, e, hp, tx, ty⟩ := h; ⟨p, x, y, e, s _ _ hp, tx.sameT (Nat.le_refl _) s, ty.sameT (Nat.le_refl _) s⟩
theorem PairT.th {B : Nat} {H : Hp} {v : V} (h : PairT B H v) (hB : 2 ≤ B) : ThN B H v := let ⟨p, x, y, e, hp, tx, ty⟩ := h; e ▸ ThN.tup hp hB (.cons tx (.cons ty .nil))
theorem scEB : FnScope ["_law_script", "_law_at"] ["_law_script", "_law_at"] (defScope s__law_entry_by) := ⟨rfl, rfl, rfl, by decide +kernel, rfl, by decide +kernel, by decide +kernel⟩
theorem ok_entry_by {f : Addr} {fd : FuncData} (F : Fun K "_law_entry_by" "_law_entry_by" s__law_entry_by f fd) (CM : Cal P w K mg base "_law_mixed" 2 ["_law_script", "_law_k"] (spMixed K))
    (CU : Cal P w K mg base "_law_number_by" 1 ["_law_number", "_law_least"] spNumBy) (CW : Cal P w K mg base "_law_what_by" 4 ["_law_script", "_law_at"] (spBy K 890 (ThN 16))) :
    FnOk P w K mg base CX0 5 f fd ["_law_script", "_law_at"] (spBy K 880 (PairT 16)) := by
  refine F.ok scEB spBy_len (fun cdv A outer s H vs Q E hr h => ?_)
  obtain ⟨a, ns, k, rfl, hS, h0, h1, q⟩ := h
  obtain ⟨gM, dM, GM, mM, kM, bM⟩ := CM.ex
  obtain ⟨gU, dU, GU, mU, kU, bU⟩ := CU.ex
  obtain ⟨gW, dW, GW, mW, kW, bW⟩ := CW.ex
  have r1 := hr.mono (show 1 ≤ 4 by decide)
  have r2 := hr.mono (show 2 ≤ 4 by decide)
  refine ⟨_, pss_one (ps_ret (QE.h (qx_tup (qa_k (pe_call GU r1 (by rfl) mU kU bU .nil pass0 (pa_k (pe_call GM r2 (by rfl) mM kM bM .nil pass0 (pa_n (pv 0) (pa_n (pv 1) pa_nil))) (pa_i pe_int pa_nil)))
      (qa_k (pe_call GW hr (by rfl) mW kW bW .nil pass0 (pa_n (pv 0) (pa_b (pe_op op_add (pv 1) pe_int) pa_nil))) qa_nil))))), ?_⟩
  refine ⟨_, rfl, _, rfl, a, ns, k, rfl, hS, by omega, by omega, fun n3 n30 n31 => ⟨n3, 1, rfl, n30, n31, by decide, by decide, fun z => ?_⟩⟩
  refine ⟨_, rfl, _, rfl, _, _, rfl, rfl, a, ns, k + 1, rfl, hS, by omega, by omega, fun v H2 tv s2 => ⟨tiny (by show 2 ≤ 1000; decide), fun p hp => ?_⟩⟩
  have s3 := same_upd (o := HO.tup [V.int z, v]) hp
  exact q _ _ ⟨p, _, _, rfl, upd_same, .int z, tv.mono (Nat.le_refl _) s3⟩ (s2.trans s3)
end
end K1
set_option Elab.async false
set_option linter.all false
set_option maxRecDepth 100000
set_option maxHeartbeats 4000000
namespace K1
open PySem L2 Kp
section
variable {P : Program} {w : World} {K : PySem.W.Frag} {mg : Str → Option Value} {base : Heap}
/-- a list of at most 160 short texts -/
def NamesT (H : Hp) (v : V) : Prop := ∃ (p : Addr) (ws : List Str), v = .ref p ∧ H p = some (.lst (ws.map V.str)) ∧ ws.length ≤ 160 ∧ ∀ x ∈ ws, x.length ≤ 16
theorem scNm : FnScope ["_law_script", "_law_at", "_law_number", "_law_many", "_law_letters", "_law_names"] ["_law_script", "_law_at"] (defScope s__law_names_by) := ⟨rfl, rfl, rfl, by decide +kernel, rfl, by decide +kernel, by decide +kernel⟩
/-- how many, then the rest -/
def tMany : TS := fun D σ H => ∃ a at' n m x4 x5, σ = [some (.ref a), some (.int at'), some (.int n), some (.int m), x4, x5] ∧ 0 ≤ n ∧ 0 ≤ m ∧ m ≤ 3 ∧ ∀ m' : Int, 0 ≤ m' → m' ≤ 39 → D.nx [some (.ref a), some (.int at'), some (.int n), some (.int m'), x4, x5] H
theorem PS.weakM {X : Cx} {st : Stmt} {t t' : TS} (h : PS X st t) (w : ∀ D σ H, t' D σ H → t D σ H) : PS X st t' := fun pins s σ H D I q => h pins s σ H D I (w D σ H q)
theorem ok_names_by {f : Addr} {fd : FuncData} (F : Fun K "_law_names_by" "_law_names_by" s__law_names_by f fd) (T : Txt mg) (hso : mg "sorted" = none) (CM : Cal P w K mg base "_law_mixed" 2 ["_law_script", "_law_k"] (spMixed K)) (CN : Cal P w K mg base "_law_name_by" 1 ["_law_number"] spNameBy) :
    FnOk P w K mg base CX0 3 f fd ["_law_script", "_law_at"] (spBy K 9000 NamesT) := by
  refine F.ok scNm spBy_len (fun cdv A outer s H vs Q E hr h => ?_)
  obtain ⟨a, ns, k, rfl, hS, h0, h1, q⟩ := h
  obtain ⟨gM, dM, GM, mM, kM, bM⟩ := CM.ex
  obtain ⟨gN, dN, GN, mN, kN, bN⟩ := CN.ex
  have r1 := hr.mono (show 1 ≤ 2 by decide)
  refine ⟨_, @pss_p _ _ _ _ _ (ps_set (i := 2) scNm.nd (by rfl) (by exact Or.inl rfl) (pe_call GM hr (by rfl) mM kM bM .nil pass0 (pa_n (pv 0) (pa_n (pv 1) pa_nil))))
    (@pss_p _ _ _ _ _ (ps_set (i := 3) scNm.nd (by rfl) (by exact Or.inl rfl) (pe_op op_mod (pv 2) pe_int))
    (@pss_p _ _ _ _ _ (PS.weakM (t' := tMany) (ps_if (pt_cmpR op_eq (pe_op op_mod (pe_op op_fdiv (pv 2) pe_int) pe_int) pe_int (nomark _)) (pss_one (ps_set (i := 3) scNm.nd (by rfl) (by exact Or.inl rfl) (pe_op op_add pe_int (pe_op op_mod (pe_op op_fdiv (pv 2) pe_int) pe_int)))) pss_nil) ?w1)
    (@pss_p _ _ _ _ _ (ps_if (pt_cmpR op_eq (pe_op op_mod (pe_op op_fdiv (pv 2) pe_int) pe_int) pe_int (nomark _)) (pss_cons (ps_set (i := 4) scNm.nd (by rfl) (by exact Or.inr rfl) pe_str)
      (pss_one (ps_ret (pe_comp (NB := ["_law_k", "_law_letters"]) (n := 1) (fr := [4]) (compOk1 (outer := defScope s__law_names_by) (x := "_law_letters") (by rfl) (by decide +kernel) (by rfl) (by rfl) (by rfl) (by rfl)) (by rfl)
        (pi_range1 (by rfl) T.range (pa_b (pe_op op_add pe_int (pe_op op_mod (pe_op op_fdiv (pv 2) pe_int) pe_int)) pa_nil)) (fun _ _ _ _ _ => pg_name (i := 0) (show (["_law_k", "_law_letters"] : List Str).Nodup by decide +kernel) (by rfl) (by exact Or.inl rfl)) (fun _ _ _ _ _ => pifs_nil)
        (fun _ _ _ _ _ => pe_op op_add_str (pe_ix ix_str (pv 1) (pe_op op_fdiv (pv 0) pe_int) px_b) (pe_ix ix_str (pv 1) (pe_op op_mod (pv 0) pe_int) px_b)))))) pss_nil)
    (@pss_p _ _ _ _ _ (ps_set (i := 5) scNm.nd (by rfl) (by exact Or.inr rfl) (pe_comp (NB := ["_law_k", "_law_script", "_law_at"]) (n := 1) (fr := [0, 1]) (compOk2 (outer := defScope s__law_names_by) (x := "_law_script") (y := "_law_at") (by rfl) (by decide +kernel) (by rfl) (by rfl) (by rfl) (by rfl) (by rfl) (by rfl) (by rfl)) (by rfl)
        (pi_range1 (by rfl) T.range (pa_n (pv 3) pa_nil)) (fun _ _ _ _ _ => pg_name (i := 0) (show (["_law_k", "_law_script", "_law_at"] : List Str).Nodup by decide +kernel) (by rfl) (by exact Or.inl rfl)) (fun _ _ _ _ _ => pifs_nil)
        (fun _ _ _ _ _ => pe_call GN r1 (by rfl) mN kN bN .nil pass0 (pa_k (pe_call GM hr (by rfl) mM kM bM .nil pass0 (pa_n (pv 1) (pa_b (pe_op op_add (pe_op op_add (pv 2) pe_int) (pe_op op_mul pe_int (pv 0))) pa_nil))) pa_nil))))
    (@pss_o _ _ _ (ps_ret (pe_comp (NB := ["_law_name_here", "_law_names"]) (n := 1) (fr := [5]) (compOk1 (outer := defScope s__law_names_by) (x := "_law_names") (by rfl) (by decide +kernel) (by rfl) (by rfl) (by rfl) (by rfl)) (by rfl)
        (pi_list (pe_callB call_sorted (by rfl) hso PyProof.Rows.boot_sorted (pa_n (pv 5) pa_nil))) (fun _ _ _ _ _ => pg_name (i := 0) (show (["_law_name_here", "_law_names"] : List Str).Nodup by decide +kernel) (by rfl) (by exact Or.inl rfl))
        (fun _ _ _ _ _ => pifs_one (pt_cmpR op_eq (pe_bmK (K := K) (by rfl) PySem.F.plainAttrs_list PySem.F.slot_list_count PySem.F.type_list_count (mt_countK (K := K) (by rfl)) (pv 1) (pa_n (pv 0) pa_nil)) pe_int (nomark _))) (fun _ _ _ _ _ => pv 0)))))))), ?_⟩
  case w1 =>
    rintro D σ H ⟨a, at', n, m, x4, x5, rfl, hn, hm0, hm3, q⟩
    refine ⟨_, rfl, _, _, rfl, rfl, ⟨by decide, by decide⟩, _, _, rfl, rfl, (by show (0 : Int) < 16; decide), rfl, _, rfl, ite2 (fun _ => ?_) (fun _ => ?_)⟩
    · refine ⟨_, rfl, _, _, rfl, rfl, ⟨by decide, by decide⟩, _, _, rfl, rfl, (by show (0 : Int) < 30; decide), _, _, rfl, rfl, ?_⟩
      obtain ⟨e0, e1⟩ := emod_in (n / 64) (m := 30) (by decide)
      exact q (10 + n / 64 % 30) (by omega) (by omega)
    · exact q m hm0 (by omega)
  refine ⟨_, rfl, _, rfl, a, ns, k, rfl, hS, h0, by omega, fun n n0 n1 => ?_⟩
  obtain ⟨e0, e1⟩ := emod_in n (m := 4) (by decide)
  refine ⟨_, rfl, _, _, rfl, rfl, (by show (0 : Int) < 4; decide), a, k, n, n % 4, none, none, rfl, n0, e0, by omega, fun m m0 m39 => ?_⟩
  refine ⟨_, rfl, _, _, rfl, rfl, ⟨by decide, by decide⟩, _, _, rfl, rfl, (by show (0 : Int) < 64; decide), rfl, _, rfl, ite2 (fun _ => ?_) (fun _ => ?_)⟩
  · -- many names
    obtain ⟨g0, g1⟩ := emod_in (n / 256) (m := 120) (by decide)
    have la : ("abcdefghijklmnopqrstuvwxyz" : Str).length = 26 := by decide +kernel
    have lb : (("abcdefghijklmnopqrstuvwxyz" : Str).cps.toList).length = 26 := by rw [Array.length_toList]; exact la
    refine ⟨_, rfl, _, _, rfl, rfl, ⟨by decide, by decide⟩, _, _, rfl, rfl, (by show (0 : Int) < 120; decide), _, _, rfl, rfl, _, rfl, ?_, ?_, comp_ex (n := (41 + n / 256 % 120).toNat) (k := 1) ShortS (fun _ _ _ _ r => r) (by rw [sizeLine_eq]; omega) (fun i H2 hi _ => hi) (fun H2 _ => Nat.le_refl _) ?_ ?_⟩
    · omega
    · omega
    · intro i H2 t v H3 S hi s1 ht y hR _
      obtain ⟨rfl, rfl⟩ := y
      obtain ⟨t0, rfl⟩ := one_slot ht
      have i0 : 0 ≤ (0 + (i : Int)) / 26 := Int.ediv_nonneg (by omega) (by decide)
      have i1 : (0 + (i : Int)) / 26 < 26 := by omega
      obtain ⟨j0, j1⟩ := emod_in (0 + (i : Int)) (m := 26) (by decide)
      obtain ⟨c, hc, _⟩ := atI_mem (xs := ("abcdefghijklmnopqrstuvwxyz" : Str).cps.toList) i0 (by rw [lb]; exact i1)
      obtain ⟨d, hd, _⟩ := atI_mem (xs := ("abcdefghijklmnopqrstuvwxyz" : Str).cps.toList) j0 (by rw [lb]; exact j1)
      refine ⟨_, rfl, _, rfl, _, _, rfl, rfl, ⟨by decide, by decide⟩, _, _, c, rfl, rfl, (by rw [la, sizeLine_eq]; decide), hc, _, rfl, _, rfl, _, _, rfl, rfl, (by show (0 : Int) < 26; decide), _, _, d, rfl, rfl, (by rw [la, sizeLine_eq]; decide), hd, _, _, rfl, rfl, (by show 2 ≤ sizeLine; rw [sizeLine_eq]; decide), ?_⟩
      exact hR [some (.int (0 + (i : Int)))] H3 _ rfl (Same.refl _) ⟨_, rfl, by rw [app_len]; show 2 ≤ 16; decide⟩
    · intro D H' ys s1 hD hd hl hR
      obtain ⟨ws, rfl, hw⟩ := ShortS.list hR
      rw [List.length_map] at hl
      exact q _ _ ⟨D, ws, rfl, hd, by omega, hw⟩ s1
  · -- by the script
    refine ⟨_, rfl, m, rfl, by omega, by omega, comp_ex (n := m.toNat) (k := 1) ShortS (fun _ _ _ _ r => r) (by rw [sizeLine_eq]; omega) (fun i H2 hi _ => hi) (fun H2 _ => Nat.le_refl _) ?_ ?_⟩
    · intro i H2 t v H3 S hi s1 ht y hR _
      obtain ⟨rfl, rfl⟩ := y
      obtain ⟨t0, rfl⟩ := one_slot ht
      refine ⟨_, rfl, _, rfl, _, _, rfl, rfl, _, rfl, _, _, rfl, rfl, .inl ⟨by decide, by decide⟩, _, _, rfl, rfl, a, ns, _, rfl, SqL.same hS s1, ?_, ?_, fun z z0 z1 => ⟨z, rfl, z0, fun x H4 hx s4 => ?_⟩⟩
      · omega
      · omega
      · exact hR [some (.int (0 + (i : Int)))] H4 _ rfl s4 ⟨x, rfl, hx⟩
    · intro D H1 ys s1 hD hd hl hR
      obtain ⟨ws, rfl, hw⟩ := ShortS.list hR
      rw [List.length_map] at hl
      refine ⟨_, rfl, D, ws, rfl, SqL.of hd, by omega, fun l ys' hl' hperm => ?_⟩
      have s2 := same_upd (o := HO.lst (ys'.map V.str)) hl'
      have lp : ys'.length = ws.length := hperm.length_eq
      refine ⟨l, rfl, ⟨_, SqL.of upd_same⟩, comp_ex (n := ys'.length) (k := 1) ShortS (fun _ _ _ _ r => r) (by rw [sizeLine_eq]; omega) (fun i H2 hi s3 => ⟨_, .str ys'[i], SqL.of (s3 _ _ upd_same), by simp [hi]⟩) (fun H2 s3 => ⟨_, SqL.of (s3 _ _ upd_same), by simp⟩) ?_ ?_⟩
      · intro i H2 t v H3 S hi s3 ht y hR1 hR2
        obtain ⟨rfl, hy⟩ := y
        obtain ⟨t0, rfl⟩ := one_slot ht
        have ev := hy _ (SqL.of (s3 _ _ upd_same))
        rw [List.getElem?_map, List.getElem?_eq_getElem hi] at ev
        cases ev
        refine ⟨_, rfl, .inl ⟨rfl, _, SqL.of (s3 _ _ (s2 _ _ hd))⟩, _, rfl, D, ws, _, rfl, rfl, SqL.of (s3 _ _ (s2 _ _ hd)), fun c => ⟨rfl, _, rfl, ite2 (fun _ => ?_) (fun _ => ?_)⟩⟩
        · exact ⟨_, rfl, hR1 [some (.str ys'[i])] H3 _ rfl (Same.refl _) ⟨_, rfl, hw _ (hperm.mem_iff.mp (List.getElem_mem hi))⟩⟩
        · exact hR2 [some (.str ys'[i])] H3 rfl (Same.refl _)
      · intro D2 H' ys s3 hD2 hd2 hl2 hR2
        obtain ⟨ws2, rfl, hw2⟩ := ShortS.list hR2
        rw [List.length_map] at hl2
        exact q _ _ ⟨D2, ws2, rfl, hd2, by omega, hw2⟩ ((s1.trans s2).trans s3)
end
end K1
set_option Elab.async false
set_option linter.all false
set_option maxRecDepth 100000
set_option maxHeartbeats 4000000
namespace K1
open PySem L2 Kp
section
variable {P : Program} {w : World} {K : PySem.W.Frag} {mg : Str → Option Value} {base : Heap}
/-- a tuple of at most 3 ints and short texts -/
def RowT (H : Hp) (v : V) : Prop := ∃ (p : Addr) (xs : List V), v = .ref p ∧ H p = some (.tup xs) ∧ xs.length ≤ 3 ∧ ∀ x ∈ xs, (∃ i, x = .int i) ∨ ∃ y : Str, x = .str y ∧ y.length ≤ 16
theorem RowT.mono (H H' : Hp) (v : V) (s : SameT H H') (h : RowT H v) : RowT H' v := let ⟨p, xs, e, hp, r⟩ := h; ⟨p, xs, e, s _ _ hp, r⟩
theorem flat_th {B : Nat} {H : Hp} (hB : 16 ≤ B) : ∀ {xs : List V}, (∀ x ∈ xs, (∃ i, x = .int i) ∨ ∃ y : Str, x = .str y ∧ y.length ≤ 16) → ThL B H xs
  | [], _ => .nil
  | x :: xs, h => .cons (by
      rcases h x List.mem_cons_self with ⟨i, rfl⟩ | ⟨y, rfl, hy⟩
      · exact .int i
      · exact .str y (by omega)) (flat_th hB fun u hu => h u (List.mem_cons_of_mem _ hu))
theorem RowT.th {H : Hp} {v : V} (h : RowT H v) : Th 16 H v := let ⟨p, xs, e, hp, l, r⟩ := h; e ▸ Th.tup hp (by omega) (flat_th (by decide) r)
theorem rows_th {H : Hp} : ∀ {ys : List V}, (∀ v ∈ ys, RowT H v) → ThL 16 H ys
  | [], _ => .nil
  | y :: ys, h => .cons (h y List.mem_cons_self).th (rows_th fun u hu => h u (List.mem_cons_of_mem _ hu))
def StoreT (H : Hp) (v : V) : Prop := ∃ st nm cl xs ys, v = .ref st ∧ H st = some (.tup [.ref nm, .ref cl]) ∧ H nm = some (.tup xs) ∧ H cl = some (.tup ys) ∧ xs.length ≤ 160 ∧ ys.length ≤ 160 ∧ ThL 16 H xs ∧ ThL 16 H ys
theorem StoreT.mono {H H' : Hp} {v : V} (h : StoreT H v) (s : Same H H') : StoreT H' v := let ⟨st, nm, cl, xs, ys, e, h1, h2, h3, l1, l2, t1, t2⟩ := h; ⟨st, nm, cl, xs, ys, e, s _ _ h1, s _ _ h2, s _ _ h3, l1, l2, t1.mono (Nat.le_refl _) s, t2.mono (Nat.le_refl _) s⟩
theorem StoreT.th {H : Hp} {v : V} (h : StoreT H v) : Th 200 H v := let ⟨st, nm, cl, xs, ys, e, h1, h2, h3, l1, l2, t1, t2⟩ := h
  e ▸ Th.tup h1 (by show 2 ≤ 200; decide) (.cons (.tup h2 (by omega) (t1.mono (by decide) (Same.refl _))) (.cons (.tup h3 (by omega) (t2.mono (by decide) (Same.refl _))) .nil))
theorem scSB2 : FnScope ["_law_script", "_law_at", "_law_names", "_law_callers"] ["_law_script", "_law_at"] (defScope s__law_store_by) := ⟨rfl, rfl, rfl, by decide +kernel, rfl, by decide +kernel, by decide +kernel⟩
theorem nd4 : (["_law_k", "_law_name_here", "_law_script", "_law_at"] : List Str).Nodup := by decide +kernel
theorem ok_store_by {f : Addr} {fd : FuncData} (F : Fun K "_law_store_by" "_law_store_by" s__law_store_by f fd) (T : Txt mg) (hen : mg "enumerate" = none) (CM : Cal P w K mg base "_law_mixed" 2 ["_law_script", "_law_k"] (spMixed K)) (CNm : Cal P w K mg base "_law_names_by" 3 ["_law_script", "_law_at"] (spBy K 9000 NamesT))
    (CV : Cal P w K mg base "_law_value_by" 2 ["_law_number"] spValBy) (CU : Cal P w K mg base "_law_number_by" 1 ["_law_number", "_law_least"] spNumBy) : FnOk P w K mg base CX0 4 f fd ["_law_script", "_law_at"] (spBy K 8000 StoreT) := by
  refine F.ok scSB2 spBy_len (fun cdv A outer s H vs Q E hr h => ?_)
  obtain ⟨a, ns, k, rfl, hS, h0, h1, q⟩ := h
  obtain ⟨gM, dM, GM, mM, kM, bM⟩ := CM.ex
  obtain ⟨gN, dN, GN, mN, kN, bN⟩ := CNm.ex
  obtain ⟨gV, dV, GV, mV, kV, bV⟩ := CV.ex
  obtain ⟨gU, dU, GU, mU, kU, bU⟩ := CU.ex
  have r1 := hr.mono (show 1 ≤ 3 by decide)
  have r2 := hr.mono (show 2 ≤ 3 by decide)
  refine ⟨_, @pss_p _ _ _ _ _ (ps_comp (i := 2) scSB2.nd (by rfl) (by exact Or.inl rfl) (NB := ["_law_k", "_law_name_here", "_law_script", "_law_at"]) (n := 2) (fr := [0, 1]) (compOk2 (outer := defScope s__law_store_by) (x := "_law_script") (y := "_law_at") (by rfl) (by decide +kernel) (by rfl) (by rfl) (by rfl) (by rfl) (by rfl) (by rfl) (by rfl)) (by rfl)
      (pi_enum (by rfl) hen (pa_k (pe_call GN hr (by rfl) mN kN bN .nil pass0 (pa_n (pv 0) (pa_n (pv 1) pa_nil))) pa_nil))
      (fun _ _ _ _ _ => pg_tupK (K := K) (n := 2) (by rfl) (by rfl) (pgs_cons (pg_name (i := 0) nd4 (by rfl) (by exact Or.inl rfl)) (pgs_cons (pg_name (i := 1) nd4 (by rfl) (by exact Or.inl rfl)) pgs_nil))) (fun _ _ _ _ _ => pifs_nil)
      (fun _ _ _ _ _ => pe_tup (pa_n (pv 1) (pa_k (pe_call GV r2 (by rfl) mV kV bV .nil pass0 (pa_k (pe_call GM r2 (by rfl) mM kM bM .nil pass0 (pa_n (pv 2) (pa_b (pe_op op_add (pe_op op_add (pv 3) pe_int) (pe_op op_mul pe_int (pv 0))) pa_nil))) pa_nil)) pa_nil))))
    (@pss_p _ _ _ _ _ (ps_comp (i := 3) scSB2.nd (by rfl) (by exact Or.inl rfl) (NB := ["_law_k", "_law_name_here", "_law_script", "_law_at"]) (n := 2) (fr := [0, 1]) (compOk2 (outer := defScope s__law_store_by) (x := "_law_script") (y := "_law_at") (by rfl) (by decide +kernel) (by rfl) (by rfl) (by rfl) (by rfl) (by rfl) (by rfl) (by rfl)) (by rfl)
      (pi_enum (by rfl) hen (pa_k (pe_call GN hr (by rfl) mN kN bN .nil pass0 (pa_n (pv 0) (pa_b (pe_op op_add (pv 1) pe_int) pa_nil))) pa_nil))
      (fun _ _ _ _ _ => pg_tupK (K := K) (n := 2) (by rfl) (by rfl) (pgs_cons (pg_name (i := 0) nd4 (by rfl) (by exact Or.inl rfl)) (pgs_cons (pg_name (i := 1) nd4 (by rfl) (by exact Or.inl rfl)) pgs_nil))) (fun _ _ _ _ _ => pifs_nil)
      (fun _ _ _ _ _ => pe_tup (pa_n (pv 1) (pa_k (pe_call GU r1 (by rfl) mU kU bU .nil pass0 (pa_k (pe_call GM r2 (by rfl) mM kM bM .nil pass0 (pa_n (pv 2) (pa_b (pe_op op_add (pe_op op_add (pv 3) pe_int) (pe_op op_mul pe_int (pv 0))) pa_nil))) (pa_i pe_int pa_nil)))
        (pa_k (pe_call GV r2 (by rfl) mV kV bV .nil pass0 (pa_k (pe_call GM r2 (by rfl) mM kM bM .nil pass0 (pa_n (pv 2) (pa_b (pe_op op_add (pe_op op_add (pv 3) pe_int) (pe_op op_mul pe_int (pv 0))) pa_nil))) pa_nil)) pa_nil)))))
    (@pss_o _ _ _ (ps_ret (pe_tup (pa_k (pe_callTy call_tuple_of (by rfl) T.tuple boot_tuple (pa_n (pv 2) pa_nil)) (pa_k (pe_callTy call_tuple_of (by rfl) T.tuple boot_tuple (pa_n (pv 3) pa_nil)) pa_nil)))))), ?_⟩
  refine ⟨_, rfl, _, rfl, a, ns, k, rfl, hS, h0, by omega, fun v1 H1 t1 s1 => ?_⟩
  obtain ⟨p1, ws1, rfl, hp1, l1, w1⟩ := t1
  refine ⟨p1, _, rfl, hp1, comp_ex (J := Ite p1) (n := ws1.length) (k := 2) RowT RowT.mono (by rw [sizeLine_eq]; omega) (fun i H2 hi s2 => ⟨_, .str ws1[i], s2 _ _ hp1, by simp [hi]⟩) (fun H2 s2 => ⟨_, s2 _ _ hp1, by simp⟩) ?_ ?_⟩
  · intro i H2 t v H3 S hi s2 ht y hR _
    obtain ⟨p, x, rfl, hp, rfl, ex⟩ := y
    have ex' := ex _ (s2 _ _ hp1)
    rw [List.getElem?_map, List.getElem?_eq_getElem hi] at ex'
    cases ex'
    obtain ⟨t0, t1, rfl⟩ := two_slots ht
    have s3 := same_upd (o := HO.tup [V.int (i : Int), V.str ws1[i]]) hp
    refine ⟨p, _, rfl, SqT.of upd_same, rfl, _, _, rfl, _, _, rfl, rfl, ?_⟩
    refine ⟨_, rfl, _, rfl, _, rfl, _, _, rfl, rfl, _, rfl, _, _, rfl, rfl, .inl ⟨by decide, by decide⟩, _, _, rfl, rfl, a, ns, _, rfl, SqL.same hS ((s1.trans s2).trans s3), ?_, ?_, fun z z0 z1 => ⟨z, rfl, z0, z1, fun y => ⟨tiny (by show 2 ≤ 1000; decide), fun p2 hp2 => ?_⟩⟩⟩
    · omega
    · omega
    · refine hR [some (.int (i : Int)), some (.str ws1[i])] _ _ rfl (s3.trans (same_upd hp2)) ⟨p2, _, rfl, upd_same, by show 2 ≤ 3; decide, fun u hu => ?_⟩
      simp only [List.mem_cons, List.not_mem_nil, or_false] at hu
      rcases hu with rfl | rfl
      · exact .inr ⟨_, rfl, w1 _ (List.getElem_mem hi)⟩
      · exact .inl ⟨_, rfl⟩
  · intro D1 H2 ys1 s2 hD1 hd1 hl1 hr1
    have hS2 := SqL.same hS (s1.trans s2)
    refine ⟨_, rfl, _, rfl, _, _, rfl, rfl, a, ns, k + 6, rfl, hS2, by omega, by omega, fun v3 H3 t3 s3 => ?_⟩
    obtain ⟨p3, ws3, rfl, hp3, l3, w3⟩ := t3
    have hd3 := s3 _ _ hd1
    have hr3 : ∀ v ∈ ys1, RowT H3 v := fun v hv => RowT.mono _ _ _ (fun b xs e => s3 _ _ e) (hr1 v hv)
    refine ⟨p3, _, rfl, hp3, comp_ex (J := Ite p3) (n := ws3.length) (k := 2) RowT RowT.mono (by rw [sizeLine_eq]; omega) (fun i H4 hi s4 => ⟨_, .str ws3[i], s4 _ _ hp3, by simp [hi]⟩) (fun H4 s4 => ⟨_, s4 _ _ hp3, by simp⟩) ?_ ?_⟩
    · intro i H4 t v H5 S hi s4 ht y hR _
      obtain ⟨p, x, rfl, hp, rfl, ex⟩ := y
      have ex' := ex _ (s4 _ _ hp3)
      rw [List.getElem?_map, List.getElem?_eq_getElem hi] at ex'
      cases ex'
      obtain ⟨t0, t1, rfl⟩ := two_slots ht
      have s5 := same_upd (o := HO.tup [V.int (i : Int), V.str ws3[i]]) hp
      have hS5 := SqL.same hS2 ((s3.trans s4).trans s5)
      refine ⟨p, _, rfl, SqT.of upd_same, rfl, _, _, rfl, _, _, rfl, rfl, ?_⟩
      refine ⟨_, rfl, _, rfl, _, rfl, _, _, rfl, rfl, _, rfl, _, _, rfl, rfl, .inl ⟨by decide, by decide⟩, _, _, rfl, rfl, a, ns, _, rfl, hS5, ?_, ?_, fun z z0 z1 => ⟨z, 1, rfl, z0, z1, by decide, by decide, fun y => ?_⟩⟩
      · omega
      · omega
      refine ⟨_, rfl, _, rfl, _, _, rfl, rfl, _, rfl, _, _, rfl, rfl, .inl ⟨by decide, by decide⟩, _, _, rfl, rfl, a, ns, _, rfl, hS5, ?_, ?_, fun z z0 z1 => ⟨z, rfl, z0, z1, fun y2 => ⟨tiny (by show 3 ≤ 1000; decide), fun p2 hp2 => ?_⟩⟩⟩
      · omega
      · omega
      refine hR [some (.int (i : Int)), some (.str ws3[i])] _ _ rfl (s5.trans (same_upd hp2)) ⟨p2, _, rfl, upd_same, by show 3 ≤ 3; decide, fun u hu => ?_⟩
      simp only [List.mem_cons, List.not_mem_nil, or_false] at hu
      rcases hu with rfl | rfl | rfl
      · exact .inr ⟨_, rfl, w3 _ (List.getElem_mem hi)⟩
      · exact .inl ⟨_, rfl⟩
      · exact .inl ⟨_, rfl⟩
    · intro D2 H4 ys2 s4 hD2 hd2 hl2 hr2
      refine ⟨_, rfl, D1, ys1, rfl, .inl ⟨SqL.of (s4 _ _ hd3), fun t1 ht1 => ?_⟩⟩
      have s5 := same_upd (o := HO.tup ys1) ht1
      refine ⟨_, rfl, D2, ys2, rfl, .inl ⟨SqL.of (s5 _ _ hd2), fun t2 ht2 => ⟨tiny (by show 2 ≤ 1000; decide), fun p hp => ?_⟩⟩⟩
      have s6 := same_upd (o := HO.tup ys2) ht2
      have s7 := same_upd (o := HO.tup [V.ref t1, V.ref t2]) hp
      have th1 : ThL 16 _ ys1 := (rows_th hr3).mono (Nat.le_refl _) (s4.trans (s5.trans (s6.trans s7)))
      have th2 : ThL 16 _ ys2 := (rows_th hr2).mono (Nat.le_refl _) (s5.trans (s6.trans s7))
      exact q _ _ ⟨p, t1, t2, ys1, ys2, rfl, upd_same, s7 _ _ (s6 _ _ upd_same), s7 _ _ upd_same, by omega, by omega, th1, th2⟩ ((s1.trans s2).trans ((s3.trans s4).trans (s5.trans (s6.trans s7))))

/-! ### a stand, a pack -/
def PairI (H : Hp) (v : V) : Prop := ∃ (p : Addr) (i j : Int), v = .ref p ∧ H p = some (.tup [.int i, .int j])
def spStandBy : Sp := fun vs H Q _ => ∃ n, vs = [.int n] ∧ 0 ≤ n ∧ n < 2147483629 ∧ ∀ v H', PairI H' v → Same H H' → Q v H'
theorem scSd : FnScope ["_law_number"] ["_law_number"] (defScope s__law_stand_by) := ⟨rfl, rfl, rfl, by decide +kernel, rfl, by decide +kernel, by decide +kernel⟩
theorem ok_stand_by {f : Addr} {fd : FuncData} (F : Fun K "_law_stand_by" "_law_stand_by" s__law_stand_by f fd) (CU : Cal P w K mg base "_law_number_by" 1 ["_law_number", "_law_least"] spNumBy) : FnOk P w K mg base CX0 2 f fd ["_law_number"] spStandBy := by
  refine F.ok scSd (fun vs H Q E ⟨_, e, _⟩ => by subst e; rfl) (fun cdv A outer s H vs Q E hr h => ?_)
  obtain ⟨n, rfl, h0, h1, q⟩ := h
  obtain ⟨gU, dU, GU, mU, kU, bU⟩ := CU.ex
  refine ⟨_, pss_cons (ps_if (pt_cmpR op_eq (pe_op op_mod (pv 0) pe_int) pe_int (nomark _)) (pss_one (ps_ret (pe_tup (pa_i pe_int (pa_i pe_int pa_nil))))) pss_nil)
    (pss_one (ps_ret (pe_tup (pa_k (pe_call GU hr rfl mU kU bU .nil pass0 (pa_b (pe_op op_fdiv (pv 0) pe_int) (pa_i pe_int pa_nil))) (pa_k (pe_call GU hr rfl mU kU bU .nil pass0 (pa_b (pe_op op_mod (pe_op op_mul (pe_op op_fdiv (pv 0) pe_int) pe_int) pe_int) (pa_i pe_int pa_nil))) pa_nil))))), ?_⟩
  refine ⟨_, rfl, _, _, rfl, rfl, (by show (0 : Int) < 6; decide), rfl, _, rfl, ite2 (fun _ => ?_) (fun _ => ?_)⟩
  · exact ⟨tiny (by show 2 ≤ 1000; decide), fun p hp => q _ _ ⟨p, 0, 0, rfl, upd_same⟩ (same_upd hp)⟩
  · obtain ⟨e0, e1⟩ := emod_in (n / 7 * 48271) (m := 1000003) (by decide)
    refine ⟨_, rfl, _, _, rfl, rfl, ⟨by decide, by decide⟩, n / 6, 1, rfl, by omega, by omega, by decide, by decide, fun z => ?_⟩
    refine ⟨_, rfl, _, _, rfl, rfl, ⟨by decide, by decide⟩, _, _, rfl, rfl, .inr ⟨by decide, by decide⟩, _, _, rfl, rfl, (by show (0 : Int) < 1000003; decide), n / 7 * 48271 % 1000003, 1, rfl, e0, by omega, by decide, by decide, fun y => ⟨tiny (by show 2 ≤ 1000; decide), fun p hp => q _ _ ⟨p, z, y, rfl, upd_same⟩ (same_upd hp)⟩⟩
def PackT (H : Hp) (v : V) : Prop := ∃ (p : Addr) (i j : Int) (sv st : V), v = .ref p ∧ H p = some (.tup [.int i, .int j, sv, st]) ∧ Th 16 H sv ∧ StoreT H st
theorem PackT.th {H : Hp} {v : V} (h : PackT H v) : Th 200 H v := let ⟨p, i, j, sv, st, e, hp, ts, tt⟩ := h; e ▸ Th.tup hp (by show 4 ≤ 200; decide) (.cons (.int i) (.cons (.int j) (.cons (ts.mono (by decide) (Same.refl _)) (.cons tt.th .nil))))
theorem scPB : FnScope ["_law_script", "_law_at", "_law_place", "_law_last"] ["_law_script", "_law_at"] (defScope s__law_pack_by) := ⟨rfl, rfl, rfl, by decide +kernel, rfl, by decide +kernel, by decide +kernel⟩
theorem ok_pack_by {f : Addr} {fd : FuncData} (F : Fun K "_law_pack_by" "_law_pack_by" s__law_pack_by f fd) (CM : Cal P w K mg base "_law_mixed" 2 ["_law_script", "_law_k"] (spMixed K)) (CD : Cal P w K mg base "_law_stand_by" 2 ["_law_number"] spStandBy) (CS : Cal P w K mg base "_law_seats_by" 1 ["_law_number"] spSeatsBy)
    (CT : Cal P w K mg base "_law_store_by" 4 ["_law_script", "_law_at"] (spBy K 8000 StoreT)) : FnOk P w K mg base CX0 5 f fd ["_law_script", "_law_at"] (spBy K 7000 PackT) := by
  refine F.ok scPB spBy_len (fun cdv A outer s H vs Q E hr h => ?_)
  obtain ⟨a, ns, k, rfl, hS, h0, h1, q⟩ := h
  obtain ⟨gM, dM, GM, mM, kM, bM⟩ := CM.ex
  obtain ⟨gD, dD, GD, mD, kD, bD⟩ := CD.ex
  obtain ⟨gS, dS, GS, mS, kS, bS⟩ := CS.ex
  obtain ⟨gT, dT, GT, mT, kT, bT⟩ := CT.ex
  have r1 := hr.mono (show 1 ≤ 4 by decide)
  have r2 := hr.mono (show 2 ≤ 4 by decide)
  refine ⟨_, pss_cons (ps_asg (pe_call GD r2 rfl mD kD bD .nil pass0 (pa_k (pe_call GM r2 rfl mM kM bM .nil pass0 (pa_n (pv 0) (pa_n (pv 1) pa_nil))) pa_nil)) (pg_tup (n := 2) rfl (pgs_cons (pg_name (i := 2) scPB.nd rfl (Or.inl rfl)) (pgs_cons (pg_name (i := 3) scPB.nd rfl (Or.inl rfl)) pgs_nil))))
    (pss_one (ps_ret (pe_tup (pa_n (pv 2) (pa_n (pv 3) (pa_k (pe_call GS r1 rfl mS kS bS .nil pass0 (pa_k (pe_call GM r2 rfl mM kM bM .nil pass0 (pa_n (pv 0) (pa_b (pe_op op_add (pv 1) pe_int) pa_nil))) pa_nil)) (pa_k (pe_call GT hr rfl mT kT bT .nil pass0 (pa_n (pv 0) (pa_b (pe_op op_add (pv 1) pe_int) pa_nil))) pa_nil))))))), ?_⟩
  refine ⟨_, rfl, _, rfl, a, ns, k, rfl, hS, h0, by omega, fun z z0 z1 => ⟨z, rfl, z0, z1, fun v1 H1 t1 s1 => ?_⟩⟩
  obtain ⟨p1, i, j, rfl, hp1⟩ := t1
  have hS1 := SqL.same hS s1
  refine ⟨p1, _, rfl, SqT.of hp1, rfl, _, _, rfl, _, _, rfl, rfl, ?_⟩
  refine ⟨_, rfl, _, rfl, _, rfl, _, rfl, _, _, rfl, rfl, a, ns, k + 1, rfl, hS1, by omega, by omega, fun y y0 y1 => ⟨y, rfl, y0, fun ms b H2 hl hb s2 => ?_⟩⟩
  have hS2 := SqL.same hS1 s2
  refine ⟨_, rfl, _, rfl, _, _, rfl, rfl, a, ns, k + 2, rfl, hS2, by omega, by omega, fun v3 H3 t3 s3 => ⟨tiny (by show 4 ≤ 1000; decide), fun p hp => ?_⟩⟩
  have s4 := same_upd (o := HO.tup [V.int i, V.int j, V.ref b, v3]) hp
  exact q _ _ ⟨p, i, j, .ref b, v3, rfl, upd_same, .tup (s4 _ _ (s3 _ _ hb)) (by rw [List.length_map]; omega) ⟨_, IsL.ints ms⟩, t3.mono s4⟩ ((s1.trans s2).trans (s3.trans s4))
end
end K1
set_option Elab.async false
set_option linter.all false
set_option maxRecDepth 100000
set_option maxHeartbeats 4000000
namespace K1
open PySem L2 Kp
section
variable {P : Program} {w : World} {K : PySem.W.Frag} {mg : Str → Option Value} {base : Heap}
theorem boot_max : bootBuiltins "max" = some (.builtin "max") := by decide +kernel
/-- a tuple that is not empty, of at most 16 things -/
def LetT (H : Hp) (v : V) : Prop := ∃ p xs, v = .ref p ∧ H p = some (.tup xs) ∧ xs ≠ [] ∧ xs.length ≤ 16 ∧ ThL 200 H xs
theorem LetT.th {H : Hp} {v : V} (h : LetT H v) : Th 200 H v := let ⟨p, xs, e, hp, _, l, t⟩ := h; e ▸ Th.tup hp (by omega) t
def spBtwBy (K : PySem.W.Frag) : Sp := fun vs H Q _ => ∃ (x : Str) (a : Addr) (ns : List Int) (k : Int), vs = [.str x, .ref a, .int k] ∧ x.length ≤ 16 ∧ SqL K H a (ns.map V.int) ∧ 0 ≤ k ∧ k ≤ 810 ∧ ∀ v H', LetT H' v → Same H H' → Q v H'
theorem scBb : FnScope ["_law_kind_here", "_law_script", "_law_at", "_law_number", "_law_one", "_law_other", "_law_head", "_law_place", "_law_last", "_law_more", "_law_pack_here", "_law_entries"] ["_law_kind_here", "_law_script", "_law_at"] (defScope s__law_between_by) := ⟨rfl, rfl, rfl, by decide +kernel, rfl, by decide +kernel, by decide +kernel⟩
theorem ok_between_by {f : Addr} {fd : FuncData} (F : Fun K "_law_between_by" "_law_between_by" s__law_between_by f fd) (T : Txt mg) (hmx : mg "max" = none) (CM : Cal P w K mg base "_law_mixed" 2 ["_law_script", "_law_k"] (spMixed K)) (CU : Cal P w K mg base "_law_number_by" 1 ["_law_number", "_law_least"] spNumBy)
    (CD : Cal P w K mg base "_law_stand_by" 2 ["_law_number"] spStandBy) (CP : Cal P w K mg base "_law_pack_by" 5 ["_law_script", "_law_at"] (spBy K 7000 PackT)) (CE : Cal P w K mg base "_law_entry_by" 5 ["_law_script", "_law_at"] (spBy K 880 (PairT 16))) : FnOk P w K mg base CX0 6 f fd ["_law_kind_here", "_law_script", "_law_at"] (spBtwBy K) := by
  refine F.ok scBb (fun vs H Q E ⟨_, _, _, _, e, _⟩ => by subst e; rfl) (fun cdv A outer s H vs Q E hr h => ?_)
  obtain ⟨x, a, ns, k, rfl, hx, hS, h0, h1, q⟩ := h
  obtain ⟨gM, dM, GM, mM, kM, bM⟩ := CM.ex
  obtain ⟨gU, dU, GU, mU, kU, bU⟩ := CU.ex
  obtain ⟨gD, dD, GD, mD, kD, bD⟩ := CD.ex
  obtain ⟨gP, dP, GP, mP, kP, bP⟩ := CP.ex
  obtain ⟨gE, dE, GE, mE, kE, bE⟩ := CE.ex
  have r1 := hr.mono (show 1 ≤ 5 by decide)
  have r2 := hr.mono (show 2 ≤ 5 by decide)
  refine ⟨_, @pss_p _ _ _ _ _ (ps_set (i := 3) scBb.nd (by rfl) (by exact Or.inl rfl) (pe_call GM r2 (by rfl) mM kM bM .nil pass0 (pa_n (pv 1) (pa_n (pv 2) pa_nil))))
    (@pss_p _ _ _ _ _ (ps_set (i := 4) scBb.nd (by rfl) (by exact Or.inl rfl) (pe_op op_mod (pv 3) pe_int))
    (@pss_p _ _ _ _ _ (ps_set (i := 5) scBb.nd (by rfl) (by exact Or.inl rfl) (pe_op op_mod (pe_op op_add (pe_op op_add (pv 4) pe_int) (pe_op op_mod (pe_op op_fdiv (pv 3) pe_int) pe_int)) pe_int))
    (@pss_p _ _ _ _ _ (ps_set (i := 6) scBb.nd (by rfl) (by exact Or.inl rfl) (pe_tup (pa_n (pv 0) (pa_n (pv 4) (pa_n (pv 5) (pa_k (pe_call GU r1 (by rfl) mU kU bU .nil pass0 (pa_k (pe_call GM r2 (by rfl) mM kM bM .nil pass0 (pa_n (pv 1) (pa_b (pe_op op_add (pv 2) pe_int) pa_nil))) (pa_i pe_int pa_nil))) pa_nil))))))
    (@pss_p _ _ _ _ _ (ps_asg (pe_call GD r2 (by rfl) mD kD bD .nil pass0 (pa_k (pe_call GM r2 (by rfl) mM kM bM .nil pass0 (pa_n (pv 1) (pa_b (pe_op op_add (pv 2) pe_int) pa_nil))) pa_nil)) (pg_tup (n := 2) (by rfl) (pgs_cons (pg_name (i := 7) scBb.nd (by rfl) (by exact Or.inl rfl)) (pgs_cons (pg_name (i := 8) scBb.nd (by rfl) (by exact Or.inl rfl)) pgs_nil))))
    (@pss_p _ _ _ _ _ (ps_set (i := 9) scBb.nd (by rfl) (by exact Or.inl rfl) (pe_call GM r2 (by rfl) mM kM bM .nil pass0 (pa_n (pv 1) (pa_b (pe_op op_add (pv 2) pe_int) pa_nil))))
    (@pss_p _ _ _ _ _ (ps_if (pt_cmpR op_eq (pv 0) pe_str (nomark _)) (pss_one (ps_ret (pe_op op_catU (pv 6) (pe_tup (pa_n (pv 7) (pa_n (pv 8) pa_nil)))))) (pss_nil))
    (@pss_p _ _ _ _ _ (ps_if (pt_cmpR op_eq (pv 0) pe_str (nomark _)) (pss_one (ps_ret (pe_op op_catU (pv 6) (pe_tup (pa_c (pe_cmpR op_eq (pe_op op_mod (pv 9) pe_int) pe_int (nomark _)) pa_nil))))) (pss_nil))
    (@pss_p _ _ _ _ _ (ps_if (pt_cmpR op_eq (pv 0) pe_str (nomark _)) (pss_one (ps_ret (pe_op op_catU (pv 6) (pe_tup (pa_c (pe_cmpR op_eq (pe_op op_mod (pv 9) pe_int) pe_int (nomark _)) (pa_k (pe_call GU r1 (by rfl) mU kU bU .nil pass0 (pa_b (pe_op op_fdiv (pv 9) pe_int) (pa_i pe_int pa_nil))) pa_nil)))))) (pss_nil))
    (@pss_p _ _ _ _ _ (ps_if (pt_cmpR op_eq (pv 0) pe_str (nomark _)) (pss_cons (ps_set (i := 10) scBb.nd (by rfl) (by exact Or.inl rfl) (pe_call GP hr (by rfl) mP kP bP .nil pass0 (pa_n (pv 1) (pa_b (pe_op op_add (pv 2) pe_int) pa_nil)))) (pss_one (ps_ret (pe_op op_catU (pv 6) (pe_tup (pa_t (pe_tup (pa_k (pe_callB (call_max2 (by rfl)) (by rfl) hmx boot_max (pa_i pe_int (pa_s (pe_ix ix_tup (pv 10) pe_int px_i) pa_nil))) (pa_k (pe_callB (call_max2 (by rfl)) (by rfl) hmx boot_max (pa_i pe_int (pa_s (pe_ix ix_tup (pv 10) pe_int px_i) pa_nil))) (pa_s (pe_ix ix_tup (pv 10) pe_int px_i) (pa_s (pe_ix ix_tup (pv 10) pe_int px_i) pa_nil))))) pa_nil)))))) (pss_nil))
    (@pss_p _ _ _ _ _ (ps_set (i := 11) scBb.nd (by rfl) (by exact Or.inl rfl) (pe_callTy call_tuple_of (by rfl) T.tuple boot_tuple (pa_cons (pe_comp (NB := ["_law_k", "_law_script", "_law_at"]) (n := 1) (fr := [1, 2]) (compOk2 (outer := defScope s__law_between_by) (x := "_law_script") (y := "_law_at") (by rfl) (by decide +kernel) (by rfl) (by rfl) (by rfl) (by rfl) (by rfl) (by rfl) (by rfl)) (by rfl)
        (pi_range1 (by rfl) T.range (pa_b (pe_op op_mod (pv 9) pe_int) pa_nil)) (fun _ _ _ _ _ => pg_name (i := 0) (show (["_law_k", "_law_script", "_law_at"] : List Str).Nodup by decide +kernel) (by rfl) (by exact Or.inl rfl)) (fun _ _ _ _ _ => pifs_nil)
        (fun _ _ _ _ _ => pe_call GE hr (by rfl) mE kE bE .nil pass0 (pa_n (pv 1) (pa_b (pe_op op_add (pe_op op_add (pv 2) pe_int) (pe_op op_mul pe_int (pv 0))) pa_nil)))) pa_nil)))
    (@pss_o _ _ _ (ps_ret (pe_op op_catU (pv 6) (pe_tup (pa_n (pv 7) (pa_n (pv 8) (pa_n (pv 11) (pa_k (pe_call GU r1 (by rfl) mU kU bU .nil pass0 (pa_b (pe_op op_fdiv (pv 9) pe_int) (pa_i pe_int pa_nil))) pa_nil)))))))))))))))))), ?_⟩
  obtain ⟨a0, a1⟩ := emod_in k (m := 9) (by decide)
  refine ⟨_, rfl, _, rfl, a, ns, k, rfl, hS, h0, by omega, fun n n0 n1 => ?_⟩
  refine ⟨_, rfl, _, _, rfl, rfl, (by show (0 : Int) < 9; decide), ?_⟩
  refine ⟨_, rfl, _, _, rfl, rfl, _, rfl, _, _, rfl, rfl, ⟨by decide, by decide⟩, _, _, rfl, rfl, (by show (0 : Int) < 8; decide), _, _, rfl, rfl, _, _, rfl, rfl, (by show (0 : Int) < 9; decide), ?_⟩
  obtain ⟨o1, ho1⟩ : ∃ o1, o1 = n % 9 := ⟨_, rfl⟩
  obtain ⟨o2, ho2⟩ : ∃ o2, o2 = (o1 + 1 + n / 9 % 8) % 9 := ⟨_, rfl⟩
  show gName 5 (V.int ((n % 9 + 1 + n / 9 % 8) % 9)) ([some (V.str x), some (V.ref a), some (V.int k), some (V.int n), some (V.int (n % 9))] ++ [none, none, none, none, none, none, none]) H _
  rw [← ho1, ← ho2]
  refine ⟨_, rfl, _, rfl, _, rfl, _, rfl, _, rfl, _, _, rfl, rfl, a, ns, k + 1, rfl, hS, by omega, by omega, fun n2 n20 n21 => ⟨n2, 1, rfl, n20, n21, by decide, by decide, fun z => ⟨tiny (by show 4 ≤ 1000; decide), fun p hp => ?_⟩⟩⟩
  have s1 := same_upd (o := HO.tup [V.str x, V.int o1, V.int o2, V.int z]) hp
  have hS1 := SqL.same hS s1
  refine ⟨_, rfl, _, rfl, _, _, rfl, rfl, a, ns, k + 2, rfl, hS1, by omega, by omega, fun n3 n30 n31 => ⟨n3, rfl, n30, n31, fun v3 H3 t3 s3 => ?_⟩⟩
  obtain ⟨p3, i3, j3, rfl, hp3⟩ := t3
  refine ⟨p3, _, rfl, SqT.of hp3, rfl, _, _, rfl, _, _, rfl, rfl, ?_⟩
  have hS3 := SqL.same hS1 s3
  refine ⟨_, rfl, _, rfl, _, _, rfl, rfl, a, ns, k + 3, rfl, hS3, by omega, by omega, fun m m0 m1 => ?_⟩
  have hd3 : H3 p = some (.tup [V.str x, V.int o1, V.int o2, V.int z]) := s3 _ _ upd_same
  have s03 := s1.trans s3
  generalize hHe : upd H p (HO.tup [V.str x, V.int o1, V.int o2, V.int z]) = He at *
  have fin : ∀ (ys : List V) (H4 : Hp), ys.length ≤ 12 → ThL 200 H4 ys → Same H3 H4 → ∀ p5, H4 p5 = none → rCatU (.ref p) (.ref p5) (upd H4 p5 (.tup ys)) Q := by
    intro ys H4 hl ty s4 p5 h5
    have s5 := same_upd (o := HO.tup ys) h5
    refine ⟨p, p5, _, ys, rfl, rfl, s5 _ _ (s4 _ _ hd3), upd_same, tiny (by show 4 + ys.length ≤ 1000; omega), fun p6 H6 e6 s6 => ?_⟩
    refine q _ _ ⟨p6, _, rfl, e6, by simp, by rw [List.length_append]; show 4 + ys.length ≤ 16; omega, ?_⟩ ((s03.trans s4).trans (s5.trans s6))
    exact ThL.append (.cons (.str x (by omega)) (.cons (.int _) (.cons (.int _) (.cons (.int _) .nil)))) (ty.mono (Nat.le_refl _) (s5.trans s6))
  refine ⟨_, rfl, rfl, _, rfl, ite2 (fun _ => ?_) (fun _ => ?_)⟩
  · exact ⟨_, rfl, _, rfl, _, rfl, tiny (by show 2 ≤ 1000; decide), fun p5 h5 => fin _ _ (by show 2 ≤ 12; decide) (.cons (.int _) (.cons (.int _) .nil)) (Same.refl _) p5 h5⟩
  refine ⟨_, rfl, rfl, _, rfl, ite2 (fun _ => ?_) (fun _ => ?_)⟩
  · exact ⟨_, rfl, _, rfl, _, _, rfl, rfl, (by show (0 : Int) < 2; decide), rfl, tiny (by show 1 ≤ 1000; decide), fun p5 h5 => fin _ _ (by show 1 ≤ 12; decide) (.cons (.bl _) .nil) (Same.refl _) p5 h5⟩
  refine ⟨_, rfl, rfl, _, rfl, ite2 (fun _ => ?_) (fun _ => ?_)⟩
  · exact ⟨_, rfl, _, rfl, _, _, rfl, rfl, (by show (0 : Int) < 2; decide), rfl, _, rfl, _, _, rfl, rfl, ⟨by decide, by decide⟩, m / 2, 0, rfl, Int.ediv_nonneg m0 (by decide), by omega, by decide, by decide, fun z2 => ⟨tiny (by show 2 ≤ 1000; decide), fun p5 h5 => fin _ _ (by show 2 ≤ 12; decide) (.cons (.bl _) (.cons (.int _) .nil)) (Same.refl _) p5 h5⟩⟩
  refine ⟨_, rfl, rfl, _, rfl, ite2 (fun _ => ?_) (fun _ => ?_)⟩
  · refine ⟨_, rfl, _, rfl, _, _, rfl, rfl, a, ns, k + 4, rfl, hS3, by omega, by omega, fun v4 H4 t4 s4 => ?_⟩
    obtain ⟨q4, i4, j4, sv, st, rfl, hq4, ts4, tt4⟩ := t4
    refine ⟨_, rfl, _, rfl, q4, _, 0, _, rfl, rfl, SqT.of hq4, atI_nat (j := 0) rfl, _, _, rfl, _, rfl, q4, _, 1, _, rfl, rfl, SqT.of hq4, atI_nat (j := 1) rfl, _, _, rfl, _, rfl, q4, _, 2, _, rfl, rfl, SqT.of hq4, atI_nat (j := 2) rfl, _, rfl, q4, _, 3, _, rfl, rfl, SqT.of hq4, atI_nat (j := 3) rfl, tiny (by show 4 ≤ 1000; decide), fun p4 h4 => ?_⟩
    refine ⟨tiny (by show 1 ≤ 1000; decide), fun p5 h5 => ?_⟩
    have s5 := same_upd (H := H4) (p := p4) (o := HO.tup [V.int (if i4 > 1 then i4 else 1), V.int (if j4 > 1 then j4 else 1), sv, st]) h4
    exact fin _ _ (by show 1 ≤ 12; decide) (.cons (.tup upd_same (by show 4 ≤ 200; decide) (.cons (.int _) (.cons (.int _) (.cons (ts4.mono (by decide) s5) (.cons (tt4.th.mono (Nat.le_refl _) s5) .nil))))) .nil) (s4.trans s5) p5 h5
  obtain ⟨g0, g1⟩ := emod_in m (m := 6) (by decide)
  refine ⟨_, rfl, _, _, rfl, rfl, (by show (0 : Int) < 6; decide), _, rfl, ?_, ?_, comp_ex (n := (m % 6).toNat) (k := 1) (PairT 16) PairT.mono (by rw [sizeLine_eq]; omega) (fun i H2 hi _ => hi) (fun H2 _ => Nat.le_refl _) ?_ ?_⟩
  · omega
  · omega
  · intro i H4 t v H5 S hi s4 ht y hR _
    obtain ⟨rfl, rfl⟩ := y
    obtain ⟨t0, rfl⟩ := one_slot ht
    refine ⟨_, rfl, _, rfl, _, _, rfl, rfl, _, rfl, _, _, rfl, rfl, .inl ⟨by decide, by decide⟩, _, _, rfl, rfl, a, ns, _, rfl, SqL.same hS3 s4, ?_, ?_, fun v6 H6 t6 s6 => ?_⟩
    · omega
    · omega
    · exact hR [some (.int (0 + (i : Int)))] H6 _ rfl s6 t6
  · intro D1 H4 ys s4 hD hd hl hR
    refine ⟨D1, ys, rfl, .inl ⟨SqL.of hd, fun p5 h5 => ?_⟩⟩
    have s5 := same_upd (o := HO.tup ys) h5
    refine ⟨_, rfl, _, rfl, _, rfl, _, rfl, _, rfl, _, _, rfl, rfl, ⟨by decide, by decide⟩, m / 6, 0, rfl, Int.ediv_nonneg m0 (by decide), by omega, by decide, by decide, fun z2 => ⟨tiny (by show 4 ≤ 1000; decide), fun p6 h6 => ?_⟩⟩
    have tys : ThL 200 (upd H4 p5 (.tup ys)) ys := ((ThNL.of (B := 16) fun v hv => (hR v hv).th (by decide)).th).mono (by decide) s5
    exact fin _ _ (by show 4 ≤ 12; decide) (.cons (.int _) (.cons (.int _) (.cons (.tup upd_same (by omega) tys) (.cons (.int _) .nil)))) (s4.trans s5) p6 h6

theorem scLb : FnScope ["_law_script", "_law_at", "_law_kinds", "_law_number", "_law_kind_here", "_law_caller", "_law_count"] ["_law_script", "_law_at"] (defScope s__law_letter_by) := ⟨rfl, rfl, rfl, by decide +kernel, rfl, by decide +kernel, by decide +kernel⟩
theorem ok_letter_by {f : Addr} {fd : FuncData} (F : Fun K "_law_letter_by" "_law_letter_by" s__law_letter_by f fd) (CM : Cal P w K mg base "_law_mixed" 2 ["_law_script", "_law_k"] (spMixed K)) (CU : Cal P w K mg base "_law_number_by" 1 ["_law_number", "_law_least"] spNumBy)
    (CN : Cal P w K mg base "_law_name_by" 1 ["_law_number"] spNameBy) (CV : Cal P w K mg base "_law_value_by" 2 ["_law_number"] spValBy) (CD : Cal P w K mg base "_law_deed_by" 3 ["_law_script", "_law_at"] (spBy K 900 (ThN 16))) (CB : Cal P w K mg base "_law_between_by" 6 ["_law_kind_here", "_law_script", "_law_at"] (spBtwBy K)) : FnOk P w K mg base CX0 7 f fd ["_law_script", "_law_at"] (spBy K 800 LetT) := by
  refine F.ok scLb spBy_len (fun cdv A outer s H vs Q E hr h => ?_)
  obtain ⟨a, ns, k, rfl, hS, h0, h1, q⟩ := h
  obtain ⟨gM, dM, GM, mM, kM, bM⟩ := CM.ex
  obtain ⟨gU, dU, GU, mU, kU, bU⟩ := CU.ex
  obtain ⟨gN, dN, GN, mN, kN, bN⟩ := CN.ex
  obtain ⟨gV, dV, GV, mV, kV, bV⟩ := CV.ex
  obtain ⟨gD, dD, GD, mD, kD, bD⟩ := CD.ex
  obtain ⟨gB, dB, GB, mB, kB, bB⟩ := CB.ex
  have r1 := hr.mono (show 1 ≤ 6 by decide)
  have r2 := hr.mono (show 2 ≤ 6 by decide)
  have r3 := hr.mono (show 3 ≤ 6 by decide)
  refine ⟨_, @pss_q _ _ _ _ _ (qs_set (i := 2) scLb.nd (by rfl) (by exact Or.inl rfl) (qx_lst (qa_str (qa_str (qa_str (qa_str (qa_str (qa_str (qa_str (qa_str qa_nil))))))))) sw_l)
    (@pss_p _ _ _ _ _ (ps_set (i := 3) scLb.nd (by rfl) (by exact Or.inl rfl) (pe_call GM r2 (by rfl) mM kM bM .nil pass0 (pa_n (pv 0) (pa_n (pv 1) pa_nil))))
    (@pss_p _ _ _ _ _ (ps_set (i := 4) scLb.nd (by rfl) (by exact Or.inl rfl) (pe_ix ix_list (pv 2) (pe_op op_mod (pv 3) pe_int) px_b))
    (@pss_p _ _ _ _ _ (ps_if (pt_cmpR op_lt (pe_op op_mod (pv 3) pe_int) pe_int (nomark _)) (pss_one (ps_ret (pe_call GB hr (by rfl) mB kB bB .nil pass0 (pa_n (pv 4) (pa_n (pv 0) (pa_b (pe_op op_add (pv 1) pe_int) pa_nil)))))) (pss_nil))
    (@pss_p _ _ _ _ _ (ps_set (i := 5) scLb.nd (by rfl) (by exact Or.inl rfl) (pe_call GN r1 (by rfl) mN kN bN .nil pass0 (pa_k (pe_call GM r2 (by rfl) mM kM bM .nil pass0 (pa_n (pv 0) (pa_b (pe_op op_add (pv 1) pe_int) pa_nil))) pa_nil)))
    (@pss_p _ _ _ _ _ (ps_set (i := 6) scLb.nd (by rfl) (by exact Or.inl rfl) (pe_call GU r1 (by rfl) mU kU bU .nil pass0 (pa_k (pe_call GM r2 (by rfl) mM kM bM .nil pass0 (pa_n (pv 0) (pa_b (pe_op op_add (pv 1) pe_int) pa_nil))) (pa_i pe_int pa_nil))))
    (@pss_p _ _ _ _ _ (ps_if (pt_cmpR op_eq (pv 4) pe_str (nomark _)) (pss_one (ps_ret (pe_tup (pa_n (pv 4) (pa_n (pv 5) (pa_b (pe_op op_mod (pe_op op_fdiv (pv 3) pe_int) pe_int) (pa_n (pv 6) (pa_k (pe_call GD r3 (by rfl) mD kD bD .nil pass0 (pa_n (pv 0) (pa_b (pe_op op_add (pv 1) pe_int) pa_nil))) pa_nil)))))))) (pss_nil))
    (@pss_p _ _ _ _ _ (ps_if (pt_cmpR op_eq (pv 4) pe_str (nomark _)) (pss_one (ps_ret (pe_tup (pa_n (pv 4) (pa_b (pe_op op_mod (pe_op op_fdiv (pv 3) pe_int) pe_int) (pa_n (pv 5) (pa_n (pv 6) (pa_k (pe_call GV r2 (by rfl) mV kV bV .nil pass0 (pa_k (pe_call GM r2 (by rfl) mM kM bM .nil pass0 (pa_n (pv 0) (pa_b (pe_op op_add (pv 1) pe_int) pa_nil))) pa_nil)) pa_nil)))))))) (pss_nil))
    (@pss_o _ _ _ (ps_retQ (qx_tup (qa_n (pv 4) (qa_b (pe_op op_mod (pe_op op_fdiv (pv 3) pe_int) pe_int) (qa_n (pv 5) (qa_n (pv 6) (qa_sQ (qx_ix ix_list (dx_lst (da_non (da_int (da_int (da_int (da_int (da_int (da_int (da_int (da_int (da_int (da_nil))))))))))) (by decide)) (pe_op op_mod (pe_op op_fdiv (pv 3) pe_int) pe_int) px_b) qa_nil))))))))))))))), ?_⟩
  refine ⟨tiny (by show 8 ≤ 1000; decide), fun p hp => ?_⟩
  have s1 := same_upd (o := HO.lst [V.str "ask", V.str "voice", V.str "hand", V.str "pack", V.str "held", V.str "wish", V.str "told", V.str "away"]) hp
  have hS1 := SqL.same hS s1
  refine ⟨_, rfl, _, rfl, a, ns, k, rfl, hS1, h0, by omega, fun n n0 n1 => ?_⟩
  obtain ⟨e0, e1⟩ := emod_in n (m := 8) (by decide)
  obtain ⟨wd, hw, hm⟩ := atI_mem (xs := [V.str "ask", V.str "voice", V.str "hand", V.str "pack", V.str "held", V.str "wish", V.str "told", V.str "away"]) (i := n % 8) e0 (by show n % 8 < ((8 : Nat) : Int); omega)
  obtain ⟨x, rfl, hx⟩ : ∃ y : Str, wd = .str y ∧ y.length ≤ 16 := by
    simp only [List.mem_cons, List.not_mem_nil, or_false] at hm
    rcases hm with rfl | rfl | rfl | rfl | rfl | rfl | rfl | rfl <;> exact ⟨_, rfl, by decide +kernel⟩
  refine ⟨_, rfl, _, rfl, _, _, rfl, rfl, (by show (0 : Int) < 8; decide), p, _, _, _, rfl, rfl, SqL.of upd_same, hw, ?_⟩
  generalize hHe : upd H p (HO.lst [V.str "ask", V.str "voice", V.str "hand", V.str "pack", V.str "held", V.str "wish", V.str "told", V.str "away"]) = He at *
  refine ⟨_, rfl, _, _, rfl, rfl, (by show (0 : Int) < 8; decide), _, _, rfl, rfl, _, rfl, ite2 (fun _ => ?_) (fun _ => ?_)⟩
  · exact ⟨_, rfl, _, rfl, _, rfl, _, _, rfl, rfl, x, a, ns, k + 1, rfl, hx, hS1, by omega, by omega, fun v' H' t' s' => q v' H' t' (s1.trans s')⟩
  refine ⟨_, rfl, _, rfl, _, _, rfl, rfl, a, ns, k + 1, rfl, hS1, by omega, by omega, fun n2 n20 n21 => ⟨n2, rfl, n20, fun y H3 hy s3 => ?_⟩⟩
  have hS3 := SqL.same hS1 s3
  refine ⟨_, rfl, _, rfl, _, _, rfl, rfl, a, ns, k + 2, rfl, hS3, by omega, by omega, fun n4 n40 n41 => ⟨n4, 1, rfl, n40, n41, by decide, by decide, fun z => ?_⟩⟩
  have fin : ∀ (ys : List V) (H4 : Hp), ys.length = 5 → ThL 200 H4 ys → Same H3 H4 → ys.length ≤ sizeLine ∧ ∀ p5, H4 p5 = none → Q (.ref p5) (upd H4 p5 (.tup ys)) := fun ys H4 hl ty s4 => ⟨tiny (by omega), fun p5 h5 =>
    q _ _ ⟨p5, ys, rfl, upd_same, (fun z => by rw [z] at hl; cases hl), by omega, ty.mono (Nat.le_refl _) (same_upd h5)⟩ ((s1.trans s3).trans (s4.trans (same_upd h5)))⟩
  refine ⟨_, rfl, rfl, _, rfl, ite2 (fun _ => ?_) (fun _ => ?_)⟩
  · refine ⟨_, rfl, _, rfl, _, rfl, _, _, rfl, rfl, ⟨by decide, by decide⟩, _, _, rfl, rfl, (by show (0 : Int) < 9; decide), _, rfl, _, rfl, _, rfl, _, _, rfl, rfl, a, ns, k + 3, rfl, hS3, by omega, by omega, fun v4 H4 t4 s4 => ?_⟩
    exact fin _ _ rfl (.cons (.str x (by omega)) (.cons (.str y (by omega)) (.cons (.int _) (.cons (.int _) (.cons (t4.th.mono (by decide) (Same.refl _)) .nil))))) s4
  refine ⟨_, rfl, rfl, _, rfl, ite2 (fun _ => ?_) (fun _ => ?_)⟩
  · refine ⟨_, rfl, _, rfl, _, _, rfl, rfl, ⟨by decide, by decide⟩, _, _, rfl, rfl, (by show (0 : Int) < 9; decide), _, rfl, _, rfl, _, rfl, _, rfl, _, _, rfl, rfl, a, ns, k + 3, rfl, hS3, by omega, by omega, fun n5 n50 n51 => ⟨n5, rfl, n50, n51, fun z5 => ?_⟩⟩
    exact fin _ _ rfl (.cons (.str x (by omega)) (.cons (.int _) (.cons (.str y (by omega)) (.cons (.int _) (.cons (.int _) .nil))))) (Same.refl _)
  refine ⟨_, rfl, _, rfl, _, _, rfl, rfl, ⟨by decide, by decide⟩, _, _, rfl, rfl, (by show (0 : Int) < 9; decide), _, rfl, _, rfl, ?_⟩
  intro p6 vs6 H6 e6 l6 t6 s6
  obtain ⟨f0, f1⟩ := emod_in (n / 72) (m := 10) (by decide)
  obtain ⟨u, eu, tu⟩ := th_at t6 f0 (by rw [l6]; exact f1)
  refine ⟨_, rfl, _, _, rfl, rfl, ⟨by decide, by decide⟩, _, _, rfl, rfl, (by show (0 : Int) < 10; decide), p6, _, _, u, rfl, rfl, SqL.of e6, eu, ?_⟩
  exact fin _ _ rfl (.cons (.str x (by omega)) (.cons (.int _) (.cons (.str y (by omega)) (.cons (.int _) (.cons (tu.mono (by decide) (Same.refl _)) .nil))))) s6
end
end K1
set_option Elab.async false
set_option linter.all false
set_option maxRecDepth 100000
set_option maxHeartbeats 4000000
namespace K1
open PySem L2 Kp
section
variable {P : Program} {w : World} {K : PySem.W.Frag} {mg : Str → Option Value} {base : Heap}
theorem _root_.Kp.IsL.at {B : Nat} {H : Hp} : ∀ {vs ds} {i : Nat} {d : D}, IsL B H vs ds → ds[i]? = some d → ∃ v, atI vs (i : Int) = some v ∧ Is B H v d := by
  intro vs ds i d r h
  have hi : i < ds.length := (List.getElem?_eq_some_iff.mp h).1
  have hi' : i < vs.length := by rw [r.length]; exact hi
  obtain ⟨d', h', I⟩ := r.get (i := i) (v := vs[i]) (by simp [hi'])
  rw [h] at h'
  cases h'
  exact ⟨vs[i], atI_nat (by simp [hi']), I⟩
theorem len_dec {B : Nat} {H : Hp} {vs : List V} {ds : List D} (r : IsL B H vs ds) (n : Nat) : decide (V.int (vs.length : Int) = V.int (n : Int)) = decide (ds.length = n) := by
  rw [r.length, Bool.eq_iff_iff]
  simp only [decide_eq_true_eq]
  constructor
  · intro h; have := V.int.inj h; omega
  · intro h; rw [h]

/-! ### the law's own tellers of deeds and entries -/
theorem scAn : FnScope ["_law_thing"] ["_law_thing"] (defScope s__law_any) := ⟨rfl, rfl, rfl, by decide +kernel, rfl, by decide +kernel, by decide +kernel⟩
theorem ok_any {f : Addr} {fd : FuncData} (F : Fun K "_law_any" "_law_any" s__law_any f fd) (T : Txt mg) : FnOk P w K mg base CX0 1 f fd ["_law_thing"] (spP whole) := by
  refine F.ok scAn spP_len (fun cdv A outer s H vs Q E hr h => ?_)
  obtain ⟨B, v, d, hB, rfl, I, k⟩ := h
  refine ⟨_, pss_one (ps_ret (pe_and (pe_callB call_isi rfl T.isi boot_isi (pa_cons (pv 0) (pa_cons (pe_ty rfl T.int boot_int) pa_nil)))
    (pe_one (pe_not (pe_callB call_isi rfl T.isi boot_isi (pa_cons (pv 0) (pa_cons (pe_ty rfl T.bool boot_bool) pa_nil))))))), ?_⟩
  refine ⟨_, rfl, _, _, _, _, rfl, I.ty, kit_int K d, _, rfl, ?_⟩
  have k0 := k H (Same.refl _)
  unfold whole at k0
  cases e : isInt d with
  | false => rw [e] at k0; exact iteF k0
  | true =>
    rw [e] at k0
    exact iteT ⟨_, rfl, _, _, _, _, rfl, I.ty, kit_bool K d, _, rfl, k0⟩
def sizedD (n : Int) : D → Bool
  | .tup ds => decide ((ds.length : Int) = n)
  | _ => false
def spSized : Sp := fun vs H Q _ => ∃ B v d n, B ≤ 1000 ∧ vs = [v, .int n] ∧ Is B H v d ∧ Q (.bl (sizedD n d)) H
theorem scSz : FnScope ["_law_thing", "_law_size"] ["_law_thing", "_law_size"] (defScope s__law_sized) := ⟨rfl, rfl, rfl, by decide +kernel, rfl, by decide +kernel, by decide +kernel⟩
theorem ok_sized {f : Addr} {fd : FuncData} (F : Fun K "_law_sized" "_law_sized" s__law_sized f fd) (T : Txt mg) : FnOk P w K mg base CX0 1 f fd ["_law_thing", "_law_size"] spSized := by
  refine F.ok scSz (fun vs H Q E ⟨_, _, _, _, _, e, _⟩ => by subst e; rfl) (fun cdv A outer s H vs Q E hr h => ?_)
  obtain ⟨B, v, d, n, hB, rfl, I, k⟩ := h
  refine ⟨_, pss_one (ps_ret (pe_and (pe_callB call_isi rfl T.isi boot_isi (pa_cons (pv 0) (pa_cons (pe_ty rfl T.tuple boot_tuple) pa_nil))) (pe_one (pe_cmpR op_eq (pe_callB call_len_seq rfl T.len PySem.boot_len (pa_cons (pv 0) pa_nil)) (pv 1) (nomark _))))), ?_⟩
  refine ⟨_, rfl, _, _, _, _, rfl, I.ty, kit_tup K d, _, rfl, ?_⟩
  cases d with
  | tup ds =>
    cases I with
    | @tup a xs _ ea hl r =>
    have e : decide (V.int (xs.length : Int) = V.int n) = decide ((ds.length : Int) = n) := by
      rw [r.length, Bool.eq_iff_iff]
      simp only [decide_eq_true_eq]
      exact ⟨fun h => V.int.inj h, fun h => by rw [h]⟩
    have k' : Q (.bl (decide ((ds.length : Int) = n))) H := k
    rw [← e] at k'
    exact iteT ⟨_, rfl, a, xs, rfl, .inr (SqT.of ea), _, rfl, rfl, k'⟩
  | non => exact iteF k
  | bl _ => exact iteF k
  | int _ => exact iteF k
  | str _ => exact iteF k
  | lst _ => exact iteF k
end
end K1
set_option Elab.async false
set_option linter.all false
set_option maxRecDepth 100000
set_option maxHeartbeats 4000000
namespace K1
open PySem L2 Kp
section
variable {P : Program} {w : World} {K : PySem.W.Frag} {mg : Str → Option Value} {base : Heap}
theorem scKi : FnScope ["_law_thing"] ["_law_thing"] (defScope s__law_kind) := ⟨rfl, rfl, rfl, by decide +kernel, rfl, by decide +kernel, by decide +kernel⟩
theorem ok_kind {f : Addr} {fd : FuncData} (F : Fun K "_law_kind" "_law_kind" s__law_kind f fd) (T : Txt mg) : FnOk P w K mg base CX0 1 f fd ["_law_thing"] spWord := by
  refine F.ok scKi (fun vs H Q E ⟨_, _, _, _, e, _⟩ => by subst e; rfl) (fun cdv A outer s H vs Q E hr h => ?_)
  obtain ⟨B, v, d, hB, rfl, I, k⟩ := h
  refine ⟨_, pss_cons (ps_if (PW.pt (pw_and (pt_val (pe_callB call_isi rfl T.isi boot_isi (pa_cons (pv 0) (pa_cons (pe_ty rfl T.tuple boot_tuple) pa_nil)))) (pw_and (pt_cmpR op_gt (pe_callB call_len_seq rfl T.len PySem.boot_len (pa_cons (pv 0) pa_nil)) pe_int (nomark _)) (pw_and1 (pt_val (pe_callB call_isi rfl T.isi boot_isi (pa_cons (pe_ix ix_tup (pv 0) pe_int (fun _ _ => rfl)) (pa_cons (pe_ty rfl T.str boot_str) pa_nil)))))))) (pss_one (ps_ret (pe_ix ix_tup (pv 0) pe_int (fun _ _ => rfl)))) pss_nil)
    (pss_one (ps_ret pe_str)), ?_⟩
  refine ⟨_, rfl, _, _, _, _, rfl, I.ty, kit_tup K d, _, rfl, ?_⟩
  cases d with
  | tup ds =>
    cases I with
    | @tup a xs _ ea hl r =>
    refine iteT ⟨_, rfl, a, xs, rfl, .inr (SqT.of ea), _, _, rfl, rfl, _, rfl, ?_⟩
    cases r with
    | nil => exact iteF (iteF k)
    | @cons x d0 xs0 ds0 Ix It =>
      rw [decide_eq_true (show (0 : Int) < (((x :: xs0).length : Nat) : Int) by simp)]
      refine iteT ⟨_, rfl, a, _, 0, x, rfl, rfl, SqT.of ea, atI_nat (j := 0) rfl, _, _, _, _, rfl, Ix.ty, kit_str K d0, _, rfl, ?_⟩
      cases hs : isStr d0 with
      | false =>
        rw [word_nostr hs] at k
        exact iteF k
      | true =>
        obtain ⟨y, rfl⟩ := isStr_inv hs
        cases Ix
        exact iteT ⟨_, rfl, a, _, 0, _, rfl, rfl, SqT.of ea, atI_nat (j := 0) rfl, k⟩
  | non => exact iteF (iteF k)
  | bl _ => exact iteF (iteF k)
  | int _ => exact iteF (iteF k)
  | str _ => exact iteF (iteF k)
  | lst _ => exact iteF (iteF k)

theorem scDL : FnScope ["_law_thing"] ["_law_thing"] (defScope s__law_deed) := ⟨rfl, rfl, rfl, by decide +kernel, rfl, by decide +kernel, by decide +kernel⟩
theorem ok_deedL {f : Addr} {fd : FuncData} (F : Fun K "_law_deed" "_law_deed" s__law_deed f fd) (T : Txt mg) (CK : Cal P w K mg base "_law_kind" 1 ["_law_thing"] spWord) (CN : Cal P w K mg base "_law_name" 1 ["_law_thing"] (spP nameL)) (CA : Cal P w K mg base "_law_any" 1 ["_law_thing"] (spP whole)) :
    FnOk P w K mg base CX0 2 f fd ["_law_thing"] (spP deedL) := by
  refine F.ok scDL spP_len (fun cdv A outer s H vs Q E hr h => ?_)
  obtain ⟨B, v, d, hB, rfl, I, k⟩ := h
  obtain ⟨gK, dK, GK, mK, kK, bK⟩ := CK.ex
  obtain ⟨gN, dN, GN, mN, kN, bN⟩ := CN.ex
  obtain ⟨gA, dA, GA, mA, kA, bA⟩ := CA.ex
  refine ⟨_, pss_cons (ps_if (pt_cmpR op_eq (pe_call GK hr rfl mK kK bK .nil pass0 (pa_n (pv 0) pa_nil)) pe_str (nomark _))
      (pss_one (ps_ret (pe_and (pe_cmpR op_eq (pe_callB call_len_seq rfl T.len PySem.boot_len (pa_n (pv 0) pa_nil)) pe_int (nomark _)) (pe_one (pe_call GN hr rfl mN kN bN .nil pass0 (pa_s (pe_ix ix_tup (pv 0) pe_int px_i) pa_nil)))))) pss_nil)
    (pss_one (ps_ret (pe_and (pe_cmpR op_in_seq (pe_call GK hr rfl mK kK bK .nil pass0 (pa_n (pv 0) pa_nil)) (QE.h (qx_tup (qa_str (qa_str qa_nil)))) rfl) (pe_and (pe_cmpR op_eq (pe_callB call_len_seq rfl T.len PySem.boot_len (pa_n (pv 0) pa_nil)) pe_int (nomark _))
      (pe_and (pe_call GN hr rfl mN kN bN .nil pass0 (pa_s (pe_ix ix_tup (pv 0) pe_int px_i) pa_nil)) (pe_one (pe_call GA hr rfl mA kA bA .nil pass0 (pa_s (pe_ix ix_tup (pv 0) pe_int px_i) pa_nil)))))))), ?_⟩
  refine ⟨_, rfl, B, v, d, hB, rfl, I, rfl, _, rfl, ?_⟩
  by_cases hg : wordD d = "get"
  · rw [decide_eq_true (show V.str (wordD d) = V.str "get" by rw [hg])]
    obtain ⟨r, rfl⟩ := word_inv hg (by decide +kernel)
    cases I with
    | @tup a xs _ ea hl rr =>
    refine iteT ⟨_, rfl, a, xs, rfl, .inr (SqT.of ea), rfl, _, rfl, ?_⟩
    have e := len_dec rr 2
    show if decide (V.int (xs.length : Int) = V.int ((2 : Nat) : Int)) = true then _ else _
    have kr : ∀ H', Same H H' → Q (.bl (one nameL r)) H' := fun H' s' => by
      have := k H' s'
      rw [deedL_get] at this
      exact this
    rw [e]
    clear k hg e
    match r, kr, rr with
    | [], kr, rr => exact iteF (kr H (Same.refl _))
    | [y], kr, rr =>
      obtain ⟨v1, e1, I1⟩ := rr.at (i := 1) rfl
      exact iteT ⟨_, rfl, a, xs, 1, v1, rfl, rfl, SqT.of ea, e1, B, v1, y, hB, rfl, I1, kr⟩
    | y :: y2 :: t, kr, rr =>
      rw [decide_eq_false (show ¬ (D.str "get" :: y :: y2 :: t).length = 2 by simp)]
      exact iteF (kr H (Same.refl _))
  · rw [decide_eq_false (show ¬ V.str (wordD d) = V.str "get" from fun z => hg (V.str.inj z))]
    refine iteF ⟨_, rfl, B, v, d, hB, rfl, I, tiny (by show 2 ≤ 1000; decide), fun p hp => ⟨p, _, rfl, .inr (SqT.of upd_same), rfl, rfl, _, rfl, ?_⟩⟩
    have s1 := same_upd (o := HO.tup [V.str "set", V.str "add"]) hp
    have ein : inV (V.str (wordD d)) [V.str "set", V.str "add"] = decide (wordD d = "set" ∨ wordD d = "add") := by
      show (decide (("set" : Str) = wordD d) || (decide (("add" : Str) = wordD d) || false)) = _
      rw [Bool.eq_iff_iff]
      simp only [Bool.or_eq_true, decide_eq_true_eq, Bool.false_eq_true, or_false]
      exact ⟨fun h => h.imp Eq.symm Eq.symm, fun h => h.imp Eq.symm Eq.symm⟩
    show if inV (V.str (wordD d)) [V.str "set", V.str "add"] = true then _ else _
    rw [ein]
    by_cases hs : wordD d = "set" ∨ wordD d = "add"
    · rw [decide_eq_true hs]
      obtain ⟨r, e⟩ := word_inv (d := d) rfl (fun z => by rw [z] at hs; rcases hs with z | z <;> exact absurd z (by decide +kernel))
      generalize wordD d = x at hs hg e
      subst e
      cases I with
      | @tup a xs _ ea hl rr =>
      refine iteT ⟨_, rfl, a, xs, rfl, .inr (SqT.of (s1 _ _ ea)), rfl, _, rfl, ?_⟩
      have e := len_dec rr 3
      show if decide (V.int (xs.length : Int) = V.int ((3 : Nat) : Int)) = true then _ else _
      have kr : ∀ H', Same H H' → Q (.bl (two nameL whole r)) H' := fun H' s' => by
        have := k H' s'
        rw [show deedL (.tup (.str x :: r)) = two nameL whole r from (if_neg hg).trans (if_pos hs)] at this
        exact this
      rw [e]
      clear k ein e
      match r, kr, rr with
      | [], kr, rr => exact iteF (kr _ s1)
      | [y], kr, rr => exact iteF (kr _ s1)
      | [y, y2], kr, rr =>
        obtain ⟨v1, e1, I1⟩ := rr.at (i := 1) rfl
        obtain ⟨v2, e2, I2⟩ := rr.at (i := 2) rfl
        refine iteT ⟨_, rfl, a, xs, 1, v1, rfl, rfl, SqT.of (s1 _ _ ea), e1, B, v1, y, hB, rfl, I1.same s1, fun H' s' => ⟨_, rfl, ?_⟩⟩
        have k1 : ∀ H'', Same H' H'' → Q (.bl (nameL y && whole y2)) H'' := fun H'' s'' => kr H'' (s1.trans (s'.trans s''))
        cases hn : nameL y with
        | false =>
          rw [hn] at k1
          exact iteF (k1 H' (Same.refl _))
        | true =>
          rw [hn] at k1
          exact iteT ⟨_, rfl, a, xs, 2, v2, rfl, rfl, SqT.of (s' _ _ (s1 _ _ ea)), e2, B, v2, y2, hB, rfl, (I2.same s1).same s', k1⟩
      | y :: y2 :: y3 :: t, kr, rr =>
        rw [decide_eq_false (show ¬ (D.str x :: y :: y2 :: y3 :: t).length = 3 by simp)]
        exact iteF (kr _ s1)
    · rw [decide_eq_false hs]
      have k0 := k _ s1
      have e : deedL d = false := by
        unfold deedL
        split
        · rename_i x r
          exact (if_neg hg).trans (if_neg hs)
        · rfl
      rw [e] at k0
      exact iteF k0

/-! ### the law's what and entry -/
/-- a test: the first word, and how many parts -/
def tWL (x : Str) (n : Nat) : TT := fun σ H Q => ∃ B v d, B ≤ 1000 ∧ σ[0]? = some (some v) ∧ Is B H v d ∧ Q (decide (wordD d = x ∧ lenD d = n)) H
abbrev rLen (K : PySem.W.Frag) : List V → Hp → VK → Prop := fun xs H Q => ∃ p ys, xs = [.ref p] ∧ (SqL K H p ys ∨ SqT K H p ys) ∧ Q (.int ys.length) H
theorem pt_wl {X : Cx} {a b : Expr} {pos : Pos} {x : Str} {n : Nat} {E : XK} (hx : x ≠ "") (h1 : PT X a (tTest (tOp rEq (tCall spWord [] E (tCons (tVar 0) tNil)) (tC (.str x))))) (h2 : PT X b (tTest (tOp rEq (tCB (rLen X.K) (tCons (tVar 0) tNil)) (tC (.int n))))) :
    PT X (.BoolOp .And [a, b] pos) (tWL x n) := by
  refine PT.weak (pw_and h1 (pw_and1 h2)).pt ?_
  rintro σ H Q ⟨B, v, d, hB, e0, I, q⟩
  refine ⟨v, e0, B, v, d, hB, rfl, I, rfl, _, rfl, ?_⟩
  by_cases hw : wordD d = x
  · rw [decide_eq_true (show V.str (wordD d) = V.str x by rw [hw])]
    obtain ⟨r, rfl⟩ := word_inv hw hx
    cases I with
    | @tup a xs _ ea hl rr =>
    refine iteT ⟨_, e0, a, xs, rfl, .inr (SqT.of ea), rfl, _, rfl, ?_⟩
    have e : decide (V.int (xs.length : Int) = V.int (n : Int)) = decide (wordD (.tup (.str x :: r)) = x ∧ lenD (.tup (.str x :: r)) = n) := by
      rw [len_dec rr n, Bool.eq_iff_iff]
      simp only [decide_eq_true_eq]
      exact ⟨fun h => ⟨rfl, h⟩, fun h => h.2⟩
    rw [e]
    exact q
  · rw [decide_eq_false (show ¬ V.str (wordD d) = V.str x from fun z => hw (V.str.inj z))]
    rw [decide_eq_false (fun z => hw z.1)] at q
    exact iteF q
theorem scWL : FnScope ["_law_thing"] ["_law_thing"] (defScope s__law_what) := ⟨rfl, rfl, rfl, by decide +kernel, rfl, by decide +kernel, by decide +kernel⟩
theorem ok_whatL {f : Addr} {fd : FuncData} (F : Fun K "_law_what" "_law_what" s__law_what f fd) (T : Txt mg) (CK : Cal P w K mg base "_law_kind" 1 ["_law_thing"] spWord) (CN : Cal P w K mg base "_law_name" 1 ["_law_thing"] (spP nameL)) (CF : Cal P w K mg base "_law_from" 1 ["_law_thing", "_law_least"] spFrom)
    (CD : Cal P w K mg base "_law_deed" 2 ["_law_thing"] (spP deedL)) (CS : Cal P w K mg base "_law_seats" 2 ["_law_thing"] (spP seatsL)) : FnOk P w K mg base CX0 3 f fd ["_law_thing"] (spP whatL) := by
  refine F.ok scWL spP_len (fun cdv A outer s H vs Q E hr h => ?_)
  obtain ⟨B, v, d, hB, rfl, I, k⟩ := h
  obtain ⟨gK, dK, GK, mK, kK, bK⟩ := CK.ex
  obtain ⟨gN, dN, GN, mN, kN, bN⟩ := CN.ex
  obtain ⟨gF, dF, GF, mF, kF, bF⟩ := CF.ex
  obtain ⟨gD, dD, GD, mD, kD, bD⟩ := CD.ex
  obtain ⟨gS, dS, GS, mS, kS, bS⟩ := CS.ex
  have r1 := hr.mono (show 1 ≤ 2 by decide)
  refine ⟨_, pss_cons (ps_if (pt_wl (n := 4) (by decide +kernel) (pt_cmpR op_eq (pe_call GK r1 rfl mK kK bK .nil pass0 (pa_n (pv 0) pa_nil)) pe_str (nomark _)) (pt_cmpR op_eq (pe_callB call_len_seq rfl T.len PySem.boot_len (pa_n (pv 0) pa_nil)) pe_int (nomark _)))
      (pss_one (ps_ret (pe_and (pe_call GN r1 rfl mN kN bN .nil pass0 (pa_s (pe_ix ix_tup (pv 0) pe_int px_i) pa_nil)) (pe_and (pe_call GF r1 rfl mF kF bF .nil pass0 (pa_s (pe_ix ix_tup (pv 0) pe_int px_i) (pa_i pe_int pa_nil))) (pe_one (pe_call GD hr rfl mD kD bD .nil pass0 (pa_s (pe_ix ix_tup (pv 0) pe_int px_i) pa_nil))))))) pss_nil)
    (pss_cons (ps_if (pt_wl (n := 2) (by decide +kernel) (pt_cmpR op_eq (pe_call GK r1 rfl mK kK bK .nil pass0 (pa_n (pv 0) pa_nil)) pe_str (nomark _)) (pt_cmpR op_eq (pe_callB call_len_seq rfl T.len PySem.boot_len (pa_n (pv 0) pa_nil)) pe_int (nomark _)))
      (pss_one (ps_ret (pe_call GS hr rfl mS kS bS .nil pass0 (pa_s (pe_ix ix_tup (pv 0) pe_int px_i) pa_nil)))) pss_nil)
    (pss_one (ps_ret (pe_and (pe_cmpR op_eq (pe_call GK r1 rfl mK kK bK .nil pass0 (pa_n (pv 0) pa_nil)) pe_str (nomark _)) (pe_one (pe_cmpR op_eq (pe_callB call_len_seq rfl T.len PySem.boot_len (pa_n (pv 0) pa_nil)) pe_int (nomark _))))))), ?_⟩
  rw [← what_cfn] at k
  refine ⟨B, v, d, hB, rfl, I, ite2 (fun c => ?_) (fun c => ?_)⟩
  · have c' := of_decide_eq_true c
    have kc : ∀ H', Same H H' → Q (.bl (three nameL (geD 1) deedL (tailD d))) H' := fun H' s' => by
      have := k H' s'
      rw [show whatC d = _ from if_pos c'] at this
      exact this
    obtain ⟨r, rfl⟩ := word_inv c'.1 (by decide +kernel)
    have hr3 : r.length + 1 = 4 := c'.2
    clear k c
    match r, hr3, kc, I with
    | [y1, y2, y3], _, kc, I =>
    cases I with
    | @tup a xs _ ea hl rr =>
    obtain ⟨v1, e1, I1⟩ := rr.at (i := 1) rfl
    obtain ⟨v2, e2, I2⟩ := rr.at (i := 2) rfl
    obtain ⟨v3, e3, I3⟩ := rr.at (i := 3) rfl
    have kd : ∀ H', Same H H' → Q (.bl (nameL y1 && (geD 1 y2 && deedL y3))) H' := kc
    refine ⟨_, rfl, a, xs, 1, v1, rfl, rfl, SqT.of ea, e1, B, v1, y1, hB, rfl, I1, fun H1 s1 => ⟨_, rfl, ?_⟩⟩
    cases hn : nameL y1 with
    | false => rw [hn] at kd; exact iteF (kd _ s1)
    | true =>
      rw [hn] at kd
      refine iteT ⟨_, rfl, a, xs, 2, v2, rfl, rfl, SqT.of (s1 _ _ ea), e2, B, v2, y2, 1, hB, rfl, I2.same s1, fun H2 s2 => ⟨_, rfl, ?_⟩⟩
      cases hf : geD 1 y2 with
      | false => rw [hf] at kd; exact iteF (kd _ (s1.trans s2))
      | true =>
        rw [hf] at kd
        exact iteT ⟨_, rfl, a, xs, 3, v3, rfl, rfl, SqT.of (s2 _ _ (s1 _ _ ea)), e3, B, v3, y3, hB, rfl, (I3.same s1).same s2, fun H3 s3 => kd _ ((s1.trans s2).trans s3)⟩
  have c1 : ¬ (wordD d = "wish" ∧ lenD d = 4) := fun z => c (decide_eq_true z)
  refine ⟨B, v, d, hB, rfl, I, ite2 (fun c2 => ?_) (fun c2 => ?_)⟩
  · have c' := of_decide_eq_true c2
    have kc : ∀ H', Same H H' → Q (.bl (one seatsL (tailD d))) H' := fun H' s' => by
      have := k H' s'
      rw [show whatC d = _ from (if_neg c1).trans (if_pos c')] at this
      exact this
    obtain ⟨r, rfl⟩ := word_inv c'.1 (by decide +kernel)
    have hr3 : r.length + 1 = 2 := c'.2
    clear k c c2 c1
    match r, hr3, kc, I with
    | [y1], _, kc, I =>
    cases I with
    | @tup a xs _ ea hl rr =>
    obtain ⟨v1, e1, I1⟩ := rr.at (i := 1) rfl
    exact ⟨_, rfl, a, xs, 1, v1, rfl, rfl, SqT.of ea, e1, B, v1, y1, hB, rfl, I1, kc⟩
  have c2' : ¬ (wordD d = "seats" ∧ lenD d = 2) := fun z => c2 (decide_eq_true z)
  have k0 := k H (Same.refl _)
  rw [show whatC d = decide (wordD d = "open" ∧ lenD d = 1) from (if_neg c1).trans (if_neg c2')] at k0
  refine ⟨_, rfl, B, v, d, hB, rfl, I, rfl, _, rfl, ?_⟩
  by_cases hw : wordD d = "open"
  · rw [decide_eq_true (show V.str (wordD d) = V.str "open" by rw [hw])]
    obtain ⟨r, rfl⟩ := word_inv hw (by decide +kernel)
    cases I with
    | @tup a xs _ ea hl rr =>
    have e : decide (V.int (xs.length : Int) = V.int ((1 : Nat) : Int)) = decide (wordD (.tup (.str "open" :: r)) = "open" ∧ lenD (.tup (.str "open" :: r)) = 1) := by
      rw [len_dec rr 1, Bool.eq_iff_iff]
      simp only [decide_eq_true_eq]
      exact ⟨fun h => ⟨rfl, h⟩, fun h => h.2⟩
    rw [← e] at k0
    exact iteT ⟨_, rfl, a, xs, rfl, .inr (SqT.of ea), rfl, k0⟩
  · rw [decide_eq_false (show ¬ V.str (wordD d) = V.str "open" from fun z => hw (V.str.inj z))]
    rw [decide_eq_false (fun z => hw z.1)] at k0
    exact iteF k0
theorem scEL : FnScope ["_law_thing"] ["_law_thing"] (defScope s__law_entry) := ⟨rfl, rfl, rfl, by decide +kernel, rfl, by decide +kernel, by decide +kernel⟩
theorem ok_entryL {f : Addr} {fd : FuncData} (F : Fun K "_law_entry" "_law_entry" s__law_entry f fd) (CZ : Cal P w K mg base "_law_sized" 1 ["_law_thing", "_law_size"] spSized) (CF : Cal P w K mg base "_law_from" 1 ["_law_thing", "_law_least"] spFrom)
    (CW : Cal P w K mg base "_law_what" 3 ["_law_thing"] (spP whatL)) : FnOk P w K mg base CX0 4 f fd ["_law_thing"] (spP entryL) := by
  refine F.ok scEL spP_len (fun cdv A outer s H vs Q E hr h => ?_)
  obtain ⟨B, v, d, hB, rfl, I, k⟩ := h
  obtain ⟨gZ, dZ, GZ, mZ, kZ, bZ⟩ := CZ.ex
  obtain ⟨gF, dF, GF, mF, kF, bF⟩ := CF.ex
  obtain ⟨gW, dW, GW, mW, kW, bW⟩ := CW.ex
  have r1 := hr.mono (show 1 ≤ 3 by decide)
  refine ⟨_, pss_one (ps_ret (pe_and (pe_call GZ r1 rfl mZ kZ bZ .nil pass0 (pa_n (pv 0) (pa_i pe_int pa_nil))) (pe_and (pe_call GF r1 rfl mF kF bF .nil pass0 (pa_s (pe_ix ix_tup (pv 0) pe_int px_i) (pa_i pe_int pa_nil))) (pe_one (pe_call GW hr rfl mW kW bW .nil pass0 (pa_s (pe_ix ix_tup (pv 0) pe_int px_i) pa_nil)))))), ?_⟩
  refine ⟨_, rfl, B, v, d, 2, hB, rfl, I, _, rfl, ?_⟩
  cases hz : sizedD 2 d with
  | false =>
    have e : entryL d = false := by
      unfold entryL
      split
      · cases hz
      · rfl
    have k0 := k H (Same.refl _)
    rw [e] at k0
    exact iteF k0
  | true =>
    obtain ⟨y0, y1, rfl⟩ : ∃ y0 y1, d = .tup [y0, y1] := by
      cases d with
      | tup ds =>
        have h2 : (ds.length : Int) = 2 := of_decide_eq_true hz
        match ds, h2 with
        | [y0, y1], _ => exact ⟨y0, y1, rfl⟩
        | [], h => simp at h
        | [_], h => simp at h
        | _ :: _ :: _ :: _, h => simp at h; omega
      | _ => cases hz
    cases I with
    | @tup a xs _ ea hl rr =>
    obtain ⟨v0, e0, I0⟩ := rr.at (i := 0) rfl
    obtain ⟨v1, e1, I1⟩ := rr.at (i := 1) rfl
    have kd : ∀ H', Same H H' → Q (.bl (geD 1 y0 && whatL y1)) H' := k
    refine iteT ⟨_, rfl, a, xs, 0, v0, rfl, rfl, SqT.of ea, e0, B, v0, y0, 1, hB, rfl, I0, fun H1 s1 => ⟨_, rfl, ?_⟩⟩
    cases hf : geD 1 y0 with
    | false => rw [hf] at kd; exact iteF (kd _ s1)
    | true =>
      rw [hf] at kd
      exact iteT ⟨_, rfl, a, xs, 1, v1, rfl, rfl, SqT.of (s1 _ _ ea), e1, B, v1, y1, hB, rfl, I1.same s1, fun H3 s3 => kd _ (s1.trans s3)⟩
end
end K1
set_option Elab.async false
set_option linter.all false
set_option maxRecDepth 100000
set_option maxHeartbeats 4000000
namespace Kp
open PySem
/-- a row's part by its number of parts, 2 or 3 -/
def partL (m : Nat) : D → Bool
  | .tup ds => decide (ds.length = m) && ((nameL (ds.getD 0 .non) && whole (ds.getD (m - 1) .non)) && (!decide (m = 3) || geD 1 (ds.getD 1 .non)))
  | _ => false
theorem part_pair : partL 2 = pairL := funext fun d => by
  cases d with
  | tup ds =>
    show _ = fitsL [nameL, whole] ds
    rw [fits2]
    match ds with
    | [] => rfl
    | [_] => rfl
    | [a, b] => simp [partL, two]
    | _ :: _ :: _ :: _ => simp [partL, two]
  | _ => rfl
theorem part_triple : partL 3 = tripleL := funext fun d => by
  cases d with
  | tup ds =>
    show _ = fitsL [nameL, geD 1, whole] ds
    rw [fits3]
    match ds with
    | [] => rfl
    | [_] => rfl
    | [_, _] => rfl
    | [a, b, c] =>
      show (true && ((nameL a && whole c) && (false || geD 1 b))) = (nameL a && (geD 1 b && whole c))
      cases nameL a <;> cases whole c <;> cases geD 1 b <;> rfl
    | _ :: _ :: _ :: _ :: _ => simp [partL, three]
  | _ => rfl
end Kp
namespace K1
open PySem L2 Kp
section
variable {P : Program} {w : World} {K : PySem.W.Frag} {mg : Str → Option Value} {base : Heap}
theorem name_str {d : D} (h : nameL d = true) : ∃ x, d = .str x := by
  cases d with
  | str x => exact ⟨x, rfl⟩
  | _ => cases h
theorem pair_inv (d : D) (h : pairP d = true) : ∃ x r, d = .tup (.str x :: r) := by
  rw [pair_fn] at h
  obtain ⟨x, y, rfl, hx, _⟩ := pair_word h
  obtain ⟨z, rfl⟩ := name_str hx
  exact ⟨z, [y], rfl⟩
theorem triple_inv (d : D) (h : tripleP d = true) : ∃ x r, d = .tup (.str x :: r) := by
  rw [triple_fn] at h
  obtain ⟨x, y, y2, rfl, hx, _⟩ := triple_word h
  obtain ⟨z, rfl⟩ := name_str hx
  exact ⟨z, [y, y2], rfl⟩
def spRises : Sp := fun vs H Q _ => ∃ B v d m, B ≤ 1000 ∧ vs = [v, .int ((m : Nat) : Int)] ∧ (m = 2 ∨ m = 3) ∧ Is B H v d ∧ ∀ H', Same H H' → Q (.bl (risesL (partL m) d)) H'
theorem scRs : FnScope ["_law_thing", "_law_size", "_law_ahead", "_law_part"] ["_law_thing", "_law_size"] (defScope s__law_rises) := ⟨rfl, rfl, rfl, by decide +kernel, rfl, by decide +kernel, by decide +kernel⟩
theorem ok_rises {f : Addr} {fd : FuncData} (F : Fun K "_law_rises" "_law_rises" s__law_rises f fd) (T : Txt mg) (CF : Cal P w K mg base "_law_from" 1 ["_law_thing", "_law_least"] spFrom) (CA : Cal P w K mg base "_law_any" 1 ["_law_thing"] (spP whole))
    (CZ : Cal P w K mg base "_law_sized" 1 ["_law_thing", "_law_size"] spSized) (CN : Cal P w K mg base "_law_name" 1 ["_law_thing"] (spP nameL)) : FnOk P w K mg base CX0 2 f fd ["_law_thing", "_law_size"] spRises := by
  refine F.ok scRs (fun vs H Q E ⟨_, _, _, _, _, e, _⟩ => by subst e; rfl) (fun cdv A outer s H vs Q E hr h => ?_)
  obtain ⟨B, v, d, m, hB, rfl, hm, I, k⟩ := h
  obtain ⟨gF, dF, GF, mF, kF, bF⟩ := CF.ex
  obtain ⟨gA, dA, GA, mA, kA, bA⟩ := CA.ex
  obtain ⟨gZ, dZ, GZ, mZ, kZ, bZ⟩ := CZ.ex
  obtain ⟨gN, dN, GN, mN, kN, bN⟩ := CN.ex
  refine ⟨_, @pss_p _ _ _ _ _ (ps_if (pt_not (pt_val (pe_callB call_isi (by rfl) T.isi boot_isi (pa_n (pv 0) (pa_n (pe_ty (by rfl) T.tuple boot_tuple) pa_nil))))) (@pss_o _ _ _ (ps_ret pe_bl)) pss_nil)
    (@pss_p _ _ _ _ _ (ps_set (i := 2) scRs.nd (by rfl) (by exact Or.inl rfl) pe_str)
    (@pss_p _ _ _ _ _ (ps_for PassesOwn.never (by rfl) (pi_tup (pv 0)) (pg_name (i := 3) scRs.nd (by rfl) (by exact Or.inl rfl))
      (@pss_p _ _ _ _ _ (ps_if (PW.pt (pw_or (pt_not (pt_val (pe_call GZ hr (by rfl) mZ kZ bZ .nil pass0 (pa_n (pv 3) (pa_n (pv 1) pa_nil)))))
        (pw_or (pt_not (pt_val (pe_call GN hr (by rfl) mN kN bN .nil pass0 (pa_s (pe_ix ix_tup (pv 3) pe_int px_i) pa_nil))))
        (pw_or (pt_cmpR op_le_str (pe_ix ix_tup (pv 3) pe_int px_i) (pv 2) (nomark _))
        (pw_or1 (pt_not (pt_val (pe_call GA hr (by rfl) mA kA bA .nil pass0 (pa_s (pe_ix ix_tup (pv 3) (pe_op op_sub (pv 1) pe_int) px_b) pa_nil))))))))) (@pss_o _ _ _ (ps_ret pe_bl)) pss_nil)
      (@pss_p _ _ _ _ _ (ps_if (PW.pt (pw_and (pt_cmpR op_eq (pv 1) pe_int (nomark _)) (pw_and1 (pt_not (pt_val (pe_call GF hr (by rfl) mF kF bF .nil pass0 (pa_s (pe_ix ix_tup (pv 3) pe_int px_i) (pa_i pe_int pa_nil)))))))) (@pss_o _ _ _ (ps_ret pe_bl)) pss_nil)
      (@pss_o _ _ _ (ps_set (i := 2) scRs.nd (by rfl) (by exact Or.inl rfl) (pe_ix ix_tup (pv 3) pe_int px_i))))))
    (@pss_o _ _ _ (ps_ret pe_bl)))), ?_⟩
  refine ⟨_, rfl, _, _, _, _, rfl, I.ty, kit_tup K d, _, rfl, ?_⟩
  cases d with
  | tup ds =>
    cases I with
    | @tup a xs _ ea hl r =>
    have hlen := r.length
    have k2 : ∀ H', Same H H' → Q (.bl (goR (partL m) ds "")) H' := k
    refine iteF ⟨_, rfl, a, rfl, ⟨xs, SqT.of ea⟩, for_tup (K := K) (a := a) (xs := xs) (fun i σ H' => ∃ l t, σ = [some (.ref a), some (.int (m : Int)), some (.str l), t] ∧ Same H H' ∧ goR (partL m) (ds.drop i) l = goR (partL m) ds "")
      ⟨"", none, rfl, Same.refl _, rfl⟩ (fun i σ H' _ ⟨_, _, _, s', _⟩ => SqT.of (s' _ _ ea)) ?_ ?_⟩
    · rintro i x σ H' hx ⟨l, t, rfl, s', e⟩
      obtain ⟨d, hd, Id⟩ := r.get hx
      have hi : i < ds.length := (List.getElem?_eq_some_iff.mp hd).1
      have edr : ds.drop i = d :: ds.drop (i + 1) := by
        rw [List.drop_eq_getElem_cons hi, (List.getElem?_eq_some_iff.mp hd).2]
      rw [edr] at e
      have e0 : ((partL m d && ltS l (wordD d)) && goR (partL m) (ds.drop (i + 1)) (wordD d)) = goR (partL m) ds "" := e
      have no : ∀ {H2 : Hp}, Same H' H2 → ((partL m d && ltS l (wordD d)) = false) → Q (.bl false) H2 := fun {H2} s2 z => by
        have k3 := k2 H2 (s'.trans s2)
        rw [← e0, z] at k3
        exact k3
      have Id' := Id.same s'
      refine ⟨_, rfl, _, rfl, B, x, d, (m : Int), hB, rfl, Id', _, rfl, ?_⟩
      cases hz : sizedD (m : Int) d with
      | false =>
        refine iteT (iteT (no (Same.refl _) ?_))
        have : partL m d = false := by
          cases d with
          | tup ds' =>
            have z : decide ((ds'.length : Int) = (m : Int)) = false := hz
            have z' : ¬ ds'.length = m := fun h => by rw [h] at z; simp at z
            show (decide (ds'.length = m) && _) = false
            rw [decide_eq_false z']; rfl
          | _ => rfl
        rw [this]; rfl
      | true =>
        obtain ⟨ds', rfl⟩ : ∃ ds', d = .tup ds' := by
          cases d with
          | tup ds' => exact ⟨ds', rfl⟩
          | _ => cases hz
        have hn : ds'.length = m := by
          have z : decide ((ds'.length : Int) = (m : Int)) = true := hz
          have := of_decide_eq_true z
          omega
        have ep : partL m (.tup ds') = ((nameL (ds'.getD 0 .non) && whole (ds'.getD (m - 1) .non)) && (!decide (m = 3) || geD 1 (ds'.getD 1 .non))) := by
          show (decide (ds'.length = m) && _) = _
          rw [decide_eq_true hn]; rfl
        have at' : ∀ j, j < m → ds'[j]? = some (ds'.getD j .non) := fun j hj => by
          have : j < ds'.length := by omega
          simp [this]
        cases Id' with
        | @tup a' xs' _ ea' hl' r' =>
        obtain ⟨v0, e1, I0⟩ := r'.at (i := 0) (at' 0 (by omega))
        obtain ⟨v1, e2, I1⟩ := r'.at (i := 1) (at' 1 (by omega))
        obtain ⟨vl, e3, Il⟩ := r'.at (i := m - 1) (at' (m - 1) (by omega))
        rw [show ((m - 1 : Nat) : Int) = (m : Int) - 1 by omega] at e3
        refine iteF ⟨_, rfl, a', xs', 0, v0, rfl, rfl, SqT.of ea', e1, B, v0, _, hB, rfl, I0, fun H2 s2 => ⟨_, rfl, ?_⟩⟩
        cases hnm : nameL (ds'.getD 0 .non) with
        | false =>
          refine iteT (iteT (no s2 ?_))
          rw [ep, hnm]; rfl
        | true =>
          obtain ⟨x0, hx0⟩ := name_str hnm
          have hw : wordD (.tup ds') = x0 := by
            match ds', hn, hx0 with
            | [], hn, hx0 => exfalso; simp at hn; omega
            | y0 :: yr, hn, hx0 =>
              have : y0 = .str x0 := hx0
              rw [this]; rfl
          rw [hx0] at I0
          cases I0
          refine iteF ⟨_, rfl, a', xs', 0, _, rfl, rfl, SqT.of (s2 _ _ ea'), e1, _, rfl, x0, l, rfl, rfl, _, rfl, ?_⟩
          show if (!ltS l x0) = true then _ else _
          cases hlt : ltS l x0 with
          | false =>
            refine iteT (iteT (no s2 ?_))
            rw [hw, hlt, Bool.and_false]
          | true =>
            refine iteF ⟨_, rfl, _, rfl, _, _, rfl, rfl, a', xs', (m : Int) - 1, vl, rfl, rfl, SqT.of (s2 _ _ ea'), e3, B, vl, _, hB, rfl, Il.same s2, fun H3 s3 => ⟨_, rfl, ?_⟩⟩
            cases hwl : whole (ds'.getD (m - 1) .non) with
            | false =>
              refine iteT (no (s2.trans s3) ?_)
              rw [ep, hnm, hwl]; rfl
            | true =>
              refine iteF ⟨_, rfl, rfl, _, rfl, ?_⟩
              have fin : ∀ {H4 : Hp}, Same H' H4 → partL m (.tup ds') = true → goR (partL m) (ds.drop (i + 1)) x0 = goR (partL m) ds "" := fun {H4} _ z => by
                rw [← e0, z, hw, hlt]; rfl
              by_cases h3 : m = 3
              · rw [decide_eq_true (show V.int (m : Int) = V.int 3 by rw [h3]; rfl)]
                refine iteT ⟨_, rfl, a', xs', 1, v1, rfl, rfl, SqT.of (s3 _ _ (s2 _ _ ea')), e2, B, v1, _, 1, hB, rfl, (I1.same s2).same s3, fun H4 s4 => ⟨_, rfl, ?_⟩⟩
                cases hg : geD 1 (ds'.getD 1 .non) with
                | false =>
                  refine iteT (no ((s2.trans s3).trans s4) ?_)
                  rw [ep, hnm, hwl, hg, decide_eq_true h3]; rfl
                | true =>
                  refine iteF ⟨_, rfl, a', xs', 0, _, rfl, rfl, SqT.of (s4 _ _ (s3 _ _ (s2 _ _ ea'))), e1, x0, _, rfl, s'.trans ((s2.trans s3).trans s4), fin ((s2.trans s3).trans s4) ?_⟩
                  rw [ep, hnm, hwl, hg, Bool.or_true]; rfl
              · rw [decide_eq_false (show ¬ V.int (m : Int) = V.int 3 from fun z => h3 (by have := V.int.inj z; omega))]
                refine iteF (iteF ⟨_, rfl, a', xs', 0, _, rfl, rfl, SqT.of (s3 _ _ (s2 _ _ ea')), e1, x0, _, rfl, s'.trans (s2.trans s3), fin (s2.trans s3) ?_⟩)
                rw [ep, hnm, hwl, decide_eq_false h3]; rfl
    · rintro σ H' ⟨l, t, rfl, s', e⟩
      rw [hlen, List.drop_length] at e
      have k3 := k2 H' s'
      rw [← e] at k3
      exact k3
  | non => exact iteT (k H (Same.refl _))
  | bl _ => exact iteT (k H (Same.refl _))
  | int _ => exact iteT (k H (Same.refl _))
  | str _ => exact iteT (k H (Same.refl _))
  | lst _ => exact iteT (k H (Same.refl _))

/-! ### store, stand, pack -/
theorem sized_inv {m : Nat} {d : D} (h : sizedD (m : Int) d = true) : ∃ ds, d = .tup ds ∧ ds.length = m := by
  cases d with
  | tup ds =>
    have z : decide ((ds.length : Int) = (m : Int)) = true := h
    have := of_decide_eq_true z
    exact ⟨ds, rfl, by omega⟩
  | _ => cases h
theorem store_no {d : D} (h : sizedD 2 d = false) : storeL d = false := by
  cases d with
  | tup ds =>
    match ds, h with
    | [], _ => rfl
    | [_], _ => rfl
    | [a, b], h => cases h
    | _ :: _ :: _ :: _, _ => rfl
  | _ => rfl
theorem pack_no {d : D} (h : sizedD 4 d = false) : packL d = false := by
  cases d with
  | tup ds =>
    match ds, h with
    | [], _ => rfl
    | [_], _ => rfl
    | [_, _], _ => rfl
    | [_, _, _], _ => rfl
    | [_, _, _, _], h => cases h
    | _ :: _ :: _ :: _ :: _ :: _, _ => rfl
  | _ => rfl
theorem scSt3 : FnScope ["_law_thing"] ["_law_thing"] (defScope s__law_store) := ⟨rfl, rfl, rfl, by decide +kernel, rfl, by decide +kernel, by decide +kernel⟩
theorem ok_storeL {f : Addr} {fd : FuncData} (F : Fun K "_law_store" "_law_store" s__law_store f fd) (CZ : Cal P w K mg base "_law_sized" 1 ["_law_thing", "_law_size"] spSized) (CR : Cal P w K mg base "_law_rises" 2 ["_law_thing", "_law_size"] spRises) : FnOk P w K mg base CX0 3 f fd ["_law_thing"] (spP storeL) := by
  refine F.ok scSt3 spP_len (fun cdv A outer s H vs Q E hr h => ?_)
  obtain ⟨B, v, d, hB, rfl, I, k⟩ := h
  obtain ⟨gZ, dZ, GZ, mZ, kZ, bZ⟩ := CZ.ex
  obtain ⟨gR, dR, GR, mR, kR, bR⟩ := CR.ex
  have r1 := hr.mono (show 1 ≤ 2 by decide)
  refine ⟨_, pss_one (ps_ret (pe_and (pe_call GZ r1 rfl mZ kZ bZ .nil pass0 (pa_n (pv 0) (pa_i pe_int pa_nil))) (pe_and (pe_call GR hr rfl mR kR bR .nil pass0 (pa_s (pe_ix ix_tup (pv 0) pe_int px_i) (pa_i pe_int pa_nil))) (pe_one (pe_call GR hr rfl mR kR bR .nil pass0 (pa_s (pe_ix ix_tup (pv 0) pe_int px_i) (pa_i pe_int pa_nil))))))), ?_⟩
  refine ⟨_, rfl, B, v, d, 2, hB, rfl, I, _, rfl, ?_⟩
  cases hz : sizedD 2 d with
  | false =>
    have k0 := k H (Same.refl _)
    rw [store_no hz] at k0
    exact iteF k0
  | true =>
    obtain ⟨ds, rfl, hn⟩ := sized_inv (m := 2) hz
    match ds, hn, k, I with
    | [y0, y1], _, k, I =>
    have k1 : ∀ H', Same H H' → Q (.bl (risesL pairL y0 && risesL tripleL y1)) H' := k
    cases I with
    | @tup a xs _ ea hl r =>
    obtain ⟨v0, e0, I0⟩ := r.at (i := 0) rfl
    obtain ⟨v1, e1, I1⟩ := r.at (i := 1) rfl
    rw [← part_pair, ← part_triple] at k1
    refine iteT ⟨_, rfl, a, xs, 0, v0, rfl, rfl, SqT.of ea, e0, B, v0, y0, 2, hB, rfl, .inl rfl, I0, fun H1 s1 => ⟨_, rfl, ?_⟩⟩
    cases hr0 : risesL (partL 2) y0 with
    | false => rw [hr0] at k1; exact iteF (k1 _ s1)
    | true =>
      rw [hr0] at k1
      exact iteT ⟨_, rfl, a, xs, 1, v1, rfl, rfl, SqT.of (s1 _ _ ea), e1, B, v1, y1, 3, hB, rfl, .inr rfl, I1.same s1, fun H2 s2 => k1 _ (s1.trans s2)⟩

def spStand : Sp := fun vs H Q _ => ∃ B u v a b, B ≤ 1000 ∧ vs = [u, v] ∧ Is B H u a ∧ Is B H v b ∧ ∀ H', Same H H' → Q (.bl (standL a b)) H'
theorem scSn : FnScope ["_law_place", "_law_last"] ["_law_place", "_law_last"] (defScope s__law_stand) := ⟨rfl, rfl, rfl, by decide +kernel, rfl, by decide +kernel, by decide +kernel⟩
theorem ok_standL {f : Addr} {fd : FuncData} (F : Fun K "_law_stand" "_law_stand" s__law_stand f fd) (CF : Cal P w K mg base "_law_from" 1 ["_law_thing", "_law_least"] spFrom) : FnOk P w K mg base CX0 2 f fd ["_law_place", "_law_last"] spStand := by
  refine F.ok scSn (fun vs H Q E ⟨_, _, _, _, _, _, e, _⟩ => by subst e; rfl) (fun cdv A outer s H vs Q E hr h => ?_)
  obtain ⟨B, u, v, a, b, hB, rfl, Iu, Iv, k⟩ := h
  obtain ⟨gF, dF, GF, mF, kF, bF⟩ := CF.ex
  refine ⟨_, @pss_p _ _ _ _ _ (ps_if (PW.pt (pw_or (pt_not (pt_val (pe_call GF hr (by rfl) mF kF bF .nil pass0 (pa_n (pv 0) (pa_i pe_int pa_nil))))) (pw_or1 (pt_not (pt_val (pe_call GF hr (by rfl) mF kF bF .nil pass0 (pa_n (pv 1) (pa_i pe_int pa_nil)))))))) (@pss_o _ _ _ (ps_ret pe_bl)) pss_nil)
    (@pss_o _ _ _ (ps_ret (pe_or (pe_and (pe_cmpR op_eq (pv 0) pe_int (nomark _)) (pe_one (pe_cmpR op_eq (pv 1) pe_int (nomark _)))) (pe_one (pe_and (pe_cmpR op_gt (pv 0) pe_int (nomark _)) (pe_one (pe_cmpR op_gt (pv 1) pe_int (nomark _)))))))), ?_⟩
  refine ⟨_, rfl, B, u, a, 0, hB, rfl, Iu, fun H1 s1 => ⟨_, rfl, ?_⟩⟩
  cases ha : geD 0 a with
  | false =>
    have k0 := k _ s1
    unfold standL at k0
    rw [ha] at k0
    exact iteT (iteT k0)
  | true =>
    refine iteF ⟨_, rfl, B, v, b, 0, hB, rfl, Iv.same s1, fun H2 s2 => ⟨_, rfl, ?_⟩⟩
    have k0 := k _ (s1.trans s2)
    unfold standL at k0
    rw [ha] at k0
    cases hb : geD 0 b with
    | false =>
      rw [hb] at k0
      exact iteT k0
    | true =>
      rw [hb] at k0
      obtain ⟨i, rfl⟩ : ∃ i, a = .int i := by
        cases a with
        | int i => exact ⟨i, rfl⟩
        | _ => cases ha
      obtain ⟨j, rfl⟩ : ∃ j, b = .int j := by
        cases b with
        | int j => exact ⟨j, rfl⟩
        | _ => cases hb
      cases Iu
      cases Iv
      have k1 : Q (.bl ((decide (i = 0) && decide (j = 0)) || (decide (0 < i) && decide (0 < j)))) H2 := k0
      have ei : ∀ i : Int, decide (V.int i = V.int 0) = decide (i = 0) := fun i => by
        rw [Bool.eq_iff_iff]; simp only [decide_eq_true_eq]; exact ⟨fun h => V.int.inj h, fun h => by rw [h]⟩
      refine iteF ⟨_, rfl, rfl, _, rfl, ?_⟩
      rw [ei]
      cases h1 : decide (i = 0) with
      | true =>
        rw [h1] at k1
        refine iteT ⟨_, rfl, rfl, _, rfl, ?_⟩
        rw [ei]
        cases h2 : decide (j = 0) with
        | true => rw [h2] at k1; exact iteT k1
        | false =>
          rw [h2] at k1
          have hi : i = 0 := of_decide_eq_true h1
          refine iteF ⟨_, rfl, _, _, rfl, rfl, _, rfl, ?_⟩
          have k2 : Q (.bl (decide (0 < i) && decide (0 < j))) H2 := k1
          rw [decide_eq_false (show ¬ (0 : Int) < i by omega)] at k2 ⊢
          exact iteF k2
      | false =>
        rw [h1] at k1
        refine iteF ⟨_, rfl, ?_⟩
        refine iteF ⟨_, rfl, _, _, rfl, rfl, _, rfl, ?_⟩
        have k2 : Q (.bl (decide (0 < i) && decide (0 < j))) H2 := k1
        cases h3 : decide (0 < i) with
        | false => rw [h3] at k2; exact iteF k2
        | true => rw [h3] at k2; exact iteT ⟨_, rfl, _, _, rfl, rfl, k2⟩

theorem scPkL : FnScope ["_law_thing"] ["_law_thing"] (defScope s__law_pack) := ⟨rfl, rfl, rfl, by decide +kernel, rfl, by decide +kernel, by decide +kernel⟩
theorem ok_packL {f : Addr} {fd : FuncData} (F : Fun K "_law_pack" "_law_pack" s__law_pack f fd) (CZ : Cal P w K mg base "_law_sized" 1 ["_law_thing", "_law_size"] spSized) (CD : Cal P w K mg base "_law_stand" 2 ["_law_place", "_law_last"] spStand)
    (CS : Cal P w K mg base "_law_seats" 2 ["_law_thing"] (spP seatsL)) (CT : Cal P w K mg base "_law_store" 3 ["_law_thing"] (spP storeL)) : FnOk P w K mg base CX0 4 f fd ["_law_thing"] (spP packL) := by
  refine F.ok scPkL spP_len (fun cdv A outer s H vs Q E hr h => ?_)
  obtain ⟨B, v, d, hB, rfl, I, k⟩ := h
  obtain ⟨gZ, dZ, GZ, mZ, kZ, bZ⟩ := CZ.ex
  obtain ⟨gD, dD, GD, mD, kD, bD⟩ := CD.ex
  obtain ⟨gS, dS, GS, mS, kS, bS⟩ := CS.ex
  obtain ⟨gT, dT, GT, mT, kT, bT⟩ := CT.ex
  have r1 := hr.mono (show 1 ≤ 3 by decide)
  have r2 := hr.mono (show 2 ≤ 3 by decide)
  refine ⟨_, pss_one (ps_ret (pe_and (pe_call GZ r1 rfl mZ kZ bZ .nil pass0 (pa_n (pv 0) (pa_i pe_int pa_nil))) (pe_and (pe_call GD r2 rfl mD kD bD .nil pass0 (pa_s (pe_ix ix_tup (pv 0) pe_int px_i) (pa_s (pe_ix ix_tup (pv 0) pe_int px_i) pa_nil)))
    (pe_and (pe_call GS r2 rfl mS kS bS .nil pass0 (pa_s (pe_ix ix_tup (pv 0) pe_int px_i) pa_nil)) (pe_one (pe_call GT hr rfl mT kT bT .nil pass0 (pa_s (pe_ix ix_tup (pv 0) pe_int px_i) pa_nil))))))), ?_⟩
  refine ⟨_, rfl, B, v, d, 4, hB, rfl, I, _, rfl, ?_⟩
  cases hz : sizedD 4 d with
  | false =>
    have k0 := k H (Same.refl _)
    rw [pack_no hz] at k0
    exact iteF k0
  | true =>
    obtain ⟨ds, rfl, hn⟩ := sized_inv (m := 4) hz
    match ds, hn, k, I with
    | [y0, y1, y2, y3], _, k, I =>
    have k1 : ∀ H', Same H H' → Q (.bl (standL y0 y1 && (seatsL y2 && storeL y3))) H' := k
    cases I with
    | @tup a xs _ ea hl r =>
    obtain ⟨v0, e0, I0⟩ := r.at (i := 0) rfl
    obtain ⟨v1, e1, I1⟩ := r.at (i := 1) rfl
    obtain ⟨v2, e2, I2⟩ := r.at (i := 2) rfl
    obtain ⟨v3, e3, I3⟩ := r.at (i := 3) rfl
    refine iteT ⟨_, rfl, a, xs, 0, v0, rfl, rfl, SqT.of ea, e0, _, rfl, a, xs, 1, v1, rfl, rfl, SqT.of ea, e1, B, v0, v1, y0, y1, hB, rfl, I0, I1, fun H1 s1 => ⟨_, rfl, ?_⟩⟩
    cases h0 : standL y0 y1 with
    | false => rw [h0] at k1; exact iteF (k1 _ s1)
    | true =>
      rw [h0] at k1
      refine iteT ⟨_, rfl, a, xs, 2, v2, rfl, rfl, SqT.of (s1 _ _ ea), e2, B, v2, y2, hB, rfl, I2.same s1, fun H2 s2 => ⟨_, rfl, ?_⟩⟩
      cases h1 : seatsL y2 with
      | false => rw [h1] at k1; exact iteF (k1 _ (s1.trans s2))
      | true =>
        rw [h1] at k1
        exact iteT ⟨_, rfl, a, xs, 3, v3, rfl, rfl, SqT.of (s2 _ _ (s1 _ _ ea)), e3, B, v3, y3, hB, rfl, (I3.same s1).same s2, fun H3 s3 => k1 _ ((s1.trans s2).trans s3)⟩
end
end K1
set_option Elab.async false
set_option linter.all false
set_option maxRecDepth 100000
set_option maxHeartbeats 4000000
namespace K1
open PySem L2 Kp
section
variable {P : Program} {w : World} {K : PySem.W.Frag} {mg : Str → Option Value} {base : Heap}
/-! ### is_truth, is_head, is_entries, is_pack_to_send -/
theorem scTu : FnScope ["thing"] ["thing"] (defScope s_is_truth) := ⟨rfl, rfl, rfl, by decide +kernel, rfl, by decide +kernel, by decide +kernel⟩
theorem truth_is (d : D) : isBool d = truthD d := by cases d <;> rfl
theorem ok_truth {f : Addr} {fd : FuncData} (F : Fun K "is_truth" "is_truth" s_is_truth f fd) (T : Txt mg) : FnOk P w K mg base CX0 1 f fd ["thing"] (spP truthD) := by
  refine F.ok scTu spP_len (fun cdv A outer s H vs Q E hr h => ?_)
  obtain ⟨B, v, d, hB, rfl, I, k⟩ := h
  refine ⟨_, pss_one (ps_ret (pe_callB call_isi rfl T.isi boot_isi (pa_n (pv 0) (pa_n (pe_ty rfl T.bool boot_bool) pa_nil)))), ?_⟩
  have k0 := k H (Same.refl _)
  rw [← truth_is] at k0
  exact ⟨_, rfl, _, _, _, _, rfl, I.ty, kit_bool K d, k0⟩
theorem scHd : FnScope ["thing"] ["thing"] (defScope s_is_head) := ⟨rfl, rfl, rfl, by decide +kernel, rfl, by decide +kernel, by decide +kernel⟩
theorem ok_head {f : Addr} {fd : FuncData} (F : Fun K "is_head" "is_head" s_is_head f fd) (CK : Cal P w K mg base "is_keeper" 2 ["thing"] (spP keeper)) : FnOk P w K mg base CX0 3 f fd ["thing"] (spP headP) := by
  refine F.ok scHd spP_len (fun cdv A outer s H vs Q E hr h => ?_)
  obtain ⟨B, v, d, hB, rfl, I, k⟩ := h
  obtain ⟨g, gd, G, m, kp, b⟩ := CK.ex
  refine ⟨_, pss_one (ps_ret (pe_or (pe_cmpR op_isN (pv 0) pe_non (nomark _)) (pe_one (pe_call G hr rfl m kp b .nil pass0 (pa_n (pv 0) pa_nil))))), ?_⟩
  refine ⟨_, rfl, rfl, _, rfl, ?_⟩
  have go : ∀ (d : D), d ≠ .non → Is B H v d → (∀ H', Same H H' → Q (.bl (headP d)) H') → decide (v = V.non) = false ∧ ∀ H', Same H H' → Q (.bl (keeper d)) H' := fun d hd I k => by
    cases I with
    | non => exact absurd rfl hd
    | _ => exact ⟨rfl, k⟩
  by_cases hd : d = .non
  · subst hd
    cases I
    exact iteT (k H (Same.refl _))
  · obtain ⟨e, k'⟩ := go d hd I k
    rw [e]
    exact iteF ⟨_, rfl, B, v, d, hB, rfl, I, k'⟩
theorem row_e (p : D → Bool) (d : D) : rowD p d = rowE p d := by cases d <;> rfl
theorem scEs : FnScope ["thing"] ["thing"] (defScope s_is_entries) := ⟨rfl, rfl, rfl, by decide +kernel, rfl, by decide +kernel, by decide +kernel⟩
theorem ok_entries {f : Addr} {fd : FuncData} {kk : Nat} (F : Fun K "is_entries" "is_entries" s_is_entries f fd) (T : Txt mg) (CE : Cal P w K mg base "is_entry" kk ["thing"] (spP entryP))
    (CR : ∀ g gd, FnOk P w K mg base CX0 kk g gd ["thing"] (spP entryP) → PySem.W.keepIn K (.ref g) = true → Binds K gd ["thing"] [] → Cal P w K mg base "is_row_of" (kk + 1) ["thing", "teller"] (spRow g entryP)) : FnOk P w K mg base CX0 (kk + 2) f fd ["thing"] (spP entriesP) := by
  refine F.ok scEs spP_len (fun cdv A outer s H vs Q E hr h => ?_)
  obtain ⟨B, v, d, hB, rfl, I, k⟩ := h
  obtain ⟨g, gd, G, m, kp, b⟩ := CE.ex
  obtain ⟨gR, dR, GR, mR, kR, bR⟩ := (CR g gd G kp b).ex
  refine ⟨_, pss_one (ps_ret (pe_and (pe_call GR hr rfl mR kR bR .nil pass0 (pa_n (pv 0) (pa_n (pe_fn rfl m) pa_nil))) (pe_one (pe_cmpR op_le (pe_callB call_len_seq rfl T.len PySem.boot_len (pa_n (pv 0) pa_nil)) pe_int (nomark _))))), ?_⟩
  refine ⟨_, rfl, B, v, d, hB, rfl, I, fun H1 s1 => ⟨_, rfl, ?_⟩⟩
  have k0 := k H1 s1
  unfold entriesP at k0
  rw [← row_e] at k0
  cases hr0 : rowD entryP d with
  | false => rw [hr0] at k0; exact iteF k0
  | true =>
    rw [hr0] at k0
    obtain ⟨ds, rfl⟩ : ∃ ds, d = .tup ds := by
      cases d with
      | tup ds => exact ⟨ds, rfl⟩
      | _ => cases hr0
    cases I with
    | @tup a xs _ ea hl r =>
    refine iteT ⟨_, rfl, a, xs, rfl, .inr (SqT.of (s1 _ _ ea)), _, _, rfl, rfl, ?_⟩
    have e : decide ((xs.length : Int) ≤ 5) = decide (lenD (.tup ds) ≤ 5) := by
      rw [r.length, Bool.eq_iff_iff]; simp only [decide_eq_true_eq]; show (ds.length : Int) ≤ 5 ↔ ds.length ≤ 5; omega
    show Q (.bl (decide ((xs.length : Int) ≤ 5))) H1
    rw [e]
    exact k0
theorem scPS : FnScope ["thing"] ["thing"] (defScope s_is_pack_to_send) := ⟨rfl, rfl, rfl, by decide +kernel, rfl, by decide +kernel, by decide +kernel⟩
theorem ok_send {f : Addr} {fd : FuncData} {kk : Nat} (F : Fun K "is_pack_to_send" "is_pack_to_send" s_is_pack_to_send f fd) (CP : Cal P w K mg base "is_pack" kk ["thing"] (spP packP)) : FnOk P w K mg base CX0 (kk + 1) f fd ["thing"] (spP sendP) := by
  refine F.ok scPS spP_len (fun cdv A outer s H vs Q E hr h => ?_)
  obtain ⟨B, v, d, hB, rfl, I, k⟩ := h
  obtain ⟨g, gd, G, m, kp, b⟩ := CP.ex
  refine ⟨_, pss_one (ps_ret (pe_and (pe_call G hr rfl m kp b .nil pass0 (pa_n (pv 0) pa_nil)) (pe_one (pe_cmpR op_ge (pe_ix ix_tup (pv 0) pe_int px_i) pe_int (nomark _))))), ?_⟩
  refine ⟨_, rfl, B, v, d, hB, rfl, I, fun H1 s1 => ⟨_, rfl, ?_⟩⟩
  have k0 := k H1 s1
  unfold sendP at k0
  cases hp : packP d with
  | false => rw [hp] at k0; exact iteF k0
  | true =>
    rw [hp] at k0
    obtain ⟨i, r, rfl, hi⟩ := pack_int ((pack_eq d).symm.trans hp)
    cases I with
    | @tup a xs _ ea hl rr =>
    obtain ⟨v0, e0, I0⟩ := rr.at (i := 0) rfl
    cases I0
    exact iteT ⟨_, rfl, a, xs, 0, _, rfl, rfl, SqT.of (s1 _ _ ea), e0, _, _, rfl, rfl, k0⟩

/-! ### is_letter -/
theorem scLe : FnScope ["thing", "word"] ["thing"] (defScope s_is_letter) := ⟨rfl, rfl, rfl, by decide +kernel, rfl, by decide +kernel, by decide +kernel⟩
/-- what a letter's first parts are -/
theorem letter_parts {d : D} (h : byWord letterT d = true) : ∃ x a b r, d = .tup (.str x :: a :: b :: r) ∧ (keeper a = true ∨ nameP a = true) ∧ (keeper b = true ∨ nameP b = true) ∧
    (x = "ask" ∨ x = "hand" → ∃ c i j r', r = c :: D.int i :: D.int j :: r') := by
  unfold byWord at h
  split at h
  · rename_i x r
    unfold letterT at h
    simp only [List.lookup_cons, List.lookup_nil] at h
    have ne : ∀ {s t : Str}, s ≠ t → (s == t) = false := fun h => by simp [h]
    have yes : ∀ s : Str, (s == s) = true := fun s => by simp
    by_cases h1 : x = "ask"
    · subst h1
      rw [yes] at h
      have h' : fitsL [keeper, keeper, geD 1, geD 0, geD 0] r = true := h
      rw [fits5] at h'
      match r, h' with
      | [a, b, t, p, l], h' =>
        simp only [Bool.and_eq_true] at h'
        obtain ⟨i, rfl⟩ := ge_int h'.2.2.2.1
        obtain ⟨j, rfl⟩ := ge_int h'.2.2.2.2
        exact ⟨_, a, b, _, rfl, .inl h'.1, .inl h'.2.1, fun _ => ⟨t, i, j, [], rfl⟩⟩
    rw [ne h1] at h
    by_cases h3 : x = "hand"
    · subst h3
      rw [ne (show ("hand" : Str) ≠ "voice" by decide +kernel), yes] at h
      have h' : fitsL [keeper, keeper, geD 1, geD 0, geD 0, entriesP, geD 0] r = true := h
      rw [fits7] at h'
      match r, h' with
      | [a, b, t, p, l, e, m], h' =>
        simp only [Bool.and_eq_true] at h'
        obtain ⟨i, rfl⟩ := ge_int h'.2.2.2.1
        obtain ⟨j, rfl⟩ := ge_int h'.2.2.2.2.1
        exact ⟨_, a, b, _, rfl, .inl h'.1, .inl h'.2.1, fun _ => ⟨t, i, j, _, rfl⟩⟩
    rw [ne h3] at h
    have hx : ∀ r' : List D, x = "ask" ∨ x = "hand" → ∃ c i j r'', r' = c :: D.int i :: D.int j :: r'' := fun (_ : List D) z => by rcases z with z | z; exact absurd z h1; exact absurd z h3
    have four : ∀ {p q s t : D → Bool} {r : List D}, fitsL [p, q, s, t] r = true → ∃ a b c d, r = [a, b, c, d] ∧ p a = true ∧ q b = true := fun {p q s t r} h => by
      rw [fits4] at h
      match r, h with
      | [a, b, c, d], h =>
        simp only [Bool.and_eq_true] at h
        exact ⟨a, b, c, d, rfl, h.1, h.2.1⟩
    by_cases h2 : x = "voice"
    · subst h2
      rw [yes] at h
      obtain ⟨a, b, c, d, rfl, ha, hb⟩ := four h
      exact ⟨_, a, b, _, rfl, .inl ha, .inl hb, hx _⟩
    rw [ne h2] at h
    by_cases h4 : x = "pack"
    · subst h4
      rw [yes] at h
      obtain ⟨a, b, c, d, rfl, ha, hb⟩ := four h
      exact ⟨_, a, b, _, rfl, .inl ha, .inl hb, hx _⟩
    rw [ne h4] at h
    by_cases h5 : x = "held"
    · subst h5
      rw [yes] at h
      have h' : fitsL [keeper, keeper, geD 1, truthD, geD 0] r = true := h
      rw [fits5] at h'
      match r, h' with
      | [a, b, t, p, l], h' =>
        simp only [Bool.and_eq_true] at h'
        exact ⟨_, a, b, _, rfl, .inl h'.1, .inl h'.2.1, hx _⟩
    rw [ne h5] at h
    by_cases h6 : x = "wish"
    · subst h6
      rw [yes] at h
      obtain ⟨a, b, c, d, rfl, ha, hb⟩ := four h
      exact ⟨_, a, b, _, rfl, .inr ha, .inl hb, hx _⟩
    rw [ne h6] at h
    by_cases h7 : x = "told"
    · subst h7
      rw [yes] at h
      obtain ⟨a, b, c, d, rfl, ha, hb⟩ := four h
      exact ⟨_, a, b, _, rfl, .inl ha, .inr hb, hx _⟩
    rw [ne h7] at h
    by_cases h8 : x = "away"
    · subst h8
      rw [yes] at h
      obtain ⟨a, b, c, d, rfl, ha, hb⟩ := four h
      exact ⟨_, a, b, _, rfl, .inl ha, .inr hb, hx _⟩
    rw [ne h8] at h
    cases h
  · cases h
theorem kn_val {B : Nat} {H : Hp} {v : V} {d : D} (I : Is B H v d) (h : keeper d = true ∨ nameP d = true) : (∃ i, d = .int i ∧ v = .int i) ∨ ∃ x, d = .str x ∧ v = .str x := by
  cases I with
  | int i => exact .inl ⟨i, rfl, rfl⟩
  | str x _ => exact .inr ⟨x, rfl, rfl⟩
  | _ => rcases h with h | h <;> cases h
theorem same_val {B : Nat} {H : Hp} {v u : V} {a b : D} (Ia : Is B H v a) (Ib : Is B H u b) (ha : keeper a = true ∨ nameP a = true) (hb : keeper b = true ∨ nameP b = true) : scal v u = true ∧ decide (v = u) = sameD a b := by
  rcases kn_val Ia ha with ⟨i, rfl, rfl⟩ | ⟨x, rfl, rfl⟩ <;> rcases kn_val Ib hb with ⟨j, rfl, rfl⟩ | ⟨y, rfl, rfl⟩
  · refine ⟨rfl, ?_⟩
    show decide (V.int i = V.int j) = decide (i = j)
    rw [Bool.eq_iff_iff]; simp only [decide_eq_true_eq]; exact ⟨fun h => V.int.inj h, fun h => by rw [h]⟩
  · exact ⟨rfl, decide_eq_false (fun z => by cases z)⟩
  · exact ⟨rfl, decide_eq_false (fun z => by cases z)⟩
  · refine ⟨rfl, ?_⟩
    show decide (V.str x = V.str y) = decide (x = y)
    rw [Bool.eq_iff_iff]; simp only [decide_eq_true_eq]; exact ⟨fun h => V.str.inj h, fun h => by rw [h]⟩
theorem in_two (x y z : Str) : inV (V.str x) [V.str y, V.str z] = decide (x = y ∨ x = z) := by
  show (decide ((y : Str) = x) || (decide ((z : Str) = x) || false)) = _
  rw [Bool.eq_iff_iff]
  simp only [Bool.or_eq_true, decide_eq_true_eq, Bool.false_eq_true, or_false]
  exact ⟨fun h => h.imp Eq.symm Eq.symm, fun h => h.imp Eq.symm Eq.symm⟩
theorem ok_letter {f : Addr} {fd : FuncData} {kk : Nat} (F : Fun K "is_letter" "is_letter" s_is_letter f fd) (TB : TabOk P w K mg base "LETTER_TELLERS" kk letterT)
    (CW : Cal P w K mg base "first_word" 1 ["thing"] spWord) (CB : Cal P w K mg base "fits_behind_word" (kk + 2) ["thing", "tellers"] (spFbw P w K mg base kk)) (CE : Cal P w K mg base "is_end" 1 ["place", "last"] spEnd) : FnOk P w K mg base CX0 (kk + 3) f fd ["thing"] (spP letterP) := by
  refine F.ok scLe spP_len (fun cdv A outer s H vs Q E hr h => ?_)
  obtain ⟨B, v, d, hB, rfl, I, k⟩ := h
  obtain ⟨aD, es, n, mD, lD, hsys, hT⟩ := TB.ex
  obtain ⟨gW, dW, GW, mW, kW, bW⟩ := CW.ex
  obtain ⟨gB, dB, GB, mB, kB, bB⟩ := CB.ex
  obtain ⟨gE, dE, GE, mE, kE, bE⟩ := CE.ex
  have r1 := hr.mono (show 1 ≤ kk + 2 by omega)
  refine ⟨_, @pss_p _ _ _ _ _ (ps_set (i := 1) scLe.nd (by rfl) (by exact Or.inl rfl) (pe_call GW r1 (by rfl) mW kW bW .nil pass0 (pa_n (pv 0) pa_nil)))
    (@pss_p _ _ _ _ _ (ps_if (pt_not (pt_val (pe_call GB hr (by rfl) mB kB bB .nil pass0 (pa_n (pv 0) (pa_k (pe_kget (pe_fn (by rfl) mD) (pa_n (pv 1) pa_nil)) pa_nil))))) (@pss_o _ _ _ (ps_ret pe_bl)) pss_nil)
    (@pss_p _ _ _ _ _ (ps_if (pt_cmpR op_eq (pe_ix ix_tup (pv 0) pe_int px_i) (pe_ix ix_tup (pv 0) pe_int px_i) (nomark _)) (@pss_o _ _ _ (ps_ret pe_bl)) pss_nil)
    (@pss_o _ _ _ (ps_ret (pe_or (pe_cmpR op_notIn_seq (pv 1) (QE.h (qx_tup (qa_str (qa_str qa_nil)))) rfl) (pe_one (pe_call GE r1 (by rfl) mE kE bE .nil pass0 (pa_s (pe_ix ix_tup (pv 0) pe_int px_i) (pa_s (pe_ix ix_tup (pv 0) pe_int px_i) pa_nil))))))))), ?_⟩
  obtain ⟨vv, rel, hv⟩ := hT.find (x := wordD d)
  rw [← findBy_list] at rel
  refine ⟨_, rfl, B, v, d, hB, rfl, I, _, rfl, aD, es, n, rfl, lD, hT.keys, hsys, _, rfl, _, vv, rfl, rel, B, v, d, vv, hB, rfl, I, ?_⟩
  rcases hv with ⟨hn, rfl⟩ | ⟨ps, t, gs, hs, rfl, hq, ht⟩
  · have k0 := k H (Same.refl _)
    unfold letterP at k0
    rw [byWord_none hn] at k0
    exact .inl ⟨rfl, _, rfl, iteT k0⟩
  · obtain ⟨x0, r0, ed, e⟩ := byWord_some hs TB.no
    refine .inr ⟨t, gs, ps, .str x0, r0, rfl, ed, hq H, ht, ?_, fun H' s' => ⟨_, rfl, ?_⟩⟩
    · rw [ht.length]; exact TB.few _ (lookup_mem hs)
    · have k0 := k H' s'
      unfold letterP at k0
      rw [← e]
      cases hf : byWord letterT d with
      | false => rw [hf] at k0; exact iteT k0
      | true =>
        rw [hf] at k0
        obtain ⟨x, a, b, r, rfl, ha, hb, hends⟩ := letter_parts hf
        have I' := I.same s'
        cases I' with
        | @tup p xs _ ep hl rr =>
        obtain ⟨v1, e1, I1⟩ := rr.at (i := 1) rfl
        obtain ⟨v2, e2, I2⟩ := rr.at (i := 2) rfl
        obtain ⟨sc, sd⟩ := same_val I1 I2 ha hb
        have k1 : Q (.bl (!sameD a b && endsD (.tup (.str x :: a :: b :: r)))) H' := k0
        refine iteF ⟨_, rfl, p, xs, 1, v1, rfl, rfl, SqT.of ep, e1, _, rfl, p, xs, 2, v2, rfl, rfl, SqT.of ep, e2, sc, _, rfl, ?_⟩
        rw [sd]
        cases hsm : sameD a b with
        | true => rw [hsm] at k1; exact iteT k1
        | false =>
          rw [hsm] at k1
          refine iteF ⟨_, rfl, tiny (by show 2 ≤ 1000; decide), fun q hq => ⟨q, _, rfl, .inr (SqT.of upd_same), rfl, rfl, _, rfl, ?_⟩⟩
          have s2 := same_upd (o := HO.tup [V.str "ask", V.str "hand"]) hq
          have k2 := k _ (s'.trans s2)
          have k3 : Q (.bl (endsD (.tup (.str x :: a :: b :: r)))) (upd H' q (.tup [V.str "ask", V.str "hand"])) := by
            unfold letterP at k2
            rw [hf] at k2
            have k4 : Q (.bl (!sameD a b && endsD (.tup (.str x :: a :: b :: r)))) (upd H' q (.tup [V.str "ask", V.str "hand"])) := k2
            rw [hsm] at k4
            exact k4
          show if (!inV (V.str x) [V.str "ask", V.str "hand"]) = true then _ else _
          rw [in_two]
          by_cases hx : x = "ask" ∨ x = "hand"
          · rw [decide_eq_true hx]
            obtain ⟨c, i, j, r', rfl⟩ := hends hx
            obtain ⟨v4, e4, I4⟩ := rr.at (i := 4) rfl
            obtain ⟨v5, e5, I5⟩ := rr.at (i := 5) rfl
            cases I4
            cases I5
            have k5 : Q (.bl (if x = "ask" ∨ x = "hand" then endD (.tup (.int i :: .int j :: r')) else true)) (upd H' q (.tup [V.str "ask", V.str "hand"])) := k3
            rw [if_pos hx] at k5
            exact iteF ⟨_, rfl, p, xs, 4, _, rfl, rfl, SqT.of (s2 _ _ ep), e4, _, rfl, p, xs, 5, _, rfl, rfl, SqT.of (s2 _ _ ep), e5, i, j, rfl, k5⟩
          · rw [decide_eq_false hx]
            have k5 : endsD (.tup (.str x :: a :: b :: r)) = true := by
              match r with
              | [] => rfl
              | [_] => rfl
              | [_, _] => rfl
              | _ :: u :: w :: t =>
                show (if x = "ask" ∨ x = "hand" then endD (.tup (u :: w :: t)) else true) = true
                rw [if_neg hx]
            rw [k5] at k3
            exact iteT k3
end
end K1
set_option Elab.async false
set_option linter.all false
set_option maxRecDepth 100000
set_option maxHeartbeats 4000000
namespace Kp
open PySem
theorem rest_ask (r : List D) : restL "ask" r = (match r with | [a, b, t, p, l] => btwL a b t && standL p l | _ => false) := by unfold restL; rw [if_pos rfl]; all_goals rfl
theorem rest_voice (r : List D) : restL "voice" r = (match r with | [a, b, t, v] => btwL a b t && truthD v | _ => false) := by unfold restL; rw [if_neg (by decide +kernel), if_pos rfl]; all_goals rfl
theorem rest_hand (r : List D) : restL "hand" r = (match r with | [a, b, t, p, l, e, m] => btwL a b t && (standL p l && (entriesL e && geD 0 m)) | _ => false) := by unfold restL; rw [if_neg (by decide +kernel), if_neg (by decide +kernel), if_pos rfl]; all_goals rfl
theorem rest_pack (r : List D) : restL "pack" r = (match r with | [a, b, t, k] => btwL a b t && (packL k && nzD k) | _ => false) := by unfold restL; rw [if_neg (by decide +kernel), if_neg (by decide +kernel), if_neg (by decide +kernel), if_pos rfl]; all_goals rfl
theorem rest_held (r : List D) : restL "held" r = (match r with | [a, b, t, v, m] => btwL a b t && (truthD v && geD 0 m) | _ => false) := by unfold restL; rw [if_neg (by decide +kernel), if_neg (by decide +kernel), if_neg (by decide +kernel), if_neg (by decide +kernel), if_pos rfl]; all_goals rfl
theorem rest_wish (r : List D) : restL "wish" r = (match r with | [n, k, c, d] => geD 1 c && (nameL n && (keeper k && deedL d)) | _ => false) := by unfold restL; rw [if_neg (by decide +kernel), if_neg (by decide +kernel), if_neg (by decide +kernel), if_neg (by decide +kernel), if_neg (by decide +kernel), if_pos rfl]; all_goals rfl
theorem rest_told (r : List D) : restL "told" r = (match r with | [k, n, c, v] => geD 1 c && ((keeper k && nameL n) && whole v) | _ => false) := by unfold restL; rw [if_neg (by decide +kernel), if_neg (by decide +kernel), if_neg (by decide +kernel), if_neg (by decide +kernel), if_neg (by decide +kernel), if_neg (by decide +kernel), if_pos rfl]; all_goals rfl
theorem rest_away (r : List D) : restL "away" r = (match r with | [k, n, c, h] => geD 1 c && ((keeper k && nameL n) && headP h) | _ => false) := by unfold restL; rw [if_neg (by decide +kernel), if_neg (by decide +kernel), if_neg (by decide +kernel), if_neg (by decide +kernel), if_neg (by decide +kernel), if_neg (by decide +kernel), if_neg (by decide +kernel), if_pos rfl]; all_goals rfl
theorem rest_no {x : Str} (r : List D) (h1 : x ≠ "ask") (h2 : x ≠ "voice") (h3 : x ≠ "hand") (h4 : x ≠ "pack") (h5 : x ≠ "held") (h6 : x ≠ "wish") (h7 : x ≠ "told") (h8 : x ≠ "away") : restL x r = false := by
  unfold restL; rw [if_neg h1, if_neg h2, if_neg h3, if_neg h4, if_neg h5, if_neg h6, if_neg h7, if_neg h8]
/-- the beginning of a letter between keepers -/
def okB (n : Nat) (r : List D) : Bool := decide (r.length + 1 = n) && (match r with | a :: b :: _ => (keeper a && keeper b) && !sameD a b | _ => false)
theorem okB_len {n : Nat} {r : List D} (h : ¬ r.length + 1 = n) : okB n r = false := by unfold okB; rw [decide_eq_false h]; rfl
theorem okB_two {n : Nat} {a b : D} {r : List D} (h : (a :: b :: r).length + 1 = n) : okB n (a :: b :: r) = ((keeper a && keeper b) && !sameD a b) := by unfold okB; rw [decide_eq_true h]; rfl
end Kp
namespace K1
open PySem L2 Kp
theorem PS.weak {X : Cx} {st : Stmt} {t t' : TS} (h : PS X st t) (w : ∀ D σ H, t' D σ H → t D σ H) : PS X st t' := fun pins s σ H D I q => h pins s σ H D I (w D σ H q)
section
variable {P : Program} {w : World} {K : PySem.W.Frag} {mg : Str → Option Value} {base : Heap}
theorem scKL : FnScope ["_law_thing"] ["_law_thing"] (defScope s__law_keeper) := ⟨rfl, rfl, rfl, by decide +kernel, rfl, by decide +kernel, by decide +kernel⟩
theorem ok_keeperL {f : Addr} {fd : FuncData} (F : Fun K "_law_keeper" "_law_keeper" s__law_keeper f fd) (CF : Cal P w K mg base "_law_from" 1 ["_law_thing", "_law_least"] spFrom) : FnOk P w K mg base CX0 2 f fd ["_law_thing"] (spP keeper) := by
  refine F.ok scKL spP_len (fun cdv A outer s H vs Q E hr h => ?_)
  obtain ⟨B, v, d, hB, rfl, I, k⟩ := h
  obtain ⟨g, gd, G, m, kp, b⟩ := CF.ex
  refine ⟨_, pss_one (ps_ret (pe_and (pe_call G hr rfl m kp b .nil pass0 (pa_n (pv 0) (pa_i pe_int pa_nil))) (pe_one (pe_cmpR op_lt (pv 0) pe_int (nomark _))))), ?_⟩
  refine ⟨_, rfl, B, v, d, 0, hB, rfl, I, fun H1 s1 => ⟨_, rfl, ?_⟩⟩
  have k0 := k H1 s1
  cases hg : geD 0 d with
  | false =>
    have e : keeper d = false := by
      cases d with
      | int i =>
        have hg' : decide (0 ≤ i) = false := hg
        show (decide (0 ≤ i) && decide (i ≤ 8)) = false
        rw [hg']; rfl
      | _ => rfl
    rw [e] at k0
    exact iteF k0
  | true =>
    obtain ⟨i, rfl⟩ := ge_int hg
    cases I
    have hg' : decide (0 ≤ i) = true := hg
    have k1 : Q (.bl (decide (0 ≤ i) && decide (i ≤ 8))) H1 := k0
    rw [hg'] at k1
    refine iteT ⟨_, rfl, _, _, rfl, rfl, ?_⟩
    show Q (.bl (decide (i < 9))) H1
    have e : decide (i < 9) = (true && decide (i ≤ 8)) := by
      rw [Bool.true_and, Bool.eq_iff_iff]; simp only [decide_eq_true_eq]; omega
    rw [e]
    exact k1

/-! ### between keepers -/
def fiveW (x : Str) : Prop := x = "ask" ∨ x = "voice" ∨ x = "hand" ∨ x = "pack" ∨ x = "held"
def spBtw : Sp := fun vs H Q _ => ∃ B v x r, B ≤ 1000 ∧ vs = [v] ∧ fiveW x ∧ Is B H v (.tup (.str x :: r)) ∧ ∀ H', Same H H' → Q (.bl (restL x r)) H'
theorem scBt : FnScope ["_law_thing", "_law_kind_here", "_law_sizes"] ["_law_thing"] (defScope s__law_between) := ⟨rfl, rfl, rfl, by decide +kernel, rfl, by decide +kernel, by decide +kernel⟩
def tBt : TS := fun D σ H => ∃ B v x r n p, σ = [some v, some (.str x), some (.ref p)] ∧ B ≤ 1000 ∧ Is B H v (.tup (.str x :: r)) ∧ DGet H p (.str x) (some (.int ((n : Nat) : Int))) ∧ 4 ≤ n ∧
  ∀ H', Same H H' → if okB n r = true then D.nx σ H' else D.rt (.bl false) H'
theorem ok_between {f : Addr} {fd : FuncData} (F : Fun K "_law_between" "_law_between" s__law_between f fd) (T : Txt mg) (CK : Cal P w K mg base "_law_kind" 1 ["_law_thing"] spWord) (CF : Cal P w K mg base "_law_from" 1 ["_law_thing", "_law_least"] spFrom) (CR : Cal P w K mg base "_law_keeper" 2 ["_law_thing"] (spP keeper))
    (CS : Cal P w K mg base "_law_stand" 2 ["_law_place", "_law_last"] spStand) (CP : Cal P w K mg base "_law_pack" 4 ["_law_thing"] (spP packL)) (CE : Cal P w K mg base "_law_entry" 4 ["_law_thing"] (spP entryL)) : FnOk P w K mg base CX0 5 f fd ["_law_thing"] spBtw := by
  refine F.ok scBt (fun vs H Q E ⟨_, _, _, _, _, e, _⟩ => by subst e; rfl) (fun cdv A outer s H vs Q E hr h => ?_)
  obtain ⟨B, v, x, r, hB, rfl, hx, I, k⟩ := h
  obtain ⟨gK, dK, GK, mK, kK, bK⟩ := CK.ex
  obtain ⟨gF, dF, GF, mF, kF, bF⟩ := CF.ex
  obtain ⟨gR, dR, GR, mR, kR, bR⟩ := CR.ex
  obtain ⟨gS, dS, GS, mS, kS, bS⟩ := CS.ex
  obtain ⟨gP, dP, GP, mP, kP, bP⟩ := CP.ex
  obtain ⟨gE, dE, GE, mE, kE, bE⟩ := CE.ex
  have r1 := hr.mono (show 1 ≤ 4 by decide)
  have r2 := hr.mono (show 2 ≤ 4 by decide)
  refine ⟨_, @pss_p _ _ _ _ _ (ps_set (i := 1) scBt.nd (by rfl) (by exact Or.inl rfl) (pe_call GK r1 (by rfl) mK kK bK .nil pass0 (pa_n (pv 0) pa_nil)))
    (@pss_p _ _ _ _ _ (ps_set (i := 2) scBt.nd (by rfl) (by exact Or.inl rfl) (pe_disp (pps_cons pe_str pe_int (pps_cons pe_str pe_int (pps_cons pe_str pe_int (pps_cons pe_str pe_int (pps_cons pe_str pe_int pps_nil))))) (by rfl) (by rfl) (by simp) (by decide)))
    (@pss_p _ _ _ _ _ (PS.weak (t' := tBt) (ps_if (PW.pt (pw_or (pt_cmpR op_ne (pe_callB call_len_seq (by rfl) T.len PySem.boot_len (pa_n (pv 0) pa_nil)) (pe_dget (hu_of hr) (pv 2) (pv 1) (fun _ _ => rfl)) (nomark _))
        (pw_or (pt_not (pt_val (pe_call GR r2 (by rfl) mR kR bR .nil pass0 (pa_s (pe_ix ix_tup (pv 0) pe_int px_i) pa_nil)))) (pw_or (pt_not (pt_val (pe_call GR r2 (by rfl) mR kR bR .nil pass0 (pa_s (pe_ix ix_tup (pv 0) pe_int px_i) pa_nil))))
        (pw_or1 (pt_cmpR op_eq (pe_ix ix_tup (pv 0) pe_int px_i) (pe_ix ix_tup (pv 0) pe_int px_i) (nomark _))))))) (@pss_o _ _ _ (ps_ret pe_bl)) pss_nil) ?w1)
    (@pss_p _ _ _ _ _ (ps_if (pt_not (pt_val (pe_call GF r1 (by rfl) mF kF bF .nil pass0 (pa_s (pe_ix ix_tup (pv 0) pe_int px_i) (pa_i pe_int pa_nil))))) (@pss_o _ _ _ (ps_ret pe_bl)) pss_nil)
    (@pss_p _ _ _ _ _ (ps_if (pt_cmpR op_eq (pv 1) pe_str (nomark _)) (@pss_o _ _ _ (ps_ret (pe_call GS r2 (by rfl) mS kS bS .nil pass0 (pa_s (pe_ix ix_tup (pv 0) pe_int px_i) (pa_s (pe_ix ix_tup (pv 0) pe_int px_i) pa_nil))))) pss_nil)
    (@pss_p _ _ _ _ _ (ps_if (pt_cmpR op_eq (pv 1) pe_str (nomark _)) (@pss_o _ _ _ (ps_ret (pe_callB call_isi (by rfl) T.isi boot_isi (pa_s (pe_ix ix_tup (pv 0) pe_int px_i) (pa_n (pe_ty (by rfl) T.bool boot_bool) pa_nil))))) pss_nil)
    (@pss_p _ _ _ _ _ (ps_if (pt_cmpR op_eq (pv 1) pe_str (nomark _)) (@pss_o _ _ _ (ps_ret (pe_and (pe_callB call_isi (by rfl) T.isi boot_isi (pa_s (pe_ix ix_tup (pv 0) pe_int px_i) (pa_n (pe_ty (by rfl) T.bool boot_bool) pa_nil))) (pe_one (pe_call GF r1 (by rfl) mF kF bF .nil pass0 (pa_s (pe_ix ix_tup (pv 0) pe_int px_i) (pa_i pe_int pa_nil))))))) pss_nil)
    (@pss_p _ _ _ _ _ (ps_if (pt_cmpR op_eq (pv 1) pe_str (nomark _)) (@pss_o _ _ _ (ps_ret (pe_and (pe_call GP hr (by rfl) mP kP bP .nil pass0 (pa_s (pe_ix ix_tup (pv 0) pe_int px_i) pa_nil)) (pe_one (pe_cmpR op_ne (pe_ix ix_tup (pe_ix ix_tup (pv 0) pe_int px_i) pe_int px_i) pe_int (nomark _)))))) pss_nil)
    (@pss_p _ _ _ _ _ (ps_if (PW.pt (pw_or (pt_not (pt_val (pe_call GS r2 (by rfl) mS kS bS .nil pass0 (pa_s (pe_ix ix_tup (pv 0) pe_int px_i) (pa_s (pe_ix ix_tup (pv 0) pe_int px_i) pa_nil)))))
        (pw_or (pt_not (pt_val (pe_callB call_isi (by rfl) T.isi boot_isi (pa_s (pe_ix ix_tup (pv 0) pe_int px_i) (pa_n (pe_ty (by rfl) T.tuple boot_tuple) pa_nil))))) (pw_or1 (pt_cmpR op_gt (pe_callB call_len_seq (by rfl) T.len PySem.boot_len (pa_s (pe_ix ix_tup (pv 0) pe_int px_i) pa_nil)) pe_int (nomark _)))))) (@pss_o _ _ _ (ps_ret pe_bl)) pss_nil)
    (@pss_o _ _ _ (ps_ret (pe_and (pe_cmpR (op_eqE hr.units0) (pe_comp (NB := ["_law_one"]) (n := 1) (fr := []) (compOk0 (outer := defScope s__law_between) (by rfl) (by decide +kernel) (by rfl)) (by rfl) (pi_tup (pe_ix ix_tup (pv 0) pe_int px_i))
        (fun _ _ _ _ _ => pg_name (i := 0) (show (["_law_one"] : List Str).Nodup by decide +kernel) (by rfl) (by exact Or.inl rfl)) (fun _ _ _ _ _ => pifs_one (pt_not (pt_val (pe_call GE hr (by rfl) mE kE bE .nil pass0 (pa_n (pv 0) pa_nil))))) (fun _ _ _ _ _ => pv 0)) (pe_lst pa_nil) (nomark _))
      (pe_one (pe_call GF r1 (by rfl) mF kF bF .nil pass0 (pa_s (pe_ix ix_tup (pv 0) pe_int px_i) (pa_i pe_int pa_nil))))))))))))))), ?_⟩
  case w1 =>
    rintro D σ H ⟨B, v, x, r, n, p, rfl, hB, I, g, hn, q⟩
    have I0 := I
    cases I with
    | @tup a xs _ ea hl rr =>
    have hlen := rr.length
    refine ⟨_, rfl, a, xs, rfl, .inr (SqT.of ea), _, rfl, _, rfl, p, _, rfl, g, rfl, _, rfl, ?_⟩
    by_cases hL : r.length + 1 = n
    · rw [show (!decide (V.int (xs.length : Int) = V.int (n : Int))) = false by rw [hlen, ← hL]; simp]
      match r, hL, rr, q with
      | [], hL, _, _ => exact absurd hL (by simp; omega)
      | [_], hL, _, _ => exact absurd hL (by simp; omega)
      | a1 :: b1 :: r', hL, rr, q =>
      rw [okB_two hL] at q
      obtain ⟨v1, e1, I1⟩ := rr.at (i := 1) rfl
      obtain ⟨v2, e2, I2⟩ := rr.at (i := 2) rfl
      refine iteF ⟨_, rfl, a, xs, 1, v1, rfl, rfl, SqT.of ea, e1, B, v1, a1, hB, rfl, I1, fun H1 s1 => ⟨_, rfl, ?_⟩⟩
      cases h1 : keeper a1 with
      | false =>
        have q1 := q H1 s1
        rw [h1] at q1
        exact iteT (iteT q1)
      | true =>
        refine iteF ⟨_, rfl, a, xs, 2, v2, rfl, rfl, SqT.of (s1 _ _ ea), e2, B, v2, b1, hB, rfl, I2.same s1, fun H2 s2 => ⟨_, rfl, ?_⟩⟩
        have q2 := q H2 (s1.trans s2)
        rw [h1] at q2
        cases h2 : keeper b1 with
        | false =>
          rw [h2] at q2
          exact iteT (iteT q2)
        | true =>
          rw [h2] at q2
          obtain ⟨sc, sd⟩ := same_val (I1.same (s1.trans s2)) (I2.same (s1.trans s2)) (.inl h1) (.inl h2)
          refine iteF ⟨_, rfl, a, xs, 1, v1, rfl, rfl, SqT.of (s2 _ _ (s1 _ _ ea)), e1, _, rfl, a, xs, 2, v2, rfl, rfl, SqT.of (s2 _ _ (s1 _ _ ea)), e2, sc, _, rfl, ?_⟩
          rw [sd]
          cases h3 : sameD a1 b1 with
          | true => rw [h3] at q2; exact iteT q2
          | false => rw [h3] at q2; exact iteF q2
    · rw [show (!decide (V.int (xs.length : Int) = V.int (n : Int))) = true by rw [decide_eq_false (fun z => hL (by have := V.int.inj z; rw [hlen] at this; simp at this; omega))]; rfl]
      have q0 := q H (Same.refl _)
      rw [okB_len hL] at q0
      exact iteT (iteT q0)
  refine ⟨_, rfl, B, v, _, hB, rfl, I, fun p hp => ⟨upd_same, [(Sum.inr "ask", V.int 6), (Sum.inr "voice", V.int 5), (Sum.inr "hand", V.int 8), (Sum.inr "pack", V.int 5), (Sum.inr "held", V.int 6)], rfl, by decide, ?_⟩⟩
  rw [upd_upd]
  have sd := same_upd (o := HO.dK (mergeK [] [(Sum.inr "ask", V.int 6), (Sum.inr "voice", V.int 5), (Sum.inr "hand", V.int 8), (Sum.inr "pack", V.int 5), (Sum.inr "held", V.int 6)])) hp
  have dg : ∀ {x : Str} {n : Nat}, valV (mergeK [] [((Sum.inr "ask" : Key), V.int 6), (Sum.inr "voice", V.int 5), (Sum.inr "hand", V.int 8), (Sum.inr "pack", V.int 5), (Sum.inr "held", V.int 6)]) (Sum.inr x) = some (.int (n : Int)) → DGet (upd H p (.dK (mergeK [] [(Sum.inr "ask", V.int 6), (Sum.inr "voice", V.int 5), (Sum.inr "hand", V.int 8), (Sum.inr "pack", V.int 5), (Sum.inr "held", V.int 6)]))) p (.str x) (some (.int (n : Int))) := fun {x n} e => by
    rw [← e]; exact DGet.k (k := Sum.inr x) upd_same
  generalize hH1 : upd H p (.dK (mergeK [] [((Sum.inr "ask" : Key), V.int 6), (Sum.inr "voice", V.int 5), (Sum.inr "hand", V.int 8), (Sum.inr "pack", V.int 5), (Sum.inr "held", V.int 6)])) = H1 at sd dg ⊢
  have yes : ∀ {s t : Str}, s = t → decide (V.str s = V.str t) = true := fun h => by rw [h]; simp
  have nos : ∀ {s t : Str}, s ≠ t → decide (V.str s = V.str t) = false := fun h => decide_eq_false fun z => h (V.str.inj z)
  have btw : ∀ (a b t : D), keeper a = true → keeper b = true → sameD a b = false → btwL a b t = geD 1 t := fun a b t h1 h2 h3 => by unfold btwL; rw [h1, h2, h3]; rfl
  rcases hx with rfl | rfl | rfl | rfl | rfl
  · refine ⟨B, v, "ask", r, 6, p, rfl, hB, I.same sd, dg (valV_merge (by decide +kernel)), by decide, fun H2 s2 => ite2 (fun c => ?_) (fun c => ?_)⟩
    · match r, c, I, k with
      | [a, b, t, p1, l1], c, I, k =>
        have c' : ((keeper a && keeper b) && !sameD a b) = true := c
        simp only [Bool.and_eq_true, Bool.not_eq_true'] at c'
        have kk : ∀ H', Same H H' → Q (.bl (geD 1 t && standL p1 l1)) H' := fun H' s' => by
          have := k H' s'
          rw [rest_ask] at this
          rw [← btw a b t c'.1.1 c'.1.2 c'.2]
          exact this
        have I2 := I.same (sd.trans s2)
        cases I2 with
        | @tup q xs _ ea hl rr =>
        obtain ⟨v3, e3, I3⟩ := rr.at (i := 3) rfl
        obtain ⟨v4, e4, I4⟩ := rr.at (i := 4) rfl
        obtain ⟨v5, e5, I5⟩ := rr.at (i := 5) rfl
        refine ⟨_, rfl, q, xs, 3, v3, rfl, rfl, SqT.of ea, e3, B, v3, t, 1, hB, rfl, I3, fun H3 s3 => ⟨_, rfl, ?_⟩⟩
        cases hg : geD 1 t with
        | false =>
          have k3 := kk H3 ((sd.trans s2).trans s3)
          rw [hg] at k3
          exact iteT k3
        | true =>
          rw [hg] at kk
          refine iteF ⟨V.str "ask", rfl, rfl, _, rfl, ?_⟩
          rw [yes rfl]
          exact iteT ⟨_, rfl, q, xs, 4, v4, rfl, rfl, SqT.of (s3 _ _ ea), e4, _, rfl, q, xs, 5, v5, rfl, rfl, SqT.of (s3 _ _ ea), e5, B, v4, v5, p1, l1, hB, rfl, I4.same s3, I5.same s3, fun H4 s4 => kk H4 (((sd.trans s2).trans s3).trans s4)⟩
    · have k2 := k H2 (sd.trans s2)
      have e : restL "ask" r = false := by
        rw [rest_ask]
        match r, c with
        | [a, b, t, p1, l1], c =>
          show (btwL a b t && standL p1 l1) = false
          have c' : ¬ ((keeper a && keeper b) && !sameD a b) = true := c
          have c2 : ((keeper a && keeper b) && !sameD a b) = false := by
            cases h : ((keeper a && keeper b) && !sameD a b) with
            | false => rfl
            | true => exact absurd h c'
          unfold btwL; rw [c2]; rfl
        | [], _ => rfl
        | [_], _ => rfl
        | [_, _], _ => rfl
        | [_, _, _], _ => rfl
        | [_, _, _, _], _ => rfl
        | _ :: _ :: _ :: _ :: _ :: _ :: _, _ => rfl
      rw [e] at k2
      exact k2
  · refine ⟨B, v, "voice", r, 5, p, rfl, hB, I.same sd, dg (valV_merge (by decide +kernel)), by decide, fun H2 s2 => ite2 (fun c => ?_) (fun c => ?_)⟩
    · match r, c, I, k with
      | [a, b, t, e1], c, I, k =>
        have c' : ((keeper a && keeper b) && !sameD a b) = true := c
        simp only [Bool.and_eq_true, Bool.not_eq_true'] at c'
        have kk : ∀ H', Same H H' → Q (.bl (geD 1 t && truthD e1)) H' := fun H' s' => by
          have := k H' s'
          rw [rest_voice] at this
          rw [← btw a b t c'.1.1 c'.1.2 c'.2]
          exact this
        have I2 := I.same (sd.trans s2)
        cases I2 with
        | @tup q xs _ ea hl rr =>
        obtain ⟨v3, e3, I3⟩ := rr.at (i := 3) rfl
        obtain ⟨v4, e4, I4⟩ := rr.at (i := 4) rfl
        refine ⟨_, rfl, q, xs, 3, v3, rfl, rfl, SqT.of ea, e3, B, v3, t, 1, hB, rfl, I3, fun H3 s3 => ⟨_, rfl, ?_⟩⟩
        cases hg : geD 1 t with
        | false =>
          have k3 := kk H3 ((sd.trans s2).trans s3)
          rw [hg] at k3
          exact iteT k3
        | true =>
          rw [hg] at kk
          refine iteF ⟨V.str "voice", rfl, rfl, _, rfl, ?_⟩
          rw [nos (by decide +kernel)]
          refine iteF ?_
          refine ⟨V.str "voice", rfl, rfl, _, rfl, ?_⟩
          rw [yes rfl]
          have k4 := kk H3 ((sd.trans s2).trans s3)
          rw [← truth_is] at k4
          exact iteT ⟨_, rfl, q, xs, 4, v4, rfl, rfl, SqT.of (s3 _ _ ea), e4, _, _, _, _, rfl, (I4.same s3).ty, kit_bool K e1, k4⟩
    · have k2 := k H2 (sd.trans s2)
      have e : restL "voice" r = false := by
        rw [rest_voice]
        match r, c with
        | [a, b, t, e1], c =>
          show (btwL a b t && truthD e1) = false
          have c' : ¬ ((keeper a && keeper b) && !sameD a b) = true := c
          have c2 : ((keeper a && keeper b) && !sameD a b) = false := by
            cases h : ((keeper a && keeper b) && !sameD a b) with
            | false => rfl
            | true => exact absurd h c'
          unfold btwL; rw [c2]; rfl
        | [], _ => rfl
        | [_], _ => rfl
        | [_, _], _ => rfl
        | [_, _, _], _ => rfl
        | _ :: _ :: _ :: _ :: _ :: _, _ => rfl
      rw [e] at k2
      exact k2
  · refine ⟨B, v, "hand", r, 8, p, rfl, hB, I.same sd, dg (valV_merge (by decide +kernel)), by decide, fun H2 s2 => ite2 (fun c => ?_) (fun c => ?_)⟩
    · match r, c, I, k with
      | [a, b, t, p1, l1, e1, m1], c, I, k =>
        have c' : ((keeper a && keeper b) && !sameD a b) = true := c
        simp only [Bool.and_eq_true, Bool.not_eq_true'] at c'
        have kk : ∀ H', Same H H' → Q (.bl (geD 1 t && (standL p1 l1 && (entriesL e1 && geD 0 m1)))) H' := fun H' s' => by
          have := k H' s'
          rw [rest_hand] at this
          rw [← btw a b t c'.1.1 c'.1.2 c'.2]
          exact this
        have I2 := I.same (sd.trans s2)
        cases I2 with
        | @tup q xs _ ea hl rr =>
        obtain ⟨v3, e3, I3⟩ := rr.at (i := 3) rfl
        obtain ⟨v4, e4, I4⟩ := rr.at (i := 4) rfl
        obtain ⟨v5, e5, I5⟩ := rr.at (i := 5) rfl
        obtain ⟨v6, e6, I6⟩ := rr.at (i := 6) rfl
        obtain ⟨v7, e7, I7⟩ := rr.at (i := 7) rfl
        refine ⟨_, rfl, q, xs, 3, v3, rfl, rfl, SqT.of ea, e3, B, v3, t, 1, hB, rfl, I3, fun H3 s3 => ⟨_, rfl, ?_⟩⟩
        cases hg : geD 1 t with
        | false =>
          have k3 := kk H3 ((sd.trans s2).trans s3)
          rw [hg] at k3
          exact iteT k3
        | true =>
          rw [hg] at kk
          refine iteF ⟨V.str "hand", rfl, rfl, _, rfl, ?_⟩
          rw [nos (by decide +kernel)]
          refine iteF ?_
          refine ⟨V.str "hand", rfl, rfl, _, rfl, ?_⟩
          rw [nos (by decide +kernel)]
          refine iteF ?_
          refine ⟨V.str "hand", rfl, rfl, _, rfl, ?_⟩
          rw [nos (by decide +kernel)]
          refine iteF ?_
          refine ⟨V.str "hand", rfl, rfl, _, rfl, ?_⟩
          rw [nos (by decide +kernel)]
          refine iteF ?_
          refine ⟨_, rfl, q, xs, 4, v4, rfl, rfl, SqT.of (s3 _ _ ea), e4, _, rfl, q, xs, 5, v5, rfl, rfl, SqT.of (s3 _ _ ea), e5, B, v4, v5, p1, l1, hB, rfl, I4.same s3, I5.same s3, fun H4 s4 => ⟨_, rfl, ?_⟩⟩
          have s34 := s3.trans s4
          have s04 := (sd.trans s2).trans s34
          cases hb : standL p1 l1 with
          | false =>
            rw [hb] at kk
            exact iteT (iteT (kk H4 s04))
          | true =>
            rw [hb] at kk
            have kf : ∀ {H' : Hp}, Same H4 H' → entriesL e1 = false → Q (.bl false) H' := fun {H'} s' z => by
              have := kk H' (s04.trans s')
              rw [z] at this
              exact this
            refine iteF ⟨_, rfl, q, xs, 6, v6, rfl, rfl, SqT.of (s34 _ _ ea), e6, _, _, _, _, rfl, (I6.same s34).ty, kit_tup K e1, _, rfl, ?_⟩
            have I6' := I6.same s34
            cases e1 with
            | tup ds =>
              cases I6' with
              | @tup q6 xs6 _ ea6 hl6 rr6 =>
              have l6 := rr6.length
              refine iteF ⟨_, rfl, q, xs, 6, _, rfl, rfl, SqT.of (s34 _ _ ea), e6, q6, xs6, rfl, .inr (SqT.of ea6), _, _, rfl, rfl, _, rfl, ?_⟩
              by_cases h5 : ds.length ≤ 5
              · rw [decide_eq_false (show ¬ (5 : Int) < (xs6.length : Int) by omega)]
                have en : entriesL (.tup ds) = ds.all entryL := by
                  show (decide (ds.length ≤ 5) && ds.all entryL) = _
                  rw [decide_eq_true h5, Bool.true_and]
                rw [en] at kk
                refine iteF ⟨_, rfl, q, xs, 6, _, rfl, rfl, SqT.of (s34 _ _ ea), e6, q6, rfl, ⟨xs6, SqT.of ea6⟩, comp_pure (J := Itt K q6) (k := 1) (n := xs6.length) (fun i => !entryL (ds.getD i .non)) (fun i => xs6.getD i .non) (show xs6.length < sizeLine by rw [sizeLine_eq]; omega)
                  (fun i H2 hi s1 => ⟨xs6, xs6[i], SqT.of (s1 _ _ ea6), by simp [hi]⟩) (fun H2 s1 => ⟨xs6, SqT.of (s1 _ _ ea6), Nat.le_refl _⟩) ?_ ?_⟩
                · intro i H2 t v H3 R hi s1 ht y hR
                  obtain ⟨rfl, hy⟩ := y
                  have hv := hy xs6 (SqT.of (s1 _ _ ea6))
                  obtain ⟨di, hdi, Ii⟩ := rr6.get hv
                  obtain ⟨t0, rfl⟩ := one_slot ht
                  have ed : ds.getD i .non = di := by rw [List.getD_eq_getElem?_getD, hdi]; rfl
                  have ev : xs6.getD i .non = v := by rw [List.getD_eq_getElem?_getD, hv]; rfl
                  refine ⟨_, rfl, B, v, di, hB, rfl, Ii.same s1, fun H' s2 => ⟨_, rfl, ?_⟩⟩
                  have hR' := hR [some v] H' rfl s2
                  rw [ed, ev] at hR'
                  cases he : entryL di with
                  | true => rw [he] at hR'; exact iteF hR'
                  | false => rw [he] at hR'; exact iteT ⟨_, rfl, hR'⟩
                · intro D1 H' s1 hD hd
                  refine ⟨by simp [sizeLine_eq], fun p7 h7 => ⟨D1, p7, _, rfl, rfl, SqL.of (same_upd h7 _ _ hd), SqL.of upd_same, _, rfl, ?_⟩⟩
                  have s7 := s1.trans (same_upd (o := HO.lst []) h7)
                  have eal : ((((List.range xs6.length).filter fun i => !entryL (ds.getD i .non)).map fun i => xs6.getD i .non).isEmpty) = ds.all entryL := by
                    rw [List.isEmpty_map, ← all_rangeD ds entryL, l6, Bool.eq_iff_iff]
                    simp [List.isEmpty_iff, List.filter_eq_nil_iff]
                  rw [eal]
                  cases hal : ds.all entryL with
                  | false => rw [hal] at kk; exact iteF (kk _ (s04.trans s7))
                  | true =>
                    rw [hal] at kk
                    exact iteT ⟨_, rfl, q, xs, 7, v7, rfl, rfl, SqT.of (s7 _ _ (s34 _ _ ea)), e7, B, v7, m1, 0, hB, rfl, (I7.same s34).same s7, fun H8 s8 => kk H8 ((s04.trans s7).trans s8)⟩
              · rw [decide_eq_true (show (5 : Int) < (xs6.length : Int) by omega)]
                refine iteT (kf (Same.refl _) ?_)
                show (decide (ds.length ≤ 5) && _) = false
                rw [decide_eq_false h5]; rfl
            | non => exact iteT (iteT (kf (Same.refl _) rfl))
            | bl _ => exact iteT (iteT (kf (Same.refl _) rfl))
            | int _ => exact iteT (iteT (kf (Same.refl _) rfl))
            | str _ => exact iteT (iteT (kf (Same.refl _) rfl))
            | lst _ => exact iteT (iteT (kf (Same.refl _) rfl))
    · have k2 := k H2 (sd.trans s2)
      have e : restL "hand" r = false := by
        rw [rest_hand]
        match r, c with
        | [a, b, t, p1, l1, e1, m1], c =>
          show (btwL a b t && (standL p1 l1 && (entriesL e1 && geD 0 m1))) = false
          have c' : ¬ ((keeper a && keeper b) && !sameD a b) = true := c
          have c2 : ((keeper a && keeper b) && !sameD a b) = false := by
            cases h : ((keeper a && keeper b) && !sameD a b) with
            | false => rfl
            | true => exact absurd h c'
          unfold btwL; rw [c2]; rfl
        | [], _ => rfl
        | [_], _ => rfl
        | [_, _], _ => rfl
        | [_, _, _], _ => rfl
        | [_, _, _, _], _ => rfl
        | [_, _, _, _, _], _ => rfl
        | [_, _, _, _, _, _], _ => rfl
        | _ :: _ :: _ :: _ :: _ :: _ :: _ :: _ :: _, _ => rfl
      rw [e] at k2
      exact k2
  · refine ⟨B, v, "pack", r, 5, p, rfl, hB, I.same sd, dg (valV_merge (by decide +kernel)), by decide, fun H2 s2 => ite2 (fun c => ?_) (fun c => ?_)⟩
    · match r, c, I, k with
      | [a, b, t, e1], c, I, k =>
        have c' : ((keeper a && keeper b) && !sameD a b) = true := c
        simp only [Bool.and_eq_true, Bool.not_eq_true'] at c'
        have kk : ∀ H', Same H H' → Q (.bl (geD 1 t && (packL e1 && nzD e1))) H' := fun H' s' => by
          have := k H' s'
          rw [rest_pack] at this
          rw [← btw a b t c'.1.1 c'.1.2 c'.2]
          exact this
        have I2 := I.same (sd.trans s2)
        cases I2 with
        | @tup q xs _ ea hl rr =>
        obtain ⟨v3, e3, I3⟩ := rr.at (i := 3) rfl
        obtain ⟨v4, e4, I4⟩ := rr.at (i := 4) rfl
        refine ⟨_, rfl, q, xs, 3, v3, rfl, rfl, SqT.of ea, e3, B, v3, t, 1, hB, rfl, I3, fun H3 s3 => ⟨_, rfl, ?_⟩⟩
        cases hg : geD 1 t with
        | false =>
          have k3 := kk H3 ((sd.trans s2).trans s3)
          rw [hg] at k3
          exact iteT k3
        | true =>
          rw [hg] at kk
          refine iteF ⟨V.str "pack", rfl, rfl, _, rfl, ?_⟩
          rw [nos (by decide +kernel)]
          refine iteF ?_
          refine ⟨V.str "pack", rfl, rfl, _, rfl, ?_⟩
          rw [nos (by decide +kernel)]
          refine iteF ?_
          refine ⟨V.str "pack", rfl, rfl, _, rfl, ?_⟩
          rw [nos (by decide +kernel)]
          refine iteF ?_
          refine ⟨V.str "pack", rfl, rfl, _, rfl, ?_⟩
          rw [yes rfl]
          refine iteT ⟨_, rfl, q, xs, 4, v4, rfl, rfl, SqT.of (s3 _ _ ea), e4, B, v4, e1, hB, rfl, I4.same s3, fun H4 s4 => ⟨_, rfl, ?_⟩⟩
          cases hb : packL e1 with
          | false =>
            rw [hb] at kk
            exact iteF (kk H4 (((sd.trans s2).trans s3).trans s4))
          | true =>
            rw [hb] at kk
            obtain ⟨i0, r0, rfl, hi0⟩ := pack_int hb
            have I4' := (I4.same s3).same s4
            cases I4' with
            | @tup q4 xs4 _ ea4 hl4 rr4 =>
            obtain ⟨v0, e0, I0⟩ := rr4.at (i := 0) rfl
            cases I0
            refine iteT ⟨_, rfl, q, xs, 4, _, rfl, rfl, SqT.of (s4 _ _ (s3 _ _ ea)), e4, q4, xs4, 0, _, rfl, rfl, SqT.of ea4, e0, rfl, ?_⟩
            have k4 : Q (.bl (!decide (i0 = 0))) H4 := kk H4 (((sd.trans s2).trans s3).trans s4)
            have ed : decide (V.int i0 = V.int 0) = decide (i0 = 0) := by rw [Bool.eq_iff_iff]; simp only [decide_eq_true_eq]; exact ⟨fun h => V.int.inj h, fun h => by rw [h]⟩
            rw [ed]
            exact k4
    · have k2 := k H2 (sd.trans s2)
      have e : restL "pack" r = false := by
        rw [rest_pack]
        match r, c with
        | [a, b, t, e1], c =>
          show (btwL a b t && (packL e1 && nzD e1)) = false
          have c' : ¬ ((keeper a && keeper b) && !sameD a b) = true := c
          have c2 : ((keeper a && keeper b) && !sameD a b) = false := by
            cases h : ((keeper a && keeper b) && !sameD a b) with
            | false => rfl
            | true => exact absurd h c'
          unfold btwL; rw [c2]; rfl
        | [], _ => rfl
        | [_], _ => rfl
        | [_, _], _ => rfl
        | [_, _, _], _ => rfl
        | _ :: _ :: _ :: _ :: _ :: _, _ => rfl
      rw [e] at k2
      exact k2
  · refine ⟨B, v, "held", r, 6, p, rfl, hB, I.same sd, dg (valV_merge (by decide +kernel)), by decide, fun H2 s2 => ite2 (fun c => ?_) (fun c => ?_)⟩
    · match r, c, I, k with
      | [a, b, t, e1, m1], c, I, k =>
        have c' : ((keeper a && keeper b) && !sameD a b) = true := c
        simp only [Bool.and_eq_true, Bool.not_eq_true'] at c'
        have kk : ∀ H', Same H H' → Q (.bl (geD 1 t && (truthD e1 && geD 0 m1))) H' := fun H' s' => by
          have := k H' s'
          rw [rest_held] at this
          rw [← btw a b t c'.1.1 c'.1.2 c'.2]
          exact this
        have I2 := I.same (sd.trans s2)
        cases I2 with
        | @tup q xs _ ea hl rr =>
        obtain ⟨v3, e3, I3⟩ := rr.at (i := 3) rfl
        obtain ⟨v4, e4, I4⟩ := rr.at (i := 4) rfl
        obtain ⟨v5, e5, I5⟩ := rr.at (i := 5) rfl
        refine ⟨_, rfl, q, xs, 3, v3, rfl, rfl, SqT.of ea, e3, B, v3, t, 1, hB, rfl, I3, fun H3 s3 => ⟨_, rfl, ?_⟩⟩
        cases hg : geD 1 t with
        | false =>
          have k3 := kk H3 ((sd.trans s2).trans s3)
          rw [hg] at k3
          exact iteT k3
        | true =>
          rw [hg] at kk
          refine iteF ⟨V.str "held", rfl, rfl, _, rfl, ?_⟩
          rw [nos (by decide +kernel)]
          refine iteF ?_
          refine ⟨V.str "held", rfl, rfl, _, rfl, ?_⟩
          rw [nos (by decide +kernel)]
          refine iteF ?_
          refine ⟨V.str "held", rfl, rfl, _, rfl, ?_⟩
          rw [yes rfl]
          refine iteT ⟨_, rfl, q, xs, 4, v4, rfl, rfl, SqT.of (s3 _ _ ea), e4, _, _, _, _, rfl, (I4.same s3).ty, kit_bool K e1, _, rfl, ?_⟩
          rw [truth_is]
          cases hb : truthD e1 with
          | false =>
            rw [hb] at kk
            exact iteF (kk H3 ((sd.trans s2).trans s3))
          | true =>
            rw [hb] at kk
            exact iteT ⟨_, rfl, q, xs, 5, v5, rfl, rfl, SqT.of (s3 _ _ ea), e5, B, v5, m1, 0, hB, rfl, I5.same s3, fun H4 s4 => kk H4 (((sd.trans s2).trans s3).trans s4)⟩
    · have k2 := k H2 (sd.trans s2)
      have e : restL "held" r = false := by
        rw [rest_held]
        match r, c with
        | [a, b, t, e1, m1], c =>
          show (btwL a b t && (truthD e1 && geD 0 m1)) = false
          have c' : ¬ ((keeper a && keeper b) && !sameD a b) = true := c
          have c2 : ((keeper a && keeper b) && !sameD a b) = false := by
            cases h : ((keeper a && keeper b) && !sameD a b) with
            | false => rfl
            | true => exact absurd h c'
          unfold btwL; rw [c2]; rfl
        | [], _ => rfl
        | [_], _ => rfl
        | [_, _], _ => rfl
        | [_, _, _], _ => rfl
        | [_, _, _, _], _ => rfl
        | _ :: _ :: _ :: _ :: _ :: _ :: _, _ => rfl
      rw [e] at k2
      exact k2

/-! ### the law's letter -/
theorem in_strs (x : Str) : ∀ l : List Str, inV (V.str x) (l.map V.str) = decide (x ∈ l)
  | [] => rfl
  | y :: l => by
    show (decide ((y : Str) = x) || inV (V.str x) (l.map V.str)) = _
    rw [in_strs x l, Bool.eq_iff_iff]
    simp only [Bool.or_eq_true, decide_eq_true_eq, List.mem_cons]
    exact ⟨fun h => h.imp Eq.symm id, fun h => h.imp Eq.symm id⟩
theorem scLL : FnScope ["_law_thing", "_law_kind_here"] ["_law_thing"] (defScope s__law_letter) := ⟨rfl, rfl, rfl, by decide +kernel, rfl, by decide +kernel, by decide +kernel⟩
theorem ok_letterL {f : Addr} {fd : FuncData} (F : Fun K "_law_letter" "_law_letter" s__law_letter f fd) (T : Txt mg) (CK : Cal P w K mg base "_law_kind" 1 ["_law_thing"] spWord) (CB : Cal P w K mg base "_law_between" 5 ["_law_thing"] spBtw) (CF : Cal P w K mg base "_law_from" 1 ["_law_thing", "_law_least"] spFrom) (CR : Cal P w K mg base "_law_keeper" 2 ["_law_thing"] (spP keeper))
    (CN : Cal P w K mg base "_law_name" 1 ["_law_thing"] (spP nameL)) (CA : Cal P w K mg base "_law_any" 1 ["_law_thing"] (spP whole)) (CD : Cal P w K mg base "_law_deed" 2 ["_law_thing"] (spP deedL)) : FnOk P w K mg base CX0 6 f fd ["_law_thing"] (spP letterL) := by
  refine F.ok scLL spP_len (fun cdv A outer s H vs Q E hr h => ?_)
  obtain ⟨B, v, d, hB, rfl, I, k⟩ := h
  obtain ⟨gK, dK, GK, mK, kK, bK⟩ := CK.ex
  obtain ⟨gB, dB, GB, mB, kB, bB⟩ := CB.ex
  obtain ⟨gF, dF, GF, mF, kF, bF⟩ := CF.ex
  obtain ⟨gR, dR, GR, mR, kR, bR⟩ := CR.ex
  obtain ⟨gN, dN, GN, mN, kN, bN⟩ := CN.ex
  obtain ⟨gA, dA, GA, mA, kA, bA⟩ := CA.ex
  obtain ⟨gD, dD, GD, mD, kD, bD⟩ := CD.ex
  have r1 := hr.mono (show 1 ≤ 5 by decide)
  have r2 := hr.mono (show 2 ≤ 5 by decide)
  refine ⟨_, @pss_p _ _ _ _ _ (ps_set (i := 1) scLL.nd (by rfl) (by exact Or.inl rfl) (pe_call GK r1 (by rfl) mK kK bK .nil pass0 (pa_n (pv 0) pa_nil)))
    (@pss_p _ _ _ _ _ (ps_if (pt_cmpR op_in_seq (pv 1) (QE.h (qx_tup (qa_str (qa_str (qa_str (qa_str (qa_str qa_nil))))))) rfl) (@pss_o _ _ _ (ps_ret (pe_call GB hr (by rfl) mB kB bB .nil pass0 (pa_n (pv 0) pa_nil)))) pss_nil)
    (@pss_p _ _ _ _ _ (ps_if (PW.pt (pw_or (pt_cmpR op_notIn_seq (pv 1) (QE.h (qx_tup (qa_str (qa_str (qa_str qa_nil))))) rfl) (pw_or (pt_cmpR op_ne (pe_callB call_len_seq (by rfl) T.len PySem.boot_len (pa_n (pv 0) pa_nil)) pe_int (nomark _)) (pw_or1 (pt_not (pt_val (pe_call GF r1 (by rfl) mF kF bF .nil pass0 (pa_s (pe_ix ix_tup (pv 0) pe_int px_i) (pa_i pe_int pa_nil))))))))) (@pss_o _ _ _ (ps_ret pe_bl)) pss_nil)
    (@pss_p _ _ _ _ _ (ps_if (pt_cmpR op_eq (pv 1) pe_str (nomark _)) (@pss_o _ _ _ (ps_ret (pe_and (pe_call GN r1 (by rfl) mN kN bN .nil pass0 (pa_s (pe_ix ix_tup (pv 0) pe_int px_i) pa_nil)) (pe_and (pe_call GR r2 (by rfl) mR kR bR .nil pass0 (pa_s (pe_ix ix_tup (pv 0) pe_int px_i) pa_nil)) (pe_one (pe_call GD r2 (by rfl) mD kD bD .nil pass0 (pa_s (pe_ix ix_tup (pv 0) pe_int px_i) pa_nil))))))) pss_nil)
    (@pss_p _ _ _ _ _ (ps_if (PW.pt (pw_or (pt_not (pt_val (pe_call GR r2 (by rfl) mR kR bR .nil pass0 (pa_s (pe_ix ix_tup (pv 0) pe_int px_i) pa_nil)))) (pw_or1 (pt_not (pt_val (pe_call GN r1 (by rfl) mN kN bN .nil pass0 (pa_s (pe_ix ix_tup (pv 0) pe_int px_i) pa_nil))))))) (@pss_o _ _ _ (ps_ret pe_bl)) pss_nil)
    (@pss_p _ _ _ _ _ (ps_if (pt_cmpR op_eq (pv 1) pe_str (nomark _)) (@pss_o _ _ _ (ps_ret (pe_call GA r1 (by rfl) mA kA bA .nil pass0 (pa_s (pe_ix ix_tup (pv 0) pe_int px_i) pa_nil)))) pss_nil)
    (@pss_o _ _ _ (ps_ret (pe_or (pe_cmpR op_isN (pe_ix ix_tup (pv 0) pe_int px_i) pe_non (nomark _)) (pe_one (pe_call GR r2 (by rfl) mR kR bR .nil pass0 (pa_s (pe_ix ix_tup (pv 0) pe_int px_i) pa_nil))))))))))), ?_⟩
  refine ⟨_, rfl, B, v, d, hB, rfl, I, _, rfl, tiny (by show 5 ≤ 1000; decide), fun p hp => ⟨p, _, rfl, .inr (SqT.of upd_same), rfl, rfl, _, rfl, ?_⟩⟩
  have s1 := same_upd (o := HO.tup ((["ask", "voice", "hand", "pack", "held"] : List Str).map V.str)) hp
  show if inV (V.str (wordD d)) ((["ask", "voice", "hand", "pack", "held"] : List Str).map V.str) = true then _ else _
  rw [in_strs]
  by_cases h5 : wordD d ∈ (["ask", "voice", "hand", "pack", "held"] : List Str)
  · rw [decide_eq_true h5]
    have f5 : fiveW (wordD d) := by
      simp only [List.mem_cons, List.not_mem_nil, or_false] at h5
      exact h5
    obtain ⟨r, e⟩ := word_inv (d := d) rfl (fun z => by rw [z] at f5; rcases f5 with z | z | z | z | z <;> exact absurd z (by decide +kernel))
    generalize wordD d = x at f5 e
    subst e
    exact iteT ⟨_, rfl, B, v, x, r, hB, rfl, f5, I.same s1, fun H' s' => k H' (s1.trans s')⟩
  · rw [decide_eq_false h5]
    refine iteF ⟨_, rfl, tiny (by show 3 ≤ 1000; decide), fun p2 hp2 => ⟨p2, _, rfl, .inr (SqT.of upd_same), rfl, rfl, _, rfl, ?_⟩⟩
    have s2 := s1.trans (same_upd (o := HO.tup ((["wish", "told", "away"] : List Str).map V.str)) hp2)
    show if (!inV (V.str (wordD d)) ((["wish", "told", "away"] : List Str).map V.str)) = true then _ else _
    rw [in_strs]
    have n5 : ¬ wordD d = "ask" ∧ ¬ wordD d = "voice" ∧ ¬ wordD d = "hand" ∧ ¬ wordD d = "pack" ∧ ¬ wordD d = "held" := by
      simp only [List.mem_cons, List.not_mem_nil, or_false, not_or] at h5
      exact h5
    by_cases h3 : wordD d ∈ (["wish", "told", "away"] : List Str)
    · rw [decide_eq_true h3]
      have f3 : wordD d = "wish" ∨ wordD d = "told" ∨ wordD d = "away" := by
        simp only [List.mem_cons, List.not_mem_nil, or_false] at h3
        exact h3
      obtain ⟨r, e⟩ := word_inv (d := d) rfl (fun z => by rw [z] at f3; rcases f3 with z | z | z <;> exact absurd z (by decide +kernel))
      generalize wordD d = x at f3 e
      subst e
      have kr : ∀ H', Same H H' → Q (.bl (restL x r)) H' := k
      have I2 := I.same s2
      cases I2 with
      | @tup q xs _ ea hl rr =>
      have hlen := rr.length
      refine iteF ⟨_, rfl, q, xs, rfl, .inr (SqT.of ea), rfl, _, rfl, ?_⟩
      by_cases h4 : r.length = 4
      · rw [show (!decide (V.int (xs.length : Int) = V.int 5)) = false by rw [hlen, List.length_cons, h4]; rfl]
        match r, h4, rr, kr with
        | [a, b, c, e], _, rr, kr =>
        obtain ⟨v1, e1, I1⟩ := rr.at (i := 1) rfl
        obtain ⟨v2, e2, I2⟩ := rr.at (i := 2) rfl
        obtain ⟨v3, e3, I3⟩ := rr.at (i := 3) rfl
        obtain ⟨v4, e4, I4⟩ := rr.at (i := 4) rfl
        have yes : ∀ {s t : Str}, s = t → decide (V.str s = V.str t) = true := fun h => by rw [h]; simp
        have nos : ∀ {s t : Str}, s ≠ t → decide (V.str s = V.str t) = false := fun h => decide_eq_false fun z => h (V.str.inj z)
        refine iteF ⟨_, rfl, q, xs, 3, v3, rfl, rfl, SqT.of ea, e3, B, v3, c, 1, hB, rfl, I3, fun H3 s3 => ⟨_, rfl, ?_⟩⟩
        have s03 := s2.trans s3
        cases hg : geD 1 c with
        | false =>
          have e0 : restL x [a, b, c, e] = false := by
            rcases f3 with rfl | rfl | rfl
            · rw [rest_wish]; show (geD 1 c && _) = false; rw [hg]; rfl
            · rw [rest_told]; show (geD 1 c && _) = false; rw [hg]; rfl
            · rw [rest_away]; show (geD 1 c && _) = false; rw [hg]; rfl
          have k3 := kr H3 s03
          rw [e0] at k3
          exact iteT k3
        | true =>
          refine iteF ⟨_, rfl, rfl, _, rfl, ?_⟩
          by_cases hw : x = "wish"
          · subst hw
            rw [yes rfl]
            have kw : ∀ H', Same H H' → Q (.bl (nameL a && (keeper b && deedL e))) H' := fun H' s' => by
              have := kr H' s'
              rw [rest_wish] at this
              have t2 : Q (.bl (geD 1 c && (nameL a && (keeper b && deedL e)))) H' := this
              rw [hg] at t2
              exact t2
            refine iteT ⟨_, rfl, q, xs, 1, v1, rfl, rfl, SqT.of (s3 _ _ ea), e1, B, v1, a, hB, rfl, I1.same s3, fun H4 s4 => ⟨_, rfl, ?_⟩⟩
            cases hn : nameL a with
            | false => rw [hn] at kw; exact iteF (kw _ (s03.trans s4))
            | true =>
              rw [hn] at kw
              refine iteT ⟨_, rfl, q, xs, 2, v2, rfl, rfl, SqT.of (s4 _ _ (s3 _ _ ea)), e2, B, v2, b, hB, rfl, (I2.same s3).same s4, fun H5 s5 => ⟨_, rfl, ?_⟩⟩
              cases hk : keeper b with
              | false => rw [hk] at kw; exact iteF (kw _ ((s03.trans s4).trans s5))
              | true =>
                rw [hk] at kw
                exact iteT ⟨_, rfl, q, xs, 4, v4, rfl, rfl, SqT.of (s5 _ _ (s4 _ _ (s3 _ _ ea))), e4, B, v4, e, hB, rfl, ((I4.same s3).same s4).same s5, fun H6 s6 => kw _ (((s03.trans s4).trans s5).trans s6)⟩
          · rw [nos hw]
            have kt : ∀ H', Same H H' → Q (.bl ((keeper a && nameL b) && (if x = "told" then whole e else headP e))) H' := fun H' s' => by
              have := kr H' s'
              rcases f3 with rfl | rfl | rfl
              · exact absurd rfl hw
              · rw [rest_told] at this
                have t2 : Q (.bl (geD 1 c && ((keeper a && nameL b) && whole e))) H' := this
                rw [hg] at t2
                rw [if_pos rfl]
                exact t2
              · rw [rest_away] at this
                have t2 : Q (.bl (geD 1 c && ((keeper a && nameL b) && headP e))) H' := this
                rw [hg] at t2
                rw [if_neg (by decide +kernel)]
                exact t2
            refine iteF ⟨_, rfl, q, xs, 1, v1, rfl, rfl, SqT.of (s3 _ _ ea), e1, B, v1, a, hB, rfl, I1.same s3, fun H4 s4 => ⟨_, rfl, ?_⟩⟩
            cases hk : keeper a with
            | false => rw [hk] at kt; exact iteT (iteT (kt _ (s03.trans s4)))
            | true =>
              rw [hk] at kt
              refine iteF ⟨_, rfl, q, xs, 2, v2, rfl, rfl, SqT.of (s4 _ _ (s3 _ _ ea)), e2, B, v2, b, hB, rfl, (I2.same s3).same s4, fun H5 s5 => ⟨_, rfl, ?_⟩⟩
              have s05 := (s03.trans s4).trans s5
              have ea5 := s5 _ _ (s4 _ _ (s3 _ _ ea))
              have I5 := ((I4.same s3).same s4).same s5
              cases hn : nameL b with
              | false => rw [hn] at kt; exact iteT (kt _ s05)
              | true =>
                rw [hn] at kt
                refine iteF ⟨_, rfl, rfl, _, rfl, ?_⟩
                by_cases ht : x = "told"
                · subst ht
                  rw [yes rfl]
                  refine iteT ⟨_, rfl, q, xs, 4, v4, rfl, rfl, SqT.of ea5, e4, B, v4, e, hB, rfl, I5, fun H6 s6 => ?_⟩
                  have := kt _ (s05.trans s6)
                  rw [if_pos rfl] at this
                  exact this
                · rw [nos ht]
                  rw [if_neg ht] at kt
                  refine iteF ⟨_, rfl, q, xs, 4, v4, rfl, rfl, SqT.of ea5, e4, rfl, _, rfl, ?_⟩
                  by_cases hd : e = .non
                  · subst hd
                    cases I5
                    exact iteT (kt _ s05)
                  · have go : decide (v4 = V.non) = false ∧ headP e = keeper e := by
                      cases I5 with
                      | non => exact absurd rfl hd
                      | _ => exact ⟨rfl, rfl⟩
                    rw [go.1]
                    refine iteF ⟨_, rfl, q, xs, 4, v4, rfl, rfl, SqT.of ea5, e4, B, v4, e, hB, rfl, I5, fun H6 s6 => ?_⟩
                    have := kt _ (s05.trans s6)
                    rw [go.2] at this
                    exact this
      · rw [show (!decide (V.int (xs.length : Int) = V.int 5)) = true by rw [hlen, List.length_cons, decide_eq_false (fun z => h4 (by have := V.int.inj z; omega))]; rfl]
        have e0 : restL x r = false := by
          rcases f3 with rfl | rfl | rfl
          · rw [rest_wish]
            match r, h4 with
            | [], _ => rfl
            | [_], _ => rfl
            | [_, _], _ => rfl
            | [_, _, _], _ => rfl
            | [_, _, _, _], h => exact absurd rfl h
            | _ :: _ :: _ :: _ :: _ :: _, _ => rfl
          · rw [rest_told]
            match r, h4 with
            | [], _ => rfl
            | [_], _ => rfl
            | [_, _], _ => rfl
            | [_, _, _], _ => rfl
            | [_, _, _, _], h => exact absurd rfl h
            | _ :: _ :: _ :: _ :: _ :: _, _ => rfl
          · rw [rest_away]
            match r, h4 with
            | [], _ => rfl
            | [_], _ => rfl
            | [_, _], _ => rfl
            | [_, _, _], _ => rfl
            | [_, _, _, _], h => exact absurd rfl h
            | _ :: _ :: _ :: _ :: _ :: _, _ => rfl
        have k3 := kr _ s2
        rw [e0] at k3
        exact iteT (iteT k3)
    · rw [decide_eq_false h3]
      have n3 : ¬ wordD d = "wish" ∧ ¬ wordD d = "told" ∧ ¬ wordD d = "away" := by
        simp only [List.mem_cons, List.not_mem_nil, or_false, not_or] at h3
        exact h3
      have e0 : letterL d = false := by
        unfold letterL
        split
        · rename_i x r
          exact rest_no r n5.1 n5.2.1 n5.2.2.1 n5.2.2.2.1 n5.2.2.2.2 n3.1 n3.2.1 n3.2.2
        · rfl
      have k3 := k _ s2
      rw [e0] at k3
      exact iteT (iteT k3)
end
end K1
set_option Elab.async false
set_option linter.all false
set_option maxRecDepth 100000
set_option maxHeartbeats 4000000
namespace K1
open PySem L2 Kp
section
variable {P : Program} {w : World} {K : PySem.W.Frag} {mg : Str → Option Value} {base : Heap}
theorem PackT.mono {H H' : Hp} {v : V} (h : PackT H v) (s : Same H H') : PackT H' v := let ⟨p, i, j, sv, st, e, hp, ts, tt⟩ := h; ⟨p, i, j, sv, st, e, s _ _ hp, ts.mono (Nat.le_refl _) s, tt.mono s⟩
def Snear : St → Hp → Prop := fun σ H => (∃ a ys, σ[3]? = some (some (.ref a)) ∧ H a = some (.tup ys) ∧ ys.length = 6 ∧ ThL 16 H ys) ∧ (∃ v, σ[4]? = some (some v) ∧ PackT H v) ∧ ∃ n, σ[2]? = some (some (.int n))
theorem Mnear : Mon Snear := ⟨fun ⟨⟨a, ys, e, h, l, t⟩, ⟨v, e2, pk⟩, n⟩ s => ⟨⟨a, ys, e, s _ _ h, l, t.mono (Nat.le_refl _) s⟩, ⟨v, e2, pk.mono s⟩, n⟩⟩
def spNear4 (K : PySem.W.Frag) : Sp := fun vs H Q _ => ∃ (v : V) (a : Addr) (ns : List Int) (n : Int), vs = [v, .ref a, .int n] ∧ SqL K H a (ns.map V.int) ∧ 0 ≤ n ∧ ∀ v' H', Th 200 H' v' → Same H H' → Q v' H'
theorem scNe : FnScope ["_law_thing", "_law_script", "_law_number", "_law_entries", "_law_pack_here", "_law_things"] ["_law_thing", "_law_script", "_law_number"] (defScope s__law_near_by) := ⟨rfl, rfl, rfl, by decide +kernel, rfl, by decide +kernel, by decide +kernel⟩
theorem cut5 {H : Hp} {a : Addr} {ys : List V} (l : ys.length = 6) : ¬ (HT.sIx ys.length 0 none = 0 ∧ HT.sIx ys.length ys.length (some 5) = ys.length) := fun z => by
  have z2 : HT.sIx ys.length ys.length (some ((5 : Nat) : Int)) = ys.length := z.2
  rw [HT.sIx_nat] at z2
  omega
theorem ok_near {f : Addr} {fd : FuncData} (F : Fun K "_law_near_by" "_law_near_by" s__law_near_by f fd) (T : Txt mg) (CP : Cal P w K mg base "_law_pack_by" 5 ["_law_script", "_law_at"] (spBy K 7000 PackT)) (CE : Cal P w K mg base "_law_entry_by" 5 ["_law_script", "_law_at"] (spBy K 880 (PairT 16))) : FnOk P w K mg base CX0 6 f fd ["_law_thing", "_law_script", "_law_number"] (spNear4 K) := by
  refine F.ok scNe (fun vs H Q E ⟨_, _, _, _, e, _⟩ => by subst e; rfl) (fun cdv A outer s H vs Q E hr h => ?_)
  obtain ⟨v, a, ns, n, rfl, hS, hn, k⟩ := h
  obtain ⟨gP, dP, GP, mP, kP, bP⟩ := CP.ex
  obtain ⟨gE, dE, GE, mE, kE, bE⟩ := CE.ex
  refine ⟨_, @pss_p _ _ _ _ _ (ps_set (i := 3) scNe.nd (by rfl) (by exact Or.inl rfl) (pe_callTy call_tuple_of (by rfl) T.tuple boot_tuple (pa_cons (pe_comp (NB := ["_law_k", "_law_script"]) (n := 1) (fr := [1]) (compOk1 (outer := defScope s__law_near_by) (x := "_law_script") (by rfl) (by decide +kernel) (by rfl) (by rfl) (by rfl) (by rfl)) (by rfl)
        (pi_range1 (by rfl) T.range (pa_i pe_int pa_nil)) (fun _ _ _ _ _ => pg_name (i := 0) (show (["_law_k", "_law_script"] : List Str).Nodup by decide +kernel) (by rfl) (by exact Or.inl rfl)) (fun _ _ _ _ _ => pifs_nil)
        (fun _ _ _ _ _ => pe_call GE hr (by rfl) mE kE bE .nil pass0 (pa_n (pv 1) (pa_b (pe_op op_add pe_int (pe_op op_mul pe_int (pe_op op_mod (pv 0) pe_int))) pa_nil)))) pa_nil)))
    (@pss_p _ _ _ _ _ (ps_set (i := 4) scNe.nd (by rfl) (by exact Or.inl rfl) (pe_call GP hr (by rfl) mP kP bP .nil pass0 (pa_n (pv 1) (pa_i pe_int pa_nil))))
    (@pss_p _ _ _ _ _ (ps_set (i := 5) scNe.nd (by rfl) (by exact Or.inl rfl) (sx_lst (S := Snear) (sa_tup Mnear (sa_str (by decide +kernel) (sa_int (sa_int (sa_int (sa_int (sa_int (sa_n Mnear (se_of (pv 3) ?z1) (sa_int (sa_nil))))))))) (by decide) (sa_tup Mnear (sa_str (by decide +kernel) (sa_int (sa_int (sa_int (sa_int (sa_int (sa_s Mnear (se_of (pe_slice sl_tup (pv 3) po_none (po_some pe_int)) ?z2) (sa_int (sa_nil))))))))) (by decide) (sa_nil))) (by decide)) sw_l)
    (@pss_p _ _ _ _ _ (ps_grow (S := Snear) (i := 5) scNe.nd (by rfl) (by exact Or.inl rfl) (pv 5) (sa_tup Mnear (sa_str (by decide +kernel) (sa_int (sa_int (sa_int (sa_int (sa_int (sa_tup Mnear (sa_nil) (by decide) (sa_int (sa_nil))))))))) (by decide) (sa_tup Mnear (sa_str (by decide +kernel) (sa_int (sa_int (sa_int (sa_int (sa_int (sa_tup Mnear (sa_nil) (by decide) (sa_neg (sa_nil))))))))) (by decide) (sa_tup Mnear (sa_str (by decide +kernel) (sa_int (sa_int (sa_int (sa_n Mnear (se_of (pv 4) ?z3) (sa_nil)))))) (by decide) (sa_nil)))) (by decide))
    (@pss_p _ _ _ _ _ (ps_grow (S := Snear) (i := 5) scNe.nd (by rfl) (by exact Or.inl rfl) (pv 5) (sa_tup Mnear (sa_str (by decide +kernel) (sa_int (sa_int (sa_int (sa_b Mnear (se_of (pe_op op_catU (pe_tup (pa_i pe_int (pa_i pe_int pa_nil))) (pe_slice sl_tup (pv 4) (po_some pe_int) po_none)) ?z4) (sa_nil)))))) (by decide) (sa_tup Mnear (sa_str (by decide +kernel) (sa_int (sa_int (sa_int (sa_int (sa_int (sa_nil))))))) (by decide) (sa_tup Mnear (sa_str (by decide +kernel) (sa_int (sa_int (sa_int (sa_int (sa_int (sa_nil))))))) (by decide) (sa_nil)))) (by decide))
    (@pss_p _ _ _ _ _ (ps_grow (S := Snear) (i := 5) scNe.nd (by rfl) (by exact Or.inl rfl) (pv 5) (sa_tup Mnear (sa_str (by decide +kernel) (sa_int (sa_int (sa_int (sa_int (sa_nil)))))) (by decide) (sa_tup Mnear (sa_str (by decide +kernel) (sa_int (sa_int (sa_int (sa_bl (sa_nil)))))) (by decide) (sa_tup Mnear (sa_str (by decide +kernel) (sa_int (sa_int (sa_int (sa_int (sa_int (sa_nil))))))) (by decide) (sa_nil)))) (by decide))
    (@pss_p _ _ _ _ _ (ps_grow (S := Snear) (i := 5) scNe.nd (by rfl) (by exact Or.inl rfl) (pv 5) (sa_tup Mnear (sa_str (by decide +kernel) (sa_int (sa_int (sa_int (sa_bl (sa_neg (sa_nil))))))) (by decide) (sa_nil)) (by decide))
    (@pss_p _ _ _ _ _ (ps_grow (S := Snear) (i := 5) scNe.nd (by rfl) (by exact Or.inl rfl) (pv 5) (sa_tup Mnear (sa_str (by decide +kernel) (sa_int (sa_str (by decide +kernel) (sa_int (sa_int (sa_nil)))))) (by decide) (sa_tup Mnear (sa_str (by decide +kernel) (sa_int (sa_str (by decide +kernel) (sa_int (sa_bl (sa_nil)))))) (by decide) (sa_tup Mnear (sa_str (by decide +kernel) (sa_int (sa_str (by decide +kernel) (sa_int (sa_non (sa_nil)))))) (by decide) (sa_nil)))) (by decide))
    (@pss_p _ _ _ _ _ (ps_grow (S := Snear) (i := 5) scNe.nd (by rfl) (by exact Or.inl rfl) (pv 5) (sa_tup Mnear (sa_str (by decide +kernel) (sa_int (sa_str (by decide +kernel) (sa_int (sa_non (sa_nil)))))) (by decide) (sa_tup Mnear (sa_str (by decide +kernel) (sa_str (by decide +kernel) (sa_int (sa_int (sa_int (sa_nil)))))) (by decide) (sa_tup Mnear (sa_str (by decide +kernel) (sa_str (by decide +kernel) (sa_int (sa_int (sa_tup Mnear (sa_str (by decide +kernel) (sa_str (by decide +kernel) (sa_nil))) (by decide) (sa_nil)))))) (by decide) (sa_nil)))) (by decide))
    (@pss_p _ _ _ _ _ (ps_grow (S := Snear) (i := 5) scNe.nd (by rfl) (by exact Or.inl rfl) (pv 5) (sa_tup Mnear (sa_str (by decide +kernel) (sa_int (sa_int (sa_int (sa_int (sa_int (sa_n Mnear (se_of (pv 3) ?z5) (sa_int (sa_nil))))))))) (by decide) (sa_tup Mnear (sa_str (by decide +kernel) (sa_int (sa_int (sa_int (sa_int (sa_int (sa_k Mnear (se_of (pe_callTy call_list_of (by rfl) T.list boot_list (pa_s (pe_slice sl_tup (pv 3) po_none (po_some pe_int)) pa_nil)) ?z6) (sa_int (sa_nil))))))))) (by decide) (sa_nil))) (by decide))
    (@pss_p _ _ _ _ _ (ps_set (i := 5) scNe.nd (by rfl) (by exact Or.inl rfl) (pe_op op_cat (pv 5) (pe_op op_rep (sx_lst (S := Snear) (sa_tup Mnear (sa_str (by decide +kernel) (sa_int (sa_int (sa_n Mnear (se_of (pv 2) ?z7) (sa_b Mnear (se_of (pe_op op_catU (pe_tup (pa_i pe_int (pa_i pe_int pa_nil))) (pe_slice sl_tup (pv 4) (po_some pe_int) po_none)) ?z8) (sa_nil)))))) (by decide) (sa_nil)) (by decide)) pe_int)) sw_b)
    (@pss_o _ _ _ (ps_ret (pe_ix ix_list (pe_op op_cat (pv 5) (sx_lst (S := Snear) (sa_tup Mnear (sa_str (by decide +kernel) (sa_str (by decide +kernel) (sa_int (sa_int (sa_tup Mnear (sa_str (by decide +kernel) (sa_str (by decide +kernel) (sa_nil))) (by decide) (sa_nil)))))) (by decide) (sa_tup Mnear (sa_str (by decide +kernel) (sa_int (sa_str (by decide +kernel) (sa_int (sa_tup Mnear (sa_str (by decide +kernel) (sa_str (by decide +kernel) (sa_nil))) (by decide) (sa_nil)))))) (by decide) (sa_nil))) (by decide))) (pe_op op_mod (pv 2) pe_int) px_b))))))))))))), ?_⟩
  case z1 =>
    rintro σ H Q ⟨⟨a, ys, e, h, l, t⟩, _⟩ q
    exact ⟨_, e, q _ _ (.tup h (by omega) (t.mono (by decide) (Same.refl _))) (Same.refl _)⟩
  case z2 =>
    rintro σ H Q ⟨⟨a, ys, e, h, l, t⟩, _⟩ q
    refine ⟨_, e, 5, rfl, a, ys, rfl, SqT.of h, cut5 (H := H) (a := a) l, fun p hp => ?_⟩
    exact q _ _ (.tup upd_same (by have := cutV_length ys none (some 5); omega) ((th_cut none (some 5) t).mono (by decide) (same_upd hp))) (same_upd hp)
  case z3 =>
    rintro σ H Q ⟨_, ⟨v, e2, pk⟩, _⟩ q
    exact ⟨_, e2, q _ _ pk.th (Same.refl _)⟩
  case z4 =>
    rintro σ H Q ⟨_, ⟨v, e2, ⟨p, i, j, sv, st, rfl, hp, ts, tt⟩⟩, _⟩ q
    refine ⟨tiny (by show 2 ≤ 1000; decide), fun p1 h1 => ⟨_, e2, 2, rfl, p, _, rfl, SqT.of (same_upd h1 _ _ hp), fun z => ?_, fun p2 h2 => ?_⟩⟩
    · have z1 : HT.sIx 4 0 (some ((2 : Nat) : Int)) = 0 := z.1
      rw [HT.sIx_nat] at z1
      omega
    have s1 := same_upd (o := HO.tup [V.int 0, V.int 0]) h1
    have s2 := same_upd (o := HO.tup (cutV [V.int i, V.int j, sv, st] (some 2) none)) h2
    have lc := cutV_length [V.int i, V.int j, sv, st] (some 2) none
    have lc' : (cutV [V.int i, V.int j, sv, st] (some 2) none).length ≤ 4 := lc
    refine ⟨p1, p2, _, _, rfl, rfl, s2 _ _ upd_same, upd_same, tiny (by show 2 + (cutV [V.int i, V.int j, sv, st] (some 2) none).length ≤ 1000; omega), fun p3 H3 e3 s3 => ?_⟩
    refine q _ _ (.tup e3 (by rw [List.length_append]; show 2 + (cutV [V.int i, V.int j, sv, st] (some 2) none).length ≤ 200; omega) ?_) ((s1.trans s2).trans s3)
    exact ThL.append (.cons (.int _) (.cons (.int _) .nil)) (th_cut _ _ (.cons (.int _) (.cons (.int _) (.cons (ts.mono (by decide) ((s1.trans s2).trans s3)) (.cons (tt.th.mono (Nat.le_refl _) ((s1.trans s2).trans s3)) .nil)))))
  case z5 =>
    rintro σ H Q ⟨⟨a, ys, e, h, l, t⟩, _⟩ q
    exact ⟨_, e, q _ _ (.tup h (by omega) (t.mono (by decide) (Same.refl _))) (Same.refl _)⟩
  case z6 =>
    rintro σ H Q ⟨⟨a, ys, e, h, l, t⟩, _⟩ q
    refine ⟨_, e, 5, rfl, a, ys, rfl, SqT.of h, cut5 (H := H) (a := a) l, fun p hp => ⟨p, _, rfl, .inr (SqT.of upd_same), fun p2 hp2 => ?_⟩⟩
    have s1 := same_upd (o := HO.tup (cutV ys none (some 5))) hp
    have s2 := same_upd (o := HO.lst (cutV ys none (some 5))) hp2
    exact q _ _ (.lst upd_same (by have := cutV_length ys none (some 5); omega) ((th_cut none (some 5) t).mono (by decide) (s1.trans s2))) (s1.trans s2)
  case z7 =>
    rintro σ H Q ⟨_, _, ⟨n, e3⟩⟩ q
    exact ⟨_, e3, q _ _ (.int n) (Same.refl _)⟩
  case z8 =>
    rintro σ H Q ⟨_, ⟨v, e2, ⟨p, i, j, sv, st, rfl, hp, ts, tt⟩⟩, _⟩ q
    refine ⟨tiny (by show 2 ≤ 1000; decide), fun p1 h1 => ⟨_, e2, 2, rfl, p, _, rfl, SqT.of (same_upd h1 _ _ hp), fun z => ?_, fun p2 h2 => ?_⟩⟩
    · have z1 : HT.sIx 4 0 (some ((2 : Nat) : Int)) = 0 := z.1
      rw [HT.sIx_nat] at z1
      omega
    have s1 := same_upd (o := HO.tup [V.int 0, V.int 0]) h1
    have s2 := same_upd (o := HO.tup (cutV [V.int i, V.int j, sv, st] (some 2) none)) h2
    have lc := cutV_length [V.int i, V.int j, sv, st] (some 2) none
    have lc' : (cutV [V.int i, V.int j, sv, st] (some 2) none).length ≤ 4 := lc
    refine ⟨p1, p2, _, _, rfl, rfl, s2 _ _ upd_same, upd_same, tiny (by show 2 + (cutV [V.int i, V.int j, sv, st] (some 2) none).length ≤ 1000; omega), fun p3 H3 e3 s3 => ?_⟩
    refine q _ _ (.tup e3 (by rw [List.length_append]; show 2 + (cutV [V.int i, V.int j, sv, st] (some 2) none).length ≤ 200; omega) ?_) ((s1.trans s2).trans s3)
    exact ThL.append (.cons (.int _) (.cons (.int _) .nil)) (th_cut _ _ (.cons (.int _) (.cons (.int _) (.cons (ts.mono (by decide) ((s1.trans s2).trans s3)) (.cons (tt.th.mono (Nat.le_refl _) ((s1.trans s2).trans s3)) .nil)))))
  refine ⟨6, rfl, by decide, by decide, comp_exN (n := 6) (k := 1) (PairT 16) PairT.mono (by rw [sizeLine_eq]; decide) (fun i H2 hi _ => hi) (fun H2 _ => Nat.le_refl _) ?_ ?_⟩
  · intro i H4 t v H5 S hi s4 ht y hR
    obtain ⟨rfl, rfl⟩ := y
    obtain ⟨t0, rfl⟩ := one_slot ht
    obtain ⟨j0, j1⟩ := emod_in (0 + (i : Int)) (m := 5) (by decide)
    refine ⟨_, rfl, _, rfl, _, _, rfl, rfl, (by show (0 : Int) < 5; decide), _, _, rfl, rfl, .inl ⟨by decide, by decide⟩, _, _, rfl, rfl, a, ns, _, rfl, SqL.same hS s4, ?_, ?_, fun v6 H6 t6 s6 => ?_⟩
    · omega
    · omega
    · exact hR [some (.int (0 + (i : Int)))] H6 _ rfl s6 t6
  intro D1 H4 ys s4 hD hd hl hR
  refine ⟨D1, ys, rfl, .inl ⟨SqL.of hd, fun p5 h5 => ?_⟩⟩
  have s5 := same_upd (o := HO.tup ys) h5
  have tys : ThL 16 (upd H4 p5 (.tup ys)) ys := ((ThNL.of (B := 16) fun v hv => (hR v hv).th (by decide)).th).mono (by decide) s5
  refine ⟨_, rfl, a, ns, 6, rfl, SqL.same hS (s4.trans s5), by decide, by decide, fun v6 H6 pk6 s6 => ?_⟩
  have ey : H6 p5 = some (.tup ys) := s6 _ _ upd_same
  have tys6 : ThL 16 H6 ys := tys.mono (Nat.le_refl _) s6
  have s06 : Same H H6 := (s4.trans s5).trans s6
  have SN : ∀ (l : V) (H' : Hp), Same H6 H' → Snear [some v, some (.ref a), some (.int n), some (.ref p5), some v6, some l] H' := fun l H' s' => ⟨⟨p5, ys, rfl, s' _ _ ey, hl, tys6.mono (Nat.le_refl _) s'⟩, ⟨v6, rfl, pk6.mono s'⟩, ⟨n, rfl⟩⟩
  refine ⟨⟨⟨p5, ys, rfl, ey, hl, tys6⟩, ⟨v6, rfl, pk6⟩, ⟨n, rfl⟩⟩, fun l0 vs0 H7 e7 k7 t7 s7 => ?_⟩
  refine ⟨l0, vs0, rfl, e7, by omega, t7, SN _ _ s7, fun l_0 vs_0 H_0 e_0 k_0 t_0 s_0 => ?_⟩
  have sc_0 := s7.trans s_0
  refine ⟨l_0, vs_0, rfl, e_0, by omega, t_0, SN _ _ sc_0, fun l_1 vs_1 H_1 e_1 k_1 t_1 s_1 => ?_⟩
  have sc_1 := sc_0.trans s_1
  refine ⟨l_1, vs_1, rfl, e_1, by omega, t_1, SN _ _ sc_1, fun l_2 vs_2 H_2 e_2 k_2 t_2 s_2 => ?_⟩
  have sc_2 := sc_1.trans s_2
  refine ⟨l_2, vs_2, rfl, e_2, by omega, t_2, SN _ _ sc_2, fun l_3 vs_3 H_3 e_3 k_3 t_3 s_3 => ?_⟩
  have sc_3 := sc_2.trans s_3
  refine ⟨l_3, vs_3, rfl, e_3, by omega, t_3, SN _ _ sc_3, fun l_4 vs_4 H_4 e_4 k_4 t_4 s_4 => ?_⟩
  have sc_4 := sc_3.trans s_4
  refine ⟨l_4, vs_4, rfl, e_4, by omega, t_4, SN _ _ sc_4, fun l_5 vs_5 H_5 e_5 k_5 t_5 s_5 => ?_⟩
  have sc_5 := sc_4.trans s_5
  refine ⟨l_5, vs_5, rfl, e_5, by omega, t_5, SN _ _ sc_5, fun l_6 vs_6 H_6 e_6 k_6 t_6 s_6 => ?_⟩
  have sc_6 := sc_5.trans s_6
  refine ⟨_, rfl, SN _ _ sc_6, fun q1 ws1 H8 e8 k8 t8 s8 => ⟨q1, 3, ws1, rfl, rfl, e8, by decide, by decide, tiny (by rw [k8]; decide), fun q2 g2 => ?_⟩⟩
  have s9 := same_upd (o := HO.lst (List.replicate (3 : Int).toNat ws1).flatten) g2
  have lr : (List.replicate (3 : Int).toNat ws1).flatten.length = 3 := by rw [len_rep, k8]; rfl
  have tr : ThL 200 (upd H8 q2 (.lst (List.replicate (3 : Int).toNat ws1).flatten)) (List.replicate (3 : Int).toNat ws1).flatten := by
    have t9 := t8.mono (Nat.le_refl _) s9
    show ThL 200 _ (ws1 ++ (ws1 ++ (ws1 ++ [])))
    exact t9.append (t9.append (t9.append .nil))
  generalize (List.replicate (3 : Int).toNat ws1).flatten = rs at s9 lr tr ⊢
  refine ⟨l_6, q2, vs_6, rs, rfl, rfl, s9 _ _ (s8 _ _ e_6), upd_same, tiny (by omega), fun q3 g3 => ?_⟩
  have s10 := same_upd (o := HO.lst (vs_6 ++ rs)) g3
  have tb : ThL 200 (upd (upd H8 q2 (.lst rs)) q3 (.lst (vs_6 ++ rs))) (vs_6 ++ rs) := (t_6.mono (Nat.le_refl _) (s8.trans (s9.trans s10))).append (tr.mono (Nat.le_refl _) s10)
  have sB := sc_6.trans (s8.trans (s9.trans s10))
  refine ⟨_, rfl, SN _ _ sB, fun q4 ws4 H11 e11 k11 t11 s11 => ⟨q3, q4, _, ws4, rfl, rfl, s11 _ _ upd_same, e11, tiny (by rw [List.length_append]; omega), fun q5 g5 => ?_⟩⟩
  have s12 := same_upd (o := HO.lst ((vs_6 ++ rs) ++ ws4)) g5
  have tf : ThL 200 (upd H11 q5 (.lst ((vs_6 ++ rs) ++ ws4))) ((vs_6 ++ rs) ++ ws4) := (tb.mono (Nat.le_refl _) (s11.trans s12)).append (t11.mono (Nat.le_refl _) s12)
  obtain ⟨f0, f1⟩ := emod_in n (m := 25) (by decide)
  obtain ⟨u, eu, tu⟩ := th_at tf f0 (by rw [List.length_append, List.length_append]; omega)
  exact ⟨_, rfl, _, _, rfl, rfl, (by show (0 : Int) < 25; decide), q5, _, _, u, rfl, rfl, SqL.of upd_same, eu, k _ _ tu (s06.trans (sB.trans (s11.trans s12)))⟩
end
end K1
set_option Elab.async false
set_option linter.all false
set_option maxRecDepth 100000
set_option maxHeartbeats 4000000
namespace K1
open PySem L2 Kp
section
variable {P : Program} {w : World} {K : PySem.W.Frag} {mg : Str → Option Value} {base : Heap}
def spLaw (K : PySem.W.Frag) : Sp := fun vs H Q _ => ∃ (a : Addr) (ns : List Int), vs = [.ref a] ∧ SqL K H a (ns.map V.int) ∧ ns.length ≤ 63 ∧ ∀ H', Q (.bl true) H'
theorem scL4 : FnScope ["_law_script", "_law_thing", "_law_way", "_law_words", "_law_found"] ["_law_script"] (defScope sLaw) := ⟨rfl, rfl, rfl, by decide +kernel, rfl, by decide +kernel, by decide +kernel⟩
/-- another thing in the place of the letter, or the letter -/
def tStep4 (K : PySem.W.Frag) : TS := fun D σ H => ∃ a ns v wy, σ = [some (.ref a), some v, some (.int wy), none, none] ∧ SqL K H a (List.map V.int ns) ∧ 0 ≤ wy ∧ LetT H v ∧
  ∀ v' x3 H', Th 700 H' v' → Same H H' → D.nx [some (.ref a), some v', some (.int wy), x3, none] H'
theorem ok_law {f : Addr} {fd : FuncData} {kk : Nat} (F : Fun K "law" "law" sLaw f fd) (T : Txt mg)
    (CM : Cal P w K mg base "_law_mixed" 2 ["_law_script", "_law_k"] (spMixed K)) (CB : Cal P w K mg base "_law_letter_by" 7 ["_law_script", "_law_at"] (spBy K 800 LetT)) (CN : Cal P w K mg base "_law_near_by" 6 ["_law_thing", "_law_script", "_law_number"] (spNear4 K))
    (CP : Cal P w K mg base "_law_spoilt" 8 ["_law_thing", "_law_number", "_law_deep"] (spSpoilt 6)) (hk : 8 ≤ kk)
    (CE1 : Cal P w K mg base "is_letter" kk ["thing"] (spP letterP)) (CE2 : Cal P w K mg base "_law_letter" 6 ["_law_thing"] (spP letterL)) :
    FnOk P w K mg base CX0 (kk + 1) f fd ["_law_script"] (spLaw K) := by
  refine F.ok scL4 (fun vs H Q E ⟨_, _, e, _⟩ => by subst e; rfl) (fun cdv A outer s H vs Q E hr h => ?_)
  obtain ⟨a, ns, rfl, hS, hlen, k⟩ := h
  obtain ⟨gM, dM, GM, mM, kM, bM⟩ := CM.ex
  obtain ⟨gB, dB, GB, mB, kB, bB⟩ := CB.ex
  obtain ⟨gN, dN, GN, mN, kN, bN⟩ := CN.ex
  obtain ⟨gP, dP, GP, mP, kP, bP⟩ := CP.ex
  obtain ⟨gE1, dE1, GE1, mE1, kE1, bE1⟩ := CE1.ex
  obtain ⟨gE2, dE2, GE2, mE2, kE2, bE2⟩ := CE2.ex
  have r2 := hr.mono (show 2 ≤ kk by omega)
  have r6 := hr.mono (show 6 ≤ kk by omega)
  have r7 := hr.mono (show 7 ≤ kk by omega)
  have r8 := hr.mono (show 8 ≤ kk by omega)
  refine ⟨_, @pss_p _ _ _ _ _ (ps_set (i := 1) scL4.nd (by rfl) (by exact Or.inl rfl) (pe_call GB r7 (by rfl) mB kB bB .nil pass0 (pa_n (pv 0) (pa_i pe_int pa_nil))))
    (@pss_p _ _ _ _ _ (ps_set (i := 2) scL4.nd (by rfl) (by exact Or.inl rfl) (pe_op op_add (pe_call GM r2 (by rfl) mM kM bM .nil pass0 (pa_n (pv 0) (pa_i pe_int pa_nil))) (pe_op op_mul pe_int (pe_call GM r2 (by rfl) mM kM bM .nil pass0 (pa_n (pv 0) (pa_i pe_int pa_nil))))))
    (@pss_p _ _ _ _ _ (PS.weak (t' := tStep4 K) (ps_if (pt_cmpR op_eq (pe_op op_mod (pv 2) pe_int) pe_int (nomark _)) (@pss_q _ _ _ _ _ (qs_set (i := 3) scL4.nd (by rfl) (by exact Or.inl rfl) (qx_lst (qa_str (qa_str (qa_str (qa_str (qa_str (qa_str (qa_str (qa_str (qa_str qa_nil)))))))))) sw_l)
    (@pss_o _ _ _ (ps_set (i := 1) scL4.nd (by rfl) (by exact Or.inl rfl) (pe_op op_catU (pe_tup (pa_s (pe_ix ix_list (pv 3) (pe_op op_mod (pe_op op_fdiv (pv 2) pe_int) pe_int) px_b) pa_nil)) (pe_slice sl_tup (pv 1) (po_some pe_int) po_none))))) (@pss_o _ _ _ (ps_if (pt_cmpR op_eq (pe_op op_mod (pv 2) pe_int) pe_int (nomark _)) (@pss_o _ _ _ (ps_set (i := 1) scL4.nd (by rfl) (by exact Or.inl rfl) (pe_call GN r6 (by rfl) mN kN bN .nil pass0 (pa_n (pv 1) (pa_n (pv 0) (pa_b (pe_op op_fdiv (pv 2) pe_int) pa_nil)))))) (@pss_o _ _ _ (ps_if (pt_cmpR op_gt (pe_op op_mod (pv 2) pe_int) pe_int (nomark _)) (@pss_o _ _ _ (ps_set (i := 1) scL4.nd (by rfl) (by exact Or.inl rfl) (pe_call GP r8 (by rfl) mP kP bP .nil pass0 (pa_n (pv 1) (pa_b (pe_op op_fdiv (pv 2) pe_int) (pa_i pe_int pa_nil)))))) pss_nil))))) ?w1)
    (@pss_p _ _ _ _ _ (ps_set (i := 4) scL4.nd (by rfl) (by exact Or.inl rfl) (pe_call GE1 hr (by rfl) mE1 kE1 bE1 .nil pass0 (pa_n (pv 1) pa_nil)))
    (@pss_o _ _ _ (ps_ret (pe_and (pe_callB call_isi (by rfl) T.isi boot_isi (pa_n (pv 4) (pa_n (pe_ty (by rfl) T.bool boot_bool) pa_nil))) (pe_and (pe_cmpR op_eq (pv 4) (pe_call GE2 r6 (by rfl) mE2 kE2 bE2 .nil pass0 (pa_n (pv 1) pa_nil)) (nomark _)) (pe_one (pe_cmpR op_eq (pe_call GE1 hr (by rfl) mE1 kE1 bE1 .nil pass0 (pa_n (pv 1) pa_nil)) (pv 4) (nomark _)))))))))), ?_⟩
  case w1 =>
    rintro D σ H ⟨a, ns, v, wy, rfl, hS, hw, R, q⟩
    refine ⟨_, rfl, _, _, rfl, rfl, (by show (0 : Int) < 12; decide), rfl, _, rfl, ite2 (fun _ => ?_) (fun _ => ?_)⟩
    · refine ⟨tiny (by show 9 ≤ 1000; decide), fun p hp => ?_⟩
      have s1 := same_upd (o := HO.lst [V.str "ask", V.str "voice", V.str "hand", V.str "pack", V.str "held", V.str "wish", V.str "told", V.str "away", V.str "asks"]) hp
      obtain ⟨e0, e1⟩ := emod_in (wy / 12) (m := 9) (by decide)
      obtain ⟨wd, hwd, hm⟩ := atI_mem (xs := [V.str "ask", V.str "voice", V.str "hand", V.str "pack", V.str "held", V.str "wish", V.str "told", V.str "away", V.str "asks"]) (i := wy / 12 % 9) e0 (by show wy / 12 % 9 < ((9 : Nat) : Int); omega)
      obtain ⟨x, rfl, hx⟩ : ∃ y : Str, wd = .str y ∧ y.length ≤ 16 := by
        simp only [List.mem_cons, List.not_mem_nil, or_false] at hm
        rcases hm with rfl | rfl | rfl | rfl | rfl | rfl | rfl | rfl | rfl <;> exact ⟨_, rfl, by decide +kernel⟩
      obtain ⟨p1, xs, rfl, hp1, hne, hl, tx⟩ := R
      refine ⟨_, rfl, _, rfl, _, _, rfl, rfl, ⟨by decide, by decide⟩, _, _, rfl, rfl, (by show (0 : Int) < 9; decide), p, _, _, _, rfl, rfl, SqL.of upd_same, hwd, tiny (by show 1 ≤ 1000; decide), fun p2 h2 => ?_⟩
      have s2 := same_upd (o := HO.tup [V.str x]) h2
      refine ⟨_, rfl, 1, rfl, p1, xs, rfl, SqT.of (s2 _ _ (s1 _ _ hp1)), fun z => ?_, fun p3 h3 => ?_⟩
      · have z1 : HT.sIx xs.length 0 (some ((1 : Nat) : Int)) = 0 := z.1
        rw [HT.sIx_nat] at z1
        have : 0 < xs.length := List.length_pos_iff.mpr hne
        omega
      have s3 := same_upd (o := HO.tup (cutV xs (some 1) none)) h3
      have lc := cutV_length xs (some 1) none
      refine ⟨p2, p3, _, _, rfl, rfl, s3 _ _ upd_same, upd_same, tiny (by show 1 + (cutV xs (some 1) none).length ≤ 1000; omega), fun p4 H4 e4 s4 => ?_⟩
      have sa := (s1.trans s2).trans (s3.trans s4)
      refine q _ _ _ (.tup e4 (by rw [List.length_append]; show 1 + (cutV xs (some 1) none).length ≤ 700; omega) ?_) sa
      exact ThL.append (.cons (.str x (by omega)) .nil) ((th_cut _ _ tx).mono (by decide) sa)
    refine ⟨_, rfl, _, _, rfl, rfl, (by show (0 : Int) < 6; decide), rfl, _, rfl, ite2 (fun _ => ?_) (fun _ => ?_)⟩
    · exact ⟨_, rfl, _, rfl, _, rfl, _, _, rfl, rfl, ⟨by decide, by decide⟩, v, a, ns, wy / 6, rfl, hS, Int.ediv_nonneg hw (by decide), fun v' H' t' s' => q v' _ H' (t'.mono (by decide) (Same.refl _)) s'⟩
    refine ⟨_, rfl, _, _, rfl, rfl, (by show (0 : Int) < 3; decide), _, _, rfl, rfl, _, rfl, ite2 (fun _ => ?_) (fun _ => ?_)⟩
    · exact ⟨_, rfl, _, rfl, _, _, rfl, rfl, ⟨by decide, by decide⟩, 200, v, wy / 3, rfl, R.th, by decide, by decide, Int.ediv_nonneg hw (by decide), fun v' H' t' s' => q v' _ H' (t'.mono (by decide) (Same.refl _)) s'⟩
    · exact q v _ H (R.th.mono (by decide) (Same.refl _)) (Same.refl _)
  refine ⟨_, rfl, a, ns, 2, rfl, hS, by decide, by decide, fun v1 H1 p1 s1 => ?_⟩
  have hS1 := SqL.same hS s1
  refine ⟨_, rfl, a, ns, 0, rfl, hS1, by decide, by decide, fun w2 w20 w21 => ⟨_, rfl, a, ns, 1, rfl, hS1, by decide, by decide, fun w3 w30 w31 => ⟨_, _, rfl, rfl, .inl ⟨by decide, by decide⟩, _, _, rfl, rfl, ?_⟩⟩⟩
  refine ⟨a, ns, v1, w2 + 7 * w3, rfl, hS1, by omega, p1, fun v x3 H3 t3 s3 => ?_⟩
  obtain ⟨d, I⟩ := t3
  refine ⟨_, rfl, 700, v, d, by decide, rfl, I, fun H4 s4 => ?_⟩
  refine ⟨_, rfl, _, _, _, _, rfl, .bl _, kit_bool K (.bl (letterP d)), _, rfl, iteT ⟨_, rfl, _, rfl, 700, v, d, by decide, rfl, I.same s4, fun H5 s5 => ⟨rfl, _, rfl, ?_⟩⟩⟩
  rw [decide_eq_true (show V.bl (letterP d) = V.bl (letterL d) by rw [letter_eq])]
  refine iteT ⟨_, rfl, 700, v, d, by decide, rfl, (I.same s4).same s5, fun H6 s6 => ⟨_, rfl, rfl, ?_⟩⟩
  have := k H6
  simpa using this
end
end K1
set_option Elab.async false
set_option linter.all false
set_option maxRecDepth 100000
set_option maxHeartbeats 4000000
namespace K1
open PySem L2 Kp
theorem cal {P : Program} {w : World} {K : PySem.W.Frag} {mg : Str → Option Value} {base : Heap} {x : Str} {st : Stmt} {f : Addr} {fd : FuncData} {ps : List Str} {k : Nat} {sp : Sp} (F : Fun K x x st f fd) (hm : mg x = some (.ref f)) (b : Binds K fd ps []) (ok : FnOk P w K mg base CX0 k f fd ps sp) : Cal P w K mg base x k ps sp := ⟨f, fd, ok, hm, F.kp, b⟩
theorem all_mk {l : PySem.W.OpenLaw} {w : World} {K : PySem.W.Frag} {h : Heap} {mg : Str → Option Value} {fa f0 f1 f2 f3 f4 f5 f6 f7 f8 f9 f10 f11 f12 f13 f14 f15 f16 f17 f18 f19 f20 f21 f22 f23 f24 f25 f26 f27 f28 f29 f30 f31 f32 f33 f34 f35 f36 f37 f38 f39 f40 f41 f42 f43 f44 f45 f46 f47 f48 f49 f50 f51 f52 f53 f54 f55 f56 f57 f58 f59 f60 f61 : Addr} (X : K.In h) (G : h.Ns mainGlobals mg) (hfa : mg "law" = some (.ref fa))
    {od0 an0 od1 an1 od2 an2 od3 an3 od4 an4 od5 an5 od6 an6 od7 an7 od8 an8 od9 an9 od10 an10 od11 an11 od12 an12 od13 an13 od14 an14 od15 an15 od16 an16 od17 an17 od18 an18 od19 an19 od20 an20 od21 an21 od22 an22 od23 an23 od24 an24 od25 an25 od26 an26 od27 an27 od28 an28 od29 an29 od30 an30 od31 an31 od32 an32 od33 an33 od34 an34 od35 an35 od36 an36 od37 an37 od38 an38 od39 an39 od40 an40 od41 an41 od42 an42 od43 an43 od44 an44 od45 an45 od46 an46 od47 an47 od48 an48 od49 an49 od50 an50 od51 an51 od52 an52 od53 an53 od54 an54 od55 an55 od56 an56 od57 an57 od58 an58 od59 an59 od60 an60 od61 an61 : Option Addr} {sl0 sl1 sl2 sl3 sl4 sl5 sl6 sl7 sl8 sl9 sl10 sl11 sl12 sl13 sl14 sl15 sl16 sl17 sl18 sl19 sl20 sl21 sl22 sl23 sl24 sl25 sl26 sl27 sl28 sl29 sl30 sl31 sl32 sl33 sl34 sl35 sl36 sl37 sl38 sl39 sl40 sl41 sl42 sl43 sl44 sl45 sl46 sl47 sl48 sl49 sl50 sl51 sl52 sl53 sl54 sl55 sl56 sl57 sl58 sl59 sl60 sl61 : Array (Option Value)} {oc0 kV0 dc0 pm0 cd0 ct0 oc1 kV1 dc1 pm1 cd1 ct1 oc2 kV2 dc2 pm2 cd2 ct2 oc3 kV3 dc3 pm3 cd3 ct3 oc4 kV4 dc4 pm4 cd4 ct4 oc5 kV5 dc5 pm5 cd5 ct5 oc6 kV6 dc6 pm6 cd6 ct6 oc7 kV7 dc7 pm7 cd7 ct7 oc8 kV8 dc8 pm8 cd8 ct8 oc9 kV9 dc9 pm9 cd9 ct9 oc10 kV10 dc10 pm10 cd10 ct10 oc11 kV11 dc11 pm11 cd11 ct11 oc12 kV12 dc12 pm12 cd12 ct12 oc13 kV13 dc13 pm13 cd13 ct13 oc14 kV14 dc14 pm14 cd14 ct14 oc15 kV15 dc15 pm15 cd15 ct15 oc16 kV16 dc16 pm16 cd16 ct16 oc17 kV17 dc17 pm17 cd17 ct17 oc18 kV18 dc18 pm18 cd18 ct18 oc19 kV19 dc19 pm19 cd19 ct19 oc20 kV20 dc20 pm20 cd20 ct20 oc21 kV21 dc21 pm21 cd21 ct21 oc22 kV22 dc22 pm22 cd22 ct22 oc23 kV23 dc23 pm23 cd23 ct23 oc24 kV24 dc24 pm24 cd24 ct24 oc25 kV25 dc25 pm25 cd25 ct25 oc26 kV26 dc26 pm26 cd26 ct26 oc27 kV27 dc27 pm27 cd27 ct27 oc28 kV28 dc28 pm28 cd28 ct28 oc29 kV29 dc29 pm29 cd29 ct29 oc30 kV30 dc30 pm30 cd30 ct30 oc31 kV31 dc31 pm31 cd31 ct31 oc32 kV32 dc32 pm32 cd32 ct32 oc33 kV33 dc33 pm33 cd33 ct33 oc34 kV34 dc34 pm34 cd34 ct34 oc35 kV35 dc35 pm35 cd35 ct35 oc36 kV36 dc36 pm36 cd36 ct36 oc37 kV37 dc37 pm37 cd37 ct37 oc38 kV38 dc38 pm38 cd38 ct38 oc39 kV39 dc39 pm39 cd39 ct39 oc40 kV40 dc40 pm40 cd40 ct40 oc41 kV41 dc41 pm41 cd41 ct41 oc42 kV42 dc42 pm42 cd42 ct42 oc43 kV43 dc43 pm43 cd43 ct43 oc44 kV44 dc44 pm44 cd44 ct44 oc45 kV45 dc45 pm45 cd45 ct45 oc46 kV46 dc46 pm46 cd46 ct46 oc47 kV47 dc47 pm47 cd47 ct47 oc48 kV48 dc48 pm48 cd48 ct48 oc49 kV49 dc49 pm49 cd49 ct49 oc50 kV50 dc50 pm50 cd50 ct50 oc51 kV51 dc51 pm51 cd51 ct51 oc52 kV52 dc52 pm52 cd52 ct52 oc53 kV53 dc53 pm53 cd53 ct53 oc54 kV54 dc54 pm54 cd54 ct54 oc55 kV55 dc55 pm55 cd55 ct55 oc56 kV56 dc56 pm56 cd56 ct56 oc57 kV57 dc57 pm57 cd57 ct57 oc58 kV58 dc58 pm58 cd58 ct58 oc59 kV59 dc59 pm59 cd59 ct59 oc60 kV60 dc60 pm60 cd60 ct60 oc61 kV61 dc61 pm61 cd61 ct61 : Value}
    (a0 : PySem.W.nsIn K mainGlobals "is_whole" = some (some (.ref f0))) (l0 : K.lookup f0 = some ⟨oc0, od0, .func (PySem.W.fnOf "is_whole" "is_whole" (defArgs sWhole) (defBody sWhole) (defScope sWhole) .none kV0 dc0 pm0 an0 cd0 ct0), sl0⟩) (c0 : PySem.W.codeIn K cd0 "is_whole" = true) (k0 : PySem.W.keepIn K (.ref f0) = true)
    (a1 : PySem.W.nsIn K mainGlobals "is_truth" = some (some (.ref f1))) (l1 : K.lookup f1 = some ⟨oc1, od1, .func (PySem.W.fnOf "is_truth" "is_truth" (defArgs s_is_truth) (defBody s_is_truth) (defScope s_is_truth) .none kV1 dc1 pm1 an1 cd1 ct1), sl1⟩) (c1 : PySem.W.codeIn K cd1 "is_truth" = true) (k1 : PySem.W.keepIn K (.ref f1) = true)
    (a2 : PySem.W.nsIn K mainGlobals "is_from_nought" = some (some (.ref f2))) (l2 : K.lookup f2 = some ⟨oc2, od2, .func (PySem.W.fnOf "is_from_nought" "is_from_nought" (defArgs s_is_from_nought) (defBody s_is_from_nought) (defScope s_is_from_nought) .none kV2 dc2 pm2 an2 cd2 ct2), sl2⟩) (c2 : PySem.W.codeIn K cd2 "is_from_nought" = true) (k2 : PySem.W.keepIn K (.ref f2) = true)
    (a3 : PySem.W.nsIn K mainGlobals "is_from_one" = some (some (.ref f3))) (l3 : K.lookup f3 = some ⟨oc3, od3, .func (PySem.W.fnOf "is_from_one" "is_from_one" (defArgs s_is_from_one) (defBody s_is_from_one) (defScope s_is_from_one) .none kV3 dc3 pm3 an3 cd3 ct3), sl3⟩) (c3 : PySem.W.codeIn K cd3 "is_from_one" = true) (k3 : PySem.W.keepIn K (.ref f3) = true)
    (a4 : PySem.W.nsIn K mainGlobals "is_keeper" = some (some (.ref f4))) (l4 : K.lookup f4 = some ⟨oc4, od4, .func (PySem.W.fnOf "is_keeper" "is_keeper" (defArgs sKeeper) (defBody sKeeper) (defScope sKeeper) .none kV4 dc4 pm4 an4 cd4 ct4), sl4⟩) (c4 : PySem.W.codeIn K cd4 "is_keeper" = true) (k4 : PySem.W.keepIn K (.ref f4) = true)
    (a5 : PySem.W.nsIn K mainGlobals "is_head" = some (some (.ref f5))) (l5 : K.lookup f5 = some ⟨oc5, od5, .func (PySem.W.fnOf "is_head" "is_head" (defArgs s_is_head) (defBody s_is_head) (defScope s_is_head) .none kV5 dc5 pm5 an5 cd5 ct5), sl5⟩) (c5 : PySem.W.codeIn K cd5 "is_head" = true) (k5 : PySem.W.keepIn K (.ref f5) = true)
    (a6 : PySem.W.nsIn K mainGlobals "is_name" = some (some (.ref f6))) (l6 : K.lookup f6 = some ⟨oc6, od6, .func (PySem.W.fnOf "is_name" "is_name" (defArgs sName) (defBody sName) (defScope sName) .none kV6 dc6 pm6 an6 cd6 ct6), sl6⟩) (c6 : PySem.W.codeIn K cd6 "is_name" = true) (k6 : PySem.W.keepIn K (.ref f6) = true)
    (a7 : PySem.W.nsIn K mainGlobals "is_rising" = some (some (.ref f7))) (l7 : K.lookup f7 = some ⟨oc7, od7, .func (PySem.W.fnOf "is_rising" "is_rising" (defArgs sRising) (defBody sRising) (defScope sRising) .none kV7 dc7 pm7 an7 cd7 ct7), sl7⟩) (c7 : PySem.W.codeIn K cd7 "is_rising" = true) (k7 : PySem.W.keepIn K (.ref f7) = true)
    (a8 : PySem.W.nsIn K mainGlobals "is_row_of" = some (some (.ref f8))) (l8 : K.lookup f8 = some ⟨oc8, od8, .func (PySem.W.fnOf "is_row_of" "is_row_of" (defArgs sRow) (defBody sRow) (defScope sRow) .none kV8 dc8 pm8 an8 cd8 ct8), sl8⟩) (c8 : PySem.W.codeIn K cd8 "is_row_of" = true) (k8 : PySem.W.keepIn K (.ref f8) = true)
    (a9 : PySem.W.nsIn K mainGlobals "fits" = some (some (.ref f9))) (l9 : K.lookup f9 = some ⟨oc9, od9, .func (PySem.W.fnOf "fits" "fits" (defArgs s_fits) (defBody s_fits) (defScope s_fits) .none kV9 dc9 pm9 an9 cd9 ct9), sl9⟩) (c9 : PySem.W.codeIn K cd9 "fits" = true) (k9 : PySem.W.keepIn K (.ref f9) = true)
    (a10 : PySem.W.nsIn K mainGlobals "first_word" = some (some (.ref f10))) (l10 : K.lookup f10 = some ⟨oc10, od10, .func (PySem.W.fnOf "first_word" "first_word" (defArgs s_first_word) (defBody s_first_word) (defScope s_first_word) .none kV10 dc10 pm10 an10 cd10 ct10), sl10⟩) (c10 : PySem.W.codeIn K cd10 "first_word" = true) (k10 : PySem.W.keepIn K (.ref f10) = true)
    (a11 : PySem.W.nsIn K mainGlobals "fits_behind_word" = some (some (.ref f11))) (l11 : K.lookup f11 = some ⟨oc11, od11, .func (PySem.W.fnOf "fits_behind_word" "fits_behind_word" (defArgs s_fits_behind_word) (defBody s_fits_behind_word) (defScope s_fits_behind_word) .none kV11 dc11 pm11 an11 cd11 ct11), sl11⟩) (c11 : PySem.W.codeIn K cd11 "fits_behind_word" = true) (k11 : PySem.W.keepIn K (.ref f11) = true)
    (a12 : PySem.W.nsIn K mainGlobals "is_deed" = some (some (.ref f12))) (l12 : K.lookup f12 = some ⟨oc12, od12, .func (PySem.W.fnOf "is_deed" "is_deed" (defArgs s_is_deed) (defBody s_is_deed) (defScope s_is_deed) .none kV12 dc12 pm12 an12 cd12 ct12), sl12⟩) (c12 : PySem.W.codeIn K cd12 "is_deed" = true) (k12 : PySem.W.keepIn K (.ref f12) = true)
    (a13 : PySem.W.nsIn K mainGlobals "is_seats" = some (some (.ref f13))) (l13 : K.lookup f13 = some ⟨oc13, od13, .func (PySem.W.fnOf "is_seats" "is_seats" (defArgs sSeats) (defBody sSeats) (defScope sSeats) .none kV13 dc13 pm13 an13 cd13 ct13), sl13⟩) (c13 : PySem.W.codeIn K cd13 "is_seats" = true) (k13 : PySem.W.keepIn K (.ref f13) = true)
    (a14 : PySem.W.nsIn K mainGlobals "is_what" = some (some (.ref f14))) (l14 : K.lookup f14 = some ⟨oc14, od14, .func (PySem.W.fnOf "is_what" "is_what" (defArgs s_is_what) (defBody s_is_what) (defScope s_is_what) .none kV14 dc14 pm14 an14 cd14 ct14), sl14⟩) (c14 : PySem.W.codeIn K cd14 "is_what" = true) (k14 : PySem.W.keepIn K (.ref f14) = true)
    (a15 : PySem.W.nsIn K mainGlobals "is_entry" = some (some (.ref f15))) (l15 : K.lookup f15 = some ⟨oc15, od15, .func (PySem.W.fnOf "is_entry" "is_entry" (defArgs s_is_entry) (defBody s_is_entry) (defScope s_is_entry) .none kV15 dc15 pm15 an15 cd15 ct15), sl15⟩) (c15 : PySem.W.codeIn K cd15 "is_entry" = true) (k15 : PySem.W.keepIn K (.ref f15) = true)
    (a16 : PySem.W.nsIn K mainGlobals "is_entries" = some (some (.ref f16))) (l16 : K.lookup f16 = some ⟨oc16, od16, .func (PySem.W.fnOf "is_entries" "is_entries" (defArgs s_is_entries) (defBody s_is_entries) (defScope s_is_entries) .none kV16 dc16 pm16 an16 cd16 ct16), sl16⟩) (c16 : PySem.W.codeIn K cd16 "is_entries" = true) (k16 : PySem.W.keepIn K (.ref f16) = true)
    (a17 : PySem.W.nsIn K mainGlobals "is_name_pair" = some (some (.ref f17))) (l17 : K.lookup f17 = some ⟨oc17, od17, .func (PySem.W.fnOf "is_name_pair" "is_name_pair" (defArgs s_is_name_pair) (defBody s_is_name_pair) (defScope s_is_name_pair) .none kV17 dc17 pm17 an17 cd17 ct17), sl17⟩) (c17 : PySem.W.codeIn K cd17 "is_name_pair" = true) (k17 : PySem.W.keepIn K (.ref f17) = true)
    (a18 : PySem.W.nsIn K mainGlobals "is_caller_triple" = some (some (.ref f18))) (l18 : K.lookup f18 = some ⟨oc18, od18, .func (PySem.W.fnOf "is_caller_triple" "is_caller_triple" (defArgs s_is_caller_triple) (defBody s_is_caller_triple) (defScope s_is_caller_triple) .none kV18 dc18 pm18 an18 cd18 ct18), sl18⟩) (c18 : PySem.W.codeIn K cd18 "is_caller_triple" = true) (k18 : PySem.W.keepIn K (.ref f18) = true)
    (a19 : PySem.W.nsIn K mainGlobals "is_by_alphabet" = some (some (.ref f19))) (l19 : K.lookup f19 = some ⟨oc19, od19, .func (PySem.W.fnOf "is_by_alphabet" "is_by_alphabet" (defArgs s_is_by_alphabet) (defBody s_is_by_alphabet) (defScope s_is_by_alphabet) .none kV19 dc19 pm19 an19 cd19 ct19), sl19⟩) (c19 : PySem.W.codeIn K cd19 "is_by_alphabet" = true) (k19 : PySem.W.keepIn K (.ref f19) = true)
    (a20 : PySem.W.nsIn K mainGlobals "is_names" = some (some (.ref f20))) (l20 : K.lookup f20 = some ⟨oc20, od20, .func (PySem.W.fnOf "is_names" "is_names" (defArgs s_is_names) (defBody s_is_names) (defScope s_is_names) .none kV20 dc20 pm20 an20 cd20 ct20), sl20⟩) (c20 : PySem.W.codeIn K cd20 "is_names" = true) (k20 : PySem.W.keepIn K (.ref f20) = true)
    (a21 : PySem.W.nsIn K mainGlobals "is_callers" = some (some (.ref f21))) (l21 : K.lookup f21 = some ⟨oc21, od21, .func (PySem.W.fnOf "is_callers" "is_callers" (defArgs s_is_callers) (defBody s_is_callers) (defScope s_is_callers) .none kV21 dc21 pm21 an21 cd21 ct21), sl21⟩) (c21 : PySem.W.codeIn K cd21 "is_callers" = true) (k21 : PySem.W.keepIn K (.ref f21) = true)
    (a22 : PySem.W.nsIn K mainGlobals "is_store" = some (some (.ref f22))) (l22 : K.lookup f22 = some ⟨oc22, od22, .func (PySem.W.fnOf "is_store" "is_store" (defArgs s_is_store) (defBody s_is_store) (defScope s_is_store) .none kV22 dc22 pm22 an22 cd22 ct22), sl22⟩) (c22 : PySem.W.codeIn K cd22 "is_store" = true) (k22 : PySem.W.keepIn K (.ref f22) = true)
    (a23 : PySem.W.nsIn K mainGlobals "is_end" = some (some (.ref f23))) (l23 : K.lookup f23 = some ⟨oc23, od23, .func (PySem.W.fnOf "is_end" "is_end" (defArgs s_is_end) (defBody s_is_end) (defScope s_is_end) .none kV23 dc23 pm23 an23 cd23 ct23), sl23⟩) (c23 : PySem.W.codeIn K cd23 "is_end" = true) (k23 : PySem.W.keepIn K (.ref f23) = true)
    (a24 : PySem.W.nsIn K mainGlobals "is_pack" = some (some (.ref f24))) (l24 : K.lookup f24 = some ⟨oc24, od24, .func (PySem.W.fnOf "is_pack" "is_pack" (defArgs s_is_pack) (defBody s_is_pack) (defScope s_is_pack) .none kV24 dc24 pm24 an24 cd24 ct24), sl24⟩) (c24 : PySem.W.codeIn K cd24 "is_pack" = true) (k24 : PySem.W.keepIn K (.ref f24) = true)
    (a25 : PySem.W.nsIn K mainGlobals "is_pack_to_send" = some (some (.ref f25))) (l25 : K.lookup f25 = some ⟨oc25, od25, .func (PySem.W.fnOf "is_pack_to_send" "is_pack_to_send" (defArgs s_is_pack_to_send) (defBody s_is_pack_to_send) (defScope s_is_pack_to_send) .none kV25 dc25 pm25 an25 cd25 ct25), sl25⟩) (c25 : PySem.W.codeIn K cd25 "is_pack_to_send" = true) (k25 : PySem.W.keepIn K (.ref f25) = true)
    (a26 : PySem.W.nsIn K mainGlobals "is_letter" = some (some (.ref f26))) (l26 : K.lookup f26 = some ⟨oc26, od26, .func (PySem.W.fnOf "is_letter" "is_letter" (defArgs s_is_letter) (defBody s_is_letter) (defScope s_is_letter) .none kV26 dc26 pm26 an26 cd26 ct26), sl26⟩) (c26 : PySem.W.codeIn K cd26 "is_letter" = true) (k26 : PySem.W.keepIn K (.ref f26) = true)
    (a27 : PySem.W.nsIn K mainGlobals "_law_cell_at" = some (some (.ref f27))) (l27 : K.lookup f27 = some ⟨oc27, od27, .func (PySem.W.fnOf "_law_cell_at" "_law_cell_at" (defArgs sCell) (defBody sCell) (defScope sCell) .none kV27 dc27 pm27 an27 cd27 ct27), sl27⟩) (c27 : PySem.W.codeIn K cd27 "_law_cell_at" = true) (k27 : PySem.W.keepIn K (.ref f27) = true)
    (a28 : PySem.W.nsIn K mainGlobals "_law_mixed" = some (some (.ref f28))) (l28 : K.lookup f28 = some ⟨oc28, od28, .func (PySem.W.fnOf "_law_mixed" "_law_mixed" (defArgs sMixed) (defBody sMixed) (defScope sMixed) .none kV28 dc28 pm28 an28 cd28 ct28), sl28⟩) (c28 : PySem.W.codeIn K cd28 "_law_mixed" = true) (k28 : PySem.W.keepIn K (.ref f28) = true)
    (a29 : PySem.W.nsIn K mainGlobals "_law_name_by" = some (some (.ref f29))) (l29 : K.lookup f29 = some ⟨oc29, od29, .func (PySem.W.fnOf "_law_name_by" "_law_name_by" (defArgs sNameBy) (defBody sNameBy) (defScope sNameBy) .none kV29 dc29 pm29 an29 cd29 ct29), sl29⟩) (c29 : PySem.W.codeIn K cd29 "_law_name_by" = true) (k29 : PySem.W.keepIn K (.ref f29) = true)
    (a30 : PySem.W.nsIn K mainGlobals "_law_number_by" = some (some (.ref f30))) (l30 : K.lookup f30 = some ⟨oc30, od30, .func (PySem.W.fnOf "_law_number_by" "_law_number_by" (defArgs s__law_number_by) (defBody s__law_number_by) (defScope s__law_number_by) .none kV30 dc30 pm30 an30 cd30 ct30), sl30⟩) (c30 : PySem.W.codeIn K cd30 "_law_number_by" = true) (k30 : PySem.W.keepIn K (.ref f30) = true)
    (a31 : PySem.W.nsIn K mainGlobals "_law_value_by" = some (some (.ref f31))) (l31 : K.lookup f31 = some ⟨oc31, od31, .func (PySem.W.fnOf "_law_value_by" "_law_value_by" (defArgs s__law_value_by) (defBody s__law_value_by) (defScope s__law_value_by) .none kV31 dc31 pm31 an31 cd31 ct31), sl31⟩) (c31 : PySem.W.codeIn K cd31 "_law_value_by" = true) (k31 : PySem.W.keepIn K (.ref f31) = true)
    (a32 : PySem.W.nsIn K mainGlobals "_law_deed_by" = some (some (.ref f32))) (l32 : K.lookup f32 = some ⟨oc32, od32, .func (PySem.W.fnOf "_law_deed_by" "_law_deed_by" (defArgs s__law_deed_by) (defBody s__law_deed_by) (defScope s__law_deed_by) .none kV32 dc32 pm32 an32 cd32 ct32), sl32⟩) (c32 : PySem.W.codeIn K cd32 "_law_deed_by" = true) (k32 : PySem.W.keepIn K (.ref f32) = true)
    (a33 : PySem.W.nsIn K mainGlobals "_law_seats_by" = some (some (.ref f33))) (l33 : K.lookup f33 = some ⟨oc33, od33, .func (PySem.W.fnOf "_law_seats_by" "_law_seats_by" (defArgs sSeatsBy) (defBody sSeatsBy) (defScope sSeatsBy) .none kV33 dc33 pm33 an33 cd33 ct33), sl33⟩) (c33 : PySem.W.codeIn K cd33 "_law_seats_by" = true) (k33 : PySem.W.keepIn K (.ref f33) = true)
    (a34 : PySem.W.nsIn K mainGlobals "_law_what_by" = some (some (.ref f34))) (l34 : K.lookup f34 = some ⟨oc34, od34, .func (PySem.W.fnOf "_law_what_by" "_law_what_by" (defArgs s__law_what_by) (defBody s__law_what_by) (defScope s__law_what_by) .none kV34 dc34 pm34 an34 cd34 ct34), sl34⟩) (c34 : PySem.W.codeIn K cd34 "_law_what_by" = true) (k34 : PySem.W.keepIn K (.ref f34) = true)
    (a35 : PySem.W.nsIn K mainGlobals "_law_entry_by" = some (some (.ref f35))) (l35 : K.lookup f35 = some ⟨oc35, od35, .func (PySem.W.fnOf "_law_entry_by" "_law_entry_by" (defArgs s__law_entry_by) (defBody s__law_entry_by) (defScope s__law_entry_by) .none kV35 dc35 pm35 an35 cd35 ct35), sl35⟩) (c35 : PySem.W.codeIn K cd35 "_law_entry_by" = true) (k35 : PySem.W.keepIn K (.ref f35) = true)
    (a36 : PySem.W.nsIn K mainGlobals "_law_names_by" = some (some (.ref f36))) (l36 : K.lookup f36 = some ⟨oc36, od36, .func (PySem.W.fnOf "_law_names_by" "_law_names_by" (defArgs s__law_names_by) (defBody s__law_names_by) (defScope s__law_names_by) .none kV36 dc36 pm36 an36 cd36 ct36), sl36⟩) (c36 : PySem.W.codeIn K cd36 "_law_names_by" = true) (k36 : PySem.W.keepIn K (.ref f36) = true)
    (a37 : PySem.W.nsIn K mainGlobals "_law_store_by" = some (some (.ref f37))) (l37 : K.lookup f37 = some ⟨oc37, od37, .func (PySem.W.fnOf "_law_store_by" "_law_store_by" (defArgs s__law_store_by) (defBody s__law_store_by) (defScope s__law_store_by) .none kV37 dc37 pm37 an37 cd37 ct37), sl37⟩) (c37 : PySem.W.codeIn K cd37 "_law_store_by" = true) (k37 : PySem.W.keepIn K (.ref f37) = true)
    (a38 : PySem.W.nsIn K mainGlobals "_law_stand_by" = some (some (.ref f38))) (l38 : K.lookup f38 = some ⟨oc38, od38, .func (PySem.W.fnOf "_law_stand_by" "_law_stand_by" (defArgs s__law_stand_by) (defBody s__law_stand_by) (defScope s__law_stand_by) .none kV38 dc38 pm38 an38 cd38 ct38), sl38⟩) (c38 : PySem.W.codeIn K cd38 "_law_stand_by" = true) (k38 : PySem.W.keepIn K (.ref f38) = true)
    (a39 : PySem.W.nsIn K mainGlobals "_law_pack_by" = some (some (.ref f39))) (l39 : K.lookup f39 = some ⟨oc39, od39, .func (PySem.W.fnOf "_law_pack_by" "_law_pack_by" (defArgs s__law_pack_by) (defBody s__law_pack_by) (defScope s__law_pack_by) .none kV39 dc39 pm39 an39 cd39 ct39), sl39⟩) (c39 : PySem.W.codeIn K cd39 "_law_pack_by" = true) (k39 : PySem.W.keepIn K (.ref f39) = true)
    (a40 : PySem.W.nsIn K mainGlobals "_law_between_by" = some (some (.ref f40))) (l40 : K.lookup f40 = some ⟨oc40, od40, .func (PySem.W.fnOf "_law_between_by" "_law_between_by" (defArgs s__law_between_by) (defBody s__law_between_by) (defScope s__law_between_by) .none kV40 dc40 pm40 an40 cd40 ct40), sl40⟩) (c40 : PySem.W.codeIn K cd40 "_law_between_by" = true) (k40 : PySem.W.keepIn K (.ref f40) = true)
    (a41 : PySem.W.nsIn K mainGlobals "_law_letter_by" = some (some (.ref f41))) (l41 : K.lookup f41 = some ⟨oc41, od41, .func (PySem.W.fnOf "_law_letter_by" "_law_letter_by" (defArgs s__law_letter_by) (defBody s__law_letter_by) (defScope s__law_letter_by) .none kV41 dc41 pm41 an41 cd41 ct41), sl41⟩) (c41 : PySem.W.codeIn K cd41 "_law_letter_by" = true) (k41 : PySem.W.keepIn K (.ref f41) = true)
    (a42 : PySem.W.nsIn K mainGlobals "_law_from" = some (some (.ref f42))) (l42 : K.lookup f42 = some ⟨oc42, od42, .func (PySem.W.fnOf "_law_from" "_law_from" (defArgs sFrom) (defBody sFrom) (defScope sFrom) .none kV42 dc42 pm42 an42 cd42 ct42), sl42⟩) (c42 : PySem.W.codeIn K cd42 "_law_from" = true) (k42 : PySem.W.keepIn K (.ref f42) = true)
    (a43 : PySem.W.nsIn K mainGlobals "_law_any" = some (some (.ref f43))) (l43 : K.lookup f43 = some ⟨oc43, od43, .func (PySem.W.fnOf "_law_any" "_law_any" (defArgs s__law_any) (defBody s__law_any) (defScope s__law_any) .none kV43 dc43 pm43 an43 cd43 ct43), sl43⟩) (c43 : PySem.W.codeIn K cd43 "_law_any" = true) (k43 : PySem.W.keepIn K (.ref f43) = true)
    (a44 : PySem.W.nsIn K mainGlobals "_law_sized" = some (some (.ref f44))) (l44 : K.lookup f44 = some ⟨oc44, od44, .func (PySem.W.fnOf "_law_sized" "_law_sized" (defArgs s__law_sized) (defBody s__law_sized) (defScope s__law_sized) .none kV44 dc44 pm44 an44 cd44 ct44), sl44⟩) (c44 : PySem.W.codeIn K cd44 "_law_sized" = true) (k44 : PySem.W.keepIn K (.ref f44) = true)
    (a45 : PySem.W.nsIn K mainGlobals "_law_keeper" = some (some (.ref f45))) (l45 : K.lookup f45 = some ⟨oc45, od45, .func (PySem.W.fnOf "_law_keeper" "_law_keeper" (defArgs s__law_keeper) (defBody s__law_keeper) (defScope s__law_keeper) .none kV45 dc45 pm45 an45 cd45 ct45), sl45⟩) (c45 : PySem.W.codeIn K cd45 "_law_keeper" = true) (k45 : PySem.W.keepIn K (.ref f45) = true)
    (a46 : PySem.W.nsIn K mainGlobals "_law_name" = some (some (.ref f46))) (l46 : K.lookup f46 = some ⟨oc46, od46, .func (PySem.W.fnOf "_law_name" "_law_name" (defArgs sNameL) (defBody sNameL) (defScope sNameL) .none kV46 dc46 pm46 an46 cd46 ct46), sl46⟩) (c46 : PySem.W.codeIn K cd46 "_law_name" = true) (k46 : PySem.W.keepIn K (.ref f46) = true)
    (a47 : PySem.W.nsIn K mainGlobals "_law_kind" = some (some (.ref f47))) (l47 : K.lookup f47 = some ⟨oc47, od47, .func (PySem.W.fnOf "_law_kind" "_law_kind" (defArgs s__law_kind) (defBody s__law_kind) (defScope s__law_kind) .none kV47 dc47 pm47 an47 cd47 ct47), sl47⟩) (c47 : PySem.W.codeIn K cd47 "_law_kind" = true) (k47 : PySem.W.keepIn K (.ref f47) = true)
    (a48 : PySem.W.nsIn K mainGlobals "_law_deed" = some (some (.ref f48))) (l48 : K.lookup f48 = some ⟨oc48, od48, .func (PySem.W.fnOf "_law_deed" "_law_deed" (defArgs s__law_deed) (defBody s__law_deed) (defScope s__law_deed) .none kV48 dc48 pm48 an48 cd48 ct48), sl48⟩) (c48 : PySem.W.codeIn K cd48 "_law_deed" = true) (k48 : PySem.W.keepIn K (.ref f48) = true)
    (a49 : PySem.W.nsIn K mainGlobals "_law_seats" = some (some (.ref f49))) (l49 : K.lookup f49 = some ⟨oc49, od49, .func (PySem.W.fnOf "_law_seats" "_law_seats" (defArgs sSeatsL) (defBody sSeatsL) (defScope sSeatsL) .none kV49 dc49 pm49 an49 cd49 ct49), sl49⟩) (c49 : PySem.W.codeIn K cd49 "_law_seats" = true) (k49 : PySem.W.keepIn K (.ref f49) = true)
    (a50 : PySem.W.nsIn K mainGlobals "_law_what" = some (some (.ref f50))) (l50 : K.lookup f50 = some ⟨oc50, od50, .func (PySem.W.fnOf "_law_what" "_law_what" (defArgs s__law_what) (defBody s__law_what) (defScope s__law_what) .none kV50 dc50 pm50 an50 cd50 ct50), sl50⟩) (c50 : PySem.W.codeIn K cd50 "_law_what" = true) (k50 : PySem.W.keepIn K (.ref f50) = true)
    (a51 : PySem.W.nsIn K mainGlobals "_law_entry" = some (some (.ref f51))) (l51 : K.lookup f51 = some ⟨oc51, od51, .func (PySem.W.fnOf "_law_entry" "_law_entry" (defArgs s__law_entry) (defBody s__law_entry) (defScope s__law_entry) .none kV51 dc51 pm51 an51 cd51 ct51), sl51⟩) (c51 : PySem.W.codeIn K cd51 "_law_entry" = true) (k51 : PySem.W.keepIn K (.ref f51) = true)
    (a52 : PySem.W.nsIn K mainGlobals "_law_rises" = some (some (.ref f52))) (l52 : K.lookup f52 = some ⟨oc52, od52, .func (PySem.W.fnOf "_law_rises" "_law_rises" (defArgs s__law_rises) (defBody s__law_rises) (defScope s__law_rises) .none kV52 dc52 pm52 an52 cd52 ct52), sl52⟩) (c52 : PySem.W.codeIn K cd52 "_law_rises" = true) (k52 : PySem.W.keepIn K (.ref f52) = true)
    (a53 : PySem.W.nsIn K mainGlobals "_law_store" = some (some (.ref f53))) (l53 : K.lookup f53 = some ⟨oc53, od53, .func (PySem.W.fnOf "_law_store" "_law_store" (defArgs s__law_store) (defBody s__law_store) (defScope s__law_store) .none kV53 dc53 pm53 an53 cd53 ct53), sl53⟩) (c53 : PySem.W.codeIn K cd53 "_law_store" = true) (k53 : PySem.W.keepIn K (.ref f53) = true)
    (a54 : PySem.W.nsIn K mainGlobals "_law_stand" = some (some (.ref f54))) (l54 : K.lookup f54 = some ⟨oc54, od54, .func (PySem.W.fnOf "_law_stand" "_law_stand" (defArgs s__law_stand) (defBody s__law_stand) (defScope s__law_stand) .none kV54 dc54 pm54 an54 cd54 ct54), sl54⟩) (c54 : PySem.W.codeIn K cd54 "_law_stand" = true) (k54 : PySem.W.keepIn K (.ref f54) = true)
    (a55 : PySem.W.nsIn K mainGlobals "_law_pack" = some (some (.ref f55))) (l55 : K.lookup f55 = some ⟨oc55, od55, .func (PySem.W.fnOf "_law_pack" "_law_pack" (defArgs s__law_pack) (defBody s__law_pack) (defScope s__law_pack) .none kV55 dc55 pm55 an55 cd55 ct55), sl55⟩) (c55 : PySem.W.codeIn K cd55 "_law_pack" = true) (k55 : PySem.W.keepIn K (.ref f55) = true)
    (a56 : PySem.W.nsIn K mainGlobals "_law_between" = some (some (.ref f56))) (l56 : K.lookup f56 = some ⟨oc56, od56, .func (PySem.W.fnOf "_law_between" "_law_between" (defArgs s__law_between) (defBody s__law_between) (defScope s__law_between) .none kV56 dc56 pm56 an56 cd56 ct56), sl56⟩) (c56 : PySem.W.codeIn K cd56 "_law_between" = true) (k56 : PySem.W.keepIn K (.ref f56) = true)
    (a57 : PySem.W.nsIn K mainGlobals "_law_letter" = some (some (.ref f57))) (l57 : K.lookup f57 = some ⟨oc57, od57, .func (PySem.W.fnOf "_law_letter" "_law_letter" (defArgs s__law_letter) (defBody s__law_letter) (defScope s__law_letter) .none kV57 dc57 pm57 an57 cd57 ct57), sl57⟩) (c57 : PySem.W.codeIn K cd57 "_law_letter" = true) (k57 : PySem.W.keepIn K (.ref f57) = true)
    (a58 : PySem.W.nsIn K mainGlobals "_law_odd_by" = some (some (.ref f58))) (l58 : K.lookup f58 = some ⟨oc58, od58, .func (PySem.W.fnOf "_law_odd_by" "_law_odd_by" (defArgs sOdd) (defBody sOdd) (defScope sOdd) .none kV58 dc58 pm58 an58 cd58 ct58), sl58⟩) (c58 : PySem.W.codeIn K cd58 "_law_odd_by" = true) (k58 : PySem.W.keepIn K (.ref f58) = true)
    (a59 : PySem.W.nsIn K mainGlobals "_law_spoilt" = some (some (.ref f59))) (l59 : K.lookup f59 = some ⟨oc59, od59, .func (PySem.W.fnOf "_law_spoilt" "_law_spoilt" (defArgs sSpoilt) (defBody sSpoilt) (defScope sSpoilt) .none kV59 dc59 pm59 an59 cd59 ct59), sl59⟩) (c59 : PySem.W.codeIn K cd59 "_law_spoilt" = true) (k59 : PySem.W.keepIn K (.ref f59) = true)
    (a60 : PySem.W.nsIn K mainGlobals "_law_near_by" = some (some (.ref f60))) (l60 : K.lookup f60 = some ⟨oc60, od60, .func (PySem.W.fnOf "_law_near_by" "_law_near_by" (defArgs s__law_near_by) (defBody s__law_near_by) (defScope s__law_near_by) .none kV60 dc60 pm60 an60 cd60 ct60), sl60⟩) (c60 : PySem.W.codeIn K cd60 "_law_near_by" = true) (k60 : PySem.W.keepIn K (.ref f60) = true)
    (a61 : PySem.W.nsIn K mainGlobals "law" = some (some (.ref f61))) (l61 : K.lookup f61 = some ⟨oc61, od61, .func (PySem.W.fnOf "law" "law" (defArgs sLaw) (defBody sLaw) (defScope sLaw) .none kV61 dc61 pm61 an61 cd61 ct61), sl61⟩) (c61 : PySem.W.codeIn K cd61 "law" = true) (k61 : PySem.W.keepIn K (.ref f61) = true)
    {u0 q0_0 q0_1 q0_2 : Addr} {tkq0_0 tkq0_1 tkq0_2 : Tok} {nd0 nq0_0 nq0_1 nq0_2 : Nat} {oq0_0 oq0_1 oq0_2 : Option Addr} {sq0_0 sq0_1 sq0_2 : Array (Option Value)}
    (da0 : PySem.W.nsIn K mainGlobals "DEED_TELLERS" = some (some (.ref u0))) (dl0 : K.lookup u0 = some ⟨.type "dict", none, .dict #[⟨PyData.keyHash w.params "set", .str "set" tkq0_0, .ref q0_0⟩, ⟨PyData.keyHash w.params "add", .str "add" tkq0_1, .ref q0_1⟩, ⟨PyData.keyHash w.params "get", .str "get" tkq0_2, .ref q0_2⟩] nd0, #[]⟩) (ds0 : (u0 == sysModules) = false)
    (dtq0_0 : K.lookup q0_0 = some ⟨.type "tuple", oq0_0, .seq #[.ref f6, .ref f0] nq0_0, sq0_0⟩)
    (dtq0_1 : K.lookup q0_1 = some ⟨.type "tuple", oq0_1, .seq #[.ref f6, .ref f0] nq0_1, sq0_1⟩)
    (dtq0_2 : K.lookup q0_2 = some ⟨.type "tuple", oq0_2, .seq #[.ref f6] nq0_2, sq0_2⟩)
    {u1 q1_0 q1_1 q1_2 : Addr} {tkq1_0 tkq1_1 tkq1_2 : Tok} {nd1 nq1_0 nq1_1 nq1_2 : Nat} {oq1_0 oq1_1 oq1_2 : Option Addr} {sq1_0 sq1_1 sq1_2 : Array (Option Value)}
    (da1 : PySem.W.nsIn K mainGlobals "WHAT_TELLERS" = some (some (.ref u1))) (dl1 : K.lookup u1 = some ⟨.type "dict", none, .dict #[⟨PyData.keyHash w.params "open", .str "open" tkq1_0, .ref q1_0⟩, ⟨PyData.keyHash w.params "wish", .str "wish" tkq1_1, .ref q1_1⟩, ⟨PyData.keyHash w.params "seats", .str "seats" tkq1_2, .ref q1_2⟩] nd1, #[]⟩) (ds1 : (u1 == sysModules) = false)
    (dtq1_0 : K.lookup q1_0 = some ⟨.type "tuple", oq1_0, .seq #[] nq1_0, sq1_0⟩)
    (dtq1_1 : K.lookup q1_1 = some ⟨.type "tuple", oq1_1, .seq #[.ref f6, .ref f3, .ref f12] nq1_1, sq1_1⟩)
    (dtq1_2 : K.lookup q1_2 = some ⟨.type "tuple", oq1_2, .seq #[.ref f13] nq1_2, sq1_2⟩)
    {u2 q2_0 q2_1 q2_2 q2_3 q2_4 q2_5 q2_6 q2_7 : Addr} {tkq2_0 tkq2_1 tkq2_2 tkq2_3 tkq2_4 tkq2_5 tkq2_6 tkq2_7 : Tok} {nd2 nq2_0 nq2_1 nq2_2 nq2_3 nq2_4 nq2_5 nq2_6 nq2_7 : Nat} {oq2_0 oq2_1 oq2_2 oq2_3 oq2_4 oq2_5 oq2_6 oq2_7 : Option Addr} {sq2_0 sq2_1 sq2_2 sq2_3 sq2_4 sq2_5 sq2_6 sq2_7 : Array (Option Value)}
    (da2 : PySem.W.nsIn K mainGlobals "LETTER_TELLERS" = some (some (.ref u2))) (dl2 : K.lookup u2 = some ⟨.type "dict", none, .dict #[⟨PyData.keyHash w.params "ask", .str "ask" tkq2_0, .ref q2_0⟩, ⟨PyData.keyHash w.params "voice", .str "voice" tkq2_1, .ref q2_1⟩, ⟨PyData.keyHash w.params "hand", .str "hand" tkq2_2, .ref q2_2⟩, ⟨PyData.keyHash w.params "pack", .str "pack" tkq2_3, .ref q2_3⟩, ⟨PyData.keyHash w.params "held", .str "held" tkq2_4, .ref q2_4⟩, ⟨PyData.keyHash w.params "wish", .str "wish" tkq2_5, .ref q2_5⟩, ⟨PyData.keyHash w.params "told", .str "told" tkq2_6, .ref q2_6⟩, ⟨PyData.keyHash w.params "away", .str "away" tkq2_7, .ref q2_7⟩] nd2, #[]⟩) (ds2 : (u2 == sysModules) = false)
    (dtq2_0 : K.lookup q2_0 = some ⟨.type "tuple", oq2_0, .seq #[.ref f4, .ref f4, .ref f3, .ref f2, .ref f2] nq2_0, sq2_0⟩)
    (dtq2_1 : K.lookup q2_1 = some ⟨.type "tuple", oq2_1, .seq #[.ref f4, .ref f4, .ref f3, .ref f1] nq2_1, sq2_1⟩)
    (dtq2_2 : K.lookup q2_2 = some ⟨.type "tuple", oq2_2, .seq #[.ref f4, .ref f4, .ref f3, .ref f2, .ref f2, .ref f16, .ref f2] nq2_2, sq2_2⟩)
    (dtq2_3 : K.lookup q2_3 = some ⟨.type "tuple", oq2_3, .seq #[.ref f4, .ref f4, .ref f3, .ref f25] nq2_3, sq2_3⟩)
    (dtq2_4 : K.lookup q2_4 = some ⟨.type "tuple", oq2_4, .seq #[.ref f4, .ref f4, .ref f3, .ref f1, .ref f2] nq2_4, sq2_4⟩)
    (dtq2_5 : K.lookup q2_5 = some ⟨.type "tuple", oq2_5, .seq #[.ref f6, .ref f4, .ref f3, .ref f12] nq2_5, sq2_5⟩)
    (dtq2_6 : K.lookup q2_6 = some ⟨.type "tuple", oq2_6, .seq #[.ref f4, .ref f6, .ref f3, .ref f0] nq2_6, sq2_6⟩)
    (dtq2_7 : K.lookup q2_7 = some ⟨.type "tuple", oq2_7, .seq #[.ref f4, .ref f6, .ref f3, .ref f5] nq2_7, sq2_7⟩)
    (z0 : PySem.W.nsIn K mainGlobals "isinstance" = some none) (z1 : PySem.W.nsIn K mainGlobals "int" = some none) (z2 : PySem.W.nsIn K mainGlobals "bool" = some none) (z3 : PySem.W.nsIn K mainGlobals "str" = some none) (z4 : PySem.W.nsIn K mainGlobals "tuple" = some none) (z5 : PySem.W.nsIn K mainGlobals "list" = some none) (z6 : PySem.W.nsIn K mainGlobals "all" = some none) (z7 : PySem.W.nsIn K mainGlobals "zip" = some none) (z8 : PySem.W.nsIn K mainGlobals "len" = some none) (z9 : PySem.W.nsIn K mainGlobals "range" = some none) (z10 : PySem.W.nsIn K mainGlobals "sorted" = some none) (z11 : PySem.W.nsIn K mainGlobals "enumerate" = some none) (z12 : PySem.W.nsIn K mainGlobals "max" = some none) :
    ∃ fd : FuncData, (∀ (s : Shared) (v : Value), BindsTo s fd ⟨[v], []⟩ [("_law_script", v)]) ∧ ∀ base : Heap, K.In base → base.Ns mainGlobals mg → FnOk l.prog w K mg base CX0 16 fa fd ["_law_script"] (spLaw K) := by
  have e := hfa.symm.trans (PySem.W.mg_of X G a61)
  cases e
  have T : Txt mg := ⟨PySem.W.mg_none_of X G z0, PySem.W.mg_none_of X G z1, PySem.W.mg_none_of X G z2, PySem.W.mg_none_of X G z3, PySem.W.mg_none_of X G z4, PySem.W.mg_none_of X G z5, PySem.W.mg_none_of X G z6, PySem.W.mg_none_of X G z7, PySem.W.mg_none_of X G z8, PySem.W.mg_none_of X G z9⟩
  have hso := PySem.W.mg_none_of X G z10
  have hen := PySem.W.mg_none_of X G z11
  have hmx := PySem.W.mg_none_of X G z12
  have F0 := fun_mk (st := sWhole) l0 c0 k0
  have m0 := PySem.W.mg_of X G a0
  have b0 := F0.binds (ps := ["thing"]) fun _ _ _ _ _ _ us hl => match us, hl with | [_], _ => rfl
  have F1 := fun_mk (st := s_is_truth) l1 c1 k1
  have m1 := PySem.W.mg_of X G a1
  have b1 := F1.binds (ps := ["thing"]) fun _ _ _ _ _ _ us hl => match us, hl with | [_], _ => rfl
  have F2 := fun_mk (st := s_is_from_nought) l2 c2 k2
  have m2 := PySem.W.mg_of X G a2
  have b2 := F2.binds (ps := ["thing"]) fun _ _ _ _ _ _ us hl => match us, hl with | [_], _ => rfl
  have F3 := fun_mk (st := s_is_from_one) l3 c3 k3
  have m3 := PySem.W.mg_of X G a3
  have b3 := F3.binds (ps := ["thing"]) fun _ _ _ _ _ _ us hl => match us, hl with | [_], _ => rfl
  have F4 := fun_mk (st := sKeeper) l4 c4 k4
  have m4 := PySem.W.mg_of X G a4
  have b4 := F4.binds (ps := ["thing"]) fun _ _ _ _ _ _ us hl => match us, hl with | [_], _ => rfl
  have F5 := fun_mk (st := s_is_head) l5 c5 k5
  have m5 := PySem.W.mg_of X G a5
  have b5 := F5.binds (ps := ["thing"]) fun _ _ _ _ _ _ us hl => match us, hl with | [_], _ => rfl
  have F6 := fun_mk (st := sName) l6 c6 k6
  have m6 := PySem.W.mg_of X G a6
  have b6 := F6.binds (ps := ["thing"]) fun _ _ _ _ _ _ us hl => match us, hl with | [_], _ => rfl
  have F7 := fun_mk (st := sRising) l7 c7 k7
  have m7 := PySem.W.mg_of X G a7
  have b7 := F7.binds (ps := ["parts"]) fun _ _ _ _ _ _ us hl => match us, hl with | [_], _ => rfl
  have F8 := fun_mk (st := sRow) l8 c8 k8
  have m8 := PySem.W.mg_of X G a8
  have b8 := F8.binds (ps := ["thing", "teller"]) fun _ _ _ _ _ _ us hl => match us, hl with | [_, _], _ => rfl
  have F9 := fun_mk (st := s_fits) l9 c9 k9
  have m9 := PySem.W.mg_of X G a9
  have b9 := F9.binds (ps := ["thing", "tellers"]) fun _ _ _ _ _ _ us hl => match us, hl with | [_, _], _ => rfl
  have F10 := fun_mk (st := s_first_word) l10 c10 k10
  have m10 := PySem.W.mg_of X G a10
  have b10 := F10.binds (ps := ["thing"]) fun _ _ _ _ _ _ us hl => match us, hl with | [_], _ => rfl
  have F11 := fun_mk (st := s_fits_behind_word) l11 c11 k11
  have m11 := PySem.W.mg_of X G a11
  have b11 := F11.binds (ps := ["thing", "tellers"]) fun _ _ _ _ _ _ us hl => match us, hl with | [_, _], _ => rfl
  have F12 := fun_mk (st := s_is_deed) l12 c12 k12
  have m12 := PySem.W.mg_of X G a12
  have b12 := F12.binds (ps := ["thing"]) fun _ _ _ _ _ _ us hl => match us, hl with | [_], _ => rfl
  have F13 := fun_mk (st := sSeats) l13 c13 k13
  have m13 := PySem.W.mg_of X G a13
  have b13 := F13.binds (ps := ["thing"]) fun _ _ _ _ _ _ us hl => match us, hl with | [_], _ => rfl
  have F14 := fun_mk (st := s_is_what) l14 c14 k14
  have m14 := PySem.W.mg_of X G a14
  have b14 := F14.binds (ps := ["thing"]) fun _ _ _ _ _ _ us hl => match us, hl with | [_], _ => rfl
  have F15 := fun_mk (st := s_is_entry) l15 c15 k15
  have m15 := PySem.W.mg_of X G a15
  have b15 := F15.binds (ps := ["thing"]) fun _ _ _ _ _ _ us hl => match us, hl with | [_], _ => rfl
  have F16 := fun_mk (st := s_is_entries) l16 c16 k16
  have m16 := PySem.W.mg_of X G a16
  have b16 := F16.binds (ps := ["thing"]) fun _ _ _ _ _ _ us hl => match us, hl with | [_], _ => rfl
  have F17 := fun_mk (st := s_is_name_pair) l17 c17 k17
  have m17 := PySem.W.mg_of X G a17
  have b17 := F17.binds (ps := ["thing"]) fun _ _ _ _ _ _ us hl => match us, hl with | [_], _ => rfl
  have F18 := fun_mk (st := s_is_caller_triple) l18 c18 k18
  have m18 := PySem.W.mg_of X G a18
  have b18 := F18.binds (ps := ["thing"]) fun _ _ _ _ _ _ us hl => match us, hl with | [_], _ => rfl
  have F19 := fun_mk (st := s_is_by_alphabet) l19 c19 k19
  have m19 := PySem.W.mg_of X G a19
  have b19 := F19.binds (ps := ["thing", "teller"]) fun _ _ _ _ _ _ us hl => match us, hl with | [_, _], _ => rfl
  have F20 := fun_mk (st := s_is_names) l20 c20 k20
  have m20 := PySem.W.mg_of X G a20
  have b20 := F20.binds (ps := ["thing"]) fun _ _ _ _ _ _ us hl => match us, hl with | [_], _ => rfl
  have F21 := fun_mk (st := s_is_callers) l21 c21 k21
  have m21 := PySem.W.mg_of X G a21
  have b21 := F21.binds (ps := ["thing"]) fun _ _ _ _ _ _ us hl => match us, hl with | [_], _ => rfl
  have F22 := fun_mk (st := s_is_store) l22 c22 k22
  have m22 := PySem.W.mg_of X G a22
  have b22 := F22.binds (ps := ["thing"]) fun _ _ _ _ _ _ us hl => match us, hl with | [_], _ => rfl
  have F23 := fun_mk (st := s_is_end) l23 c23 k23
  have m23 := PySem.W.mg_of X G a23
  have b23 := F23.binds (ps := ["place", "last"]) fun _ _ _ _ _ _ us hl => match us, hl with | [_, _], _ => rfl
  have F24 := fun_mk (st := s_is_pack) l24 c24 k24
  have m24 := PySem.W.mg_of X G a24
  have b24 := F24.binds (ps := ["thing"]) fun _ _ _ _ _ _ us hl => match us, hl with | [_], _ => rfl
  have F25 := fun_mk (st := s_is_pack_to_send) l25 c25 k25
  have m25 := PySem.W.mg_of X G a25
  have b25 := F25.binds (ps := ["thing"]) fun _ _ _ _ _ _ us hl => match us, hl with | [_], _ => rfl
  have F26 := fun_mk (st := s_is_letter) l26 c26 k26
  have m26 := PySem.W.mg_of X G a26
  have b26 := F26.binds (ps := ["thing"]) fun _ _ _ _ _ _ us hl => match us, hl with | [_], _ => rfl
  have F27 := fun_mk (st := sCell) l27 c27 k27
  have m27 := PySem.W.mg_of X G a27
  have b27 := F27.binds (ps := ["_law_script", "_law_k"]) fun _ _ _ _ _ _ us hl => match us, hl with | [_, _], _ => rfl
  have F28 := fun_mk (st := sMixed) l28 c28 k28
  have m28 := PySem.W.mg_of X G a28
  have b28 := F28.binds (ps := ["_law_script", "_law_k"]) fun _ _ _ _ _ _ us hl => match us, hl with | [_, _], _ => rfl
  have F29 := fun_mk (st := sNameBy) l29 c29 k29
  have m29 := PySem.W.mg_of X G a29
  have b29 := F29.binds (ps := ["_law_number"]) fun _ _ _ _ _ _ us hl => match us, hl with | [_], _ => rfl
  have F30 := fun_mk (st := s__law_number_by) l30 c30 k30
  have m30 := PySem.W.mg_of X G a30
  have b30 := F30.binds (ps := ["_law_number", "_law_least"]) fun _ _ _ _ _ _ us hl => match us, hl with | [_, _], _ => rfl
  have F31 := fun_mk (st := s__law_value_by) l31 c31 k31
  have m31 := PySem.W.mg_of X G a31
  have b31 := F31.binds (ps := ["_law_number"]) fun _ _ _ _ _ _ us hl => match us, hl with | [_], _ => rfl
  have F32 := fun_mk (st := s__law_deed_by) l32 c32 k32
  have m32 := PySem.W.mg_of X G a32
  have b32 := F32.binds (ps := ["_law_script", "_law_at"]) fun _ _ _ _ _ _ us hl => match us, hl with | [_, _], _ => rfl
  have F33 := fun_mk (st := sSeatsBy) l33 c33 k33
  have m33 := PySem.W.mg_of X G a33
  have b33 := F33.binds (ps := ["_law_number"]) fun _ _ _ _ _ _ us hl => match us, hl with | [_], _ => rfl
  have F34 := fun_mk (st := s__law_what_by) l34 c34 k34
  have m34 := PySem.W.mg_of X G a34
  have b34 := F34.binds (ps := ["_law_script", "_law_at"]) fun _ _ _ _ _ _ us hl => match us, hl with | [_, _], _ => rfl
  have F35 := fun_mk (st := s__law_entry_by) l35 c35 k35
  have m35 := PySem.W.mg_of X G a35
  have b35 := F35.binds (ps := ["_law_script", "_law_at"]) fun _ _ _ _ _ _ us hl => match us, hl with | [_, _], _ => rfl
  have F36 := fun_mk (st := s__law_names_by) l36 c36 k36
  have m36 := PySem.W.mg_of X G a36
  have b36 := F36.binds (ps := ["_law_script", "_law_at"]) fun _ _ _ _ _ _ us hl => match us, hl with | [_, _], _ => rfl
  have F37 := fun_mk (st := s__law_store_by) l37 c37 k37
  have m37 := PySem.W.mg_of X G a37
  have b37 := F37.binds (ps := ["_law_script", "_law_at"]) fun _ _ _ _ _ _ us hl => match us, hl with | [_, _], _ => rfl
  have F38 := fun_mk (st := s__law_stand_by) l38 c38 k38
  have m38 := PySem.W.mg_of X G a38
  have b38 := F38.binds (ps := ["_law_number"]) fun _ _ _ _ _ _ us hl => match us, hl with | [_], _ => rfl
  have F39 := fun_mk (st := s__law_pack_by) l39 c39 k39
  have m39 := PySem.W.mg_of X G a39
  have b39 := F39.binds (ps := ["_law_script", "_law_at"]) fun _ _ _ _ _ _ us hl => match us, hl with | [_, _], _ => rfl
  have F40 := fun_mk (st := s__law_between_by) l40 c40 k40
  have m40 := PySem.W.mg_of X G a40
  have b40 := F40.binds (ps := ["_law_kind_here", "_law_script", "_law_at"]) fun _ _ _ _ _ _ us hl => match us, hl with | [_, _, _], _ => rfl
  have F41 := fun_mk (st := s__law_letter_by) l41 c41 k41
  have m41 := PySem.W.mg_of X G a41
  have b41 := F41.binds (ps := ["_law_script", "_law_at"]) fun _ _ _ _ _ _ us hl => match us, hl with | [_, _], _ => rfl
  have F42 := fun_mk (st := sFrom) l42 c42 k42
  have m42 := PySem.W.mg_of X G a42
  have b42 := F42.binds (ps := ["_law_thing", "_law_least"]) fun _ _ _ _ _ _ us hl => match us, hl with | [_, _], _ => rfl
  have F43 := fun_mk (st := s__law_any) l43 c43 k43
  have m43 := PySem.W.mg_of X G a43
  have b43 := F43.binds (ps := ["_law_thing"]) fun _ _ _ _ _ _ us hl => match us, hl with | [_], _ => rfl
  have F44 := fun_mk (st := s__law_sized) l44 c44 k44
  have m44 := PySem.W.mg_of X G a44
  have b44 := F44.binds (ps := ["_law_thing", "_law_size"]) fun _ _ _ _ _ _ us hl => match us, hl with | [_, _], _ => rfl
  have F45 := fun_mk (st := s__law_keeper) l45 c45 k45
  have m45 := PySem.W.mg_of X G a45
  have b45 := F45.binds (ps := ["_law_thing"]) fun _ _ _ _ _ _ us hl => match us, hl with | [_], _ => rfl
  have F46 := fun_mk (st := sNameL) l46 c46 k46
  have m46 := PySem.W.mg_of X G a46
  have b46 := F46.binds (ps := ["_law_thing"]) fun _ _ _ _ _ _ us hl => match us, hl with | [_], _ => rfl
  have F47 := fun_mk (st := s__law_kind) l47 c47 k47
  have m47 := PySem.W.mg_of X G a47
  have b47 := F47.binds (ps := ["_law_thing"]) fun _ _ _ _ _ _ us hl => match us, hl with | [_], _ => rfl
  have F48 := fun_mk (st := s__law_deed) l48 c48 k48
  have m48 := PySem.W.mg_of X G a48
  have b48 := F48.binds (ps := ["_law_thing"]) fun _ _ _ _ _ _ us hl => match us, hl with | [_], _ => rfl
  have F49 := fun_mk (st := sSeatsL) l49 c49 k49
  have m49 := PySem.W.mg_of X G a49
  have b49 := F49.binds (ps := ["_law_thing"]) fun _ _ _ _ _ _ us hl => match us, hl with | [_], _ => rfl
  have F50 := fun_mk (st := s__law_what) l50 c50 k50
  have m50 := PySem.W.mg_of X G a50
  have b50 := F50.binds (ps := ["_law_thing"]) fun _ _ _ _ _ _ us hl => match us, hl with | [_], _ => rfl
  have F51 := fun_mk (st := s__law_entry) l51 c51 k51
  have m51 := PySem.W.mg_of X G a51
  have b51 := F51.binds (ps := ["_law_thing"]) fun _ _ _ _ _ _ us hl => match us, hl with | [_], _ => rfl
  have F52 := fun_mk (st := s__law_rises) l52 c52 k52
  have m52 := PySem.W.mg_of X G a52
  have b52 := F52.binds (ps := ["_law_thing", "_law_size"]) fun _ _ _ _ _ _ us hl => match us, hl with | [_, _], _ => rfl
  have F53 := fun_mk (st := s__law_store) l53 c53 k53
  have m53 := PySem.W.mg_of X G a53
  have b53 := F53.binds (ps := ["_law_thing"]) fun _ _ _ _ _ _ us hl => match us, hl with | [_], _ => rfl
  have F54 := fun_mk (st := s__law_stand) l54 c54 k54
  have m54 := PySem.W.mg_of X G a54
  have b54 := F54.binds (ps := ["_law_place", "_law_last"]) fun _ _ _ _ _ _ us hl => match us, hl with | [_, _], _ => rfl
  have F55 := fun_mk (st := s__law_pack) l55 c55 k55
  have m55 := PySem.W.mg_of X G a55
  have b55 := F55.binds (ps := ["_law_thing"]) fun _ _ _ _ _ _ us hl => match us, hl with | [_], _ => rfl
  have F56 := fun_mk (st := s__law_between) l56 c56 k56
  have m56 := PySem.W.mg_of X G a56
  have b56 := F56.binds (ps := ["_law_thing"]) fun _ _ _ _ _ _ us hl => match us, hl with | [_], _ => rfl
  have F57 := fun_mk (st := s__law_letter) l57 c57 k57
  have m57 := PySem.W.mg_of X G a57
  have b57 := F57.binds (ps := ["_law_thing"]) fun _ _ _ _ _ _ us hl => match us, hl with | [_], _ => rfl
  have F58 := fun_mk (st := sOdd) l58 c58 k58
  have m58 := PySem.W.mg_of X G a58
  have b58 := F58.binds (ps := ["_law_part", "_law_number"]) fun _ _ _ _ _ _ us hl => match us, hl with | [_, _], _ => rfl
  have F59 := fun_mk (st := sSpoilt) l59 c59 k59
  have m59 := PySem.W.mg_of X G a59
  have b59 := F59.binds (ps := ["_law_thing", "_law_number", "_law_deep"]) fun _ _ _ _ _ _ us hl => match us, hl with | [_, _, _], _ => rfl
  have F60 := fun_mk (st := s__law_near_by) l60 c60 k60
  have m60 := PySem.W.mg_of X G a60
  have b60 := F60.binds (ps := ["_law_thing", "_law_script", "_law_number"]) fun _ _ _ _ _ _ us hl => match us, hl with | [_, _, _], _ => rfl
  have F61 := fun_mk (st := sLaw) l61 c61 k61
  have m61 := PySem.W.mg_of X G a61
  have b61 := F61.binds (ps := ["_law_script"]) fun _ _ _ _ _ _ us hl => match us, hl with | [_], _ => rfl
  refine ⟨PySem.W.fnOf "law" "law" (defArgs sLaw) (defBody sLaw) (defScope sLaw) .none kV61 dc61 pm61 an61 cd61 ct61, fun s v => .of_eq rfl, fun base _ _ => ?_⟩
  have CW : Cal l.prog w K mg base "is_whole" 1 ["thing"] (spP whole) := cal F0 m0 b0 (ok_whole F0 T)
  have CF0 : Cal l.prog w K mg base "is_from_nought" 2 ["thing"] (spP (geD 0)) := cal F2 m2 b2 (ok_from_nought F2 T CW)
  have CF1 : Cal l.prog w K mg base "is_from_one" 2 ["thing"] (spP (geD 1)) := cal F3 m3 b3 (ok_from_one F3 T CW)
  have CK : Cal l.prog w K mg base "is_keeper" 2 ["thing"] (spP keeper) := cal F4 m4 b4 (ok_keeper F4 T CW)
  have CN : Cal l.prog w K mg base "is_name" 1 ["thing"] (spP nameP) := cal F6 m6 b6 (ok_name F6 T)
  have CI : Cal l.prog w K mg base "is_rising" 1 ["parts"] (spRise) := cal F7 m7 b7 (ok_rising F7 T)
  have CI2 : Cal l.prog w K mg base "is_rising" 1 ["parts"] (spRiseS) := cal F7 m7 b7 (ok_risingS F7 T)
  have CS : Cal l.prog w K mg base "is_seats" 4 ["thing"] (spP seatsP) := cal F13 m13 b13 (ok_seats F13 T CK (fun g gd hg kp b => cal F8 m8 b8 (ok_row F8 T hg kp b)) CI)
  have CFi1 : Cal l.prog w K mg base "fits" 2 ["thing", "tellers"] (spFits l.prog w K mg base 1) := cal F9 m9 b9 (ok_fits F9 T)
  have CPr : Cal l.prog w K mg base "is_name_pair" 3 ["thing"] (spP pairP) := cal F17 m17 b17 (ok_pair F17 CN CW (by decide) (by decide) CFi1)
  have CFi2 : Cal l.prog w K mg base "fits" 3 ["thing", "tellers"] (spFits l.prog w K mg base 2) := cal F9 m9 b9 (ok_fits F9 T)
  have CTr : Cal l.prog w K mg base "is_caller_triple" 4 ["thing"] (spP tripleP) := cal F18 m18 b18 (ok_triple F18 CN CF1 CW (by decide) (by decide) (by decide) CFi2)
  have CNs : Cal l.prog w K mg base "is_names" 6 ["thing"] (spP namesP) := cal F20 m20 b20 (ok_names F20 CPr (fun g gd hg kp b => cal F19 m19 b19 (ok_alpha F19 pair_inv (cal F8 m8 b8 (ok_row F8 T hg kp b)) CI2)))
  have CCs : Cal l.prog w K mg base "is_callers" 7 ["thing"] (spP callersP) := cal F21 m21 b21 (ok_callers F21 CTr (fun g gd hg kp b => cal F19 m19 b19 (ok_alpha F19 triple_inv (cal F8 m8 b8 (ok_row F8 T hg kp b)) CI2)))
  have CFi7 : Cal l.prog w K mg base "fits" 8 ["thing", "tellers"] (spFits l.prog w K mg base 7) := cal F9 m9 b9 (ok_fits F9 T)
  have CSt : Cal l.prog w K mg base "is_store" 9 ["thing"] (spP storeP) := cal F22 m22 b22 (ok_store F22 CNs CCs (by decide) (by decide) CFi7)
  have CEn : Cal l.prog w K mg base "is_end" 1 ["place", "last"] (spEnd) := cal F23 m23 b23 (ok_end F23)
  have CFi9 : Cal l.prog w K mg base "fits" 10 ["thing", "tellers"] (spFits l.prog w K mg base 9) := cal F9 m9 b9 (ok_fits F9 T)
  have CPk : Cal l.prog w K mg base "is_pack" 11 ["thing"] (spP packP) := cal F24 m24 b24 (ok_pack F24 CF0 CS CSt (by decide) (by decide) (by decide) CFi9 CEn)
  have CTt : Cal l.prog w K mg base "is_truth" 1 ["thing"] (spP truthD) := cal F1 m1 b1 (ok_truth F1 T)
  have CHd : Cal l.prog w K mg base "is_head" 3 ["thing"] (spP headP) := cal F5 m5 b5 (ok_head F5 CK)
  have CFW : Cal l.prog w K mg base "first_word" 1 ["thing"] (spWord) := cal F10 m10 b10 (ok_first_word F10 T)
  have CFb1 : Cal l.prog w K mg base "fits_behind_word" 3 ["thing", "tellers"] (spFbw l.prog w K mg base 1) := cal F11 m11 b11 (ok_fbw F11 T CFi1)
  have TD : TabOk l.prog w K mg base "DEED_TELLERS" 1 (deedT nameP) := ⟨⟨u0, _, _, PySem.W.mg_of X G da0, dl0, ds0, .cons (gs := [V.ref f6, V.ref f0]) (fun H => .inr ⟨_, _, _, dtq0_0, rfl, rfl, tiny (by show 2 ≤ 1000; decide), .cons rfl (.cons rfl (.nil))⟩) (.cons (CN.tl m6 (by decide)) (.cons (CW.tl m0 (by decide)) (.nil))) (.cons (gs := [V.ref f6, V.ref f0]) (fun H => .inr ⟨_, _, _, dtq0_1, rfl, rfl, tiny (by show 2 ≤ 1000; decide), .cons rfl (.cons rfl (.nil))⟩) (.cons (CN.tl m6 (by decide)) (.cons (CW.tl m0 (by decide)) (.nil))) (.cons (gs := [V.ref f6]) (fun H => .inr ⟨_, _, _, dtq0_2, rfl, rfl, tiny (by show 1 ≤ 1000; decide), .cons rfl (.nil)⟩) (.cons (CN.tl m6 (by decide)) (.nil)) (.nil)))⟩, by rfl, fun q hq => by
    simp only [deedT, List.mem_cons, List.not_mem_nil, or_false] at hq
    rcases hq with rfl | rfl | rfl <;> exact Nat.le_of_ble_eq_true rfl⟩
  have CD : Cal l.prog w K mg base "is_deed" 4 ["thing"] (spP deedP) := cal F12 m12 b12 (ok_deed F12 TD CFW CFb1)
  have CFi4 : Cal l.prog w K mg base "fits" 5 ["thing", "tellers"] (spFits l.prog w K mg base 4) := cal F9 m9 b9 (ok_fits F9 T)
  have CFb4 : Cal l.prog w K mg base "fits_behind_word" 6 ["thing", "tellers"] (spFbw l.prog w K mg base 4) := cal F11 m11 b11 (ok_fbw F11 T CFi4)
  have TW : TabOk l.prog w K mg base "WHAT_TELLERS" 4 (whatT) := ⟨⟨u1, _, _, PySem.W.mg_of X G da1, dl1, ds1, .cons (gs := []) (fun H => .inr ⟨_, _, _, dtq1_0, rfl, rfl, tiny (by show 0 ≤ 1000; decide), .nil⟩) (.nil) (.cons (gs := [V.ref f6, V.ref f3, V.ref f12]) (fun H => .inr ⟨_, _, _, dtq1_1, rfl, rfl, tiny (by show 3 ≤ 1000; decide), .cons rfl (.cons rfl (.cons rfl (.nil)))⟩) (.cons (CN.tl m6 (by decide)) (.cons (CF1.tl m3 (by decide)) (.cons (CD.tl m12 (by decide)) (.nil)))) (.cons (gs := [V.ref f13]) (fun H => .inr ⟨_, _, _, dtq1_2, rfl, rfl, tiny (by show 1 ≤ 1000; decide), .cons rfl (.nil)⟩) (.cons (CS.tl m13 (by decide)) (.nil)) (.nil)))⟩, by rfl, fun q hq => by
    simp only [whatT, List.mem_cons, List.not_mem_nil, or_false] at hq
    rcases hq with rfl | rfl | rfl <;> exact Nat.le_of_ble_eq_true rfl⟩
  have CWh : Cal l.prog w K mg base "is_what" 7 ["thing"] (spP whatP) := cal F14 m14 b14 (ok_what F14 TW CFW CFb4)
  have CE : Cal l.prog w K mg base "is_entry" 9 ["thing"] (spP entryP) := cal F15 m15 b15 (ok_entry F15 CF1 CWh (by decide) (by decide) CFi7)
  have CEs : Cal l.prog w K mg base "is_entries" 11 ["thing"] (spP entriesP) := cal F16 m16 b16 (ok_entries F16 T CE (fun g gd hg kp b => cal F8 m8 b8 (ok_row F8 T hg kp b)))
  have CSe : Cal l.prog w K mg base "is_pack_to_send" 12 ["thing"] (spP sendP) := cal F25 m25 b25 (ok_send F25 CPk)
  have CFi12 : Cal l.prog w K mg base "fits" 13 ["thing", "tellers"] (spFits l.prog w K mg base 12) := cal F9 m9 b9 (ok_fits F9 T)
  have CFb12 : Cal l.prog w K mg base "fits_behind_word" 14 ["thing", "tellers"] (spFbw l.prog w K mg base 12) := cal F11 m11 b11 (ok_fbw F11 T CFi12)
  have TL : TabOk l.prog w K mg base "LETTER_TELLERS" 12 (letterT) := ⟨⟨u2, _, _, PySem.W.mg_of X G da2, dl2, ds2, .cons (gs := [V.ref f4, V.ref f4, V.ref f3, V.ref f2, V.ref f2]) (fun H => .inr ⟨_, _, _, dtq2_0, rfl, rfl, tiny (by show 5 ≤ 1000; decide), .cons rfl (.cons rfl (.cons rfl (.cons rfl (.cons rfl (.nil)))))⟩) (.cons (CK.tl m4 (by decide)) (.cons (CK.tl m4 (by decide)) (.cons (CF1.tl m3 (by decide)) (.cons (CF0.tl m2 (by decide)) (.cons (CF0.tl m2 (by decide)) (.nil)))))) (.cons (gs := [V.ref f4, V.ref f4, V.ref f3, V.ref f1]) (fun H => .inr ⟨_, _, _, dtq2_1, rfl, rfl, tiny (by show 4 ≤ 1000; decide), .cons rfl (.cons rfl (.cons rfl (.cons rfl (.nil))))⟩) (.cons (CK.tl m4 (by decide)) (.cons (CK.tl m4 (by decide)) (.cons (CF1.tl m3 (by decide)) (.cons (CTt.tl m1 (by decide)) (.nil))))) (.cons (gs := [V.ref f4, V.ref f4, V.ref f3, V.ref f2, V.ref f2, V.ref f16, V.ref f2]) (fun H => .inr ⟨_, _, _, dtq2_2, rfl, rfl, tiny (by show 7 ≤ 1000; decide), .cons rfl (.cons rfl (.cons rfl (.cons rfl (.cons rfl (.cons rfl (.cons rfl (.nil)))))))⟩) (.cons (CK.tl m4 (by decide)) (.cons (CK.tl m4 (by decide)) (.cons (CF1.tl m3 (by decide)) (.cons (CF0.tl m2 (by decide)) (.cons (CF0.tl m2 (by decide)) (.cons (CEs.tl m16 (by decide)) (.cons (CF0.tl m2 (by decide)) (.nil)))))))) (.cons (gs := [V.ref f4, V.ref f4, V.ref f3, V.ref f25]) (fun H => .inr ⟨_, _, _, dtq2_3, rfl, rfl, tiny (by show 4 ≤ 1000; decide), .cons rfl (.cons rfl (.cons rfl (.cons rfl (.nil))))⟩) (.cons (CK.tl m4 (by decide)) (.cons (CK.tl m4 (by decide)) (.cons (CF1.tl m3 (by decide)) (.cons (CSe.tl m25 (by decide)) (.nil))))) (.cons (gs := [V.ref f4, V.ref f4, V.ref f3, V.ref f1, V.ref f2]) (fun H => .inr ⟨_, _, _, dtq2_4, rfl, rfl, tiny (by show 5 ≤ 1000; decide), .cons rfl (.cons rfl (.cons rfl (.cons rfl (.cons rfl (.nil)))))⟩) (.cons (CK.tl m4 (by decide)) (.cons (CK.tl m4 (by decide)) (.cons (CF1.tl m3 (by decide)) (.cons (CTt.tl m1 (by decide)) (.cons (CF0.tl m2 (by decide)) (.nil)))))) (.cons (gs := [V.ref f6, V.ref f4, V.ref f3, V.ref f12]) (fun H => .inr ⟨_, _, _, dtq2_5, rfl, rfl, tiny (by show 4 ≤ 1000; decide), .cons rfl (.cons rfl (.cons rfl (.cons rfl (.nil))))⟩) (.cons (CN.tl m6 (by decide)) (.cons (CK.tl m4 (by decide)) (.cons (CF1.tl m3 (by decide)) (.cons (CD.tl m12 (by decide)) (.nil))))) (.cons (gs := [V.ref f4, V.ref f6, V.ref f3, V.ref f0]) (fun H => .inr ⟨_, _, _, dtq2_6, rfl, rfl, tiny (by show 4 ≤ 1000; decide), .cons rfl (.cons rfl (.cons rfl (.cons rfl (.nil))))⟩) (.cons (CK.tl m4 (by decide)) (.cons (CN.tl m6 (by decide)) (.cons (CF1.tl m3 (by decide)) (.cons (CW.tl m0 (by decide)) (.nil))))) (.cons (gs := [V.ref f4, V.ref f6, V.ref f3, V.ref f5]) (fun H => .inr ⟨_, _, _, dtq2_7, rfl, rfl, tiny (by show 4 ≤ 1000; decide), .cons rfl (.cons rfl (.cons rfl (.cons rfl (.nil))))⟩) (.cons (CK.tl m4 (by decide)) (.cons (CN.tl m6 (by decide)) (.cons (CF1.tl m3 (by decide)) (.cons (CHd.tl m5 (by decide)) (.nil))))) (.nil))))))))⟩, by rfl, fun q hq => by
    simp only [letterT, List.mem_cons, List.not_mem_nil, or_false] at hq
    rcases hq with rfl | rfl | rfl | rfl | rfl | rfl | rfl | rfl <;> exact Nat.le_of_ble_eq_true rfl⟩
  have CLe : Cal l.prog w K mg base "is_letter" 15 ["thing"] (spP letterP) := cal F26 m26 b26 (ok_letter F26 TL CFW CFb12 CEn)
  have CC : Cal l.prog w K mg base "_law_cell_at" 1 ["_law_script", "_law_k"] (spCell K) := cal F27 m27 b27 (ok_cell F27 T)
  have CM : Cal l.prog w K mg base "_law_mixed" 2 ["_law_script", "_law_k"] (spMixed K) := cal F28 m28 b28 (ok_mixed F28 CC)
  have CNB : Cal l.prog w K mg base "_law_name_by" 1 ["_law_number"] (spNameBy) := cal F29 m29 b29 (ok_name_by F29 T)
  have CSB : Cal l.prog w K mg base "_law_seats_by" 1 ["_law_number"] (spSeatsBy) := cal F33 m33 b33 (ok_seats_by F33 T)
  have CNu : Cal l.prog w K mg base "_law_number_by" 1 ["_law_number", "_law_least"] (spNumBy) := cal F30 m30 b30 (ok_number_by F30)
  have CVa : Cal l.prog w K mg base "_law_value_by" 2 ["_law_number"] (spValBy) := cal F31 m31 b31 (ok_value_by F31 CNu)
  have CNsB : Cal l.prog w K mg base "_law_names_by" 3 ["_law_script", "_law_at"] (spBy K 9000 NamesT) := cal F36 m36 b36 (ok_names_by F36 T hso CM CNB)
  have CStB : Cal l.prog w K mg base "_law_store_by" 4 ["_law_script", "_law_at"] (spBy K 8000 StoreT) := cal F37 m37 b37 (ok_store_by F37 T hen CM CNsB CVa CNu)
  have CSdB : Cal l.prog w K mg base "_law_stand_by" 2 ["_law_number"] (spStandBy) := cal F38 m38 b38 (ok_stand_by F38 CNu)
  have CPkB : Cal l.prog w K mg base "_law_pack_by" 5 ["_law_script", "_law_at"] (spBy K 7000 PackT) := cal F39 m39 b39 (ok_pack_by F39 CM CSdB CSB CStB)
  have CDB : Cal l.prog w K mg base "_law_deed_by" 3 ["_law_script", "_law_at"] (spBy K 900 (ThN 16)) := cal F32 m32 b32 (ok_deed_by F32 CM CNB CVa)
  have CWB : Cal l.prog w K mg base "_law_what_by" 4 ["_law_script", "_law_at"] (spBy K 890 (ThN 16)) := cal F34 m34 b34 (ok_what_by F34 CM CNB CSB CNu CDB)
  have CEB : Cal l.prog w K mg base "_law_entry_by" 5 ["_law_script", "_law_at"] (spBy K 880 (PairT 16)) := cal F35 m35 b35 (ok_entry_by F35 CM CNu CWB)
  have CBB : Cal l.prog w K mg base "_law_between_by" 6 ["_law_kind_here", "_law_script", "_law_at"] (spBtwBy K) := cal F40 m40 b40 (ok_between_by F40 T hmx CM CNu CSdB CPkB CEB)
  have CLB : Cal l.prog w K mg base "_law_letter_by" 7 ["_law_script", "_law_at"] (spBy K 800 LetT) := cal F41 m41 b41 (ok_letter_by F41 CM CNu CNB CVa CDB CBB)
  have CF : Cal l.prog w K mg base "_law_from" 1 ["_law_thing", "_law_least"] (spFrom) := cal F42 m42 b42 (ok_from F42 T)
  have CNL : Cal l.prog w K mg base "_law_name" 1 ["_law_thing"] (spP nameL) := cal F46 m46 b46 (ok_nameL F46 T)
  have CSL : Cal l.prog w K mg base "_law_seats" 2 ["_law_thing"] (spP seatsL) := cal F49 m49 b49 (ok_seatsL F49 T CF)
  have CA : Cal l.prog w K mg base "_law_any" 1 ["_law_thing"] (spP whole) := cal F43 m43 b43 (ok_any F43 T)
  have CZ : Cal l.prog w K mg base "_law_sized" 1 ["_law_thing", "_law_size"] (spSized) := cal F44 m44 b44 (ok_sized F44 T)
  have CRs : Cal l.prog w K mg base "_law_rises" 2 ["_law_thing", "_law_size"] (spRises) := cal F52 m52 b52 (ok_rises F52 T CF CA CZ CNL)
  have CStL : Cal l.prog w K mg base "_law_store" 3 ["_law_thing"] (spP storeL) := cal F53 m53 b53 (ok_storeL F53 CZ CRs)
  have CSdL : Cal l.prog w K mg base "_law_stand" 2 ["_law_place", "_law_last"] (spStand) := cal F54 m54 b54 (ok_standL F54 CF)
  have CPkL : Cal l.prog w K mg base "_law_pack" 4 ["_law_thing"] (spP packL) := cal F55 m55 b55 (ok_packL F55 CZ CSdL CSL CStL)
  have CKi : Cal l.prog w K mg base "_law_kind" 1 ["_law_thing"] (spWord) := cal F47 m47 b47 (ok_kind F47 T)
  have CDL : Cal l.prog w K mg base "_law_deed" 2 ["_law_thing"] (spP deedL) := cal F48 m48 b48 (ok_deedL F48 T CKi CNL CA)
  have CWL : Cal l.prog w K mg base "_law_what" 3 ["_law_thing"] (spP whatL) := cal F50 m50 b50 (ok_whatL F50 T CKi CNL CF CDL CSL)
  have CEL : Cal l.prog w K mg base "_law_entry" 4 ["_law_thing"] (spP entryL) := cal F51 m51 b51 (ok_entryL F51 CZ CF CWL)
  have CKL : Cal l.prog w K mg base "_law_keeper" 2 ["_law_thing"] (spP keeper) := cal F45 m45 b45 (ok_keeperL F45 CF)
  have CBt : Cal l.prog w K mg base "_law_between" 5 ["_law_thing"] (spBtw) := cal F56 m56 b56 (ok_between F56 T CKi CF CKL CSdL CPkL CEL)
  have CLL : Cal l.prog w K mg base "_law_letter" 6 ["_law_thing"] (spP letterL) := cal F57 m57 b57 (ok_letterL F57 T CKi CBt CF CKL CNL CA CDL)
  have CO : Cal l.prog w K mg base "_law_odd_by" 1 ["_law_part", "_law_number"] (spOdd) := cal F58 m58 b58 (ok_odd F58 T)
  have P0 : Cal l.prog w K mg base "_law_spoilt" 2 ["_law_thing", "_law_number", "_law_deep"] (spSpoilt 0) := cal F59 m59 b59 (ok_spoilt0 F59 T CO)
  have P1 : Cal l.prog w K mg base "_law_spoilt" 3 ["_law_thing", "_law_number", "_law_deep"] (spSpoilt 1) := cal F59 m59 b59 (ok_spoilt F59 T (by decide) CO P0)
  have P2 : Cal l.prog w K mg base "_law_spoilt" 4 ["_law_thing", "_law_number", "_law_deep"] (spSpoilt 2) := cal F59 m59 b59 (ok_spoilt F59 T (by decide) CO P1)
  have P3 : Cal l.prog w K mg base "_law_spoilt" 5 ["_law_thing", "_law_number", "_law_deep"] (spSpoilt 3) := cal F59 m59 b59 (ok_spoilt F59 T (by decide) CO P2)
  have P4 : Cal l.prog w K mg base "_law_spoilt" 6 ["_law_thing", "_law_number", "_law_deep"] (spSpoilt 4) := cal F59 m59 b59 (ok_spoilt F59 T (by decide) CO P3)
  have P5 : Cal l.prog w K mg base "_law_spoilt" 7 ["_law_thing", "_law_number", "_law_deep"] (spSpoilt 5) := cal F59 m59 b59 (ok_spoilt F59 T (by decide) CO P4)
  have P6 : Cal l.prog w K mg base "_law_spoilt" 8 ["_law_thing", "_law_number", "_law_deep"] (spSpoilt 6) := cal F59 m59 b59 (ok_spoilt F59 T (by decide) CO P5)
  have CNe : Cal l.prog w K mg base "_law_near_by" 6 ["_law_thing", "_law_script", "_law_number"] (spNear4 K) := cal F60 m60 b60 (ok_near F60 T CPkB CEB)
  exact ok_law F61 T CM CLB CNe P6 (by decide) CLe CLL
theorem walk {l : PySem.W.OpenLaw} {q : Program} {loose : List Str} {XP : (Str → Option Value) → Heap → Prop} {YP : World → Heap → Prop} {d : DefRec} {K : Params → PySem.W.Frag} (hn : l.most = some 63) (hdf : d.params.defaults = [])
    (hY : ∀ (w : World) (h : Heap), YP w h → (K w.params).In h)
    (F : ∀ (w : World) (mg : Str → Option Value) (fa : Addr) (h : Heap), (K w.params).In h → h.Ns mainGlobals mg → mg d.name = some (.ref fa) →
      ∃ fd : FuncData, (∀ (s : Shared) (u : Value), BindsTo s fd ⟨[u], []⟩ [("_law_script", u)]) ∧ ∀ base : Heap, (K w.params).In base → base.Ns mainGlobals mg → FnOk l.prog w (K w.params) mg base CX0 16 fa fd ["_law_script"] (spLaw (K w.params))) :
    PySem.W.WalkO q loose XP YP l.row.toRowW d [] (fun f vs => PySem.call f vs) :=
  L2.walk_of (n := 63) (k := 16) (x := "_law_script") (CX := fun _ => CX0) (sp := fun w => spLaw (K w.params)) hn (by decide) hdf ⟨rfl, by decide, by decide⟩ hY F (fun _ _ a ns hl _ hS => ⟨a, ns, rfl, hS, hl, fun _ => rfl⟩) fun _ _ _ _ _ z => z
end K1
def PySem.W.Fast.tw3142557105122102595 : Unit := ()
def PySem.W.Fast.tw5843795184593805426 : Unit := ()
def PySem.W.Fast.tw12713959318718286710 : Unit := ()
def PySem.W.Fast.tw8242807471014738880 : Unit := ()
def PySem.W.Fast.tw13278210349808885770 : Unit := ()
def PySem.W.Fast.tw11948401536323548551 : Unit := ()
def PySem.W.Fast.tw4906011115755362828 : Unit := ()
def PySem.W.Fast.tw16932672834506774875 : Unit := ()
def PySem.W.Fast.tw7446735379813709960 : Unit := ()
def PySem.W.Fast.tw10074068632926650773 : Unit := ()
def PySem.W.Fast.tw14315826689209229769 : Unit := ()
def PySem.W.Fast.tw14357340968459438367 : Unit := ()
def PySem.W.Fast.tw3924852690292555202 : Unit := ()
def PySem.W.Fast.tw14333062534419233127 : Unit := ()
def PySem.W.Fast.tw2872700651656857998 : Unit := ()
def PySem.W.Fast.tw5526570662300563427 : Unit := ()
def PySem.W.Fast.tw5732048774872845929 : Unit := ()
def PySem.W.Fast.tw9454014774847825745 : Unit := ()
def PySem.W.Fast.tw5701880554734123031 : Unit := ()
def PySem.W.Fast.tw17319119188757515126 : Unit := ()
open PySem PySem.W PyProof.Rows
set_option maxRecDepth 100000 in
set_option maxHeartbeats 0 in
theorem PySem.Challenge.cw_keeplog_k04_letters_holds : PySem.Challenge.rw_keeplog_k04_letters.Holds := by
  w_on; o_law; k_head; (case hw => w_witness2)
  k_fill
  refine K1.walk (l := PySem.Challenge.rw_keeplog_k04_letters) rfl rfl (fun w h Y => PySem.W.kIn_of Y) ?F
  case F =>
    intro w mg fa h KX G hmg
    refine' K1.all_mk KX G hmg ?a0 ?l0 ?c0 ?k0 ?a1 ?l1 ?c1 ?k1 ?a2 ?l2 ?c2 ?k2 ?a3 ?l3 ?c3 ?k3 ?a4 ?l4 ?c4 ?k4 ?a5 ?l5 ?c5 ?k5 ?a6 ?l6 ?c6 ?k6 ?a7 ?l7 ?c7 ?k7 ?a8 ?l8 ?c8 ?k8 ?a9 ?l9 ?c9 ?k9 ?a10 ?l10 ?c10 ?k10 ?a11 ?l11 ?c11 ?k11 ?a12 ?l12 ?c12 ?k12 ?a13 ?l13 ?c13 ?k13 ?a14 ?l14 ?c14 ?k14 ?a15 ?l15 ?c15 ?k15 ?a16 ?l16 ?c16 ?k16 ?a17 ?l17 ?c17 ?k17 ?a18 ?l18 ?c18 ?k18 ?a19 ?l19 ?c19 ?k19 ?a20 ?l20 ?c20 ?k20 ?a21 ?l21 ?c21 ?k21 ?a22 ?l22 ?c22 ?k22 ?a23 ?l23 ?c23 ?k23 ?a24 ?l24 ?c24 ?k24 ?a25 ?l25 ?c25 ?k25 ?a26 ?l26 ?c26 ?k26 ?a27 ?l27 ?c27 ?k27 ?a28 ?l28 ?c28 ?k28 ?a29 ?l29 ?c29 ?k29 ?a30 ?l30 ?c30 ?k30 ?a31 ?l31 ?c31 ?k31 ?a32 ?l32 ?c32 ?k32 ?a33 ?l33 ?c33 ?k33 ?a34 ?l34 ?c34 ?k34 ?a35 ?l35 ?c35 ?k35 ?a36 ?l36 ?c36 ?k36 ?a37 ?l37 ?c37 ?k37 ?a38 ?l38 ?c38 ?k38 ?a39 ?l39 ?c39 ?k39 ?a40 ?l40 ?c40 ?k40 ?a41 ?l41 ?c41 ?k41 ?a42 ?l42 ?c42 ?k42 ?a43 ?l43 ?c43 ?k43 ?a44 ?l44 ?c44 ?k44 ?a45 ?l45 ?c45 ?k45 ?a46 ?l46 ?c46 ?k46 ?a47 ?l47 ?c47 ?k47 ?a48 ?l48 ?c48 ?k48 ?a49 ?l49 ?c49 ?k49 ?a50 ?l50 ?c50 ?k50 ?a51 ?l51 ?c51 ?k51 ?a52 ?l52 ?c52 ?k52 ?a53 ?l53 ?c53 ?k53 ?a54 ?l54 ?c54 ?k54 ?a55 ?l55 ?c55 ?k55 ?a56 ?l56 ?c56 ?k56 ?a57 ?l57 ?c57 ?k57 ?a58 ?l58 ?c58 ?k58 ?a59 ?l59 ?c59 ?k59 ?a60 ?l60 ?c60 ?k60 ?a61 ?l61 ?c61 ?k61 ?da0 ?dl0 ?ds0 ?dtq0_0 ?dtq0_1 ?dtq0_2 ?da1 ?dl1 ?ds1 ?dtq1_0 ?dtq1_1 ?dtq1_2 ?da2 ?dl2 ?ds2 ?dtq2_0 ?dtq2_1 ?dtq2_2 ?dtq2_3 ?dtq2_4 ?dtq2_5 ?dtq2_6 ?dtq2_7 ?z0 ?z1 ?z2 ?z3 ?z4 ?z5 ?z6 ?z7 ?z8 ?z9 ?z10 ?z11 ?z12
    (case a0 => k_is)
    (case l0 => k_is)
    (case c0 => k_is)
    (case k0 => k_is)
    (case a1 => k_is)
    (case l1 => k_is)
    (case c1 => k_is)
    (case k1 => k_is)
    (case a2 => k_is)
    (case l2 => k_is)
    (case c2 => k_is)
    (case k2 => k_is)
    (case a3 => k_is)
    (case l3 => k_is)
    (case c3 => k_is)
    (case k3 => k_is)
    (case a4 => k_is)
    (case l4 => k_is)
    (case c4 => k_is)
    (case k4 => k_is)
    (case a5 => k_is)
    (case l5 => k_is)
    (case c5 => k_is)
    (case k5 => k_is)
    (case a6 => k_is)
    (case l6 => k_is)
    (case c6 => k_is)
    (case k6 => k_is)
    (case a7 => k_is)
    (case l7 => k_is)
    (case c7 => k_is)
    (case k7 => k_is)
    (case a8 => k_is)
    (case l8 => k_is)
    (case c8 => k_is)
    (case k8 => k_is)
    (case a9 => k_is)
    (case l9 => k_is)
    (case c9 => k_is)
    (case k9 => k_is)
    (case a10 => k_is)
    (case l10 => k_is)
    (case c10 => k_is)
    (case k10 => k_is)
    (case a11 => k_is)
    (case l11 => k_is)
    (case c11 => k_is)
    (case k11 => k_is)
    (case a12 => k_is)
    (case l12 => k_is)
    (case c12 => k_is)
    (case k12 => k_is)
    (case a13 => k_is)
    (case l13 => k_is)
    (case c13 => k_is)
    (case k13 => k_is)
    (case a14 => k_is)
    (case l14 => k_is)
    (case c14 => k_is)
    (case k14 => k_is)
    (case a15 => k_is)
    (case l15 => k_is)
    (case c15 => k_is)
    (case k15 => k_is)
    (case a16 => k_is)
    (case l16 => k_is)
    (case c16 => k_is)
    (case k16 => k_is)
    (case a17 => k_is)
    (case l17 => k_is)
    (case c17 => k_is)
    (case k17 => k_is)
    (case a18 => k_is)
    (case l18 => k_is)
    (case c18 => k_is)
    (case k18 => k_is)
    (case a19 => k_is)
    (case l19 => k_is)
    (case c19 => k_is)
    (case k19 => k_is)
    (case a20 => k_is)
    (case l20 => k_is)
    (case c20 => k_is)
    (case k20 => k_is)
    (case a21 => k_is)
    (case l21 => k_is)
    (case c21 => k_is)
    (case k21 => k_is)
    (case a22 => k_is)
    (case l22 => k_is)
    (case c22 => k_is)
    (case k22 => k_is)
    (case a23 => k_is)
    (case l23 => k_is)
    (case c23 => k_is)
    (case k23 => k_is)
    (case a24 => k_is)
    (case l24 => k_is)
    (case c24 => k_is)
    (case k24 => k_is)
    (case a25 => k_is)
    (case l25 => k_is)
    (case c25 => k_is)
    (case k25 => k_is)
    (case a26 => k_is)
    (case l26 => k_is)
    (case c26 => k_is)
    (case k26 => k_is)
    (case a27 => k_is)
    (case l27 => k_is)
    (case c27 => k_is)
    (case k27 => k_is)
    (case a28 => k_is)
    (case l28 => k_is)
    (case c28 => k_is)
    (case k28 => k_is)
    (case a29 => k_is)
    (case l29 => k_is)
    (case c29 => k_is)
    (case k29 => k_is)
    (case a30 => k_is)
    (case l30 => k_is)
    (case c30 => k_is)
    (case k30 => k_is)
    (case a31 => k_is)
    (case l31 => k_is)
    (case c31 => k_is)
    (case k31 => k_is)
    (case a32 => k_is)
    (case l32 => k_is)
    (case c32 => k_is)
    (case k32 => k_is)
    (case a33 => k_is)
    (case l33 => k_is)
    (case c33 => k_is)
    (case k33 => k_is)
    (case a34 => k_is)
    (case l34 => k_is)
    (case c34 => k_is)
    (case k34 => k_is)
    (case a35 => k_is)
    (case l35 => k_is)
    (case c35 => k_is)
    (case k35 => k_is)
    (case a36 => k_is)
    (case l36 => k_is)
    (case c36 => k_is)
    (case k36 => k_is)
    (case a37 => k_is)
    (case l37 => k_is)
    (case c37 => k_is)
    (case k37 => k_is)
    (case a38 => k_is)
    (case l38 => k_is)
    (case c38 => k_is)
    (case k38 => k_is)
    (case a39 => k_is)
    (case l39 => k_is)
    (case c39 => k_is)
    (case k39 => k_is)
    (case a40 => k_is)
    (case l40 => k_is)
    (case c40 => k_is)
    (case k40 => k_is)
    (case a41 => k_is)
    (case l41 => k_is)
    (case c41 => k_is)
    (case k41 => k_is)
    (case a42 => k_is)
    (case l42 => k_is)
    (case c42 => k_is)
    (case k42 => k_is)
    (case a43 => k_is)
    (case l43 => k_is)
    (case c43 => k_is)
    (case k43 => k_is)
    (case a44 => k_is)
    (case l44 => k_is)
    (case c44 => k_is)
    (case k44 => k_is)
    (case a45 => k_is)
    (case l45 => k_is)
    (case c45 => k_is)
    (case k45 => k_is)
    (case a46 => k_is)
    (case l46 => k_is)
    (case c46 => k_is)
    (case k46 => k_is)
    (case a47 => k_is)
    (case l47 => k_is)
    (case c47 => k_is)
    (case k47 => k_is)
    (case a48 => k_is)
    (case l48 => k_is)
    (case c48 => k_is)
    (case k48 => k_is)
    (case a49 => k_is)
    (case l49 => k_is)
    (case c49 => k_is)
    (case k49 => k_is)
    (case a50 => k_is)
    (case l50 => k_is)
    (case c50 => k_is)
    (case k50 => k_is)
    (case a51 => k_is)
    (case l51 => k_is)
    (case c51 => k_is)
    (case k51 => k_is)
    (case a52 => k_is)
    (case l52 => k_is)
    (case c52 => k_is)
    (case k52 => k_is)
    (case a53 => k_is)
    (case l53 => k_is)
    (case c53 => k_is)
    (case k53 => k_is)
    (case a54 => k_is)
    (case l54 => k_is)
    (case c54 => k_is)
    (case k54 => k_is)
    (case a55 => k_is)
    (case l55 => k_is)
    (case c55 => k_is)
    (case k55 => k_is)
    (case a56 => k_is)
    (case l56 => k_is)
    (case c56 => k_is)
    (case k56 => k_is)
    (case a57 => k_is)
    (case l57 => k_is)
    (case c57 => k_is)
    (case k57 => k_is)
    (case a58 => k_is)
    (case l58 => k_is)
    (case c58 => k_is)
    (case k58 => k_is)
    (case a59 => k_is)
    (case l59 => k_is)
    (case c59 => k_is)
    (case k59 => k_is)
    (case a60 => k_is)
    (case l60 => k_is)
    (case c60 => k_is)
    (case k60 => k_is)
    (case a61 => k_is)
    (case l61 => k_is)
    (case c61 => k_is)
    (case k61 => k_is)
    (case da0 => k_is)
    (case dl0 => k_is)
    (case ds0 => rfl)
    (case dtq0_0 => k_is)
    (case dtq0_1 => k_is)
    (case dtq0_2 => k_is)
    (case da1 => k_is)
    (case dl1 => k_is)
    (case ds1 => rfl)
    (case dtq1_0 => k_is)
    (case dtq1_1 => k_is)
    (case dtq1_2 => k_is)
    (case da2 => k_is)
    (case dl2 => k_is)
    (case ds2 => rfl)
    (case dtq2_0 => k_is)
    (case dtq2_1 => k_is)
    (case dtq2_2 => k_is)
    (case dtq2_3 => k_is)
    (case dtq2_4 => k_is)
    (case dtq2_5 => k_is)
    (case dtq2_6 => k_is)
    (case dtq2_7 => k_is)
    (case z0 => k_is)
    (case z1 => k_is)
    (case z2 => k_is)
    (case z3 => k_is)
    (case z4 => k_is)
    (case z5 => k_is)
    (case z6 => k_is)
    (case z7 => k_is)
    (case z8 => k_is)
    (case z9 => k_is)
    (case z10 => k_is)
    (case z11 => k_is)
    (case z12 => k_is)
