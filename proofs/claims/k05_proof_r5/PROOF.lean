import PyProof.Rows.All
import Wide.All
import OpenK.AllK
import Wide.FinOn
import Lean
import PyProof.EqAt
import PyProof.EqKinds
import PyProof.TupleCall
import PySem.Challenge.RW_keeplog_k05_written
set_option bootstrap.genMatcherCode false
set_option Elab.async false
set_option linter.all false
set_option maxRecDepth 100000
namespace L2
open PySem PySem.Spec PyProof.Rows
noncomputable abbrev Key := Sum Int Str
noncomputable def z3p : Key → Value → Bool
 | .inl k, v => Value.isInt k v
 | .inr x, v => Value.isStrOf x v
noncomputable def w1x (w : World) : Key → Int
 | .inl k => hashInt k
 | .inr x => hashStr w x
theorem q3b : ∀ {k : Key} {v : Value}, z3p k v = true → (∃ i t, k = Sum.inl i ∧ v = Value.int i t) ∨ (∃ x t, k = Sum.inr x ∧ v = Value.str x t)
 | .inl i, v, h => by
  obtain ⟨t, e⟩ := Value.isInt_shape (k := i) (v := v) h
  exact .inl ⟨i, t, rfl, e⟩
 | .inr x, v, h => by
  obtain ⟨t, e⟩ := Value.isStrOf_shape (x := x) (v := v) h
  exact .inr ⟨x, t, rfl, e⟩
theorem z7o (i : Int) (t : Tok) : z3p (.inl i) (.int i t) = true := by simp [z3p, Value.isInt]
theorem z5x (x : Str) (t : Tok) : z3p (.inr x) (.str x t) = true := by simp [z3p, Value.isStrOf]
theorem j6b (a b : Int) : decide ((Sum.inl a : Key) = Sum.inl b) = (a == b) := by
 by_cases e : a = b
 ·subst e; simp
 ·have h : ¬ (Sum.inl a : Key) = Sum.inl b := fun q => e (Sum.inl.inj q)
  rw [decide_eq_false h]
  exact (beq_eq_false_iff_ne.mpr e).symm
theorem j7f (a b : Str) : decide ((Sum.inr a : Key) = Sum.inr b) = decide (a = b) := by
 by_cases e : a = b
 ·subst e; simp
 ·have h : ¬ (Sum.inr a : Key) = Sum.inr b := fun q => e (Sum.inr.inj q)
  rw [decide_eq_false h, decide_eq_false e]
theorem j7b (a : Int) (b : Str) : decide ((Sum.inl a : Key) = Sum.inr b) = false := decide_eq_false (fun q => nomatch q)
theorem j5m (a : Str) (b : Int) : decide ((Sum.inr a : Key) = Sum.inl b) = false := decide_eq_false (fun q => nomatch q)
noncomputable def q4l (prog : Program) (w : World) : PySem.KeyKind prog w Key where
 is := z3p
 hash := w1x w
 inj := fun v a b ha hb => by
  rcases q3b ha with ⟨i, t, rfl, rfl⟩ | ⟨x, t, rfl, rfl⟩
  ·rcases q3b hb with ⟨j, u, rfl, e⟩ | ⟨y, u, rfl, e⟩
   ·injection e with e1 _; rw [e1]
   ·exact nomatch e
  ·rcases q3b hb with ⟨j, u, rfl, e⟩ | ⟨y, u, rfl, e⟩
   ·exact nomatch e
   ·injection e with e1 _; rw [e1]
 byValue := fun k v h => by
  rcases q3b h with ⟨i, t, rfl, rfl⟩ | ⟨x, t, rfl, rfl⟩ <;> rfl
 pyHash := fun hv h => by
  rcases q3b hv with ⟨i, t, rfl, rfl⟩ | ⟨x, t, rfl, rfl⟩
  ·exact wpAny_pyHash_int h
  ·exact wpAny_pyHash_str h
 eqBool := fun hu hv h => by
  rcases q3b hu with ⟨i, t, rfl, rfl⟩ | ⟨x, t, rfl, rfl⟩
  ·rcases q3b hv with ⟨j, u, rfl, rfl⟩ | ⟨y, u, rfl, rfl⟩
   ·rw [j6b] at h; exact wpAny_eqBool_int h
   ·rw [j7b] at h; exact SeqAt.EqAt.int_str i t y u _ _ _ _ h
  ·rcases q3b hv with ⟨j, u, rfl, rfl⟩ | ⟨y, u, rfl, rfl⟩
   ·rw [j5m] at h; exact SeqAt.EqAt.str_int x t j u _ _ _ _ h
   ·rw [j7f] at h; exact wpAny_eqBool_str h
 «strs» := fun k x t v h => by
  rcases q3b h with ⟨i, u, rfl, e⟩ | ⟨y, u, rfl, e⟩
  ·exact nomatch e
  ·injection e with e1 _
   subst e1
   cases v <;> rfl
theorem x9m (prog : Program) (w : World) (i : Int) (t : Tok) : (q4l prog w).is (.inl i) (.int i t) = true := z7o i t
theorem z0m (prog : Program) (w : World) (x : Str) (t : Tok) : (q4l prog w).is (.inr x) (.str x t) = true := z5x x t
inductive V where
 | non | bl (b : Bool) | int (i : Int) | str (x : Str) | byt (b : Array UInt8) | flt (b : UInt64) | ref (a : Addr) | ty (n : String)
 deriving DecidableEq
noncomputable def q4y : V → Value → Prop
 | .non, u => u = Value.none
 | .bl b, u => u = Value.bool b
 | .int i, u => ∃ t, u = Value.int i t
 | .str x, u => ∃ t, u = Value.str x t
 | .byt b, u => ∃ t, u = Value.bytes b t
 | .flt b, u => ∃ t, u = Value.float b t
 | .ref a, u => u = Value.ref a
 | .ty n, u => u = Value.type n
noncomputable abbrev q4b : List V → List Value → Prop := Paired q4y
theorem q4b.length {xs : List V} {us : List Value} (r : q4b xs us) : xs.length = us.length := Paired.length r
theorem q4b.get : ∀ {xs : List V} {us : List Value} {i : Nat} {x : V}, q4b xs us → xs[i]? = some x → ∃ u, us[i]? = some u ∧ q4y x u
 | _, _, _, _, .nil, e => by simp at e
 | _, _, 0, _, .cons r _, e => by simp at e; subst e; exact ⟨_, rfl, r⟩
 | _, _, i + 1, x, .cons _ t, e => by
  obtain ⟨u, h1, h2⟩ := q4b.get (i := i) (x := x) t (by simpa using e)
  exact ⟨u, by simpa using h1, h2⟩
theorem q4b.append : ∀ {xs ys : List V} {us ws : List Value}, q4b xs us → q4b ys ws → q4b (xs ++ ys) (us ++ ws)
 | _, _, _, _, .nil, s => s
 | _, _, _, _, .cons r t, s => .cons r (q4b.append t s)
theorem q4b.take : ∀ {xs : List V} {us : List Value} (n : Nat), q4b xs us → q4b (xs.take n) (us.take n)
 | _, _, 0, _ => .nil
 | _, _, _ + 1, .nil => .nil
 | _, _, n + 1, .cons r t => .cons r (q4b.take n t)
theorem q4b.drop : ∀ {xs : List V} {us : List Value} (n : Nat), q4b xs us → q4b (xs.drop n) (us.drop n)
 | _, _, 0, r => r
 | _, _, _ + 1, .nil => .nil
 | _, _, n + 1, .cons _ t => q4b.drop n t
noncomputable def z9c : Option V → Option Value → Prop
 | some v, some u => q4y v u
 | none, none => True
 | _, _ => False
noncomputable def KV {κ : Type} : List (κ × V) → List (κ × Value) → Prop := Paired fun (p : κ × V) (q : κ × Value) => p.1 = q.1 ∧ q4y p.2 q.2
noncomputable def kV : Key → V
 | .inl i => .int i
 | .inr x => .str x
inductive HO where
 | lst (xs : List V)
 | tup (xs : List V)
 | dK (kvs : List (Key × V)) | dT (kvs : List (List Key × V))
 | set (S : Int → Bool) (n : Nat)
 | ins (C dx : Addr) (fs : List (Str × V))
 | own (x : Addr)
 | xd (fs : List (Str × V))
 | met (f x : Addr)
 | rng (lo hi : Int)
 | frz (o : Obj) (u : HO)
 | tbl (ps : Array Value)
 | ext (φ : Heap → Prop)
noncomputable abbrev Hp := Addr → Option HO
noncomputable def upd (H : Hp) (a : Addr) (o : HO) : Hp := fun b => if b = a then some o else H b
theorem q0e {H : Hp} {a : Addr} {o : HO} : upd H a o a = some o := by unfold upd; rw [if_pos rfl]
theorem q1q {H : Hp} {a b : Addr} {o : HO} (h : b ≠ a) : upd H a o b = H b := by unfold upd; rw [if_neg h]
theorem j2n {H : Hp} {a : Addr} {o u : HO} : upd (upd H a o) a u = upd H a u := by
 funext b; unfold upd; split <;> rfl
theorem q1u {H : Hp} {a b : Addr} {o : HO} (h : H a = some o) (h' : H b = none) : a ≠ b := by
 intro e; subst e; rw [h] at h'; cases h'
section
variable (P : Program) (w : World)
noncomputable def q3x (H : Hp) (h : Heap) (a : Addr) : HO → Prop
 | .lst xs => xs.length ≤ sizeLine ∧ ∃ (its : List Value) (n : Nat), q4b xs its ∧ h.get? a = some { cls := .type "list", data := .seq its.toArray n }
 | .tup xs => xs.length ≤ sizeLine ∧ ∃ its : List Value, q4b xs its ∧ IsTup h a its.toArray
 | .dK kvs => kvs.length ≤ sizeLine ∧ (a == sysModules) = false ∧ ∃ vs, KV kvs vs ∧ h.DictOf (q4l P w) a vs
 | .dT kvs => kvs.length ≤ sizeLine ∧ (a == sysModules) = false ∧ ∃ xs : List (List Key × Addr × Value),
   Paired (fun (p : List Key × V) (q : List Key × Addr × Value) => p.1 = q.1 ∧ H q.2.1 = some (.tup (p.1.map kV)) ∧ q4y p.2 q.2.2) kvs xs ∧
   ∃ o es ep, h.get? a = some o ∧ o.ExactDict ∧ o.data = .dict es ep ∧ es.toList = xs.map (entryOfKey (tupleKind (q4l P w))) ∧ (xs.map (·.1)).Nodup
 | .set S n => h.SetOf (intKind P w) a S n
 | .ins C dx fs => H dx = some (.own a) ∧ fs.length ≤ 1000 ∧ dx ≠ a ∧ h.get? a = some (PySem.W.instObj C dx) ∧
   ∃ mA, h.Ns1 dx mA ∧ (∀ f, z9c (fs.lookup f) (mA f)) ∧ PySem.Within mA (fs.map (·.1))
 | .own _ => ∃ o, h.get? a = some o
 | .xd fs => ∃ mA, h.Ns1 a mA ∧ ∀ f, z9c (fs.lookup f) (mA f)
 | .rng lo hi => ∃ t u v, h.get? a = some { cls := .type "range", data := .fields #[.int lo t, .int hi u, .int 1 v] }
 | .frz o u => h.get? a = some o ∧ q3x H h a u
 | .tbl ps => h.get? a = some { cls := .none, data := .fields ps }
 | .met f x => h.get? a = some (PySem.W.methodObj (.ref f) (.ref x))
 | .ext φ => φ h ∧ (∃ o, h.get? a = some o) ∧ ∀ h1 h2 : Heap, φ h1 → (∀ o, h1.get? a = some o → h2.get? a = some o) → φ h2
noncomputable def HOk (H : Hp) (h : Heap) : Prop := ∀ a o, H a = some o → q3x P w H h a o
end
section
variable {P : Program} {w : World} {H H' : Hp} {h h' : Heap} {a : Addr} {o : HO}
theorem q3x.lt (x : q3x P w H h a o) : a < h.objs.size := by
 cases o with
 | lst xs => obtain ⟨_, _, _, _, e⟩ := x; exact Heap.lt_size e
 | tup xs => obtain ⟨_, _, _, p⟩ := x; exact p.lt
 | dK kvs => obtain ⟨_, _, _, _, o, _, _, e, _⟩ := x; exact Heap.lt_size e
 | dT kvs => obtain ⟨_, _, _, _, o, _, _, e, _⟩ := x; exact Heap.lt_size e
 | set S n => obtain ⟨o, _, _, _, e, _⟩ := x; exact Heap.lt_size e
 | ins C dx fs => obtain ⟨_, _, _, e, _⟩ := x; exact Heap.lt_size e
 | own y => obtain ⟨_, e⟩ := x; exact Heap.lt_size e
 | xd fs => obtain ⟨_, ⟨_, _, _, e, _⟩, _⟩ := x; exact Heap.lt_size e
 | rng lo hi => obtain ⟨_, _, _, e⟩ := x; exact Heap.lt_size e
 | frz ob u => obtain ⟨e, _⟩ := x; exact Heap.lt_size e
 | tbl ps => exact Heap.lt_size (show h.get? a = some _ from x)
 | met f y => exact Heap.lt_size (show h.get? a = some _ from x)
 | ext φ => obtain ⟨_, ⟨_, e⟩, _⟩ := x; exact Heap.lt_size e
theorem Paired.mapP {α β : Type} {F G : α → β → Prop} : ∀ {l₁ : List α} {l₂ : List β}, Paired F l₁ l₂ → (∀ a b, F a b → G a b) → Paired G l₁ l₂
 | _, _, .nil, _ => .nil
 | _, _, .cons r t, f => .cons (f _ _ r) (Paired.mapP t f)
theorem q3x.stay (x : q3x P w H h a o) (k : ∀ b u, (b = a ∨ H b = some (.own a)) → h.get? b = some u → h'.get? b = some u)
  (ho : ∀ b, H b = some (.own a) → H' b = some (.own a)) (ht : ∀ b xs, H b = some (.tup xs) → H' b = some (.tup xs)) : q3x P w H' h' a o := by
 induction o with
 | lst xs => obtain ⟨z, its, n, r, e⟩ := x; exact ⟨z, its, n, r, k _ _ (.inl rfl) e⟩
 | tup xs => obtain ⟨z, its, r, ob, e, c⟩ := x; exact ⟨z, its, r, ob, k _ _ (.inl rfl) e, c⟩
 | dK kvs => obtain ⟨z, y, vs, r, ob, es, ep, e, c⟩ := x; exact ⟨z, y, vs, r, ob, es, ep, k _ _ (.inl rfl) e, c⟩
 | dT kvs =>
  obtain ⟨z, y, xs, r, ob, es, ep, e, c⟩ := x
  exact ⟨z, y, xs, Paired.mapP r fun p q z => ⟨z.1, ht _ _ z.2.1, z.2.2⟩, ob, es, ep, k _ _ (.inl rfl) e, c⟩
 | set S n => obtain ⟨ob, es, ep, t, e, c⟩ := x; exact ⟨ob, es, ep, t, k _ _ (.inl rfl) e, c⟩
 | ins C dx fs =>
  obtain ⟨d, z, ne, e, mA, ⟨od, es, ep, e2, c⟩, r⟩ := x
  exact ⟨ho _ d, z, ne, k _ _ (.inl rfl) e, mA, ⟨od, es, ep, k _ _ (.inr d) e2, c⟩, r⟩
 | own y => obtain ⟨ob, e⟩ := x; exact ⟨ob, k _ _ (.inl rfl) e⟩
 | xd fs => obtain ⟨mA, ⟨od, es, ep, e, c⟩, r⟩ := x; exact ⟨mA, ⟨od, es, ep, k _ _ (.inl rfl) e, c⟩, r⟩
 | rng lo hi => obtain ⟨t, u, v, e⟩ := x; exact ⟨t, u, v, k _ _ (.inl rfl) e⟩
 | frz ob u ih => obtain ⟨e, q⟩ := x; exact ⟨k _ _ (.inl rfl) e, ih q⟩
 | tbl ps =>
  have e : h.get? a = some { cls := .none, data := .fields ps } := x
  show h'.get? a = some { cls := .none, data := .fields ps }
  exact k a _ (.inl rfl) e
 | met f y =>
  have e : h.get? a = some (PySem.W.methodObj (.ref f) (.ref y)) := x
  show h'.get? a = some (PySem.W.methodObj (.ref f) (.ref y))
  exact k a _ (.inl rfl) e
 | ext φ => obtain ⟨p, ⟨o, e⟩, st⟩ := x; exact ⟨st _ _ p fun o q => k _ _ (.inl rfl) q, ⟨o, k _ _ (.inl rfl) e⟩, st⟩
theorem HOk.lt (x : HOk P w H h) (e : H a = some o) : a < h.objs.size := (x a o e).lt
theorem HOk.fresh (x : HOk P w H h) (e : h.objs.size ≤ a) : H a = none := by
 cases q : H a with
 | none => rfl
 | some u => exact absurd (Nat.lt_of_lt_of_le (x.lt q) e) (Nat.lt_irrefl _)
theorem HOk.kept (x : HOk P w H h) (k : ∀ b u, h.get? b = some u → h'.get? b = some u) : HOk P w H h' := fun a o e =>
 (x a o e).stay (fun b u _ q => k b u q) (fun _ q => q) fun _ _ q => q
theorem HOk.laid (x : HOk P w H h) (k : ∀ b u, h.get? b = some u → h'.get? b = some u) (hp : h.objs.size ≤ a) (new : q3x P w (upd H a o) h' a o) : HOk P w (upd H a o) h' := fun b u e => by
 have hn := x.fresh hp
 by_cases hb : b = a
 ·subst hb; rw [q0e] at e; cases e; exact new
 ·rw [q1q hb] at e
  exact (x b u e).stay (fun c v _ q => k c v q) (fun c q => by rw [q1q (q1u q hn)]; exact q) fun c xs q => by rw [q1q (q1u q hn)]; exact q
end
noncomputable def Rd (H : Hp) (a : Addr) (u : HO) : Prop := H a = some u ∨ ∃ o, H a = some (.frz o u)
theorem Rd.ok {P : Program} {w : World} {H : Hp} {h : Heap} {a : Addr} {u : HO} (r : Rd H a u) (x : HOk P w H h) : q3x P w H h a u := by
 rcases r with r | ⟨o, r⟩
 ·exact x a u r
 ·obtain ⟨_, q⟩ := x a _ r
  exact q
noncomputable def Mut : Option HO → Prop
 | some (.lst _) => True
 | some (.dK _) => True
 | some (.dT _) => True
 | some (.set _ _) => True
 | some (.ins _ _ _) => True
 | some (.ext _) => True
 | _ => False
section
variable {P : Program} {w : World} {H : Hp} {h h' : Heap} {x e : Addr} {o' : HO}
theorem HOk.write (ok : HOk P w H h) (mu : Mut (H x)) (he : e = x ∨ H e = some (.own x)) (k : ∀ b u, b ≠ e → h.get? b = some u → h'.get? b = some u) (heo : ∃ u, h'.get? e = some u)
  (new : q3x P w (upd H x o') h' x o') : HOk P w (upd H x o') h' := fun b u q => by
 have nown : ∀ c y, H c = some (.own y) → c ≠ x := fun c y r z => by subst z; rw [r] at mu; exact mu
 have ntup : ∀ c xs, H c = some (.tup xs) → c ≠ x := fun c xs r z => by subst z; rw [r] at mu; exact mu
 by_cases hb : b = x
 ·subst hb; rw [q0e] at q; cases q; exact new
 ·rw [q1q hb] at q
  by_cases hbe : b = e
  ·have q' : H b = some (.own x) := by
    rcases he with z | z
    ·exact absurd (hbe.trans z) hb
    ·rw [hbe]; exact z
   rw [q] at q'; cases q'
   obtain ⟨v, hv⟩ := heo
   exact ⟨v, by rw [hbe]; exact hv⟩
  ·refine (ok b u q).stay (fun c v hc r => k c v ?_ r) (fun c r => by rw [q1q (nown c b r)]; exact r) fun c xs r => by rw [q1q (ntup c xs r)]; exact r
   rcases hc with rfl | hc
   ·exact hbe
   ·rintro rfl
    rcases he with z | z
    ·exact nown c b hc z
    ·rw [hc] at z; cases z; exact hb rfl
end
structure Un (fs ex : List Addr) (H H' : Hp) (h h' : Heap) : Prop where
 keep : ∀ b o, h.get? b = some o → H b = none → b ∉ fs → b ∉ ex → h'.get? b = some o
 slot : ∀ b o, h.get? b = some o → H b = none → b ∈ fs → b ∉ ex → ∃ sl, h'.get? b = some { o with slots := sl }
 free : ∀ b o, h.get? b = some o → H b = none → b ∉ ex → H' b = none
 there : ∀ b o, h.get? b = some o → b ∉ ex → ∃ o', h'.get? b = some o'
 tups : ∀ b xs, H b = some (.tup xs) → H' b = some (.tup xs)
 frzs : ∀ b o u, H b = some (.frz o u) → H' b = some (.frz o u)
 tbls : ∀ b ps, H b = some (.tbl ps) → ∃ more, H' b = some (.tbl (ps ++ more))
section
variable {fs fs' ex ex' : List Addr} {H H1 H2 : Hp} {h h1 h2 h' : Heap} {a x e : Addr} {o : HO}
theorem Un.any (u : Un fs ex H H1 h h1) {b : Addr} {ob : Obj} (q : h.get? b = some ob) (n : H b = none) (hx : b ∉ ex) : ∃ sl, h1.get? b = some { ob with slots := sl } := by
 by_cases hb : b ∈ fs
 ·exact u.slot b ob q n hb hx
 ·exact ⟨ob.slots, u.keep b ob q n hb hx⟩
theorem Un.kept (k : ∀ b u, h.get? b = some u → h'.get? b = some u) : Un fs ex H H h h' :=
 ⟨fun b ob q _ _ _ => k b ob q, fun b ob q _ _ _ => ⟨ob.slots, k b ob q⟩, fun _ _ _ n _ => n, fun b ob q _ => ⟨ob, k b ob q⟩, fun _ _ q => q, fun _ _ _ q => q, fun _ ps q => ⟨#[], by rw [q]; simp⟩⟩
theorem Un.refl : Un fs ex H H h h := Un.kept fun _ _ q => q
theorem Un.laid (k : ∀ b u, h.get? b = some u → h'.get? b = some u) (hp : h.objs.size ≤ a) (hn : H a = none) : Un fs ex H (upd H a o) h h' where
 keep := fun b u q _ _ _ => k b u q
 slot := fun b u q _ _ _ => ⟨u.slots, k b u q⟩
 free := fun b u q n _ => by rw [q1q (Nat.ne_of_lt (Nat.lt_of_lt_of_le (Heap.lt_size q) hp))]; exact n
 there := fun b u q _ => ⟨u, k b u q⟩
 tups := fun b xs q => by rw [q1q (q1u q hn)]; exact q
 frzs := fun b u xs q => by rw [q1q (q1u q hn)]; exact q
 tbls := fun b ps q => ⟨#[], by rw [q1q (q1u q hn), q]; simp⟩
theorem Un.write (mu : Mut (H x)) (he : e = x ∨ H e = some (.own x)) (k : ∀ b u, b ≠ e → h.get? b = some u → h'.get? b = some u) (heo : ∃ u, h'.get? e = some u) : Un fs ex H (upd H x o) h h' := by
 have hx : ∀ b, H b = none → b ≠ x := fun b n z => by subst z; rw [n] at mu; exact mu
 have hb : ∀ b, H b = none → b ≠ e := fun b n z => by
  subst z
  rcases he with r | r
  ·exact hx b n r
  ·rw [n] at r; cases r
 have hm : ∀ b u, H b = some u → ¬ Mut (some u) → b ≠ x := fun b u q nm z => by subst z; rw [q] at mu; exact nm mu
 refine ⟨fun b u q n _ _ => k b u (hb b n) q, fun b u q n _ _ => ⟨u.slots, k b u (hb b n) q⟩, fun b u q n _ => by rw [q1q (hx b n)]; exact n, fun b u q _ => ?_,
  fun b xs q => by rw [q1q (hm b _ q fun z => z)]; exact q, fun b u xs q => by rw [q1q (hm b _ q fun z => z)]; exact q, fun b ps q => ⟨#[], by rw [q1q (hm b _ q fun z => z), q]; simp⟩⟩
 by_cases hbe : b = e
 ·subst hbe; exact heo
 ·exact ⟨u, k b u hbe q⟩
end
noncomputable def trk (h : Heap) (H : Hp) : List Addr := (List.range h.objs.size).filter fun a => (H a).isSome
noncomputable def z9j (h : Heap) (H : Hp) : Heap := PySem.W.hideAll h (trk h H)
theorem z7f (h : Heap) (H : Hp) : (z9j h H).objs.size = h.objs.size := PySem.W.hideAll_size _ _
theorem j1e {h : Heap} {H : Hp} {b : Addr} {o : Obj} (e : h.get? b = some o) (n : H b = none) : (z9j h H).get? b = some o :=
 PySem.W.hideAll_get _ e fun hm => by
  have q : (H b).isSome = true := (List.mem_filter.mp hm).2
  rw [n] at q; simp at q
theorem j2o {h : Heap} {H : Hp} {b : Addr} {o : Obj} (e : (z9j h H).get? b = some o) : h.get? b = some o ∧ H b = none := by
 have e' : h.get? b = some o := PySem.W.of_hideAll (trk h H) e
 refine ⟨e', ?_⟩
 cases q : H b with
 | none => rfl
 | some x =>
  have hm : b ∈ trk h H := List.mem_filter.mpr ⟨List.mem_range.mpr (Heap.lt_size e'), by simp [q]⟩
  have z : (z9j h H).get? b = none := PySem.W.hideAll_none (trk h H) hm
  rw [z] at e; cases e
noncomputable def j3e (g h : Heap) (L : Addr) : List (Addr × Obj) := (List.range h.objs.size).filterMap fun a => if a = L ∨ (g.get? a).isSome = true then none else (h.get? a).map fun o => (a, o)
noncomputable def x1e (g h : Heap) (L d : Addr) : List (Addr × Obj) := (j3e g h L).filter fun p => decide (p.1 ≠ d)
structure Mod (K : PySem.W.Frag) (mg : Str → Option Value) (base : Heap) : Prop where
 kin : K.In base
 glob : base.Ns mainGlobals mg
 blt : ∃ mb, base.Ns builtinsNs mb ∧ ∀ x : Str, x ≠ "__name__" → mb x = bootBuiltins x
 nolimit : base.NoLimit
structure Cx where
 prog : Program
 w : World
 K : PySem.W.Frag
 mg : Str → Option Value
 base : Heap
 A : Around
 N : List Str
 s₀ : Shared
 H₀ : Hp
 env : Env
 outer : List Env
 stack : List Env
 ex : List Addr
 fn : Str → Bool
 calm : Bool
 pn : List (Addr × Obj)
 xe : Value → Shared → Prop
noncomputable def frs (l : List Env) : List Addr := l.filterMap (·.frame)
noncomputable abbrev Cx.fs (X : Cx) : List Addr := frs X.outer
noncomputable def Vis (sc : Scope) (x : Str) : Prop := sc.names.lookup x = some .local ∨ sc.names.lookup x = some .cell ∨ sc.names.lookup x = some .free
noncomputable def Loc (sc : Scope) (x : Str) : Prop := sc.names.lookup x = some .local ∨ sc.names.lookup x = some .cell
noncomputable def w3e (env : Env) (h : Heap) (m : Str → Option Value) (x : Str) (u : Value) : Prop :=
 (env.kindOf x = some .local ∧ m x = some u) ∨ ((env.kindOf x = some .cell ∨ env.kindOf x = some .free) ∧ ∃ c, env.cells.lookup x = some c ∧ h.IsCell c (some u))
structure Cx.Ok (X : Cx) : Prop where
 mod : Mod X.K X.mg X.base
 kind : X.env.scope.kind = .function
 glob : X.env.globals = mainGlobals
 blt : X.env.builtins = builtinsNs
 above : X.s₀.heap.objs.size ≤ X.env.locals
 inj : ∀ x y c, X.env.cells.lookup x = some c → X.env.cells.lookup y = some c → x = y
 has : ∀ x, (X.env.kindOf x = some .cell ∨ X.env.kindOf x = some .free) → ∃ c, X.env.cells.lookup x = some c
 cab : ∀ x c, X.fn x = true → X.env.cells.lookup x = some c → X.s₀.heap.objs.size ≤ c
 hd : X.calm = true → X.A.handled = none
 frames : X.A.frames = some X.stack
 stk : X.stack = X.outer ∨ (X.stack = X.env :: X.outer ∧ X.env.frame = some X.env.locals)
 exf : ∀ b ∈ X.ex, b ≠ X.env.locals ∧ ∀ x c, X.env.cells.lookup x = some c → c ≠ b
 bs : ∀ b o, X.base.get? b = some o → X.s₀.heap.get? b = some o ∧ X.H₀ b = none
 bsz : X.base.objs.size ≤ X.s₀.heap.objs.size
 noex : ∀ b o, X.base.get? b = some o → b ∉ X.ex
 exfs : ∀ b ∈ X.ex, b ∉ X.fs
 funs : X.s₀.heap.FunFrames X.base X.outer
 frf : ∀ b ∈ X.fs, X.H₀ b = none
structure Inv (X : Cx) (pins : List (Addr × Obj)) (σ : List (Option V)) (H : Hp) (s : Shared) : Prop where
 ok : X.Ok
 os : s.os = X.s₀.os
 bare : AllBare s.gens
 base : Un X.fs X.ex X.H₀ H X.s₀.heap s.heap
 loc : ∃ m, s.heap.Ns X.env.locals m ∧ ∀ (i : Nat) (x : Str) (v : V), X.N[i]? = some x → σ[i]? = some (some v) → Vis X.env.scope x → ∃ u, q4y v u ∧ w3e X.env s.heap m x u
 cell : ∀ x c, X.env.cells.lookup x = some c → ∃ v, s.heap.IsCell c v
 free : H X.env.locals = none
 freeC : ∀ x c, X.env.cells.lookup x = some c → H c = none
 pin : ∀ p ∈ X.pn ++ pins, s.heap.get? p.1 = some p.2 ∧ H p.1 = none ∧ p.1 ≠ X.env.locals ∧ p.1 ∉ X.fs ∧ ∀ v, p.2.data ≠ .cell v
 hok : HOk X.prog X.w H s.heap
 len : σ.length = X.N.length
section
variable {X : Cx} {pins : List (Addr × Obj)} {σ : List (Option V)} {H H' : Hp} {s : Shared} {h' : Heap}
theorem Cx.Ok.nofr (ok : X.Ok) {b : Addr} {o : Obj} (e : X.base.get? b = some o) : b ∉ X.fs := fun hb => by
 have := (ok.funs.mem hb).1
 rw [e] at this; cases this
theorem Inv.bs (I : Inv X pins σ H s) : ∀ b o, X.base.get? b = some o → s.heap.get? b = some o ∧ H b = none := fun b o e =>
 ⟨I.base.keep b o (I.ok.bs b o e).1 (I.ok.bs b o e).2 (I.ok.nofr e) (I.ok.noex b o e), I.base.free b o (I.ok.bs b o e).1 (I.ok.bs b o e).2 (I.ok.noex b o e)⟩
theorem Inv.bk (I : Inv X pins σ H s) : ∀ b o, X.base.get? b = some o → s.heap.get? b = some o := fun b o e => (I.bs b o e).1
theorem Inv.mod (I : Inv X pins σ H s) : Mod X.K X.mg X.base := I.ok.mod
theorem Inv.kIn (I : Inv X pins σ H s) : X.K.In s.heap := I.ok.mod.kin.keeps I.bk
theorem Inv.lt (I : Inv X pins σ H s) : X.env.locals < s.heap.objs.size := let ⟨_, hn, _⟩ := I.loc; hn.lt
theorem Inv.sz (I : Inv X pins σ H s) : X.s₀.heap.objs.size ≤ s.heap.objs.size := Nat.le_trans I.ok.above (Nat.le_of_lt I.lt)
theorem Inv.nofs (I : Inv X pins σ H s) {a : Addr} (h : s.heap.objs.size ≤ a) : a ∉ X.fs := fun hb => by
 obtain ⟨_, o, ho, _⟩ := I.ok.funs.mem hb
 exact absurd (Nat.lt_of_lt_of_le (Heap.lt_size ho) (Nat.le_trans I.sz h)) (Nat.lt_irrefl _)
theorem Inv.cne (I : Inv X pins σ H s) : ∀ x c, X.env.cells.lookup x = some c → c ≠ X.env.locals := fun x c e z => by
 obtain ⟨v, o, ho, hd⟩ := I.cell x c e
 obtain ⟨m, ⟨o', es, ep, ho', hd', _⟩, _⟩ := I.loc
 rw [z, ho'] at ho; cases ho; rw [hd'] at hd; cases hd
theorem Inv.funs (I : Inv X pins σ H s) : s.heap.FunFrames X.base X.outer := by
 have all : ∀ (l : List Env), (∀ b ∈ frs l, b ∈ X.fs) → X.s₀.heap.FunFrames X.base l → s.heap.FunFrames X.base l := by
  intro l
  induction l with
  | nil => intro _ _; trivial
  | cons env r ih =>
   intro hs hl
   obtain ⟨hk, ⟨L, o, hf, hn, ho, hd⟩, hr⟩ := hl
   have hL : L ∈ X.fs := hs L (by unfold frs; rw [List.filterMap_cons, hf]; exact List.mem_cons_self)
   obtain ⟨sl, e⟩ := I.base.slot L o ho (I.ok.frf L hL) hL fun z => I.ok.exfs L z hL
   exact ⟨hk, ⟨L, _, hf, hn, e, hd⟩, ih (fun b hb => hs b (by unfold frs; rw [List.filterMap_cons, hf]; exact List.mem_cons_of_mem _ hb)) hr⟩
 exact all X.outer (fun _ hb => hb) I.ok.funs
theorem Inv.stack (I : Inv X pins σ H s) : s.heap.FunFrames X.base X.stack := by
 rcases I.ok.stk with e | ⟨e, hf⟩
 ·rw [e]; exact I.funs
 ·rw [e]
  obtain ⟨m, hn, _⟩ := I.loc
  refine .cons (by rw [I.ok.kind]; decide) hf hn ?_ I.funs
  exact Heap.get?_none_of_le (Nat.le_trans I.ok.bsz I.ok.above)
theorem Inv.stkSub (I : Inv X pins σ H s) : ∀ b ∈ frs X.stack, b ∈ X.env.locals :: X.fs := fun b hb => by
 rcases I.ok.stk with e | ⟨e, hf⟩
 ·rw [e] at hb; exact List.mem_cons_of_mem _ hb
 ·rw [e] at hb
  unfold frs at hb
  rw [List.filterMap_cons, hf] at hb
  exact hb
theorem Inv.stkFree (I : Inv X pins σ H s) : ∀ b ∈ frs X.stack, H b = none := fun b hb => by
 rcases List.mem_cons.mp (I.stkSub b hb) with e | hb
 ·rw [e]; exact I.free
 ·obtain ⟨_, o, ho, _⟩ := I.ok.funs.mem hb
  exact I.base.free b o ho (I.ok.frf b hb) fun z => I.ok.exfs b z hb
theorem Inv.step {g' : Array GenState} {t' : Nat} {d' : Drawn} {ch : List Addr} (I : Inv X pins σ H s)
  (hch : ∀ b ∈ ch, (b ∈ X.ex ∨ X.s₀.heap.objs.size ≤ b) ∧ b ≠ X.env.locals ∧ (∀ x c, X.env.cells.lookup x = some c → c ≠ b) ∧ ∀ p ∈ X.pn ++ pins, p.1 ≠ b)
  (keep : ∀ b o, b ≠ X.env.locals → b ∉ X.fs → b ∉ ch → s.heap.get? b = some o → H b = none → h'.get? b = some o)
  (slot : ∀ b o, b ≠ X.env.locals → b ∈ X.fs → b ∉ ch → s.heap.get? b = some o → H b = none → ∃ sl, h'.get? b = some { o with slots := sl }) (free : ∀ b o, b ∉ ch → s.heap.get? b = some o → H b = none → H' b = none)
  (there : ∀ b o, b ∉ ch → s.heap.get? b = some o → ∃ o', h'.get? b = some o')
  (tups : ∀ b xs, H b = some (.tup xs) → H' b = some (.tup xs)) (frzs : ∀ b o u, H b = some (.frz o u) → H' b = some (.frz o u)) (tbls : ∀ b ps, H b = some (.tbl ps) → ∃ more, H' b = some (.tbl (ps ++ more)))
  (ns : ∀ m, s.heap.Ns X.env.locals m → h'.Ns X.env.locals m) (hok : HOk X.prog X.w H' h') (hg : AllBare g') :
  Inv X pins σ H' { s with heap := h', gens := g', drawn := d', toks := t' } := by
 have neL : ∀ b o, X.s₀.heap.get? b = some o → b ≠ X.env.locals := fun b o e => Nat.ne_of_lt (Nat.lt_of_lt_of_le (Heap.lt_size e) I.ok.above)
 have neC : ∀ b o, X.s₀.heap.get? b = some o → b ∉ X.ex → b ∉ ch := fun b o e hx hb => by
  rcases (hch b hb).1 with z | z
  ·exact hx z
  ·exact absurd (Nat.lt_of_lt_of_le (Heap.lt_size e) z) (Nat.lt_irrefl _)
 have cellK : ∀ x c, X.env.cells.lookup x = some c → ∀ v, s.heap.IsCell c v → h'.IsCell c v := fun x c e v ⟨o, ho, hd⟩ => by
  have nch : c ∉ ch := fun z => (hch c z).2.2.1 x c e rfl
  by_cases hc : c ∈ X.fs
  ·obtain ⟨sl, q⟩ := slot c o (I.cne x c e) hc nch ho (I.freeC x c e)
   exact ⟨_, q, hd⟩
  ·exact ⟨o, keep c o (I.cne x c e) hc nch ho (I.freeC x c e), hd⟩
 refine ⟨I.ok, I.os, hg, ⟨fun b o e n hb hx => ?_, fun b o e n hb hx => ?_, fun b o e n hx => ?_, fun b o e hx => ?_, fun b xs e => tups b xs (I.base.tups b xs e), fun b o xs e => frzs b o xs (I.base.frzs b o xs e), fun b ps e => ?_⟩, ?_, fun x c e => ?_, ?_, fun x c e => ?_, fun p hp => ?_, hok, I.len⟩
 ·exact keep b o (neL b o e) hb (neC b o e hx) (I.base.keep b o e n hb hx) (I.base.free b o e n hx)
 ·obtain ⟨sl, e1⟩ := I.base.slot b o e n hb hx
  obtain ⟨sl', e2⟩ := slot b _ (neL b o e) hb (neC b o e hx) e1 (I.base.free b o e n hx)
  exact ⟨sl', e2⟩
 ·obtain ⟨o', e1⟩ := I.base.there b o e hx
  exact free b o' (neC b o e hx) e1 (I.base.free b o e n hx)
 ·obtain ⟨o', e1⟩ := I.base.there b o e hx
  exact there b o' (neC b o e hx) e1
 ·obtain ⟨m1, e1⟩ := I.base.tbls b ps e
  obtain ⟨m2, e2⟩ := tbls b _ e1
  exact ⟨m1 ++ m2, by rw [e2, Array.append_assoc]⟩
 ·obtain ⟨m, hn, hl⟩ := I.loc
  refine ⟨m, ns m hn, fun i x v e1 e2 e3 => ?_⟩
  obtain ⟨u, r, l⟩ := hl i x v e1 e2 e3
  refine ⟨u, r, ?_⟩
  rcases l with l | ⟨k, c, e, z⟩
  ·exact .inl l
  ·exact .inr ⟨k, c, e, cellK x c e _ z⟩
 ·obtain ⟨v, z⟩ := I.cell x c e
  exact ⟨v, cellK x c e v z⟩
 ·obtain ⟨m, ⟨o, _, _, ho, _⟩, _⟩ := I.loc
  exact free _ o (fun z => (hch _ z).2.1 rfl) ho I.free
 ·obtain ⟨v, o, ho, hd⟩ := I.cell x c e
  exact free c o (fun z => (hch c z).2.2.1 x c e rfl) ho (I.freeC x c e)
 ·obtain ⟨e, n, ne, nf, d⟩ := I.pin p hp
  have nch : p.1 ∉ ch := fun z => (hch p.1 z).2.2.2 p hp rfl
  exact ⟨keep p.1 p.2 ne nf nch e n, free p.1 p.2 nch e n, ne, nf, d⟩
theorem Inv.un {t' : Nat} (I : Inv X pins σ H s) (u : Un X.fs [] H H' s.heap h') (hok : HOk X.prog X.w H' h') : Inv X pins σ H' { s with heap := h', toks := t' } := by
 obtain ⟨m, ⟨o, es, ep, ho, r⟩, _⟩ := id I.loc
 obtain ⟨sl, hL⟩ := u.any ho I.free (by simp)
 exact I.step (g' := s.gens) (d' := s.drawn) (ch := []) (fun _ z => nomatch z) (fun b o _ hb _ e n => u.keep b o e n hb (by simp)) (fun b o _ hb _ e n => u.slot b o e n hb (by simp)) (fun b o _ e n => u.free b o e n (by simp)) (fun b o _ e => u.there b o e (by simp)) u.tups u.frzs u.tbls (fun m' hm => by
  obtain ⟨o', es', ep', ho', r'⟩ := hm
  rw [ho] at ho'; cases ho'
  exact ⟨_, es', ep', hL, r'⟩) hok I.bare
theorem Inv.call {g' : Array GenState} {t' : Nat} {d' : Drawn} {ch : List Addr} (I : Inv X pins σ H s) (u : Un (frs X.stack) ch H H' s.heap h') (hok : HOk X.prog X.w H' h') (hg : AllBare g')
  (hch : ∀ b ∈ ch, (b ∈ X.ex ∨ X.s₀.heap.objs.size ≤ b) ∧ b ≠ X.env.locals ∧ (∀ x c, X.env.cells.lookup x = some c → c ≠ b) ∧ ∀ p ∈ X.pn ++ pins, p.1 ≠ b) :
  Inv X pins σ H' { s with heap := h', gens := g', drawn := d', toks := t' } := by
 obtain ⟨m, ⟨o, es, ep, ho, r⟩, _⟩ := id I.loc
 obtain ⟨sl, hL⟩ := u.any ho I.free fun z => (hch _ z).2.1 rfl
 exact I.step (ch := ch) hch (fun b o hL hb hc e n => u.keep b o e n (fun z => (List.mem_cons.mp (I.stkSub b z)).elim hL hb) hc) (fun b o _ _ hc e n => u.any e n hc) (fun b o hc e n => u.free b o e n hc) (fun b o hc e => u.there b o e hc) u.tups u.frzs u.tbls (fun m' hm => by
  obtain ⟨o', es', ep', ho', r'⟩ := hm
  rw [ho] at ho'; cases ho'
  exact ⟨_, es', ep', hL, r'⟩) hok hg
theorem Inv.turned {t' : Nat} {it : Addr} (I : Inv X pins σ H s) (k : ∀ b o, b ≠ it → s.heap.get? b = some o → h'.get? b = some o) (hn : H it = none) (hL : it ≠ X.env.locals)
  (h1 : it ∈ X.ex ∨ X.s₀.heap.objs.size ≤ it) (h2 : ∀ x c, X.env.cells.lookup x = some c → c ≠ it) (h3 : ∀ p ∈ X.pn ++ pins, p.1 ≠ it) : Inv X pins σ H { s with heap := h', toks := t' } := by
 have nit : ∀ b u, H b = some u → b ≠ it := fun b u e z => by rw [z, hn] at e; cases e
 refine I.step (g' := s.gens) (d' := s.drawn) (ch := [it]) (fun b hb => ?_) (fun b o _ _ hc e _ => k b o (fun z => hc (by simp [z])) e) (fun b o _ _ hc e _ => ⟨o.slots, k b o (fun z => hc (by simp [z])) e⟩) (fun _ _ _ _ n => n)
  (fun b o hc e => ⟨o, k b o (fun z => hc (by simp [z])) e⟩) (fun _ _ e => e) (fun _ _ _ e => e) (fun b ps e => ⟨#[], by rw [e]; simp⟩) (fun m hm => ?_) (fun b u e => ?_) I.bare
 ·have e : b = it := by simpa using hb
  subst e
  exact ⟨h1, hL, h2, h3⟩
 ·obtain ⟨o, es, ep, ho, r⟩ := hm
  exact ⟨o, es, ep, k _ o (Ne.symm hL) ho, r⟩
 ·refine (I.hok b u e).stay (fun c v hc q => k c v ?_ q) (fun _ q => q) fun _ _ q => q
  rcases hc with z | z
  ·rw [z]; exact nit b u e
  ·exact nit c _ z
theorem Inv.tok (I : Inv X pins σ H s) (t : Nat) : Inv X pins σ H { s with toks := t } := I.un (h' := s.heap) (t' := t) Un.refl I.hok
theorem Inv.kept {t' : Nat} (I : Inv X pins σ H s) (k : ∀ b u, s.heap.get? b = some u → h'.get? b = some u) : Inv X pins σ H { s with heap := h', toks := t' } := I.un (Un.kept k) (I.hok.kept k)
theorem Inv.laid {a : Addr} {o : HO} {t' : Nat} (I : Inv X pins σ H s) (k : ∀ b u, s.heap.get? b = some u → h'.get? b = some u) (hp : s.heap.objs.size ≤ a) (new : q3x X.prog X.w (upd H a o) h' a o) :
  Inv X pins σ (upd H a o) { s with heap := h', toks := t' } := I.un (Un.laid k hp (I.hok.fresh hp)) (I.hok.laid k hp new)
theorem Inv.write {x e : Addr} {o : HO} {t' : Nat} (I : Inv X pins σ H s) (mu : Mut (H x)) (he : e = x ∨ H e = some (.own x)) (k : ∀ b u, b ≠ e → s.heap.get? b = some u → h'.get? b = some u) (heo : ∃ u, h'.get? e = some u)
  (new : q3x X.prog X.w (upd H x o) h' x o) : Inv X pins σ (upd H x o) { s with heap := h', toks := t' } := I.un (Un.write mu he k heo) (I.hok.write mu he k heo new)
theorem Inv.pins_of {pins' : List (Addr × Obj)} (I : Inv X pins σ H s) (h : ∀ p ∈ pins', s.heap.get? p.1 = some p.2 ∧ H p.1 = none ∧ p.1 ≠ X.env.locals ∧ p.1 ∉ X.fs ∧ ∀ v, p.2.data ≠ .cell v) : Inv X pins' σ H s :=
 ⟨I.ok, I.os, I.bare, I.base, I.loc, I.cell, I.free, I.freeC, fun p hp => (List.mem_append.mp hp).elim (fun z => I.pin p (List.mem_append_left _ z)) (h p), I.hok, I.len⟩
theorem z1e {N : List Str} (hN : N.Nodup) {i j : Nat} {x : Str} (a : N[i]? = some x) (b : N[j]? = some x) : i = j := by
 obtain ⟨h1, e1⟩ := List.getElem?_eq_some_iff.mp a
 obtain ⟨h2, e2⟩ := List.getElem?_eq_some_iff.mp b
 exact (List.getElem_inj hN).mp (e1.trans e2.symm)
theorem x8d {M : Model} {A : Around} {E : Value → Shared → Prop} {i : Nat} {x : Str} {v : V} {u : Value} {Q : Unit → Shared → Prop} (I : Inv X pins σ H s) (hN : X.N.Nodup) (hi : X.N[i]? = some x) (hx : Loc X.env.scope x) (r : q4y v u)
  (h : ∀ s', Inv X pins (σ.set i (some v)) H s' → (∃ a, Heap.SameBut a s.heap s'.heap ∧ (a = X.env.locals ∨ X.env.cells.lookup x = some a)) → Q () s') (hf : X.fn x = true ∨ X.env.scope.names.lookup x = some .local := by first | exact .inl rfl | exact .inr rfl | assumption) : wpAny M A (storeName X.env x u) Q E s := by
 obtain ⟨m, hn, hl⟩ := id I.loc
 have hcls : (X.env.scope.kind == .class || (X.env.scope.kind == .module && X.env.locals != X.env.globals)) = false := by rw [I.ok.kind]; rfl
 have hiσ : i < σ.length := by rw [I.len]; exact (List.getElem?_eq_some_iff.mp hi).1
 have cne := I.cne
 have tracked : ∀ {a : Addr} {h' : Heap}, (∃ o, s.heap.get? a = some o ∧ H a = none) → Heap.SameBut a s.heap h' → HOk X.prog X.w H h' := fun {a h'} ha hs b ob e => by
  obtain ⟨_, _, hfree⟩ := ha
  refine (I.hok b ob e).stay (fun c w' hc q => (hs.2 c ?_).trans q) (fun _ q => q) fun _ _ q => q
  rintro rfl
  rcases hc with rfl | hc
  ·rw [hfree] at e; cases e
  ·rw [hfree] at hc; cases hc
 rcases hx with hk | hk
 ·refine wpAny_storeName_local hk hn (fun h' hn' hs => ?_) hcls
  obtain ⟨oL, _, _, hoL, _⟩ := id hn
  refine h _ ⟨I.ok, I.os, I.bare, ⟨fun b o e n hb hx => ?_, fun b o e n hb hx => ?_, I.base.free, fun b o e hx => ?_, I.base.tups, I.base.frzs, I.base.tbls⟩, ⟨_, hn', fun j y v' e1 e2 e3 => ?_⟩, fun y c e => ?_, I.free, I.freeC, fun p hp => ?_, tracked ⟨oL, hoL, I.free⟩ hs, by simpa using I.len⟩ ⟨_, hs, .inl rfl⟩
  ·exact (hs.2 b (Nat.ne_of_lt (Nat.lt_of_lt_of_le (Heap.lt_size e) I.ok.above))).trans (I.base.keep b o e n hb hx)
  ·obtain ⟨sl, e1⟩ := I.base.slot b o e n hb hx
   exact ⟨sl, (hs.2 b (Nat.ne_of_lt (Nat.lt_of_lt_of_le (Heap.lt_size e) I.ok.above))).trans e1⟩
  ·obtain ⟨o', e1⟩ := I.base.there b o e hx
   exact ⟨o', (hs.2 b (Nat.ne_of_lt (Nat.lt_of_lt_of_le (Heap.lt_size e) I.ok.above))).trans e1⟩
  ·by_cases hj : j = i
   ·subst hj
    rw [hi] at e1; cases e1
    rw [List.getElem?_set_self hiσ] at e2
    cases e2
    exact ⟨u, r, .inl ⟨hk, by simp⟩⟩
   ·rw [List.getElem?_set_ne (Ne.symm hj)] at e2
    obtain ⟨u', r', q⟩ := hl j y v' e1 e2 e3
    refine ⟨u', r', ?_⟩
    rcases q with ⟨k, e⟩ | ⟨k, c, e, z⟩
    ·refine .inl ⟨k, ?_⟩
     have : y ≠ x := fun e => hj (z1e hN e1 (e ▸ hi))
     simp [this, e]
    ·exact .inr ⟨k, c, e, z.sameBut hs (cne y c e)⟩
  ·obtain ⟨w', z⟩ := I.cell y c e
   exact ⟨w', z.sameBut hs (cne y c e)⟩
  ·obtain ⟨e, n, ne, nf, d⟩ := I.pin p hp
   exact ⟨(hs.2 p.1 ne).trans e, n, ne, nf, d⟩
 ·have hfn : X.fn x = true := by
   rcases hf with z | z
   ·exact z
   ·rw [z] at hk; cases hk
  obtain ⟨c, hc⟩ := I.ok.has x (.inl hk)
  obtain ⟨w', z⟩ := I.cell x c hc
  refine wpAny_storeName_cell I.ok.kind hk hc z (fun h' hc' hs => ?_)
  obtain ⟨oc, hoc, hocd⟩ := id z
  refine h { s with heap := h' } ⟨I.ok, I.os, I.bare, ⟨fun b o e n hb hx => ?_, fun b o e n hb hx => ?_, I.base.free, fun b o e hx => ?_, I.base.tups, I.base.frzs, I.base.tbls⟩, ⟨m, hn.sameBut hs (Ne.symm (cne x c hc)), fun j y v' e1 e2 e3 => ?_⟩, fun y c' e => ?_, I.free, I.freeC, fun p hp => ?_, tracked ⟨oc, hoc, I.freeC x c hc⟩ hs, by simpa using I.len⟩ ⟨c, hs, .inr hc⟩
  ·exact (hs.2 b (Nat.ne_of_lt (Nat.lt_of_lt_of_le (Heap.lt_size e) (I.ok.cab x c hfn hc)))).trans (I.base.keep b o e n hb hx)
  ·obtain ⟨sl, e1⟩ := I.base.slot b o e n hb hx
   exact ⟨sl, (hs.2 b (Nat.ne_of_lt (Nat.lt_of_lt_of_le (Heap.lt_size e) (I.ok.cab x c hfn hc)))).trans e1⟩
  ·obtain ⟨o', e1⟩ := I.base.there b o e hx
   exact ⟨o', (hs.2 b (Nat.ne_of_lt (Nat.lt_of_lt_of_le (Heap.lt_size e) (I.ok.cab x c hfn hc)))).trans e1⟩
  ·by_cases hj : j = i
   ·subst hj
    rw [hi] at e1; cases e1
    rw [List.getElem?_set_self hiσ] at e2
    cases e2
    exact ⟨u, r, .inr ⟨.inl hk, c, hc, hc'⟩⟩
   ·rw [List.getElem?_set_ne (Ne.symm hj)] at e2
    obtain ⟨u', r', q⟩ := hl j y v' e1 e2 e3
    refine ⟨u', r', ?_⟩
    rcases q with q | ⟨k, c', e, z'⟩
    ·exact .inl q
    ·refine .inr ⟨k, c', e, z'.sameBut hs ?_⟩
     rintro rfl
     exact hj (z1e hN e1 (I.ok.inj _ _ _ e hc ▸ hi))
  ·by_cases hcc : c' = c
   ·subst hcc; exact ⟨_, hc'⟩
   ·obtain ⟨w2, z2⟩ := I.cell y c' e
    exact ⟨w2, z2.sameBut hs hcc⟩
  ·obtain ⟨e, n, ne, nf, d⟩ := I.pin p hp
   refine ⟨(hs.2 p.1 ?_).trans e, n, ne, nf, d⟩
   intro q
   rw [q, hoc] at e
   have q' : oc = p.2 := Option.some.inj e
   exact d w' (by rw [← q']; exact hocd)
theorem x2b {M : Model} {A : Around} {E : Value → Shared → Prop} {i : Nat} {x : Str} {v : V} {u : Value} {Q : Unit → Shared → Prop} (I : Inv X pins σ H s) (hN : X.N.Nodup) (hi : X.N[i]? = some x) (hx : Loc X.env.scope x) (r : q4y v u)
  (h : ∀ s', Inv X pins (σ.set i (some v)) H s' → Q () s') (hf : X.fn x = true ∨ X.env.scope.names.lookup x = some .local := by first | exact .inl rfl | exact .inr rfl | assumption) : wpAny M A (storeName X.env x u) Q E s :=
 x8d I hN hi hx r (fun s' I' _ => h s' I') hf
theorem Inv.call' {s' : Shared} {ch : List Addr} (I : Inv X pins σ H s) (ho : s'.os = s.os) (u : Un (frs X.stack) ch H H' s.heap s'.heap) (hok : HOk X.prog X.w H' s'.heap) (hg : AllBare s'.gens)
  (hch : ∀ b ∈ ch, (b ∈ X.ex ∨ X.s₀.heap.objs.size ≤ b) ∧ b ≠ X.env.locals ∧ (∀ x c, X.env.cells.lookup x = some c → c ≠ b) ∧ ∀ p ∈ X.pn ++ pins, p.1 ≠ b) : Inv X pins σ H' s' := by
 obtain ⟨h', g', d', t', o'⟩ := s'
 have e : o' = s.os := ho
 subst e
 exact I.call (g' := g') (t' := t') (d' := d') u hok hg hch
end
noncomputable abbrev XK := Value → Option Addr → Hp → Prop
noncomputable abbrev St := List (Option V)
noncomputable abbrev VK := V → Hp → Prop
noncomputable abbrev TE := St → Hp → VK → Prop
noncomputable abbrev TT := St → Hp → (Bool → Hp → Prop) → Prop
noncomputable abbrev TA := St → Hp → (List V → Hp → Prop) → Prop
structure Ends where
 nx : St → Hp → Prop
 rt : VK
 bk : St → Hp → Prop := fun _ _ => False
 ct : St → Hp → Prop := fun _ _ => False
noncomputable abbrev TS := Ends → St → Hp → Prop
noncomputable def EP (X : Cx) (pins : List (Addr × Obj)) (σ : St) (Q : VK) (u : Value) (s' : Shared) : Prop := ∃ v H', Inv X pins σ H' s' ∧ q4y v u ∧ Q v H'
noncomputable def TP (X : Cx) (pins : List (Addr × Obj)) (σ : St) (Q : Bool → Hp → Prop) (b : Bool) (s' : Shared) : Prop := ∃ H', Inv X pins σ H' s' ∧ Q b H'
noncomputable def AP (X : Cx) (pins : List (Addr × Obj)) (σ : St) (Q : List V → Hp → Prop) (us : List Value) (s' : Shared) : Prop := ∃ vs H', Inv X pins σ H' s' ∧ q4b vs us ∧ Q vs H'
noncomputable def SP (X : Cx) (pins : List (Addr × Obj)) (D : Ends) (f : Flow) (s' : Shared) : Prop :=
 match f with
 | .next => ∃ σ' H', Inv X pins σ' H' s' ∧ D.nx σ' H'
 | .brk => ∃ σ' H', Inv X pins σ' H' s' ∧ D.bk σ' H'
 | .cont => ∃ σ' H', Inv X pins σ' H' s' ∧ D.ct σ' H'
 | .ret u => ∃ v σ' H', Inv X pins σ' H' s' ∧ q4y v u ∧ D.rt v H'
noncomputable def PE (X : Cx) (e : Expr) (t : TE) : Prop :=
 ∀ (pins : List (Addr × Obj)) (s : Shared) (σ : St) (H : Hp) (Q : VK), Inv X pins σ H s → t σ H Q → wpAny (model X.prog X.w) X.A (eval e X.env) (EP X pins σ Q) X.xe s
noncomputable def PT (X : Cx) (e : Expr) (t : TT) : Prop :=
 ∀ (pins : List (Addr × Obj)) (s : Shared) (σ : St) (H : Hp) (Q : Bool → Hp → Prop), Inv X pins σ H s → t σ H Q → wpAny (model X.prog X.w) X.A (isTrue e X.env (eval e X.env)) (TP X pins σ Q) X.xe s
noncomputable def PW (X : Cx) (e : Expr) (t : TT) : Prop :=
 ∀ (whole : Sem Value) (pins : List (Addr × Obj)) (s : Shared) (σ : St) (H : Hp) (Q : Bool → Hp → Prop), Inv X pins σ H s → t σ H Q → wpAny (model X.prog X.w) X.A (isTrue e X.env whole) (TP X pins σ Q) X.xe s
theorem PW.pt {X : Cx} {e : Expr} {t : TT} (h : PW X e t) : PT X e t := h _
noncomputable def PA (X : Cx) (es : List Expr) (t : TA) : Prop :=
 ∀ (pos : Pos) (pins : List (Addr × Obj)) (s : Shared) (σ : St) (H : Hp) (Q : List V → Hp → Prop), Inv X pins σ H s → t σ H Q → wpAny (model X.prog X.w) X.A (spliced (backTo pos (starEach es X.env))) (AP X pins σ Q) X.xe s
noncomputable def PS (X : Cx) (st : Stmt) (t : TS) : Prop :=
 ∀ (pins : List (Addr × Obj)) (s : Shared) (σ : St) (H : Hp) (D : Ends), Inv X pins σ H s → t D σ H → wpAny (model X.prog X.w) X.A (exec st X.env) (SP X pins D) X.xe s
noncomputable def PSs (X : Cx) (st : List Stmt) (t : TS) : Prop :=
 ∀ (pins : List (Addr × Obj)) (s : Shared) (σ : St) (H : Hp) (D : Ends), Inv X pins σ H s → t D σ H → wpAny (model X.prog X.w) X.A (execs st X.env) (SP X pins D) X.xe s
theorem thn {α : Type} {t : Sem α} {Q Q' : α → Shared → Prop} {M : Model} {A : Around} {E : Value → Shared → Prop} {s : Shared} (h : wpAny M A t Q E s) (hQ : ∀ a s, Q a s → Q' a s) : wpAny M A t Q' E s := wpAny_mono h hQ fun _ _ x => x
section
variable {X : Cx}
noncomputable def j7u (i : Nat) : TE := fun σ H Q => ∃ v, σ[i]? = some (some v) ∧ Q v H
noncomputable def tC (v : V) : TE := fun _ H Q => Q v H
theorem j6v {i : Nat} {x : Str} {pos : Pos} (hN : X.N[i]? = some x) (hv : Vis X.env.scope x) (hd : (x == ("__debug__" : Str)) = false := by decide) (hcd : (x == ("__classdict__" : Str)) = false := by decide) : PE X (.Name x pos) (j7u i) := by
 intro pins s σ H Q I h
 obtain ⟨v, e, h⟩ := h
 obtain ⟨m, hn, hl⟩ := I.loc
 obtain ⟨u, r, l⟩ := hl i x v hN e hv
 have fin : EP X pins σ Q u s := ⟨v, H, I, r, h⟩
 rcases l with ⟨hk, hm⟩ | ⟨hk, c, hc, hcell⟩
 ·exact wpAny_Name (wpAny_loadName_local I.ok.kind hk hn hm fin) hd
 ·rcases hk with hk | hk
  ·exact wpAny_Name (wpAny_loadName_cell I.ok.kind hk hc hcell fin) hd
  ·exact wpAny_Name (wpAny_loadName_free I.ok.kind hk hc hcell fin hcd) hd
theorem q0a {i j pos} : PE X (.Constant (.int i) j pos) (tC (.int i)) := fun _ _ _ H _ I h => wpAny_Constant_int ⟨.int i, H, I.tok _, ⟨_, rfl⟩, h⟩
theorem q7e {b j pos} : PE X (.Constant (.bool b) j pos) (tC (.bl b)) := fun _ _ _ H _ I h => Constant_bool ⟨.bl b, H, I, rfl, h⟩
theorem x5b {j pos} : PE X (.Constant .none j pos) (tC .non) := fun _ _ _ H _ I h => Constant_none ⟨.non, H, I, rfl, h⟩
theorem q0r {x j pos} : PE X (.Constant (.str x) j pos) (tC (.str x)) := fun _ _ _ H _ I h => Calls.Constant_str ⟨.str x, H, I.tok _, ⟨_, rfl⟩, h⟩
noncomputable def Gl (X : Cx) (x : Str) : Prop := X.env.kindOf x = some .globalImplicit
theorem x2j {E : Value → Shared → Prop} {pins : List (Addr × Obj)} {s : Shared} {σ : St} {H : Hp} {x : Str} {u : Value} {pos : Pos} {Q : Value → Shared → Prop} (I : Inv X pins σ H s) (hg : Gl X x) (hm : X.mg x = some u) (h : Q u s)
  (hd : (x == ("__debug__" : Str)) = false := by decide) : wpAny (model X.prog X.w) X.A (eval (.Name x pos) X.env) Q E s :=
 Calls.Name_function_global I.ok.kind hg (Calls.loadGlobal_global (by rw [I.ok.glob]; exact I.mod.glob.keeps I.bk) hm h) hd
theorem x5l {E : Value → Shared → Prop} {pins : List (Addr × Obj)} {s : Shared} {σ : St} {H : Hp} {x : Str} {u : Value} {pos : Pos} {Q : Value → Shared → Prop} (I : Inv X pins σ H s) (hg : Gl X x) (hm : X.mg x = none) (hv : bootBuiltins x = some u) (h : Q u s)
  (hn : x ≠ "__name__" := by decide) (hd : (x == ("__debug__" : Str)) = false := by decide) : wpAny (model X.prog X.w) X.A (eval (.Name x pos) X.env) Q E s := by
 obtain ⟨mb, h1, h2⟩ := I.mod.blt
 exact Calls.Name_function_global I.ok.kind hg (Calls.loadGlobal_builtin (by rw [I.ok.glob]; exact I.mod.glob.keeps I.bk) hm (by rw [I.ok.blt]; exact h1.keeps I.bk) ((h2 x hn).trans hv) h) hd
theorem j4b {x : Str} {v : V} {u : Value} {pos : Pos} (hg : Gl X x) (hm : X.mg x = some u) (r : q4y v u) (hd : (x == ("__debug__" : Str)) = false := by decide) : PE X (.Name x pos) (tC v) :=
 fun _ _ _ H _ I h => x2j I hg hm ⟨v, H, I, r, h⟩ hd
theorem j3w {x : Str} {v : V} {u : Value} {pos : Pos} (hg : Gl X x) (hm : X.mg x = none) (hv : bootBuiltins x = some u) (r : q4y v u) (hn : x ≠ "__name__" := by decide) (hd : (x == ("__debug__" : Str)) = false := by decide) : PE X (.Name x pos) (tC v) :=
 fun _ _ _ H _ I h => x5l I hg hm hv ⟨v, H, I, r, h⟩ hn hd
variable {a b : Expr} {ta tb : TE} {pos : Pos}
noncomputable def tB (t : TE) : TT := fun σ H Q => t σ H fun x H1 => ∃ c, x = .bl c ∧ Q c H1
theorem q2l {e : Expr} {t : TE} (h : PE X e t) (he : ∀ whole, isTrue e X.env whole = (do let v ← whole; standAt e.pos; holding [v] (truthy v)) := by intro _; rfl) : PT X e (tB t) := by
 intro pins s σ H Q I hw
 refine isTrue_plain (thn (h pins s σ H _ I hw) fun v s1 ⟨x, H1, I1, r1, q1⟩ => ?_) (he _)
 obtain ⟨d, rfl, q⟩ := q1
 cases r1
 exact wpAny_truthy_bool ⟨H1, I1, q⟩
variable {tA tB' : TT} {x1e : List Expr}
noncomputable def w3h (t u : TT) : TT := fun σ H Q => t σ H fun c H1 => if c = true then u σ H1 Q else Q false H1
noncomputable def tOr (t u : TT) : TT := fun σ H Q => t σ H fun c H1 => if c = true then Q true H1 else u σ H1 Q
noncomputable def w2e (t : TT) : TT := fun σ H Q => t σ H fun c H1 => Q (!c) H1
theorem x4j (ha : PT X a tA) : PW X (.BoolOp .And [a] pos) tA := by
 intro wh pins s σ H Q I h
 refine isTrue_and (thn (ha pins s σ H Q I h) fun c s1 e => ?_)
 cases c with
 | true => exact isTrue_and_nil e
 | false => exact e
theorem q7t (ha : PT X a tA) : PW X (.BoolOp .Or [a] pos) tA := by
 intro wh pins s σ H Q I h
 refine isTrue_or (thn (ha pins s σ H Q I h) fun c s1 e => ?_)
 cases c with
 | false => exact isTrue_or_nil e
 | true => exact e
theorem x4g (ha : PT X a tA) (hb : PW X (.BoolOp .And (b :: x1e) pos) tB') : PW X (.BoolOp .And (a :: b :: x1e) pos) (w3h tA tB') := by
 intro wh pins s σ H Q I h
 refine isTrue_and (thn (ha pins s σ H _ I h) fun c s1 ⟨H1, I1, q1⟩ => ?_)
 cases c with
 | true => exact hb wh pins s1 σ H1 Q I1 q1
 | false => exact ⟨H1, I1, q1⟩
theorem q6t (ha : PT X a tA) (hb : PW X (.BoolOp .Or (b :: x1e) pos) tB') : PW X (.BoolOp .Or (a :: b :: x1e) pos) (tOr tA tB') := by
 intro wh pins s σ H Q I h
 refine isTrue_or (thn (ha pins s σ H _ I h) fun c s1 ⟨H1, I1, q1⟩ => ?_)
 cases c with
 | true => exact ⟨H1, I1, q1⟩
 | false => exact hb wh pins s1 σ H1 Q I1 q1
theorem q3a (ha : PT X a tA) : PT X (.UnaryOp .Not a pos) (w2e tA) := by
 intro pins s σ H Q I h
 exact isTrue_not (ha pins s σ H (fun c H1 => Q (!c) H1) I h)
noncomputable def j8q (ta tb : TE) : TE := fun σ H Q => ta σ H fun x H1 => ∃ c, x = .bl c ∧ if c = true then tb σ H1 Q else Q (.bl false) H1
noncomputable def w2i (ta tb : TE) : TE := fun σ H Q => ta σ H fun x H1 => ∃ c, x = .bl c ∧ if c = true then Q (.bl true) H1 else tb σ H1 Q
noncomputable def j8y (ta : TE) : TE := fun σ H Q => ta σ H fun x H1 => ∃ c, x = .bl c ∧ Q (.bl (!c)) H1
theorem q2i {op} {t : TE} (h : PE X a t) : PE X (.BoolOp op [a] pos) t := fun pins s σ H Q I hw => BoolOp_one (h pins s σ H Q I hw)
theorem q1x (ha : PE X a ta) (hb : PE X (.BoolOp .And (b :: x1e) pos) tb) : PE X (.BoolOp .And (a :: b :: x1e) pos) (j8q ta tb) := by
 intro pins s σ H Q I h
 refine BoolOp_and (thn (ha pins s σ H _ I h) fun v s1 ⟨x, H1, I1, r1, q1⟩ => ?_)
 obtain ⟨c, rfl, q1⟩ := q1
 cases r1
 refine wpAny_truthy_bool ?_
 cases c with
 | true => exact hb pins s1 σ H1 Q I1 q1
 | false => exact ⟨.bl false, H1, I1, rfl, q1⟩
theorem z8t (ha : PE X a ta) (hb : PE X (.BoolOp .Or (b :: x1e) pos) tb) : PE X (.BoolOp .Or (a :: b :: x1e) pos) (w2i ta tb) := by
 intro pins s σ H Q I h
 refine BoolOp_or (thn (ha pins s σ H _ I h) fun v s1 ⟨x, H1, I1, r1, q1⟩ => ?_)
 obtain ⟨c, rfl, q1⟩ := q1
 cases r1
 refine wpAny_truthy_bool ?_
 cases c with
 | false => exact hb pins s1 σ H1 Q I1 q1
 | true => exact ⟨.bl true, H1, I1, rfl, q1⟩
theorem z0y (ha : PE X a ta) : PE X (.UnaryOp .Not a pos) (j8y ta) := by
 intro pins s σ H Q I h
 refine UnaryOp_ (thn (ha pins s σ H _ I h) fun v s1 ⟨x, H1, I1, r1, q1⟩ => ?_)
 obtain ⟨c, rfl, q1⟩ := q1
 cases r1
 exact not_of (wpAny_truthy_bool ⟨.bl (!c), H1, I1, rfl, q1⟩)
noncomputable def tIf (t : TT) (ta tb : TE) : TE := fun σ H Q => t σ H fun c H1 => if c = true then ta σ H1 Q else tb σ H1 Q
theorem x6t {c : Expr} (hc : PT X c tA) (ha : PE X a ta) (hb : PE X b tb) : PE X (.IfExp c a b pos) (tIf tA ta tb) := by
 intro pins s σ H Q I h
 refine wpAny_IfExp (thn (hc pins s σ H _ I h) fun d s1 ⟨H1, I1, q1⟩ => ?_)
 cases d with
 | true => exact ha pins s1 σ H1 Q I1 q1
 | false => exact hb pins s1 σ H1 Q I1 q1
end
noncomputable def SqL (K : PySem.W.Frag) (H : Hp) (a : Addr) (xs : List V) : Prop :=
 Rd H a (.lst xs) ∨
  ∃ (o : Obj) (its : Array Value) (n : Nat), K.lookup a = some o ∧ o.cls = .type "list" ∧ o.dict = none ∧ o.data = .seq its n ∧ its.size ≤ sizeLine ∧ q4b xs its.toList
noncomputable def SqT (K : PySem.W.Frag) (H : Hp) (a : Addr) (xs : List V) : Prop :=
 Rd H a (.tup xs) ∨
  ∃ (o : Obj) (its : Array Value) (n : Nat), K.lookup a = some o ∧ o.cls = .type "tuple" ∧ o.data = .seq its n ∧ its.size ≤ sizeLine ∧ q4b xs its.toList
noncomputable def w3f : Value → Option V
 | .none => some .non
 | .bool b => some (.bl b)
 | .int i _ => some (.int i)
 | .str x _ => some (.str x)
 | .bytes b _ => some (.byt b)
 | .float b _ => some (.flt b)
 | .ref a => some (.ref a)
 | .type n => some (.ty n)
 | _ => none
theorem q4y.abs {x : V} {u : Value} (r : q4y x u) : w3f u = some x := by
 cases x with
 | non => cases r; rfl
 | bl _ => cases r; rfl
 | int _ => obtain ⟨t, rfl⟩ := r; rfl
 | str _ => obtain ⟨t, rfl⟩ := r; rfl
 | byt _ => obtain ⟨t, rfl⟩ := r; rfl
 | flt _ => obtain ⟨t, rfl⟩ := r; rfl
 | ref _ => cases r; rfl
 | ty _ => cases r; rfl
theorem q4y.inj {x y : V} {u : Value} (r : q4y x u) (q : q4y y u) : x = y := Option.some.inj (r.abs.symm.trans q.abs)
theorem q4b.inj : ∀ {xs ys : List V} {us : List Value}, q4b xs us → q4b ys us → xs = ys
 | _, _, _, .nil, .nil => rfl
 | _, _, _, .cons r t, .cons r' t' => by rw [r.inj r', q4b.inj t t']
section
variable {X : Cx} {pins : List (Addr × Obj)} {σ : St} {H : Hp} {s : Shared} {a : Addr} {xs ys : List V}
theorem SqL.of {K : PySem.W.Frag} (h : H a = some (.lst xs)) : SqL K H a xs := .inl (.inl h)
theorem SqT.of {K : PySem.W.Frag} (h : H a = some (.tup xs)) : SqT K H a xs := .inl (.inl h)
theorem Inv.list (I : Inv X pins σ H s) (h : SqL X.K H a xs) : ∃ its : List Value, q4b xs its ∧ PlainL s.heap a its.toArray ∧ xs.length ≤ sizeLine := by
 rcases h with h | ⟨o, its, n, hk, hc, hd, hs, hz, r⟩
 ·obtain ⟨z, its, n, r, e⟩ := h.ok I.hok
  exact ⟨its, r, ⟨_, n, e, rfl, rfl, rfl⟩, z⟩
 ·refine ⟨its.toList, r, ⟨o, n, I.kIn a o hk, hc, hd, by simpa using hs⟩, ?_⟩
  have e := r.length
  simp only [Array.length_toList] at e
  omega
theorem Inv.tuple (I : Inv X pins σ H s) (h : SqT X.K H a xs) : ∃ its : List Value, q4b xs its ∧ IsTup s.heap a its.toArray ∧ xs.length ≤ sizeLine := by
 rcases h with h | ⟨o, its, n, hk, hc, hs, hz, r⟩
 ·obtain ⟨z, its, r, p⟩ := h.ok I.hok
  exact ⟨its, r, p, z⟩
 ·refine ⟨its.toList, r, ⟨o, I.kIn a o hk, hc, n, by simpa using hs⟩, ?_⟩
  have e := r.length
  simp only [Array.length_toList] at e
  omega
theorem Inv.list_inj (I : Inv X pins σ H s) (h : SqL X.K H a xs) (h' : SqL X.K H a ys) : xs = ys := by
 obtain ⟨its, r, ⟨o, n, e, _, _, d⟩, _⟩ := I.list h
 obtain ⟨its', r', ⟨o', n', e', _, _, d'⟩, _⟩ := I.list h'
 rw [e] at e'; cases e'
 rw [d] at d'
 injection d' with d1 _
 have : its = its' := by simpa using congrArg Array.toList d1
 subst this
 exact r.inj r'
theorem Inv.tuple_inj (I : Inv X pins σ H s) (h : SqT X.K H a xs) (h' : SqT X.K H a ys) : xs = ys := by
 obtain ⟨its, r, ⟨o, e, _, n, d⟩, _⟩ := I.tuple h
 obtain ⟨its', r', ⟨o', e', _, n', d'⟩, _⟩ := I.tuple h'
 rw [e] at e'; cases e'
 rw [d] at d'
 injection d' with d1 _
 have : its = its' := by simpa using congrArg Array.toList d1
 subst this
 exact r.inj r'
end
noncomputable abbrev Cx.wish (X : Cx) (E : Value → Shared → Prop) : Cx := { X with xe := E }
noncomputable abbrev Cx.nox (X : Cx) : Cx := X.wish fun _ _ => False
theorem Cx.Ok.wish {X : Cx} (ok : X.Ok) (E : Value → Shared → Prop) : (X.wish E).Ok :=
 ⟨ok.mod, ok.kind, ok.glob, ok.blt, ok.above, ok.inj, ok.has, ok.cab, ok.hd, ok.frames, ok.stk, ok.exf, ok.bs, ok.bsz, ok.noex, ok.exfs, ok.funs, ok.frf⟩
theorem Cx.Ok.unwish {X : Cx} {E : Value → Shared → Prop} (ok : (X.wish E).Ok) : X.Ok :=
 ⟨ok.mod, ok.kind, ok.glob, ok.blt, ok.above, ok.inj, ok.has, ok.cab, ok.hd, ok.frames, ok.stk, ok.exf, ok.bs, ok.bsz, ok.noex, ok.exfs, ok.funs, ok.frf⟩
section
variable {X : Cx} {pins : List (Addr × Obj)} {σ : St} {H : Hp} {s : Shared} {E : Value → Shared → Prop}
theorem Inv.wish (I : Inv X pins σ H s) (E : Value → Shared → Prop) : Inv (X.wish E) pins σ H s := ⟨I.ok.wish E, I.os, I.bare, I.base, I.loc, I.cell, I.free, I.freeC, I.pin, I.hok, I.len⟩
theorem Inv.unwish (I : Inv (X.wish E) pins σ H s) : Inv X pins σ H s := ⟨I.ok.unwish, I.os, I.bare, I.base, I.loc, I.cell, I.free, I.freeC, I.pin, I.hok, I.len⟩
theorem SP.unwish {D : Ends} {f : Flow} {s' : Shared} (h : SP (X.wish E) pins D f s') : SP X pins D f s' := by
 cases f with
 | next => obtain ⟨σ', H', I, q⟩ := h; exact ⟨σ', H', I.unwish, q⟩
 | brk => obtain ⟨σ', H', I, q⟩ := h; exact ⟨σ', H', I.unwish, q⟩
 | cont => obtain ⟨σ', H', I, q⟩ := h; exact ⟨σ', H', I.unwish, q⟩
 | ret u => obtain ⟨v, σ', H', I, r, q⟩ := h; exact ⟨v, σ', H', I.unwish, r, q⟩
theorem PSs.nox {st : List Stmt} {t : TS} (h : PSs X.nox st t) : PSs X st t := fun pins s σ H D I hw =>
 wpAny_mono (h pins s σ H D (I.wish _) hw) (fun _ _ q => q.unwish) fun _ _ z => False.elim z
end
section
variable {X : Cx} {st : Stmt} {x1e : List Stmt} {t u : TS} {e : Expr} {te : TE} {pos : Pos}
noncomputable def j9k : TS := fun D σ H => D.nx σ H
noncomputable def j8m (t u : TS) : TS := fun D σ H => t { D with nx := u D } σ H
theorem q0t : PSs X [] j9k := fun _ _ σ H _ I h => wpAny_execs_nil ⟨σ, H, I, h⟩
theorem q1c (h1 : PS X st t) (h2 : PSs X x1e u) : PSs X (st :: x1e) (j8m t u) := by
 intro pins s σ H D I h
 refine wpAny_execs_cons (thn (h1 pins s σ H { D with nx := u D } I h) fun f s1 q => ?_)
 cases f with
 | next =>
  obtain ⟨σ', H', I', q⟩ := q
  exact h2 pins s1 σ' H' D I' q
 | ret v => exact q
 | brk => exact q
 | cont => exact q
theorem q0p (h1 : PS X st t) : PSs X [st] t := by
 intro pins s σ H D I h
 refine wpAny_execs_cons (thn (h1 pins s σ H D I h) fun f s1 q => ?_)
 cases f with
 | next => exact wpAny_execs_nil q
 | ret v => exact q
 | brk => exact q
 | cont => exact q
theorem Inv.quiet {pins : List (Addr × Obj)} {σ : St} {H : Hp} {s : Shared} (I : Inv X pins σ H s) : interactive X.env = false := by simp [interactive, I.ok.kind]
noncomputable def j8h (te : TE) : TS := fun D σ H => te σ H fun _ H1 => D.nx σ H1
theorem x0u (he : PE X e te) (hs : swapsWith e none pos.line X.env = pure false := by rfl) : PS X (.Expr e pos) (j8h te) := by
 intro pins s σ H D I h
 exact wpAny_Expr_any (thn (he pins s σ H _ I h) fun v s1 ⟨x, H1, I1, r1, q1⟩ => ⟨σ, H1, I1, q1⟩) I.quiet hs
noncomputable def w0t (te : TE) : TS := fun D σ H => te σ H D.rt
theorem q0k (he : PE X e te) : PS X (.Return (some e) pos) (w0t te) := by
 intro pins s σ H D I h
 exact wpAny_Return_some (thn (he pins s σ H _ I h) fun v s1 ⟨x, H1, I1, r1, q1⟩ => ⟨x, σ, H1, I1, r1, q1⟩)
noncomputable def w2t (c : TT) (t u : TS) : TS := fun D σ H => c σ H fun b H1 => if b = true then t D σ H1 else u D σ H1
theorem q1w {c : Expr} {a b : List Stmt} {tc : TT} (hc : PT X c tc) (ha : PSs X a t) (hb : PSs X b u) : PS X (.If c a b pos) (w2t tc t u) := by
 intro pins s σ H D I h
 refine wpAny_If (thn (hc pins s σ H _ I h) fun d s1 ⟨H1, I1, q1⟩ => ?_)
 cases d with
 | true => exact ha pins s1 σ H1 D I1 q1
 | false => exact hb pins s1 σ H1 D I1 q1
noncomputable def j6j : TS := fun _ _ _ => False
theorem x9c {sts : List Stmt} : PSs X sts j6j := fun _ _ _ _ _ _ h => h.elim
end
noncomputable abbrev TG := V → St → Hp → (St → Hp → Prop) → Prop
noncomputable abbrev TGs := List V → St → Hp → (St → Hp → Prop) → Prop
noncomputable def PG (X : Cx) (target : Expr) (t : TG) : Prop :=
 ∀ (pins : List (Addr × Obj)) (s : Shared) (σ : St) (H : Hp) (v : V) (u : Value) (Q : St → Hp → Prop), Inv X pins σ H s → q4y v u → t v σ H Q →
  wpAny (model X.prog X.w) X.A (assign target X.env u) (fun _ s' => ∃ σ' H', Inv X pins σ' H' s' ∧ Q σ' H') X.xe s
noncomputable def PGs (X : Cx) (ts : List Expr) (t : TGs) : Prop :=
 ∀ (pins : List (Addr × Obj)) (s : Shared) (σ : St) (H : Hp) (vs : List V) (us : List Value) (Q : St → Hp → Prop), Inv X pins σ H s → q4b vs us → t vs σ H Q →
  wpAny (model X.prog X.w) X.A (assignInOrder ((assignEach ts X.env).map (·.2)) us) (fun _ s' => ∃ σ' H', Inv X pins σ' H' s' ∧ Q σ' H') X.xe s
section
variable {X : Cx} {pos : Pos}
noncomputable def z4d (i : Nat) : TG := fun v σ H Q => Q (σ.set i (some v)) H
theorem q1h {i : Nat} {x : Str} (hN : X.N.Nodup) (hi : X.N[i]? = some x) (hx : Loc X.env.scope x) (hf : X.fn x = true ∨ X.env.scope.names.lookup x = some .local := by first | exact .inl rfl | exact .inr rfl | assumption) : PG X (.Name x pos) (z4d i) := by
 intro pins s σ H v u Q I r h
 exact wpAny_assign_Name (x2b I hN hi hx r (fun s' I' => ⟨_, H, I', h⟩) hf)
noncomputable def w2q : TGs := fun vs σ H Q => vs = [] ∧ Q σ H
noncomputable def j8j (t : TG) (u : TGs) : TGs := fun vs σ H Q => ∃ v r, vs = v :: r ∧ t v σ H fun σ' H' => u r σ' H' Q
theorem q5c : PGs X [] w2q := by
 intro pins s σ H vs us Q I r h
 obtain ⟨e, h⟩ := h
 subst e
 cases r
 exact assignInOrder_nil ⟨σ, H, I, h⟩
theorem q1v {e : Expr} {es : List Expr} {t : TG} {u : TGs} (h1 : PG X e t) (h2 : PGs X es u)
  (hs : (assignEach (e :: es) X.env).map (·.2) = assign e X.env :: (assignEach es X.env).map (·.2) := by rfl) : PGs X (e :: es) (j8j t u) := by
 intro pins s σ H vs us Q I r h
 obtain ⟨v, vr, e1, h⟩ := h
 subst e1
 cases r with
 | cons r rr =>
  rw [hs]
  refine assignInOrder_cons (thn (h1 pins s σ H _ _ _ I r h) fun _ s1 ⟨σ1, H1, I1, q1⟩ => ?_)
  exact h2 pins s1 σ1 H1 _ _ Q I1 rr q1
noncomputable def w0a (K : PySem.W.Frag) (n : Nat) (t : TGs) : TG := fun v σ H Q => ∃ a xs, v = .ref a ∧ SqT K H a xs ∧ xs.length = n ∧ t xs σ H Q
theorem x1s {es : List Expr} {k : Nat} {t : TGs} {n : Nat} (hc : X.calm = true) (h : PGs X es t)
  (hn : (assignEach es X.env).length = n := by rfl) (hst : (assignEach es X.env).findIdx? (·.1) = none := by rfl) : PG X (.Tuple es k pos) (w0a X.K n t) := by
 intro pins s σ H v u Q I r hw
 obtain ⟨a, xs, e1, hq, hl, hw⟩ := hw
 subst e1
 cases r
 obtain ⟨its, rv, ht, hz⟩ := I.tuple hq
 refine assign_Tuple_tuple (I.ok.hd hc) ht (by simp [hn, ← hl, rv.length]) hst fun h' hx => ?_
 have I1 : Inv X pins σ H { s with heap := h' } := I.kept (t' := s.toks) fun b o e => hx b o (Nat.ne_of_lt (Heap.lt_size e)) e
 exact h pins _ σ H xs _ Q I1 (by simpa using rv) hw
noncomputable def j7r (te : TE) (g : TG) : TS := fun D σ H => te σ H fun x H1 => g x σ H1 D.nx
theorem z1f {tg e : Expr} {te : TE} {g : TG} (he : PE X e te) (hg : PG X tg g) (hs : swapsWithSole [tg] e pos.line X.env = pure false := by rfl) (hw : swappedStores [tg] e X.env = pure none := by rfl)
  (h1 : (assignEach [tg] X.env).map (·.2) = [assign tg X.env] := by rfl) : PS X (.Assign [tg] e pos) (j7r te g) := by
 intro pins s σ H D I h
 refine wpAny_Assign_stores (thn (he pins s σ H _ I h) fun v s1 ⟨x, H1, I1, r1, q1⟩ => ?_) hs hw
 rw [h1]
 exact thn (hg pins s1 σ H1 x v _ I1 r1 q1) fun _ s2 q => q
theorem q1b {i : Nat} {x : Str} {e : Expr} {te : TE} {pos' : Pos} (hN : X.N.Nodup) (hi : X.N[i]? = some x) (hx : Loc X.env.scope x) (he : PE X e te) (hs : swapsWith e (some (.Name x pos')) pos.line X.env = pure false := by rfl) (hf : X.fn x = true ∨ X.env.scope.names.lookup x = some .local := by first | exact .inl rfl | exact .inr rfl | assumption) :
  PS X (.Assign [.Name x pos'] e pos) (j7r te (z4d i)) := by
 intro pins s σ H D I h
 refine wpAny_Assign_Name (thn (he pins s σ H _ I h) fun v s1 ⟨y, H1, I1, r1, q1⟩ => ?_) hs
 exact x2b I1 hN hi hx r1 (fun s2 I2 => ⟨_, H1, I2, q1⟩) hf
end
section
variable {X : Cx} {pos : Pos}
noncomputable def j6y (c : TT) (tb : TS) : TS := fun D σ H => ∃ W : Nat → St → Hp → Prop, (∃ m, W m σ H) ∧ ∀ m σ H, W m σ H →
 c σ H fun b H1 => if b = true then ∃ N : St → Hp → Prop, (∀ σ' H', N σ' H' → ∃ m', m' < m ∧ W m' σ' H') ∧ tb { D with nx := N, ct := N, bk := D.nx } σ H1 else D.nx σ H1
theorem z1v {c : Expr} {body : List Stmt} {tc : TT} {tb : TS} (hp : PassesOwn (model X.prog X.w) X.A X.env X.xe) (hc : PT X c tc) (hb : PSs X body tb) : PS X (.While c body [] pos) (j6y tc tb) := by
 intro pins s σ H D I h
 obtain ⟨W, ⟨m0, w0⟩, turn⟩ := h
 refine wpAny_While (codeAny_whileLoop (fun n s' => ∃ σ' H', Inv X pins σ' H' s' ∧ W n σ' H') ?_ m0 ⟨σ, H, I, w0⟩)
 rintro n s1 ⟨σ1, H1, I1, w1⟩
 refine wpAny_passesOwn hp (thn (hc pins s1 σ1 H1 _ I1 (turn n σ1 H1 w1)) fun b s2 ⟨H2, I2, q2⟩ => ?_)
 cases b with
 | true =>
  obtain ⟨N, hN, q2⟩ := q2
  rw [if_pos rfl]
  refine wpAny_passesOwn hp (thn (hb pins s2 σ1 H2 _ I2 q2) fun f s3 q3 => ?_)
  cases f with
  | next =>
   obtain ⟨σ3, H3, I3, n3⟩ := q3
   obtain ⟨m', hm, w3⟩ := hN σ3 H3 n3
   exact ⟨m', hm, σ3, H3, I3, w3⟩
  | cont =>
   obtain ⟨σ3, H3, I3, n3⟩ := q3
   obtain ⟨m', hm, w3⟩ := hN σ3 H3 n3
   exact ⟨m', hm, σ3, H3, I3, w3⟩
  | brk => exact q3
  | ret v => exact q3
 | false =>
  rw [if_neg Bool.false_ne_true]
  exact wpAny_execs_nil ⟨σ1, H2, I2, q2⟩
end
structure It where
 go : Nat → Hp → Prop
 yld : Nat → Hp → V → Hp → Prop
 stop : Nat → Hp → Prop
noncomputable def z8j (X : Cx) (pins : List (Addr × Obj)) (H : Hp) (b : Addr) : Prop :=
 H b = none ∧ b ≠ X.env.locals ∧ b ∉ X.fs ∧ (b ∈ X.ex ∨ X.s₀.heap.objs.size ≤ b) ∧ (∀ x c, X.env.cells.lookup x = some c → c ≠ b) ∧ ∀ p ∈ X.pn ++ pins, p.1 ≠ b
theorem Inv.fpOk {X : Cx} {pins : List (Addr × Obj)} {σ : St} {H H' : Hp} {s : Shared} {b : Addr} (I : Inv X pins σ H s) (hb : s.heap.objs.size ≤ b) (hn : H' b = none) : z8j X pins H' b := by
 refine ⟨hn, Nat.ne_of_gt (Nat.lt_of_lt_of_le I.lt hb), I.nofs hb, .inr (Nat.le_trans I.sz hb), fun x c e z => ?_, fun p hp z => ?_⟩
 ·obtain ⟨v, q⟩ := I.cell x c e
  exact absurd (Nat.lt_of_lt_of_le q.lt (by rw [z]; exact hb)) (Nat.lt_irrefl _)
 ·exact absurd (Nat.lt_of_lt_of_le (Heap.lt_size (I.pin p hp).1) (by rw [z]; exact hb)) (Nat.lt_irrefl _)
structure Turn (P : Program) (w : World) (K : PySem.W.Frag) (tg : Expr) (J : It) (fp : List Addr) (it : Addr) (tn : Nat → Heap → Prop) : Prop where
 mem : it ∈ fp
 obj : ∀ i h, tn i h → ∀ b ∈ fp, ∃ o, h.get? b = some o ∧ ∀ v, o.data ≠ .cell v
 keep : ∀ i h h', tn i h → (∀ b ∈ fp, ∀ o, h.get? b = some o → h'.get? b = some o) → tn i h'
 item : ∀ (X : Cx), X.prog = P → X.w = w → X.K = K → X.calm = true → ∀ (i : Nat) (pins : List (Addr × Obj)) (s : Shared) (σ : St) (H : Hp) (E : Value → Shared → Prop), Inv X pins σ H s → (∀ b ∈ fp, z8j X pins H b) → tn i s.heap → J.go i H →
  wpAny (model P w) X.A (pyNext (.ref it)) (fun r s1 => ∃ u, r = some u ∧
   wpAny (model P w) X.A (letOwnedTupleGo tg (.ref it) u) (fun _ s2 => ∃ x H', Inv X pins σ H' s2 ∧ q4y x u ∧ J.yld i H x H' ∧ tn (i + 1) s2.heap ∧ ∀ b ∈ fp, H' b = none) E s1) E s
 done : ∀ (X : Cx), X.prog = P → X.w = w → X.K = K → X.calm = true → ∀ (i : Nat) (pins : List (Addr × Obj)) (s : Shared) (σ : St) (H : Hp) (E : Value → Shared → Prop), Inv X pins σ H s → (∀ b ∈ fp, z8j X pins H b) → tn i s.heap → J.stop i H →
  wpAny (model P w) X.A (pyNext (.ref it)) (fun r s1 => r = none ∧ Inv X pins σ H s1) E s
 self : ∀ (A : Around) (i : Nat) (s : Shared) (Q : Value → Shared → Prop) (E : Value → Shared → Prop), tn i s.heap → Q (.ref it) s → wpAny (model P w) A (pyIter (.ref it)) Q E s
noncomputable abbrev TI := St → Hp → (It → Hp → Prop) → Prop
noncomputable def PIE (X : Cx) (pins : List (Addr × Obj)) (σ : St) (tg : Expr) (R : It → Hp → Prop) (itv : Value) (s2 : Shared) : Prop :=
 ∃ (it : Addr) (fp : List Addr) (tn : Nat → Heap → Prop) (J : It) (H' : Hp), itv = .ref it ∧ Inv X pins σ H' s2 ∧ Turn X.prog X.w X.K tg J fp it tn ∧ tn 0 s2.heap ∧ (∀ b ∈ fp, z8j X pins H' b) ∧ R J H'
noncomputable def PI (X : Cx) (tg iter : Expr) (wi : TI) : Prop :=
 ∀ (pins : List (Addr × Obj)) (s : Shared) (σ : St) (H : Hp) (R : It → Hp → Prop), Inv X pins σ H s → wi σ H R →
  wpAny (model X.prog X.w) X.A (eval iter X.env) (fun v s1 => wpAny (model X.prog X.w) X.A (pyIter v) (PIE X pins σ tg R) X.xe s1) X.xe s
theorem j2t {M : Model} {A : Around} {E : Value → Shared → Prop} {s : Shared} {tg : Expr} {it : Addr} {u : Value} {o : Obj} {n : String} {vs : Array Value} {Q : Unit → Shared → Prop} (ho : s.heap.get? it = some o) (hc : o.cls = .type n) (hd : o.data = .fields vs)
    (hn : ["enumerate", "zip", "dict_itemiterator", "dict_reverseitemiterator", "odict_iterator", "itertools.zip_longest", "itertools.pairwise"].contains n = false) (hQ : Q () s) : wpAny M A (letOwnedTupleGo tg (.ref it) u) Q E s := by
  unfold letOwnedTupleGo
  cases tg <;> first
    | exact wpAny_pure hQ
    | (cases u <;> first
        | exact wpAny_pure hQ
        | (refine wpAny_bind (wpAny_load ho ?_)
           rw [hc, hd]
           show wpAny M A (if (["enumerate", "zip", "dict_itemiterator", "dict_reverseitemiterator", "odict_iterator", "itertools.zip_longest", "itertools.pairwise"].contains n && vs[0]? == some (rawInt _)) = true then _ else _) Q E s
           rw [if_neg (by intro h; rw [hn, Bool.false_and] at h; cases h)]
           exact wpAny_pure hQ))
noncomputable def Itl (K : PySem.W.Frag) (a : Addr) : It :=
 ⟨fun i H => ∃ xs x, SqL K H a xs ∧ xs[i]? = some x, fun i H x H' => H' = H ∧ ∀ xs, SqL K H a xs → xs[i]? = some x, fun i H => ∃ xs, SqL K H a xs ∧ xs.length ≤ i⟩
noncomputable def Itt (K : PySem.W.Frag) (a : Addr) : It :=
 ⟨fun i H => ∃ xs x, SqT K H a xs ∧ xs[i]? = some x, fun i H x H' => H' = H ∧ ∀ xs, SqT K H a xs → xs[i]? = some x, fun i H => ∃ xs, SqT K H a xs ∧ xs.length ≤ i⟩
noncomputable def Itr (lo : Int) (n : Nat) : It := ⟨fun i _ => i < n, fun i H x H' => H' = H ∧ x = .int (lo + i), fun i _ => n ≤ i⟩
theorem z4r {P : Program} {w : World} {K : PySem.W.Frag} {tg : Expr} (a it : Addr) : Turn P w K tg (Itl K a) [it] it (fun i h => h.IsListIter it a i) where
 mem := by simp
 obj := fun i h st b hb => by
  have e : b = it := by simpa using hb
  subst e
  obtain ⟨o, e, c, d⟩ := st
  exact ⟨o, e, fun v z => by rw [d] at z; cases z⟩
 keep := fun i h h' st k => st.at fun o e => k it (by simp) o e
 item := by
  intro X hP hw hK hc i pins s σ H E I hf st hg
  subst hP hw hK
  obtain ⟨xs, x, hq, hx⟩ := hg
  obtain ⟨its, rv, p, hz⟩ := I.list hq
  obtain ⟨u, hu, ru⟩ := rv.get hx
  obtain ⟨f0, f1, f2, f3, f4, f5⟩ := hf it (by simp)
  refine wpAny_pyNext_list_item st p.isList (x := u) (by simpa using hu) fun h' st' sb => ?_
  have I1 : Inv X pins σ H { s with heap := h' } := I.turned (t' := s.toks) (fun b o hb e => (sb.2 b hb).trans e) f0 f1 f3 f4 f5
  obtain ⟨o, e, c, d⟩ := id st'
  exact ⟨u, rfl, j2t (s := { s with heap := h' }) e c d (by decide) ⟨x, H, I1, ru, ⟨rfl, fun ys hy => by rw [I.list_inj hy hq]; exact hx⟩, st', fun b hb => (hf b hb).1⟩⟩
 done := by
  intro X hP hw hK hc i pins s σ H E I hf st hg
  subst hP hw hK
  obtain ⟨xs, hq, hx⟩ := hg
  obtain ⟨its, rv, p, hz⟩ := I.list hq
  obtain ⟨f0, f1, f2, f3, f4, f5⟩ := hf it (by simp)
  have hl := rv.length
  exact wpAny_pyNext_list_end (I.ok.hd hc) st p.isList (by simp; omega) fun h' eb => ⟨rfl, I.turned (t' := s.toks) (fun b o hb e => eb b o hb e) f0 f1 f3 f4 f5⟩
 self := fun _ _ _ _ _ st h => wpAny_pyIter_listiter st h
theorem z3b {P : Program} {w : World} {K : PySem.W.Frag} {tg : Expr} (a it : Addr) : Turn P w K tg (Itt K a) [it] it (fun i h => h.IsTupleIter it a i) where
 mem := by simp
 obj := fun i h st b hb => by
  have e : b = it := by simpa using hb
  subst e
  obtain ⟨o, e, c, d⟩ := st
  exact ⟨o, e, fun v z => by rw [d] at z; cases z⟩
 keep := fun i h h' st k => st.at fun o e => k it (by simp) o e
 item := by
  intro X hP hw hK hc i pins s σ H E I hf st hg
  subst hP hw hK
  obtain ⟨xs, x, hq, hx⟩ := hg
  obtain ⟨its, rv, p, hz⟩ := I.tuple hq
  obtain ⟨u, hu, ru⟩ := rv.get hx
  obtain ⟨f0, f1, f2, f3, f4, f5⟩ := hf it (by simp)
  refine wpAny_pyNext_tuple_item st (show s.heap.IsTuple a its.toArray from p) (x := u) (by simpa using hu) fun h' st' sb => ?_
  have I1 : Inv X pins σ H { s with heap := h' } := I.turned (t' := s.toks) (fun b o hb e => (sb.2 b hb).trans e) f0 f1 f3 f4 f5
  obtain ⟨o, e, c, d⟩ := id st'
  exact ⟨u, rfl, j2t (s := { s with heap := h' }) e c d (by decide) ⟨x, H, I1, ru, ⟨rfl, fun ys hy => by rw [I.tuple_inj hy hq]; exact hx⟩, st', fun b hb => (hf b hb).1⟩⟩
 done := by
  intro X hP hw hK hc i pins s σ H E I hf st hg
  subst hP hw hK
  obtain ⟨xs, hq, hx⟩ := hg
  obtain ⟨its, rv, p, hz⟩ := I.tuple hq
  obtain ⟨f0, f1, f2, f3, f4, f5⟩ := hf it (by simp)
  have hl := rv.length
  exact wpAny_pyNext_tuple_end (I.ok.hd hc) st (show s.heap.IsTuple a its.toArray from p) (by simp; omega) fun h' eb => ⟨rfl, I.turned (t' := s.toks) (fun b o hb e => eb b o hb e) f0 f1 f3 f4 f5⟩
 self := fun _ _ _ _ _ st h => wpAny_pyIter_tupleiter st h
theorem z3n {P : Program} {w : World} {K : PySem.W.Frag} {tg : Expr} (it : Addr) (lo : Int) (n : Nat) : Turn P w K tg (Itr lo n) [it] it (fun i h => IsRangeIter h it (lo + (i : Nat) * 1) ((n : Int) - (i : Nat)) 1) where
 mem := by simp
 obj := fun i h st b hb => by
  have e : b = it := by simpa using hb
  subst e
  exact ⟨_, st, fun v z => by
   have z' : Data.fields _ = Data.cell v := z
   cases z'⟩
 keep := fun i h h' st k => k it (by simp) _ st
 item := by
  intro X hP hw hK hc i pins s σ H E I hf st hg
  subst hP hw hK
  obtain ⟨f0, f1, f2, f3, f4, f5⟩ := hf it (by simp)
  have W := Walks.range (prog := X.prog) (w := X.w) (I.ok.hd hc) it lo 1 n
  refine W.item i s _ _ hg st fun v h' tk hv st' kk => ?_
  obtain ⟨t, rfl⟩ := hv
  have I1 : Inv X pins σ H { s with heap := h', toks := tk } := I.turned (fun b o hb e => kk b o (by simpa using hb) e) f0 f1 f3 f4 f5
  refine ⟨_, rfl, j2t (s := { s with heap := h', toks := tk }) (n := "range_iterator") st' rfl rfl (by decide) ⟨.int (lo + i), H, I1, ⟨t, ?_⟩, ⟨rfl, rfl⟩, st', fun b hb => (hf b hb).1⟩⟩
  rw [Int.mul_one]
 done := by
  intro X hP hw hK hc i pins s σ H E I hf st hg
  subst hP hw hK
  obtain ⟨f0, f1, f2, f3, f4, f5⟩ := hf it (by simp)
  exact wpAny_pyNext_range_end (I.ok.hd hc) st (by have : n ≤ i := hg; omega) fun h' eb => ⟨rfl, I.turned (t' := s.toks) (fun b o hb e => eb b o hb e) f0 f1 f3 f4 f5⟩
 self := fun _ _ _ _ _ st h => wpAny_pyIter_rangeiter st h
section
variable {X : Cx} {tg : Expr}
noncomputable def j8u (K : PySem.W.Frag) (tl : TE) : TI := fun σ H R => tl σ H fun x H1 => ∃ a, x = .ref a ∧ (∃ xs, SqL K H1 a xs) ∧ R (Itl K a) H1
noncomputable def w2c (K : PySem.W.Frag) (tl : TE) : TI := fun σ H R => tl σ H fun x H1 => ∃ a, x = .ref a ∧ (∃ xs, SqT K H1 a xs) ∧ R (Itt K a) H1
theorem z6z {l : Expr} {tl : TE} (hl : PE X l tl) : PI X tg l (j8u X.K tl) := by
 intro pins s σ H R I h
 refine thn (hl pins s σ H _ I h) fun v s1 ⟨x, H1, I1, r1, q1⟩ => ?_
 obtain ⟨a, e, ⟨xs, hq⟩, q⟩ := q1
 subst e
 cases r1
 obtain ⟨its, rv, p, hz⟩ := I1.list hq
 refine wpAny_pyIter_list p.isList ?_
 refine ⟨s1.heap.objs.size, [s1.heap.objs.size], _, _, H1, rfl, I1.kept (t' := s1.toks) fun b o e => Heap.get?_push_of_some _ e, z4r a _, ⟨_, Heap.get?_push_size _ rfl, rfl, rfl⟩, fun b hb => ?_, q⟩
 have e : b = s1.heap.objs.size := by simpa using hb
 subst e
 exact I1.fpOk (Nat.le_refl _) (I1.hok.fresh (Nat.le_refl _))
theorem q7u {l : Expr} {tl : TE} (hl : PE X l tl) : PI X tg l (w2c X.K tl) := by
 intro pins s σ H R I h
 refine thn (hl pins s σ H _ I h) fun v s1 ⟨x, H1, I1, r1, q1⟩ => ?_
 obtain ⟨a, e, ⟨xs, hq⟩, q⟩ := q1
 subst e
 cases r1
 obtain ⟨its, rv, p, hz⟩ := I1.tuple hq
 refine wpAny_pyIter_tuple (show s1.heap.IsTuple a its.toArray from p) ?_
 refine ⟨s1.heap.objs.size, [s1.heap.objs.size], _, _, H1, rfl, I1.kept (t' := s1.toks) fun b o e => Heap.get?_push_of_some _ e, z3b a _, ⟨_, Heap.get?_push_size _ rfl, rfl, rfl⟩, fun b hb => ?_, q⟩
 have e : b = s1.heap.objs.size := by simpa using hb
 subst e
 exact I1.fpOk (Nat.le_refl _) (I1.hok.fresh (Nat.le_refl _))
theorem j1i {pins : List (Addr × Obj)} {σ : St} {H : Hp} {s : Shared} {R : It → Hp → Prop} {E : Value → Shared → Prop} {lo hi : Int} {t u v : Tok} {tk : Nat} (I : Inv X pins σ H s) (h1 : -(2 ^ 62) ≤ lo) (h2 : lo < 2 ^ 62) (h3 : -(2 ^ 62) ≤ hi) (h4 : hi < 2 ^ 62)
  (q : R (Itr lo (hi - lo).toNat) H) : wpAny (model X.prog X.w) X.A (pyIter (.ref s.heap.objs.size)) (PIE X pins σ tg R) E { s with heap := s.heap.push { cls := .type "range", data := .fields #[.int lo t, .int hi u, .int 1 v] }, toks := tk } := by
 refine wpAny_pyIter_range (IsRange.new ..) (small_one h1 h2 h3 h4) ?_
 have I1 : Inv X pins σ H { s with heap := s.heap.push { cls := .type "range", data := .fields #[.int lo t, .int hi u, .int 1 v] }, toks := tk } := I.kept fun b o e => Heap.get?_push_of_some _ e
 refine ⟨(s.heap.push { cls := .type "range", data := .fields #[.int lo t, .int hi u, .int 1 v] }).objs.size, [(s.heap.push { cls := .type "range", data := .fields #[.int lo t, .int hi u, .int 1 v] }).objs.size], _, _, H, rfl,
  I1.kept (t' := tk) fun b o e => Heap.get?_push_of_some _ e, z3n _ lo (hi - lo).toNat, ?_, fun b hb => ?_, q⟩
 ·have e1 : lo + ((0 : Nat) : Int) * 1 = lo := by simp
  have e2 : (((hi - lo).toNat : Nat) : Int) - ((0 : Nat) : Int) = Builtin.Range.rangeSize lo hi 1 := by rw [rangeSize_one]; split <;> omega
  show IsRangeIter _ _ (lo + ((0 : Nat) : Int) * 1) ((((hi - lo).toNat : Nat) : Int) - ((0 : Nat) : Int)) 1
  rw [e1, e2]
  exact Heap.get?_push_size _ rfl
 ·have e : b = (s.heap.push { cls := .type "range", data := .fields #[.int lo t, .int hi u, .int 1 v] }).objs.size := by simpa using hb
  subst e
  exact I1.fpOk (Nat.le_refl _) (I1.hok.fresh (Nat.le_refl _))
noncomputable def j8n (ta : TA) : TI := fun σ H R => ta σ H fun vs H1 => ∃ j : Int, vs = [.int j] ∧ -(2 ^ 62) ≤ j ∧ j < 2 ^ 62 ∧ R (Itr 0 j.toNat) H1
theorem x0g {a : Expr} {ta : TA} {p pos : Pos} (hg : Gl X "range") (hm : X.mg "range" = none) (ha : PA X [a] ta) (hs : starEach [a] X.env = [(false, eval a X.env)] := by rfl) : PI X tg (.Call (.Name "range" p) [a] [] pos) (j8n ta) := by
 intro pins s σ H R I h
 refine Call_ (x5l I hg hm boot_range (PyProof.Rows.callWith_type1 (thn (ha pos pins s σ H _ I h) fun us s1 ⟨vs, H1, I1, r1, q1⟩ => ?_) hs rfl))
 obtain ⟨j, e, q1, q2, q⟩ := q1
 subst e
 cases r1 with
 | cons r rr =>
  cases rr
  obtain ⟨t, rfl⟩ := r
  exact call_range_1 (j1i I1 (by omega) (by omega) q1 q2 (by simpa using q))
noncomputable def w2k (wi : TI) (g : TG) (tb : TS) : TS := fun D σ H => wi σ H fun J H1 => ∃ W : Nat → Nat → St → Hp → Prop, (∃ m, W 0 m σ H1) ∧ ∀ i m σ H, W i m σ H →
 (J.stop i H ∧ D.nx σ H) ∨ (J.go i H ∧ ∃ N : St → Hp → Prop, (∀ σ' H', N σ' H' → ∃ m', m' < m ∧ W (i + 1) m' σ' H') ∧ ∀ x H', J.yld i H x H' → g x σ H' fun σ2 H2 => tb { D with nx := N, ct := N, bk := D.nx } σ2 H2)
noncomputable def x8t (fp : List Addr) (h : Heap) : List (Addr × Obj) := fp.filterMap fun b => (h.get? b).map fun o => (b, o)
theorem q9d {fp : List Addr} {h : Heap} {b : Addr} {o : Obj} (hb : b ∈ fp) (e : h.get? b = some o) : (b, o) ∈ x8t fp h := List.mem_filterMap.mpr ⟨b, hb, by rw [e]; rfl⟩
theorem z6e {fp : List Addr} {h : Heap} {p : Addr × Obj} (hp : p ∈ x8t fp h) : p.1 ∈ fp ∧ h.get? p.1 = some p.2 := by
 obtain ⟨b, hb, e⟩ := List.mem_filterMap.mp hp
 cases q : h.get? b with
 | none => rw [q] at e; cases e
 | some o =>
  rw [q] at e
  have e' : (b, o) = p := Option.some.inj e
  subst e'
  exact ⟨hb, q⟩
theorem Inv.pinned {pins : List (Addr × Obj)} {σ : St} {H : Hp} {s : Shared} {fp : List Addr} (I : Inv X pins σ H s) (hf : ∀ b ∈ fp, z8j X pins H b) (ho : ∀ b ∈ fp, ∃ o, s.heap.get? b = some o ∧ ∀ v, o.data ≠ .cell v) : Inv X (pins ++ x8t fp s.heap) σ H s :=
 I.pins_of fun p hp => (List.mem_append.mp hp).elim (fun z => I.pin p (List.mem_append_right _ z)) fun z => by
  obtain ⟨hb, e⟩ := z6e z
  obtain ⟨f0, f1, f2, _⟩ := hf p.1 hb
  obtain ⟨o, e', d⟩ := ho p.1 hb
  rw [e] at e'; cases e'
  exact ⟨e, f0, f1, f2, d⟩
theorem Inv.unpinned {pins pl : List (Addr × Obj)} {σ : St} {H : Hp} {s : Shared} (I : Inv X (pins ++ pl) σ H s) : Inv X pins σ H s := I.pins_of fun p hp => I.pin p (List.mem_append_right _ (List.mem_append_left _ hp))
theorem x5n {iter : Expr} {body : List Stmt} {wi : TI} {g : TG} {tb : TS} {pos : Pos} (hp : PassesOwn (model X.prog X.w) X.A X.env X.xe) (hc : X.calm = true) (hi : PI X tg iter wi) (hg : PG X tg g) (hb : PSs X body tb)
  (hs : ∀ x, foldedSetIterable iter X.env x = pure x := by intro _; rfl) : PS X (.For tg iter body [] pos) (w2k wi g tb) := by
 intro pins s σ H D I h
 refine wpAny_For (thn (hi pins s σ H _ I h) fun v s1 h1 => thn h1 fun itv s2 h2 => ?_) hs
 obtain ⟨it, fp, tn, J, H2, e, I2, T, st2, f2, W, ⟨m0, w0⟩, turn⟩ := h2
 subst e
 have stat : ∀ {H' : Hp}, (∀ b ∈ fp, H' b = none) → ∀ b ∈ fp, z8j X pins H' b := fun hn b hb => ⟨hn b hb, (f2 b hb).2⟩
 refine codeAny_forLoop_any (fun n s' => ∃ i σ' H', Inv X pins σ' H' s' ∧ tn i s'.heap ∧ (∀ b ∈ fp, H' b = none) ∧ W i n σ' H') ?_ m0 ⟨0, σ, H2, I2, st2, fun b hb => (f2 b hb).1, w0⟩
 rintro n s3 ⟨i, σ3, H3, I3, st3, fr3, w3⟩
 rcases turn i n σ3 H3 w3 with ⟨stop, qn⟩ | ⟨go, N, hN, step⟩
 ·refine wpAny_passesOwn hp (thn (T.done X rfl rfl rfl hc i pins s3 σ3 H3 X.xe I3 (stat fr3) st3 stop) fun r s4 ⟨hr, I4⟩ => ?_)
  subst hr
  exact wpAny_execs_nil ⟨σ3, H3, I4, qn⟩
 ·refine wpAny_passesOwn hp (thn (T.item X rfl rfl rfl hc i pins s3 σ3 H3 X.xe I3 (stat fr3) st3 go) fun r s4 ⟨u, hr, h4⟩ => ?_)
  subst hr
  refine wpAny_passesOwn hp (thn h4 fun _ s5 ⟨x, H5, I5, r5, y5, st5, fr5⟩ => ?_)
  have I5' := I5.pinned (stat fr5) (T.obj _ _ st5)
  refine wpAny_passesOwn hp (thn (hg _ s5 σ3 H5 x u _ I5' r5 (step x H5 y5)) fun _ s6 ⟨σ6, H6, I6, q6⟩ => ?_)
  refine wpAny_passesOwn hp (thn (hb _ s6 σ6 H6 _ I6 q6) fun f s7 q7 => ?_)
  have again : ∀ {σ7 : St} {H7 : Hp}, Inv X (pins ++ x8t fp s5.heap) σ7 H7 s7 → N σ7 H7 → ∃ m, m < n ∧ ∃ i σ' H', Inv X pins σ' H' s7 ∧ tn i s7.heap ∧ (∀ b ∈ fp, H' b = none) ∧ W i m σ' H' := fun {σ7 H7} I7 n7 => by
   obtain ⟨m', hm, w7⟩ := hN σ7 H7 n7
   refine ⟨m', hm, i + 1, σ7, H7, I7.unpinned, T.keep _ _ _ st5 fun b hb o e => (I7.pin (b, o) (List.mem_append_right _ (List.mem_append_right _ (q9d hb e)))).1, fun b hb => ?_, w7⟩
   obtain ⟨o, e, d⟩ := T.obj _ _ st5 b hb
   exact (I7.pin (b, o) (List.mem_append_right _ (List.mem_append_right _ (q9d hb e)))).2.1
  cases f with
  | next => obtain ⟨σ7, H7, I7, n7⟩ := q7; exact again I7 n7
  | cont => obtain ⟨σ7, H7, I7, n7⟩ := q7; exact again I7 n7
  | brk => obtain ⟨σ7, H7, I7, q7⟩ := q7; exact ⟨σ7, H7, I7.unpinned, q7⟩
  | ret v => obtain ⟨x7, σ7, H7, I7, r7, q7⟩ := q7; exact ⟨x7, σ7, H7, I7.unpinned, r7, q7⟩
end
theorem x3c {K : PySem.W.Frag} {a : Addr} {xs : List V} {g : TG} {tb : TS} {D : Ends} {σ : St} {H : Hp} (Pv : Nat → St → Hp → Prop) (h0 : Pv 0 σ H) (hl : ∀ i σ H, i ≤ xs.length → Pv i σ H → SqT K H a xs)
  (hs : ∀ i x σ H, xs[i]? = some x → Pv i σ H → g x σ H fun σ2 H2 => tb { D with nx := Pv (i + 1), ct := Pv (i + 1), bk := D.nx } σ2 H2) (hd : ∀ σ H, Pv xs.length σ H → D.nx σ H) :
  ∃ W : Nat → Nat → St → Hp → Prop, (∃ m, W 0 m σ H) ∧ ∀ i m σ H, W i m σ H →
   ((Itt K a).stop i H ∧ D.nx σ H) ∨ ((Itt K a).go i H ∧ ∃ N : St → Hp → Prop, (∀ σ' H', N σ' H' → ∃ m', m' < m ∧ W (i + 1) m' σ' H') ∧ ∀ x H', (Itt K a).yld i H x H' → g x σ H' fun σ2 H2 => tb { D with nx := N, ct := N, bk := D.nx } σ2 H2) := by
 refine ⟨fun i m σ H => m = xs.length - i ∧ i ≤ xs.length ∧ Pv i σ H, ⟨xs.length, by simp, Nat.zero_le _, h0⟩, ?_⟩
 rintro i m σ H ⟨rfl, hi, p⟩
 have q := hl i σ H hi p
 by_cases hlt : i < xs.length
 ·refine .inr ⟨⟨xs, xs[i], q, by simp [hlt]⟩, Pv (i + 1), fun σ' H' p' => ⟨xs.length - (i + 1), by omega, rfl, hlt, p'⟩, fun x H' y => ?_⟩
  obtain ⟨e, y⟩ := y
  subst e
  exact hs i x σ _ (y xs q) p
 ·have e : i = xs.length := by omega
  subst e
  exact .inl ⟨⟨xs, q, Nat.le_refl _⟩, hd σ H p⟩
noncomputable abbrev R2 := V → V → Hp → VK → Prop
noncomputable def OpR (X : Cx) (f : Value → Value → Sem Value) (r : R2) : Prop :=
 ∀ (pins : List (Addr × Obj)) (s : Shared) (σ : St) (H : Hp) (x y : V) (v u : Value) (Q : VK), Inv X pins σ H s → q4y x v → q4y y u → r x y H Q →
  wpAny (model X.prog X.w) X.A (f v u) (EP X pins σ Q) X.xe s
noncomputable def UnR (X : Cx) (f : Value → Sem Value) (r : V → Hp → VK → Prop) : Prop :=
 ∀ (pins : List (Addr × Obj)) (s : Shared) (σ : St) (H : Hp) (x : V) (v : Value) (Q : VK), Inv X pins σ H s → q4y x v → r x H Q →
  wpAny (model X.prog X.w) X.A (f v) (EP X pins σ Q) X.xe s
noncomputable def q9h (X : Cx) (f : Value) (r : List V → Hp → VK → Prop) : Prop :=
 ∀ (pins : List (Addr × Obj)) (s : Shared) (σ : St) (H : Hp) (xs : List V) (us : List Value) (Q : VK), Inv X pins σ H s → q4b xs us → r xs H Q →
  wpAny (model X.prog X.w) X.A (call f us) (EP X pins σ Q) X.xe s
noncomputable def tOp (r : R2) (ta tb : TE) : TE := fun σ H Q => ta σ H fun x H1 => tb σ H1 fun y H2 => r x y H2 Q
noncomputable def tUn (r : V → Hp → VK → Prop) (ta : TE) : TE := fun σ H Q => ta σ H fun x H1 => r x H1 Q
noncomputable def rI (C : Int → Int → Prop) (g : Int → Int → V) : R2 := fun x y H Q => ∃ i j, x = .int i ∧ y = .int j ∧ C i j ∧ Q (g i j) H
noncomputable def rI0 (g : Int → Int → V) : R2 := fun x y H Q => ∃ i j, x = .int i ∧ y = .int j ∧ Q (g i j) H
noncomputable def rU (g : Int → V) : V → Hp → VK → Prop := fun x H Q => ∃ i, x = .int i ∧ Q (g i) H
section
variable {X : Cx} {a b c : Expr} {ta tb tc : TE} {pos : Pos}
theorem j9f (ha : PE X a ta) (hb : PE X b tb) {pins : List (Addr × Obj)} {s : Shared} {σ : St} {H : Hp} {R : V → V → Hp → Prop} (I : Inv X pins σ H s)
  (h : ta σ H fun x H1 => tb σ H1 fun y H2 => R x y H2) {Q : Value → Shared → Prop} {f : Value → Value → Sem Value}
  (hf : ∀ v u s2 x y H2, Inv X pins σ H2 s2 → q4y x v → q4y y u → R x y H2 → wpAny (model X.prog X.w) X.A (f v u) Q X.xe s2) :
  wpAny (model X.prog X.w) X.A (eval a X.env) (fun v s₁ => wpAny (model X.prog X.w) X.A (eval b X.env) (fun u s₂ => wpAny (model X.prog X.w) X.A (f v u) Q X.xe s₂) X.xe s₁) X.xe s := by
 refine thn (ha pins s σ H _ I h) fun v s1 ⟨x, H1, I1, r1, q1⟩ => ?_
 refine thn (hb pins s1 σ H1 _ I1 q1) fun u s2 ⟨y, H2, I2, r2, q2⟩ => ?_
 exact hf v u s2 x y H2 I2 r1 r2 q2
theorem q0j {op : Operator} {r : R2} (ho : OpR X (binaryOp op) r) (ha : PE X a ta) (hb : PE X b tb) : PE X (.BinOp a op b pos) (tOp r ta tb) := by
 intro pins s σ H Q I h
 exact wpAny_BinOp (j9f ha hb I h fun v u s2 x y H2 I2 rx ry q => ho pins s2 σ H2 x y v u Q I2 rx ry q)
theorem x4p {op : UnaryOp} {r : V → Hp → VK → Prop} (ho : UnR X (unaryOp op) r) (ha : PE X a ta) : PE X (.UnaryOp op a pos) (tUn r ta) := by
 intro pins s σ H Q I h
 exact UnaryOp_ (thn (ha pins s σ H _ I h) fun v s1 ⟨x, H1, I1, r1, q1⟩ => ho pins s1 σ H1 x v Q I1 r1 q1)
theorem opI {f : Value → Value → Sem Value} {C : Int → Int → Prop} {g : Int → Int → Int}
  (rule : ∀ (i j : Int) (t u : Tok) (s : Shared) (Q : Value → Shared → Prop) (E : Value → Shared → Prop), C i j → Q (.int (g i j) s.toks) { s with toks := s.toks + 1 } → wpAny (model X.prog X.w) X.A (f (.int i t) (.int j u)) Q E s) :
  OpR X f (rI C fun i j => .int (g i j)) := by
 intro pins s σ H x y v u Q I rx ry h
 obtain ⟨i, j, rfl, rfl, hc, q⟩ := h
 obtain ⟨t, rfl⟩ := rx
 obtain ⟨t', rfl⟩ := ry
 exact rule i j t t' s _ _ hc ⟨.int (g i j), H, I.tok _, ⟨_, rfl⟩, q⟩
theorem w0m {f : Value → Value → Sem Value} {g : Int → Int → Int}
  (rule : ∀ (i j : Int) (t u : Tok) (s : Shared) (Q : Value → Shared → Prop) (E : Value → Shared → Prop), Q (.int (g i j) s.toks) { s with toks := s.toks + 1 } → wpAny (model X.prog X.w) X.A (f (.int i t) (.int j u)) Q E s) :
  OpR X f (rI0 fun i j => .int (g i j)) := by
 intro pins s σ H x y v u Q I rx ry h
 obtain ⟨i, j, rfl, rfl, q⟩ := h
 obtain ⟨t, rfl⟩ := rx
 obtain ⟨t', rfl⟩ := ry
 exact rule i j t t' s _ _ ⟨.int (g i j), H, I.tok _, ⟨_, rfl⟩, q⟩
theorem j7x {f : Value → Value → Sem Value} {g : Int → Int → Bool}
  (rule : ∀ (i j : Int) (t u : Tok) (s : Shared) (Q : Value → Shared → Prop) (E : Value → Shared → Prop), Q (.bool (g i j)) s → wpAny (model X.prog X.w) X.A (f (.int i t) (.int j u)) Q E s) :
  OpR X f (rI0 fun i j => .bl (g i j)) := by
 intro pins s σ H x y v u Q I rx ry h
 obtain ⟨i, j, rfl, rfl, q⟩ := h
 obtain ⟨t, rfl⟩ := rx
 obtain ⟨t', rfl⟩ := ry
 exact rule i j t t' s _ _ ⟨.bl (g i j), H, I, rfl, q⟩
noncomputable def w0y (i j : Int) : Prop := 0 < j ∧ j < 1073741824
noncomputable def w3m (i j : Int) : Prop := 0 ≤ j ∧ j ≤ 1000000 ∧ i.natAbs < 2 ^ 64
noncomputable def j9v (i j : Int) : Prop := (-(2 ^ 64) < i ∧ i < 2 ^ 64) ∨ (-(2 ^ 64) < j ∧ j < 2 ^ 64)
theorem j9v.ok {i j : Int} (h : j9v i j) : IntMulOk i j := by
 rcases h with ⟨h1, h2⟩ | ⟨h1, h2⟩
 ·exact .of_left (intBits_le_64 h1 h2)
 ·exact .of_right (intBits_le_64 h1 h2)
theorem q1r : OpR X (binaryOp .Add) (rI0 fun i j => .int (i + j)) := w0m fun _ _ _ _ _ _ _ q => add_int q
theorem x1v : OpR X (binaryOp .Sub) (rI0 fun i j => .int (i - j)) := w0m fun _ _ _ _ _ _ _ q => sub_int q
theorem q6r : OpR X (binaryOp .Mult) (rI j9v fun i j => .int (i * j)) := opI fun _ _ _ _ _ _ _ hc q => mul_int q hc.ok
theorem q2b : OpR X (binaryOp .FloorDiv) (rI w0y fun i j => .int (i / j)) := opI fun i j _ _ _ _ _ hc q => by
 have h1 : (0 : Int) < j := hc.1
 have h2 : j < 1073741824 := hc.2
 exact floordiv_int (by omega) (by rw [Int.fdiv_eq_ediv_of_nonneg i (by omega)]; exact q) (.inl (PyProof.noPylong_small (by omega)))
theorem q1n : OpR X (binaryOp .Mod) (rI (fun _ j => 0 < j) fun i j => .int (i % j)) := opI fun i j _ _ _ _ _ hc q => by
 have h1 : (0 : Int) < j := hc
 exact mod_int' (by omega) (by rw [Int.fmod_eq_emod_of_nonneg i (by omega)]; exact q)
theorem q6p : OpR X (binaryOp .Pow) (rI w3m fun i j => .int (i ^ j.toNat)) := opI fun _ _ _ _ _ _ _ hc q => pow_int_small hc.1 hc.2.1 hc.2.2 q
theorem unI {f : Value → Sem Value} {g : Int → Int}
  (rule : ∀ (i : Int) (t : Tok) (s : Shared) (Q : Value → Shared → Prop) (E : Value → Shared → Prop), Q (.int (g i) s.toks) { s with toks := s.toks + 1 } → wpAny (model X.prog X.w) X.A (f (.int i t)) Q E s) :
  UnR X f (rU fun i => .int (g i)) := by
 intro pins s σ H x v Q I rx h
 obtain ⟨i, rfl, q⟩ := h
 obtain ⟨t, rfl⟩ := rx
 exact rule i t s _ _ ⟨.int (g i), H, I.tok _, ⟨_, rfl⟩, q⟩
theorem q9l : UnR X (unaryOp .USub) (rU fun i => .int (-i)) := unI fun _ _ _ _ _ q => neg_int q
end
noncomputable def j8p : V → V → Bool
 | .non, .non => true | .non, .int _ => true | .int _, .non => true | .non, .bl _ => true | .bl _, .non => true | .non, .str _ => true | .str _, .non => true
 | .int _, .int _ => true | .bl _, .bl _ => true | .str _, .str _ => true | .byt _, .byt _ => true
 | .int _, .str _ => true | .str _, .int _ => true | .bl _, .str _ => true | .str _, .bl _ => true
 | _, _ => false
noncomputable def rEq : R2 := fun x y H Q => j8p x y = true ∧ Q (.bl (decide (x = y))) H
noncomputable def rNe : R2 := fun x y H Q => j8p x y = true ∧ Q (.bl (!decide (x = y))) H
theorem x2k {i j : Int} : decide (V.int i = V.int j) = (i == j) := by
 rw [Bool.eq_iff_iff]
 simp
theorem z2f {i j : Bool} : decide (V.bl i = V.bl j) = (i == j) := by
 rw [Bool.eq_iff_iff]
 simp
theorem z8b {i j : Str} : decide (V.str i = V.str j) = (i == j) := by
 rw [Bool.eq_iff_iff]
 simp
theorem z5c {i j : Array UInt8} : decide (V.byt i = V.byt j) = (i.toList == j.toList) := by
 rw [Bool.eq_iff_iff]
 cases i
 cases j
 simp
section
variable {X : Cx} {a b c : Expr} {ta tb tc : TE} {pos : Pos}
theorem q2m {pins : List (Addr × Obj)} {σ : St} {H : Hp} {s : Shared} {Q : VK} {k k' : Bool} (I : Inv X pins σ H s) (q : Q (.bl k) H) (e : k = k') : EP X pins σ Q (.bool k') s := by
 subst e
 exact ⟨.bl k, H, I, rfl, q⟩
theorem q2c : OpR X (compareOp .Eq) rEq := by
 intro pins s σ H x y v u Q I rx ry h
 obtain ⟨hs, q⟩ := h
 cases x with
 | non =>
  cases rx
  cases y with
  | non => cases ry; exact PySem.EqNone.eq_none_none (q2m I q (by simp))
  | bl j => cases ry; exact PySem.EqNone.eq_none_bool (q2m I q (by simp))
  | int j => obtain ⟨t', rfl⟩ := ry; exact PySem.EqNone.eq_none_int (q2m I q (by simp))
  | str j => obtain ⟨t', rfl⟩ := ry; exact PySem.EqNone.eq_none_str (q2m I q (by simp))
  | _ => exact absurd (show false = true from hs) Bool.false_ne_true
 | bl i =>
  cases rx
  cases y with
  | non => cases ry; exact PySem.EqNone.eq_bool_none (q2m I q (by simp))
  | bl j => cases ry; exact eq_bool (q2m I q z2f)
  | str j => obtain ⟨t', rfl⟩ := ry; exact PySem.EqMixed.eq_bool_str (q2m I q (by simp))
  | _ => exact absurd (show false = true from hs) Bool.false_ne_true
 | int i =>
  obtain ⟨t, rfl⟩ := rx
  cases y with
  | non => cases ry; exact PySem.EqNone.eq_int_none (q2m I q (by simp))
  | int j => obtain ⟨t', rfl⟩ := ry; exact eq_int (q2m I q x2k)
  | str j => obtain ⟨t', rfl⟩ := ry; exact PySem.EqMixed.eq_int_str (q2m I q (by simp))
  | _ => exact absurd (show false = true from hs) Bool.false_ne_true
 | str i =>
  obtain ⟨t, rfl⟩ := rx
  cases y with
  | non => cases ry; exact PySem.EqNone.eq_str_none (q2m I q (by simp))
  | bl j => cases ry; exact PySem.EqMixed.eq_str_bool (q2m I q (by simp))
  | int j => obtain ⟨t', rfl⟩ := ry; exact PySem.EqMixed.eq_str_int (q2m I q (by simp))
  | str j => obtain ⟨t', rfl⟩ := ry; exact eq_str (q2m I q z8b)
  | _ => exact absurd (show false = true from hs) Bool.false_ne_true
 | byt i =>
  obtain ⟨t, rfl⟩ := rx
  cases y with
  | byt j => obtain ⟨t', rfl⟩ := ry; exact PySem.W.eq_bytes (q2m I q z5c)
  | _ => exact absurd (show false = true from hs) Bool.false_ne_true
 | _ => cases y <;> exact absurd (show false = true from hs) Bool.false_ne_true
theorem j0m : OpR X (compareOp .NotEq) rNe := by
 intro pins s σ H x y v u Q I rx ry h
 obtain ⟨hs, q⟩ := h
 cases x with
 | non =>
  cases rx
  cases y with
  | non => cases ry; exact PySem.EqNone.ne_none_none (q2m I q (by simp))
  | bl j => cases ry; exact PySem.EqNone.ne_none_bool (q2m I q (by simp))
  | int j => obtain ⟨t', rfl⟩ := ry; exact PySem.EqNone.ne_none_int (q2m I q (by simp))
  | str j => obtain ⟨t', rfl⟩ := ry; exact PySem.EqNone.ne_none_str (q2m I q (by simp))
  | _ => exact absurd (show false = true from hs) Bool.false_ne_true
 | bl i =>
  cases rx
  cases y with
  | non => cases ry; exact PySem.EqNone.ne_bool_none (q2m I q (by simp))
  | bl j => cases ry; exact ne_bool (q2m I q (congrArg not z2f))
  | str j => obtain ⟨t', rfl⟩ := ry; exact PySem.EqMixed.ne_bool_str (q2m I q (by simp))
  | _ => exact absurd (show false = true from hs) Bool.false_ne_true
 | int i =>
  obtain ⟨t, rfl⟩ := rx
  cases y with
  | non => cases ry; exact PySem.EqNone.ne_int_none (q2m I q (by simp))
  | int j => obtain ⟨t', rfl⟩ := ry; exact ne_int (q2m I q (congrArg not x2k))
  | str j => obtain ⟨t', rfl⟩ := ry; exact PySem.EqMixed.ne_int_str (q2m I q (by simp))
  | _ => exact absurd (show false = true from hs) Bool.false_ne_true
 | str i =>
  obtain ⟨t, rfl⟩ := rx
  cases y with
  | non => cases ry; exact PySem.EqNone.ne_str_none (q2m I q (by simp))
  | bl j => cases ry; exact PySem.EqMixed.ne_str_bool (q2m I q (by simp))
  | int j => obtain ⟨t', rfl⟩ := ry; exact PySem.EqMixed.ne_str_int (q2m I q (by simp))
  | str j => obtain ⟨t', rfl⟩ := ry; exact ne_str (q2m I q (congrArg not z8b))
  | _ => exact absurd (show false = true from hs) Bool.false_ne_true
 | byt i =>
  obtain ⟨t, rfl⟩ := rx
  cases y with
  | byt j => obtain ⟨t', rfl⟩ := ry; exact PySem.W.ne_bytes (q2m I q (congrArg not z5c))
  | _ => exact absurd (show false = true from hs) Bool.false_ne_true
 | _ => cases y <;> exact absurd (show false = true from hs) Bool.false_ne_true
theorem x5t : OpR X (compareOp .Lt) (rI0 fun i j => .bl (decide (i < j))) := j7x fun _ _ _ _ _ _ _ q => lt_int q
theorem z0e : OpR X (compareOp .LtE) (rI0 fun i j => .bl (decide (i ≤ j))) := j7x fun _ _ _ _ _ _ _ q => le_int q
theorem z0l : OpR X (compareOp .Gt) (rI0 fun i j => .bl (decide (j < i))) := j7x fun _ _ _ _ _ _ _ q => gt_int q
theorem z3z : OpR X (compareOp .GtE) (rI0 fun i j => .bl (decide (j ≤ i))) := j7x fun _ _ _ _ _ _ _ q => ge_int q
theorem z5m : OpR X (compareOp .Lt) (fun x y H Q => ∃ i j, x = .str i ∧ y = .str j ∧ Q (.bl (decide (i.cps.toList < j.cps.toList))) H) := by
 intro pins s σ H x y v u Q I rx ry h
 obtain ⟨i, j, rfl, rfl, q⟩ := h
 obtain ⟨t, rfl⟩ := rx
 obtain ⟨t', rfl⟩ := ry
 exact lt_str (q2m I q rfl)
theorem z1d : OpR X (compareOp .Is) (fun x y H Q => y = .non ∧ Q (.bl (decide (x = .non))) H) := by
 intro pins s σ H x y v u Q I rx ry h
 obtain ⟨rfl, q⟩ := h
 cases ry
 refine is_none_gen (q2m I q ?_)
 cases x <;> first
  | (cases rx; rfl)
  | (obtain ⟨t, rfl⟩ := rx; rfl)
theorem j3t : OpR X (compareOp .IsNot) (fun x y H Q => y = .non ∧ Q (.bl (!decide (x = .non))) H) := by
 intro pins s σ H x y v u Q I rx ry h
 obtain ⟨rfl, q⟩ := h
 cases ry
 refine isnot_none_gen (q2m I q ?_)
 cases x <;> first
  | (cases rx; rfl)
  | (obtain ⟨t, rfl⟩ := rx; rfl)
theorem q0q (b : Expr) {op : CmpOp} (h : op ≠ .In := by decide) (h2 : op ≠ .NotIn := by decide) : behindInMarks op b = false := by
 have e1 : (op == CmpOp.In) = false := by cases op <;> first | rfl | exact absurd rfl h
 have e2 : (op == CmpOp.NotIn) = false := by cases op <;> first | rfl | exact absurd rfl h2
 cases b <;> simp [behindInMarks, e1, e2]
theorem q1z {op : CmpOp} {r : R2} (ho : OpR X (compareOp op) r) (ha : PE X a ta) (hb : PE X b tb) (hm : behindInMarks op b = false) : PE X (.Compare a [op] [b] pos) (tOp r ta tb) := by
 intro pins s σ H Q I h
 exact wpAny_Compare1 (j9f ha hb I h fun v u s2 x y H2 I2 rx ry q => ho pins s2 σ H2 x y v u Q I2 rx ry q) hm
noncomputable def j3h (t : TE) : TT := fun σ H Q => t σ H fun x H' => ∃ k, x = .bl k ∧ Q k H'
theorem q0s {op : CmpOp} {r : R2} (ho : OpR X (compareOp op) r) (ha : PE X a ta) (hb : PE X b tb) (hm : behindInMarks op b = false) : PT X (.Compare a [op] [b] pos) (j3h (tOp r ta tb)) := by
 intro pins s σ H Q I h
 refine wpAny_isTrue_Compare1 (thn (ha pins s σ H _ I h) fun v s1 ⟨x, H1, I1, r1, q1⟩ => thn (hb pins s1 σ H1 _ I1 q1) fun u s2 ⟨y, H2, I2, r2, q2⟩ =>
  thn (ho pins s2 σ H2 x y v u _ I2 r1 r2 q2) fun c s3 ⟨z, H3, I3, r3, k, e, q3⟩ => ?_) hm
 subst e
 cases r3
 exact wpAny_truthy_bool ⟨H3, I3, q3⟩
noncomputable def j5l (r r' : R2) (ta tb tc : TE) : TE := fun σ H Q => ta σ H fun x H1 => tb σ H1 fun y H2 => r x y H2 fun z H3 => ∃ k, z = .bl k ∧
 (if k = true then tc σ H3 fun w' H4 => r' y w' H4 Q else Q (.bl false) H3)
theorem x2i {op op' : CmpOp} {r r' : R2} (ho : OpR X (compareOp op) r) (ho' : OpR X (compareOp op') r') (ha : PE X a ta) (hb : PE X b tb) (hc : PE X c tc)
  (hm : lastMarks [op, op'] [b, c] = false := by with_unfolding_all rfl) : PE X (.Compare a [op, op'] [b, c] pos) (j5l r r' ta tb tc) := by
 intro pins s σ H Q I h
 refine Compare_chain (thn (ha pins s σ H _ I h) fun v s1 ⟨x, H1, I1, r1, q1⟩ => chain_link (thn (hb pins s1 σ H1 _ I1 q1) fun u s2 ⟨y, H2, I2, r2, q2⟩ =>
  thn (ho pins s2 σ H2 x y v u _ I2 r1 r2 q2) fun d s3 ⟨z, H3, I3, r3, k, e, q3⟩ => ?_)) hm
 subst e
 cases r3
 refine wpAny_truthy_bool ?_
 cases k with
 | false => exact ite_ff ⟨.bl false, H3, I3, rfl, q3⟩
 | true => exact ite_tt (chain_last (thn (hc pins s3 σ H3 _ I3 q3) fun w' s4 ⟨z', H4, I4, r4, q4⟩ => ho' pins s4 σ H4 y z' u w' Q I4 r2 r4 q4))
theorem x9h : (sizeLine : Nat) < 2 ^ 63 := by rw [sizeLine_eq]; decide
theorem q0l : OpR X (binaryOp .Add) (fun x y H Q => ∃ i j, x = .str i ∧ y = .str j ∧ i.length + j.length ≤ sizeLine ∧ Q (.str (i ++ j)) H) := by
 intro pins s σ H x y v u Q I rx ry h
 obtain ⟨i, j, rfl, rfl, hz, q⟩ := h
 obtain ⟨t, rfl⟩ := rx
 obtain ⟨t', rfl⟩ := ry
 exact add_str (fun t' tk => ⟨.str (i ++ j), H, I.tok _, ⟨_, rfl⟩, q⟩) hz
theorem q8a {x : V} {us : List Value} (r : q4b [x] us) : ∃ u, us = [u] ∧ q4y x u := by
 cases r with
 | cons r1 r2 => cases r2; exact ⟨_, rfl, r1⟩
theorem z3y {x y : V} {us : List Value} (r : q4b [x, y] us) : ∃ u w', us = [u, w'] ∧ q4y x u ∧ q4y y w' := by
 cases r with
 | cons r1 r2 =>
  cases r2 with
  | cons r3 r4 => cases r4; exact ⟨_, _, rfl, r1, r3⟩
theorem z9p : q9h X (.builtin "abs") (fun xs H Q => ∃ i, xs = [.int i] ∧ Q (.int (if i < 0 then -i else i)) H) := by
 intro pins s σ H xs us Q I r h
 obtain ⟨i, rfl, q⟩ := h
 obtain ⟨u, rfl, t, rfl⟩ := q8a r
 exact call_abs_int fun u tk => ⟨.int (if i < 0 then -i else i), H, I.tok _, ⟨_, rfl⟩, q⟩
theorem x8h (hc : X.calm = true) : q9h X (.builtin "max") (fun xs H Q => ∃ i j, xs = [.int i, .int j] ∧ Q (.int (if j > i then j else i)) H) := by
 intro pins s σ H xs us Q I r h
 obtain ⟨i, j, rfl, q⟩ := h
 obtain ⟨u, w', rfl, ⟨t, rfl⟩, ⟨t', rfl⟩⟩ := z3y r
 refine max_two_ints (I.ok.hd hc) fun h' tk k => ⟨_, H, I.kept k, ?_, q⟩
 by_cases hj : j > i
 ·rw [if_pos hj, if_pos hj]; exact ⟨_, rfl⟩
 ·rw [if_neg hj, if_neg hj]; exact ⟨_, rfl⟩
theorem x7j : q9h X (.type "int") (fun xs H Q => (∃ i, xs = [.int i] ∧ Q (.int i) H) ∨ ∃ k, xs = [.bl k] ∧ Q (.int (if k then 1 else 0)) H) := by
 intro pins s σ H xs us Q I r h
 rcases h with ⟨i, rfl, q⟩ | ⟨k, rfl, q⟩
 ·obtain ⟨u, rfl, t, rfl⟩ := q8a r
  exact call_int_int ⟨.int i, H, I, ⟨_, rfl⟩, q⟩
 ·obtain ⟨u, rfl, r1⟩ := q8a r
  cases r1
  exact call_int_bool ⟨.int (if k then 1 else 0), H, I.tok _, ⟨_, rfl⟩, q⟩
theorem x8u : q9h X (.type "str") (fun xs H Q => ∃ i, xs = [.int i] ∧ i.natAbs.log2 < 1920 ∧ Q (.str (toString i)) H) := by
 intro pins s σ H xs us Q I r h
 obtain ⟨i, rfl, hz, q⟩ := h
 obtain ⟨u, rfl, t, rfl⟩ := q8a r
 exact PySem.P.str_of_int hz ⟨.str _, H, I.tok _, ⟨_, rfl⟩, q⟩
end
structure ObjM (h : Heap) (x dx C : Addr) (mA : Str → Option Value) : Prop where
 obj : h.get? x = some (PySem.W.instObj C dx)
 ns : h.Ns1 dx mA
 ne : dx ≠ x
theorem z7d {h : Heap} {dx : Addr} {mA : Str → Option Value} (n : h.Ns1 dx mA) : ∃ od, h.get? dx = some od ∧ ∀ name, PySem.W.lookIn name od = some (mA name) := by
 obtain ⟨o, es, ep, ho, hd, hk, _, hm⟩ := n
 refine ⟨o, ho, fun name => ?_⟩
 have e := hm name
 unfold nsFind findBy at e
 rw [← Array.find?_toList] at e
 unfold PySem.W.lookIn
 rw [hd]
 dsimp only
 split
 ·rename_i y q
  rw [q] at e
  exact congrArg some e
 ·rename_i q
  rw [q] at e
  have a : es.toList.any (·.refKey) = false := by
   rw [List.any_eq_false]
   intro y hy
   obtain ⟨z, t, hkey⟩ := hk y (Array.mem_toList_iff.mp hy)
   simp [DictEntry.refKey, hkey]
  have a' : ¬ es.toList.any (·.refKey) = true := by rw [a]; exact Bool.false_ne_true
  rw [if_neg a']
  exact congrArg some e
theorem ObjM.look {h : Heap} {x dx C : Addr} {mA : Str → Option Value} (I : ObjM h x dx C mA) : ∃ od, PySem.W.InstAt h x (PySem.W.instObj C dx) C (some od) ∧ ∀ name, PySem.W.lookIn name od = some (mA name) :=
 let ⟨od, ho, hl⟩ := z7d I.ns
 ⟨od, ⟨I.obj, rfl, rfl, ho⟩, hl⟩
section
variable {prog : Program} {w : World} {A : Around} {E : Value → Shared → Prop} {s : Shared} {K : PySem.W.Frag} {x dx C f : Addr} {mA : Str → Option Value} {name : Str} {v : Value}
end
theorem z9c.some_of {v : V} {o : Option Value} (r : z9c (some v) o) : ∃ u, o = some u ∧ q4y v u := by
 cases o with
 | none => exact (show False from r).elim
 | some u => exact ⟨u, rfl, r⟩
section
variable {P : Program} {w : World} {H H' : Hp} {h h' : Heap} {a C dx : Addr} {fs fs' : List (Str × V)}
theorem j4m (hok : HOk P w H h) (e : H a = some (.ins C dx fs)) : ∃ mA, ObjM h a dx C mA ∧ (∀ f, z9c (fs.lookup f) (mA f)) ∧ PySem.Within mA (fs.map (·.1)) ∧ fs.length ≤ 1000 ∧ H dx = some (.own a) := by
 obtain ⟨d, z, ne, ob, mA, n, r, q⟩ := (show q3x P w H h a (.ins C dx fs) from hok a _ e)
 exact ⟨mA, ⟨ob, n, ne⟩, r, q, z, d⟩
end
structure Cls (K : PySem.W.Frag) (C : Addr) : Prop where
 pg : PySem.W.plainGet K C Str.empty = true
 hd : PySem.W.hasDictIn K C = true
 po : PySem.W.plainOver K C = true
 sa : PySem.W.findIn K (.ref C) "__setattr__" = some (some (.builtin "object.__setattr__"))
theorem Cls.get {K : PySem.W.Frag} {C : Addr} (c : Cls K C) (f : Str) : PySem.W.plainGet K C f = true := c.pg
section
variable {X : Cx} {pins : List (Addr × Obj)} {σ : St} {H : Hp} {s : Shared} {a C dx : Addr} {fs : List (Str × V)} {f : Str} {v : V} {A : Around} {E : Value → Shared → Prop}
end
section
variable {X : Cx} {o e value : Expr} {f : Str} {pos pos' tpos : Pos} {ta tv : TE}
end
section
variable {X : Cx} {pins : List (Addr × Obj)} {σ : St} {H : Hp} {s : Shared} {A : Around} {E : Value → Shared → Prop} {Q : Value → Shared → Prop} {c : Value} {b : Bool}
inductive TyOf (K : PySem.W.Frag) (H : Hp) : V → Value → Prop where
 | non : TyOf K H .non (.type "NoneType")
 | bl (x : Bool) : TyOf K H (.bl x) (.type "bool")
 | int (i : Int) : TyOf K H (.int i) (.type "int")
 | str (x : Str) : TyOf K H (.str x) (.type "str")
 | flt (x : UInt64) : TyOf K H (.flt x) (.type "float")
 | lst {a : Addr} {xs : List V} (e : H a = some (.lst xs)) : TyOf K H (.ref a) (.type "list")
 | frz {a : Addr} {o : Obj} {xs : List V} (e : H a = some (.frz o (.lst xs))) : TyOf K H (.ref a) (.type "list")
 | tup {a : Addr} {xs : List V} (e : H a = some (.tup xs)) : TyOf K H (.ref a) (.type "tuple")
 | dK {a : Addr} {kvs : List (Key × V)} (e : H a = some (.dK kvs)) : TyOf K H (.ref a) (.type "dict")
 | dT {a : Addr} {kvs : List (List Key × V)} (e : H a = some (.dT kvs)) : TyOf K H (.ref a) (.type "dict")
 | ins {a C dx : Addr} {fs : List (Str × V)} (e : H a = some (.ins C dx fs)) (cl : Cls K C) (ha : PySem.W.findIn K (.ref C) "__class__" = some (some (.builtin "object.__class__")))
   (hn : PySem.W.specialIn K (.builtin "object.__class__") "__get__" = some (some (.builtin "getset_descriptor.__get__"))) (htk : PySem.W.takesIn K (.builtin "object.__class__") = some true)
   (hm : PySem.W.mroIn K C (.type "object") = some true) : TyOf K H (.ref a) (.ref C)
theorem z4w {x : V} {u t : Value} (I : Inv X pins σ H s) (rx : q4y x u) (ty : TyOf X.K H x t) (e : PySem.W.kitOne X.K t c = some b) (h : ∀ tk, Q (.bool b) { s with toks := tk }) :
  wpAny (model X.prog X.w) A (call (.builtin "isinstance") [u, c]) Q E s := by
 cases ty with
 | non => cases (show u = Value.none from rx); exact PySem.W.kia_one PySem.W.kitx_none I.kIn True.intro e (fun z => nomatch z) h
 | bl y => cases (show u = Value.bool y from rx); exact PySem.W.kia_one PySem.W.kitx_bool I.kIn True.intro e (fun z => nomatch z) h
 | int i => obtain ⟨t, q⟩ := (show ∃ t, u = Value.int i t from rx); cases q; exact PySem.W.kia_one PySem.W.kitx_int I.kIn True.intro e (fun z => nomatch z) h
 | str y => obtain ⟨t, q⟩ := (show ∃ t, u = Value.str y t from rx); cases q; exact PySem.W.kia_one PySem.W.kitx_str I.kIn True.intro e (fun z => nomatch z) h
 | flt y => obtain ⟨t, q⟩ := (show ∃ t, u = Value.float y t from rx); cases q; exact PySem.W.kia_one PySem.W.kitx_float I.kIn True.intro e (fun z => nomatch z) h
 | @lst a xs ea =>
  cases (show u = Value.ref a from rx)
  obtain ⟨_, _, n, _, h1⟩ := (show q3x X.prog X.w H s.heap a (.lst xs) from I.hok a _ ea)
  exact PySem.W.kia_one PySem.W.kitx_list I.kIn ⟨_, h1, rfl⟩ e (fun z => nomatch z) h
 | @frz a ob xs ea =>
  cases (show u = Value.ref a from rx)
  obtain ⟨_, _, _, n, _, h1⟩ := (show q3x X.prog X.w H s.heap a (.frz ob (.lst xs)) from I.hok a _ ea)
  exact PySem.W.kia_one PySem.W.kitx_list I.kIn ⟨_, h1, rfl⟩ e (fun z => nomatch z) h
 | @tup a xs ea =>
  cases (show u = Value.ref a from rx)
  obtain ⟨_, _, _, p⟩ := (show q3x X.prog X.w H s.heap a (.tup xs) from I.hok a _ ea)
  obtain ⟨o, h1, h2, _⟩ := p
  exact PySem.W.kia_one PySem.W.kitx_tuple I.kIn ⟨o, h1, h2⟩ e (fun z => nomatch z) h
 | @dK a kvs ea =>
  cases (show u = Value.ref a from rx)
  obtain ⟨_, _, vs, _, p⟩ := (show q3x X.prog X.w H s.heap a (.dK kvs) from I.hok a _ ea)
  obtain ⟨o, es, ep, h1, h2, _⟩ := p
  exact PySem.W.kia_one PySem.W.kitx_dict I.kIn ⟨o, h1, h2.1⟩ e (fun z => nomatch z) h
 | @dT a kvs ea =>
  cases (show u = Value.ref a from rx)
  obtain ⟨_, _, xs, _, o, es, ep, h1, h2, _⟩ := (show q3x X.prog X.w H s.heap a (.dT kvs) from I.hok a _ ea)
  exact PySem.W.kia_one PySem.W.kitx_dict I.kIn ⟨o, h1, h2.1⟩ e (fun z => nomatch z) h
 | @ins a C dx fs ea cl ha hn htk hm =>
  cases (show u = Value.ref a from rx)
  obtain ⟨mA, O, _⟩ := j4m I.hok ea
  obtain ⟨od, J, _⟩ := O.look
  exact PySem.W.kia_one (PySem.W.kitx_own (cl.get _) cl.hd ha hn htk hm) I.kIn J e (fun z => nomatch z) h
end
structure Room (k : Nat) (A : Around) : Prop where
 hd : A.handled = none
 dp : A.depth + 3 * k + 5 < recursionLimit
 un : A.units + 16 * k + 200 < cLine
theorem Room.mono {j k : Nat} {A : Around} (r : Room k A) (h : j ≤ k) : Room j A := ⟨r.hd, by have := r.dp; omega, by have := r.un; omega⟩
theorem Room.deeper {k : Nat} {A : Around} (r : Room (k + 1) A) (env : Env) : Room k (A.deeper env) :=
 ⟨r.hd, by have := r.dp; show A.depth + 1 + 3 * k + 5 < _; omega, by have := r.un; show A.units + 3 + 16 * k + 200 < _; omega⟩
theorem Room.depth {k : Nat} {A : Around} (r : Room k A) : A.depth < recursionLimit := by have := r.dp; omega
theorem Room.units {k : Nat} {A : Around} (r : Room k A) : A.units + 64 < cLine := by have := r.un; omega
theorem Room.units0 {k : Nat} {A : Around} (r : Room k A) : A.units < cLine := by have := r.un; omega
noncomputable def j7p : TA := fun _ H Q => Q [] H
noncomputable def q5o (ta : TE) (tr : TA) : TA := fun σ H Q => ta σ H fun x H1 => tr σ H1 fun xs H2 => Q (x :: xs) H2
section
variable {X : Cx} {e : Expr} {es : List Expr} {te : TE} {t : TA} {pos : Pos}
theorem q0b : PA X [] j7p := fun _ _ _ _ H Q I h => Calls.spliced_nil ⟨[], H, I, .nil, h⟩
theorem q0c (ha : PE X e te) (hr : PA X es t) (hs : starEach (e :: es) X.env = (false, eval e X.env) :: starEach es X.env := by rfl) : PA X (e :: es) (q5o te t) := by
 intro pos pins s σ H Q I h
 rw [hs]
 show wpAny _ _ (spliced ((false, eval e X.env) :: backTo pos (starEach es X.env))) _ _ s
 refine Calls.spliced_cons (thn (ha pins s σ H _ I h) fun u s1 ⟨x, H1, I1, r1, q1⟩ => ?_)
 exact thn (hr pos pins s1 σ H1 _ I1 q1) fun us s2 ⟨xs, H2, I2, r2, q2⟩ => ⟨x :: xs, H2, I2, .cons r1 r2, q2⟩
noncomputable def j8l (t : TA) : TE := fun σ H Q => t σ H fun xs H1 => xs.length ≤ sizeLine ∧ ∀ p, H1 p = none → Q (.ref p) (upd H1 p (.tup xs))
noncomputable def j9q (t : TA) : TE := fun σ H Q => t σ H fun xs H1 => xs.length ≤ sizeLine ∧ ∀ p, H1 p = none → Q (.ref p) (upd H1 p (.lst xs))
theorem q2r {x1} (h : PA X es t) : PE X (.Tuple es x1 pos) (j8l t) := by
 intro pins s σ H Q I hq
 refine wpAny_Tuple_spliced (thn (h pos pins s σ H _ I hq) fun us s1 ⟨xs, H1, I1, r, z, q⟩ => ⟨by rw [← r.length]; exact z, ?_⟩)
 have hf : H1 s1.heap.objs.size = none := I1.hok.fresh (Nat.le_refl _)
 refine ⟨.ref s1.heap.objs.size, upd H1 s1.heap.objs.size (.tup xs), I1.laid (t' := s1.toks) (fun b u e => Heap.get?_push_of_some _ e) (Nat.le_refl _) ?_, rfl, q _ hf⟩
 exact ⟨z, us, r, ⟨_, Heap.get?_push_size _ rfl, rfl, _, rfl⟩⟩
theorem q4o (h : PA X es t) : PE X (.List es pos) (j9q t) := by
 intro pins s σ H Q I hq
 refine wpAny_List_spliced (thn (h pos pins s σ H _ I hq) fun us s1 ⟨xs, H1, I1, r, z, q⟩ => ⟨by rw [← r.length]; exact z, ?_⟩)
 have hf : H1 s1.heap.objs.size = none := I1.hok.fresh (Nat.le_refl _)
 refine ⟨.ref s1.heap.objs.size, upd H1 s1.heap.objs.size (.lst xs), I1.laid (t' := s1.toks) (fun b u e => Heap.get?_push_of_some _ e) (Nat.le_refl _) ?_, rfl, q _ hf⟩
 exact ⟨z, us, 0, r, Heap.get?_push_size _ rfl⟩
end
noncomputable abbrev Sp := List V → Hp → VK → XK → Prop
noncomputable abbrev CXT := List Env → Hp → Shared → XK → Value → Shared → Prop
structure Env0 (P : Program) (w : World) (K : PySem.W.Frag) (mg : Str → Option Value) (base : Heap) (A : Around) (outer : List Env) (s : Shared) (H : Hp) : Prop where
 frames : A.frames = some outer
 mod : Mod K mg base
 bs : ∀ b o, base.get? b = some o → s.heap.get? b = some o ∧ H b = none
 bsz : base.objs.size ≤ s.heap.objs.size
 funs : s.heap.FunFrames base outer
 frf : ∀ b ∈ frs outer, H b = none
 hok : HOk P w H s.heap
 bare : AllBare s.gens
noncomputable def CE (outer : List Env) (P : Program) (w : World) (H : Hp) (s : Shared) (Q : VK) (u : Value) (s' : Shared) : Prop :=
 ∃ v H', s'.os = s.os ∧ AllBare s'.gens ∧ Un (frs outer) [] H H' s.heap s'.heap ∧ HOk P w H' s'.heap ∧ q4y v u ∧ Q v H'
noncomputable def CR (CX : CXT) (outer : List Env) (P : Program) (w : World) (H : Hp) (s : Shared) (Q : VK) (E : XK) (r : Result) (s' : Shared) : Prop :=
 match r with
 | .ok (.ret u) => CE outer P w H s Q u s'
 | .ok _ => False
 | .error e => CX outer H s E e s'
structure FnOk (P : Program) (w : World) (K : PySem.W.Frag) (mg : Str → Option Value) (base : Heap) (CX : CXT) (k : Nat) (f : Addr) (fd : FuncData) (ps : List Str) (sp : Sp) : Prop where
 len : ∀ vs H Q E, sp vs H Q E → vs.length = ps.length
 run : ∀ (A : Around) (outer : List Env) (s : Shared) (H : Hp) (args : Args) (us : List Value) (vs : List V) (Q : VK) (E : XK), Room k A → Env0 P w K mg base A outer s H → BindsTo s fd args (ps.zip us) → q4b vs us → sp vs H Q E →
  codeAny (model P w) A (.call (.ref f) args) (CR CX outer P w H s Q E) s
theorem FnOk.mono {P : Program} {w : World} {K : PySem.W.Frag} {mg : Str → Option Value} {base : Heap} {CX : CXT} {j k : Nat} {f : Addr} {fd : FuncData} {ps : List Str} {sp : Sp} (F : FnOk P w K mg base CX j f fd ps sp) (h : j ≤ k) :
  FnOk P w K mg base CX k f fd ps sp := ⟨F.len, fun A outer s H args us vs Q E hr => F.run A outer s H args us vs Q E (hr.mono h)⟩
section
variable {X : Cx} {pins : List (Addr × Obj)} {σ : St} {H : Hp} {s s' : Shared}
theorem Inv.env0 (I : Inv X pins σ H s) : Env0 X.prog X.w X.K X.mg X.base X.A X.stack s H :=
 ⟨I.ok.frames, I.ok.mod, I.bs, Nat.le_trans I.ok.bsz I.sz, I.stack, I.stkFree, I.hok, I.bare⟩
theorem Inv.after {Q : VK} {u : Value} (I : Inv X pins σ H s) (h : CE X.stack X.prog X.w H s Q u s') : EP X pins σ Q u s' := by
 obtain ⟨v, H', os, bare, un, hok, r, q⟩ := h
 obtain ⟨hh, g, d, t, os'⟩ := s'
 obtain rfl : os' = s.os := os
 exact ⟨v, H', I.call (h' := hh) (g' := g) (d' := d) (t' := t) (ch := []) un hok bare (fun b z => absurd z (by simp)), r, q⟩
end
noncomputable def j1l (sp : Sp) (dvs : List V) (E : XK) (t : TA) : TE := fun σ H Q => t σ H fun vs H1 => sp (vs ++ dvs) H1 Q E
noncomputable def q5i (K : PySem.W.Frag) (fd : FuncData) (ps : List Str) (ds : List Value) : Prop :=
 ∀ (s : Shared) (us : List Value), K.In s.heap → (us ++ ds).length = ps.length → BindsTo s fd ⟨us, []⟩ (ps.zip (us ++ ds))
theorem q5i.all {K : PySem.W.Frag} {fd : FuncData} {ps : List Str} (h : ∀ us : List Value, us.length = ps.length → bindArgs fd ⟨us, []⟩ = pure (ps.zip us)) : q5i K fd ps [] := fun s us _ hl => by
 rw [List.append_nil] at hl ⊢
 exact .of_eq (h us hl)
noncomputable def x1t (CX : CXT) (X : Cx) (E : XK) : Prop := ∀ (pins : List (Addr × Obj)) (σ : St) (H : Hp) (s : Shared) (e : Value) (s' : Shared), Inv X pins σ H s → CX X.stack H s E e s' → X.xe e s'
section
variable {X : Cx} {CX : CXT} {k : Nat} {f C : Addr} {fd : FuncData} {ps : List Str} {sp : Sp} {dvs : List V} {ds : List Value} {E : XK} {x m : Str} {p pos apos : Pos} {e o : Expr} {es : List Expr} {ta : TE} {t : TA}
theorem z2b {pins : List (Addr × Obj)} {σ : St} {H : Hp} {s : Shared} {Q : VK} {us : List Value} {vs : List V} (F : FnOk X.prog X.w X.K X.mg X.base CX k f fd ps sp) (hr : Room k X.A) (hb : q5i X.K fd ps ds) (hd : q4b dvs ds) (hx : x1t CX X E)
  (I : Inv X pins σ H s) (r : q4b vs us) (h : sp (vs ++ dvs) H Q E) : wpAny (model X.prog X.w) X.A (call (.ref f) us) (EP X pins σ Q) X.xe s := by
 have r2 : q4b (vs ++ dvs) (us ++ ds) := r.append hd
 have hl : (us ++ ds).length = ps.length := by rw [← r2.length]; exact F.len _ _ _ _ h
 refine wpAny_call (codeAny_mono (F.run X.A X.stack s H ⟨us, []⟩ (us ++ ds) (vs ++ dvs) Q E hr I.env0 (hb s us I.kIn hl) r2 h) fun r s' hq => ?_)
 cases r with
 | error e => exact hx pins σ H s e s' I hq
 | ok fl =>
  cases fl with
  | ret u => exact I.after hq
  | next => exact False.elim hq
  | brk => exact False.elim hq
  | cont => exact False.elim hq
theorem q8y (F : FnOk X.prog X.w X.K X.mg X.base CX k f fd ps sp) (hr : Room k X.A) (hg : Gl X x) (hm : X.mg x = some (.ref f)) (hk : PySem.W.keepIn X.K (.ref f) = true) (hb : q5i X.K fd ps ds) (hd : q4b dvs ds) (hx : x1t CX X E)
  (ha : PA X (e :: es) t) (hdb : (x == ("__debug__" : Str)) = false := by decide) (he : starEach (e :: es) X.env = (false, eval e X.env) :: starEach es X.env := by rfl) (hpl : (backTo pos (starEach es X.env)).any (·.1) = false := by rfl) :
  PE X (.Call (.Name x p) (e :: es) [] pos) (j1l sp dvs E t) := by
 intro pins s σ H Q I h
 refine wpAny_Call_Name_kw (x2j I hg hm ?_ hdb)
 refine PySem.W.callWith_K (h₀ := X.base) I.ok.mod.kin hk (thn (ha pos pins s σ H _ I h) fun us s1 ⟨vs, H1, I1, r, q⟩ => ⟨I1.kIn, ?_⟩) he hpl
 exact z2b F hr hb hd hx I1 r q
end
section
variable {X : Cx} {CX : CXT} {k : Nat} {f C : Addr} {fd : FuncData} {ps ks : List Str} {sp : Sp} {E : XK} {x m : Str} {p pos apos kpos : Pos} {e o : Expr} {es : List Expr} {kws : List Keyword} {te ta : TE} {t tk : TA} {nm : Option Str}
variable {g : List Value → List Value → List Value} {gV : List V → List V → List V}
end
structure FnScope (N P : List Str) (sc : Scope) : Prop where
 kind : sc.kind = .function
 co : sc.isCoroutine = false
 gen : sc.isGenerator = false
 nd : N.Nodup
 pre : N.take P.length = P
 par : ∀ x ∈ P, sc.names.lookup x = some .local ∨ sc.names.lookup x = some .cell
 nofree : ∀ y ∈ sc.names, y.2 ≠ .free
theorem fSc {N P : List Str} {sc : Scope} (h1 : sc.kind = .function := by rfl) (h2 : sc.isCoroutine = false := by rfl) (h3 : sc.isGenerator = false := by rfl) (h4 : N.Nodup := by decide +kernel) (h5 : N.take P.length = P := by rfl) (h6 : ∀ x ∈ P, sc.names.lookup x = some .local ∨ sc.names.lookup x = some .cell := by decide +kernel) (h7 : ∀ y ∈ sc.names, y.2 ≠ .free := by decide +kernel) : FnScope N P sc := ⟨h1, h2, h3, h4, h5, h6, h7⟩
theorem x7n {kindOf : Str → Option NameKind} {x : Str} : ∀ {binds : List (Str × Value)} {m : Str → Option Value}, (∀ v, (x, v) ∉ binds) → bindL kindOf binds m x = m x
 | [], _, _ => rfl
 | (n, v) :: r, m, h => by
  unfold bindL
  rw [x7n fun w hw => h w (List.mem_cons_of_mem _ hw)]
  split
  ·have : x ≠ n := by rintro rfl; exact h v List.mem_cons_self
   simp [this]
  ·rfl
theorem x7z {kindOf : Str → Option NameKind} {x : Str} : ∀ {binds : List (Str × Value)} {m : Str → Option Value}, (∀ v, (x, v) ∉ binds) → bindC kindOf binds m x = m x
 | [], _, _ => rfl
 | (n, v) :: r, m, h => by
  unfold bindC
  rw [x7z fun w hw => h w (List.mem_cons_of_mem _ hw)]
  split
  ·rfl
  ·have : x ≠ n := by rintro rfl; exact h v List.mem_cons_self
   simp [this]
theorem x8j {kindOf : Str → Option NameKind} {x : Str} {v : Value} : ∀ {P : List Str} {vs : List Value} {i : Nat} {m : Str → Option Value}, P.Nodup → P[i]? = some x → vs[i]? = some v → kindOf x = some .local →
  bindL kindOf (P.zip vs) m x = some v
 | [], _, _, _, _, h, _, _ => by simp at h
 | _ :: _, [], _, _, _, _, h, _ => by simp at h
 | p :: P, w :: vs, 0, m, nd, h1, h2, hk => by
  simp at h1 h2; subst h1; subst h2
  show bindL kindOf ((p, w) :: P.zip vs) m p = _
  unfold bindL
  rw [x7n fun v hv => (List.nodup_cons.mp nd).1 (List.of_mem_zip hv).1, if_pos hk]
  simp
 | p :: P, w :: vs, i + 1, m, nd, h1, h2, hk => by
  show bindL kindOf ((p, w) :: P.zip vs) m x = _
  unfold bindL
  exact x8j (i := i) (List.nodup_cons.mp nd).2 (by simpa using h1) (by simpa using h2) hk
theorem x8m {kindOf : Str → Option NameKind} {x : Str} {v : Value} : ∀ {P : List Str} {vs : List Value} {i : Nat} {m : Str → Option Value}, P.Nodup → P[i]? = some x → vs[i]? = some v → kindOf x ≠ some .local →
  bindC kindOf (P.zip vs) m x = some v
 | [], _, _, _, _, h, _, _ => by simp at h
 | _ :: _, [], _, _, _, _, h, _ => by simp at h
 | p :: P, w :: vs, 0, m, nd, h1, h2, hk => by
  simp at h1 h2; subst h1; subst h2
  show bindC kindOf ((p, w) :: P.zip vs) m p = _
  unfold bindC
  rw [x7z fun v hv => (List.nodup_cons.mp nd).1 (List.of_mem_zip hv).1, if_neg hk]
  simp
 | p :: P, w :: vs, i + 1, m, nd, h1, h2, hk => by
  show bindC kindOf ((p, w) :: P.zip vs) m x = _
  unfold bindC
  exact x8m (i := i) (List.nodup_cons.mp nd).2 (by simpa using h1) (by simpa using h2) hk
noncomputable def x5w (N : List Str) (vs : List V) : St := vs.map some ++ List.replicate (N.length - vs.length) none
noncomputable def z1b (CX : CXT) (P : Program) (w : World) (K : PySem.W.Frag) (mg : Str → Option Value) (base : Heap) (N : List Str) (qual : Str) (scope : Scope) (f : Addr) (cd : Value) (A : Around) (outer : List Env) (s : Shared) (H : Hp) (E : XK) : Cx where
 prog := P
 w := w
 K := K
 mg := mg
 base := base
 A := A.deeper (envOfC qual scope s.heap.objs.size f cd)
 N := N
 s₀ := s
 H₀ := H
 env := envOfC qual scope s.heap.objs.size f cd
 outer := outer
 stack := envOfC qual scope s.heap.objs.size f cd :: outer
 ex := []
 calm := true
 fn := fun _ => true
 pn := []
 xe := fun e s' => wpAny (model P w) (A.deeper (envOfC qual scope s.heap.objs.size f cd)) (leaving (envOfC qual scope s.heap.objs.size f cd) e) (fun _ s'' => CX outer H s E e s'') (fun e' s'' => CX outer H s E e' s'') s'
theorem z2a {sc : Scope} {n : Nat} {x : Str} (h : sc.names.lookup x = some .cell) : ∃ c, (cellsFrom n sc.names []).lookup x = some c := by
 have q := PySem.W.cellsFrom_some sc.names n [] (.inl h)
 exact Option.isSome_iff_exists.mp q
theorem z4j {CX : CXT} {P : Program} {w : World} {K : PySem.W.Frag} {mg : Str → Option Value} {base : Heap} {N ps : List Str} {qual : Str} {scope : Scope} {f : Addr} {cd : Value} {A : Around} {outer : List Env} {s s1 : Shared} {H : Hp} {E : XK} {us : List Value} {vs : List V}
  (S : FnScope N ps scope) (hd : A.handled = none) (e0 : Env0 P w K mg base A outer s H) (hl : vs.length = ps.length) (r : q4b vs us)
  (x : InCallC s s.heap.objs.size (bindL (envOfC qual scope s.heap.objs.size f cd).kindOf (ps.zip us) fun _ => none) (cellsFrom (s.heap.objs.size + 1) scope.names []) (bindC (envOfC qual scope s.heap.objs.size f cd).kindOf (ps.zip us) fun _ => none) s1) :
  Inv (z1b CX P w K mg base N qual scope f cd A outer s H E) [] (x5w N vs) H s1 := by
 have hpl : ps.length ≤ N.length := by have := congrArg List.length S.pre; rw [List.length_take] at this; omega
 obtain ⟨h1, tk, rfl, hk⟩ := x.done
 have noA : ∀ b : Addr, b ∉ (z1b CX P w K mg base N qual scope f cd A outer s H E).ex := fun b z => absurd (show b ∈ ([] : List Addr) from z) (by simp)
 refine ⟨⟨e0.mod, S.kind, rfl, rfl, Nat.le_refl _, fun y z c h1 h2 => ?_, fun y hy => ?_, fun y c _ h => ?_, fun _ => hd, Around.frames_deeper e0.frames, .inr ⟨rfl, rfl⟩, fun b z => absurd z (noA b), e0.bs, e0.bsz, fun b _ _ => noA b, fun b z => absurd z (noA b), e0.funs, e0.frf⟩,
  rfl, e0.bare, Un.kept hk, ⟨_, x.toInCall.ns, fun i y v h1 h2 h3 => ?_⟩, fun y c h => ⟨_, x.cell y c h⟩, e0.hok.fresh (Nat.le_refl _), fun y c h => ?_, fun p hp => absurd (show p ∈ ([] : List (Addr × Obj)) from hp) (by simp), e0.hok.kept hk, ?_⟩
 ·exact name_of_addr x.apart (PySem.mem_of_lookup h1) (PySem.mem_of_lookup h2)
 ·have hy : scope.names.lookup y = some .cell ∨ scope.names.lookup y = some .free := hy
  rcases hy with hy | hy
  ·exact z2a hy
  ·exact absurd rfl (S.nofree _ (PySem.mem_of_lookup hy))
 ·exact Nat.le_of_lt (x.above y c (PySem.mem_of_lookup h))
 ·have hi : i < vs.length := by
   unfold x5w at h2
   by_cases hi : i < vs.length
   ·exact hi
   ·rw [List.getElem?_append_right (by simpa using hi)] at h2
    rw [List.getElem?_replicate] at h2
    split at h2 <;> cases h2
  have ha : vs[i]? = some v := by
   unfold x5w at h2
   rw [List.getElem?_append_left (by simpa using hi), List.getElem?_map] at h2
   cases e : vs[i]? with
   | none => rw [e] at h2; cases h2
   | some a => rw [e] at h2; cases h2; rfl
  obtain ⟨u, hu, rv⟩ := r.get ha
  have hp : ps[i]? = some y := by
   rw [← S.pre, List.getElem?_take_of_lt (by omega)]; exact h1
  have ndP : ps.Nodup := by rw [← S.pre]; exact S.nd.sublist (List.take_sublist _ _)
  refine ⟨u, rv, ?_⟩
  rcases S.par y (List.mem_of_getElem? hp) with k | k
  ·exact .inl ⟨k, x8j ndP hp hu k⟩
  ·obtain ⟨c, e⟩ := z2a (n := s.heap.objs.size + 1) k
   refine .inr ⟨.inl k, c, e, ?_⟩
   have q := x.cell y c e
   rw [x8m ndP hp hu (by show scope.names.lookup y ≠ _; rw [k]; decide)] at q
   exact q
 ·exact e0.hok.fresh (Nat.le_of_lt (x.above y c (PySem.mem_of_lookup h)))
 ·unfold x5w
  show _ = N.length
  rw [List.length_append, List.length_map, List.length_replicate]
  omega
theorem j6e {CX : CXT} {P : Program} {w : World} {K : PySem.W.Frag} {mg : Str → Option Value} {base : Heap} {k : Nat} {f : Addr} {name qual : Str} {params : Arguments} {body : List Stmt} {scope : Scope} {dV kV doc pm cdv ct oc : Value} {an od : Option Addr}
  {osl : Array (Option Value)} {N ps : List Str} {sp : Sp} (lk : K.lookup f = some ⟨oc, od, .func (PySem.W.fnOf name qual params body scope dV kV doc pm an cdv ct), osl⟩) (hcd : PySem.W.codeIn K cdv qual = true) (S : FnScope N ps scope)
  (len : ∀ vs H Q E, sp vs H Q E → vs.length = ps.length)
  (hbody : ∀ (A : Around) (outer : List Env) (s : Shared) (H : Hp) (vs : List V) (Q : VK) (E : XK), Room k (A.deeper (envOfC qual scope s.heap.objs.size f cdv)) → sp vs H Q E →
   ∃ t, PSs (z1b CX P w K mg base N qual scope f cdv A outer s H E) body t ∧ t { nx := fun _ H' => Q .non H', rt := Q } (x5w N vs) H) :
  FnOk P w K mg base CX (k + 1) f (PySem.W.fnOf name qual params body scope dV kV doc pm an cdv ct) ps sp := by
 refine ⟨len, fun A outer s H args us vs Q E hr e0 hb r hsp => ?_⟩
 have hl := len _ _ _ _ hsp
 have KX : K.In s.heap := e0.mod.kin.keeps fun b o e => (e0.bs b o e).1
 have lim : s.heap.NoLimit := e0.mod.nolimit.keeps fun b o e => (e0.bs b o e).1
 have hkind : ∀ y ∈ ps.zip us, scope.names.lookup y.1 = some .local ∨ (scope.names.lookup y.1 = some .cell ∧ ((cellsFrom (s.heap.objs.size + 1) scope.names []).lookup y.1).isSome = true) := fun ⟨n, v⟩ hy => by
  rcases S.par n (List.of_mem_zip hy).1 with q | q
  ·exact .inl q
  ·exact .inr ⟨q, PySem.W.cellsFrom_some _ _ _ (.inl q)⟩
 refine codeAny_call_function hr.depth (KX _ _ lk) rfl S.co S.gen rfl (PySem.W.codeRec_of KX hcd) (hb _ _ _ _ ?_)
 refine wpAny_newFunctionEnv_cells S.kind hkind fun env he s1 x => ?_
 subst he
 refine ⟨lim.keeps x.toInCall.keep, codeAny_func ?_⟩
 obtain ⟨t, ht, hq⟩ := hbody A outer s H vs Q E (hr.deeper _) hsp
 have I : Inv (z1b CX P w K mg base N qual scope f cdv A outer s H E) [] (x5w N vs) H s1 := z4j S hr.hd e0 hl r x
 refine wpAny_mono (ht [] s1 (x5w N vs) H _ I hq) (fun fl s' hs => ?_) fun e s' hs => hs
 have fin : ∀ {σ' : St} {H' : Hp} {v : V} {u : Value}, Inv (z1b CX P w K mg base N qual scope f cdv A outer s H E) [] σ' H' s' → q4y v u → Q v H' → CE outer P w H s Q u s' :=
  fun {σ' H' v u} J rv q => ⟨v, H', J.os, J.bare, J.base, J.hok, rv, q⟩
 cases fl with
 | ret u =>
  obtain ⟨v, σ', H', J, rv, q⟩ := hs
  exact fin J rv q
 | next =>
  obtain ⟨σ', H', J, q⟩ := hs
  exact fin (v := V.non) (u := Value.none) J rfl q
 | brk =>
  obtain ⟨_, _, _, q⟩ := hs
  exact False.elim q
 | cont =>
  obtain ⟨_, _, _, q⟩ := hs
  exact False.elim q
section
variable {X : Cx} {x : Str} {p pos : Pos} {e : Expr} {es : List Expr} {t : TA} {id T : String} {r : List V → Hp → VK → Prop}
noncomputable def tCB (r : List V → Hp → VK → Prop) (t : TA) : TE := fun σ H Q => t σ H fun vs H1 => r vs H1 Q
theorem q0n (hc : q9h X (.builtin id) r) (hg : Gl X x) (hm : X.mg x = none) (hv : bootBuiltins x = some (.builtin id)) (ha : PA X (e :: es) t) (hn : x ≠ "__name__" := by decide) (hdb : (x == ("__debug__" : Str)) = false := by decide)
  (he : starEach (e :: es) X.env = (false, eval e X.env) :: starEach es X.env := by rfl) (hpl : (backTo pos (starEach es X.env)).any (·.1) = false := by rfl) : PE X (.Call (.Name x p) (e :: es) [] pos) (tCB r t) := by
 intro pins s σ H Q I h
 refine wpAny_Call_Name_kw (x5l I hg hm hv ?_ hn hdb)
 exact PyProof.Rows.callWith_builtin1 (thn (ha pos pins s σ H _ I h) fun us s1 ⟨vs, H1, I1, r1, q1⟩ => hc pins s1 σ H1 vs us Q I1 r1 q1) he hpl
theorem q5a (hc : q9h X (.type T) r) (hg : Gl X x) (hm : X.mg x = none) (hv : bootBuiltins x = some (.type T)) (ha : PA X (e :: es) t) (hn : x ≠ "__name__" := by decide) (hdb : (x == ("__debug__" : Str)) = false := by decide)
  (he : starEach (e :: es) X.env = (false, eval e X.env) :: starEach es X.env := by rfl) (hpl : (backTo pos (starEach es X.env)).any (·.1) = false := by rfl) : PE X (.Call (.Name x p) (e :: es) [] pos) (tCB r t) := by
 intro pins s σ H Q I h
 refine wpAny_Call_Name_kw (x5l I hg hm hv ?_ hn hdb)
 exact PyProof.Rows.callWith_type1 (thn (ha pos pins s σ H _ I h) fun us s1 ⟨vs, H1, I1, r1, q1⟩ => hc pins s1 σ H1 vs us Q I1 r1 q1) he hpl
end
end L2
namespace HT
open PySem PyProof.Rows
section
open PySem.SeqAt
open PySem.AutoSeq1 (wpAny_loadPart')
open PySem.MeetsSeq PySem.MeetsSeq2 PySem.MeetsSeq3
end
section
variable {prog : Program} {w : World} {A : Around} {E : Value → Shared → Prop} {s : Shared}
theorem cat_tup {t b : Addr} {vs ws : List Value} {Q : Value → Shared → Prop} (ht : IsTup s.heap t vs.toArray) (hb : IsTup s.heap b ws.toArray) (hv : vs ≠ [])
  (h1 : ws = [] → Q (.ref t) s) (h2 : ws ≠ [] → Q (.ref s.heap.objs.size) { s with heap := s.heap.push { cls := .type "tuple", data := .seq (vs ++ ws).toArray } })
  (hsz : vs.length + ws.length ≤ sizeLine) : wpAny (model prog w) A (binaryOp .Add (.ref t) (.ref b)) Q E s := by
 obtain ⟨⟨cls, dd, data, sl⟩, ho, hc, n, hd⟩ := id ht
 obtain ⟨⟨cls2, dd2, data2, sl2⟩, ho2, hc2, n2, hd2⟩ := id hb
 simp only at hc hd hc2 hd2
 subst hc hd hc2 hd2
 have e : vs.toArray ++ ws.toArray = (vs ++ ws).toArray := by simp
 by_cases hw : ws = []
 ·exact concat_meets ⟨_, ho, rfl⟩ ⟨_, ho2, rfl⟩ noFill_tuple_add seq_tuple_add PySem.F.slot_tuple_add PySem.F.entry_tuple_add (PySem.F.args_tuple_add_2 _ _)
   (tuple_addW1 t b vs.toArray ws.toArray n n2 dd dd2 sl sl2 (by simpa using hv) (by simp [hw])) ⟨ho, ho2, h1 hw⟩
 ·refine concat_meets ⟨_, ho, rfl⟩ ⟨_, ho2, rfl⟩ noFill_tuple_add seq_tuple_add PySem.F.slot_tuple_add PySem.F.entry_tuple_add (PySem.F.args_tuple_add_2 _ _)
   (tuple_addW2 t b vs.toArray ws.toArray n n2 dd dd2 sl sl2 (by simpa using hv) (by simpa using hw) (by rw [List.size_toArray, List.size_toArray]; exact hsz)) ⟨ho, ho2, ?_⟩
  rw [e]
  exact h2 hw
noncomputable def sIx (n d : Nat) : Option Int → Nat
 | none => d
 | some v => if v < 0 then (v + (n : Int)).toNat else min v.toNat n
theorem sIx_none (n d : Nat) : sIx n d none = d := rfl
theorem sIx_nat (n d k : Nat) : sIx n d (some (k : Int)) = min k n := by
 show (if (k : Int) < 0 then ((k : Int) + (n : Int)).toNat else min (k : Int).toNat n) = min k n
 rw [if_neg (by omega), Int.toNat_natCast]
theorem j6h (n d : Nat) (hd : d ≤ n) (o : Option Int) : sIx n d o ≤ n := by
 cases o with
 | none => exact hd
 | some v =>
  show (if v < 0 then (v + (n : Int)).toNat else min v.toNat n) ≤ n
  by_cases hv : v < 0
  ·rw [if_pos hv]; omega
  ·rw [if_neg hv]; exact Nat.min_le_right _ _
theorem z6m (v : Int) (n d : Nat) : (if v < 0 then max (v + (n : Int)) 0 else min v (n : Int)) = ((sIx n d (some v) : Nat) : Int) := by
 show (if v < 0 then max (v + (n : Int)) 0 else min v (n : Int)) = (((if v < 0 then (v + (n : Int)).toNat else min v.toNat n) : Nat) : Int)
 by_cases hv : v < 0
 ·simp only [if_pos hv]; omega
 ·simp only [if_neg hv]; omega
theorem z3c (lo hi : Option Int) (n : Nat) : Builtin.Slice.sliceAdjust lo hi 1 (n : Int) = (((sIx n 0 lo : Nat) : Int), ((sIx n n hi : Nat) : Int)) := by
 have h1 : ¬ ((1 : Int) < 0) := by omega
 unfold Builtin.Slice.sliceAdjust
 simp only [h1, if_false]
 refine Prod.ext ?_ ?_
 ·cases lo with
  | none => rfl
  | some v => exact z6m v n 0
 ·cases hi with
  | none => rfl
  | some v => exact z6m v n n
theorem z2r (i j : Nat) : Builtin.Slice.slicePlaces (i : Int) (j : Int) 1 = j - i := by
 unfold Builtin.Slice.slicePlaces
 have h1 : (1 : Int) > 0 := by omega
 simp only [h1, if_true, Int.ediv_one]
 split <;> omega
theorem x5h {v : Value} {o : Option Int} {Q : Option Int → Shared → Prop} (p : IsPart v o) (h : Q o s) : wpAny (model prog w) A (Builtin.Slice.slicePartIndex v) Q E s := by
 cases p with
 | none => exact slicePart_none h
 | int i t => exact slicePart_int h
theorem q7r {sl : Addr} {vl vu : Value} {lo hi : Option Int} {n : Nat} {Q : Int × Int × Nat → Shared → Prop} (hs : s.heap.IsSliceOf sl vl vu .none) (pl : IsPart vl lo) (pu : IsPart vu hi)
  (h : Q (((sIx n 0 lo : Nat) : Int), 1, sIx n n hi - sIx n 0 lo) s) : wpAny (model prog w) A (Builtin.Slice.sliceApplied (.ref sl) (pure (n : Int))) Q E s := by
 obtain ⟨os, hos, hcs, hds⟩ := id hs
 unfold Builtin.Slice.sliceApplied Builtin.Slice.sliceFields
 refine wpAny_bind (wpAny_bind (wpAny_field hos hds (x := vl) rfl (wpAny_bind (wpAny_field hos hds (x := vu) rfl (wpAny_bind (wpAny_field hos hds (x := .none) rfl (wpAny_pure ?_)))))))
 refine wpAny_bind (slicePart_none ?_)
 show wpAny _ _ (if ((1 : Int) == 0) = true then _ else _) _ _ s
 rw [if_neg (by decide)]
 refine wpAny_bind (x5h pl (wpAny_bind (x5h pu (wpAny_bind (wpAny_pure ?_)))))
 show wpAny _ _ (match Builtin.Slice.sliceAdjust lo hi 1 (n : Int) with | (lo, hi) => pure (lo, (1 : Int), Builtin.Slice.slicePlaces lo hi 1)) _ _ s
 rw [z3c lo hi n]
 show wpAny _ _ (pure (((sIx n 0 lo : Nat) : Int), (1 : Int), Builtin.Slice.slicePlaces ((sIx n 0 lo : Nat) : Int) ((sIx n n hi : Nat) : Int) 1)) _ _ s
 rw [z2r]
 exact wpAny_pure h
theorem z8m (xs : Array Value) (i k : Nat) : ((List.range k).filterMap fun (m : Nat) => xs[((i : Int) + (m : Int) * 1).toNat]?).toArray = ((xs.toList.drop i).take k).toArray := by
 have e : (fun (m : Nat) => xs[((i : Int) + (m : Int) * 1).toNat]?) = fun m => xs[i + m]? := by
  funext m
  have : ((i : Int) + (m : Int) * 1).toNat = i + m := by omega
  rw [this]
 rw [e]
 have := pick_run xs i k
 rw [List.filterMap_map] at this
 have e2 : ((fun x => xs[x]?) ∘ fun x => i + x) = fun m => xs[i + m]? := rfl
 rw [e2] at this
 rw [this]
theorem getItem_tuple_cut {t sl : Addr} {items : Array Value} {vl vu : Value} {lo hi : Option Int} {Q : Value → Shared → Prop} (ht : IsTup s.heap t items) (hs : s.heap.IsSliceOf sl vl vu .none) (pl : IsPart vl lo) (pu : IsPart vu hi)
  (hw : ¬ (sIx items.size 0 lo = 0 ∧ sIx items.size items.size hi = items.size))
  (h : Q (.ref s.heap.objs.size) { s with heap := s.heap.push { cls := .type "tuple", data := .seq ((items.toList.drop (sIx items.size 0 lo)).take (sIx items.size items.size hi - sIx items.size 0 lo)).toArray } })
  (hsz : items.size ≤ sizeLine) : wpAny (model prog w) A (getItem (.ref t) (.ref sl)) Q E s := by
 have htake : sizeOk (.seq ((items.toList.drop (sIx items.size 0 lo)).take (sIx items.size items.size hi - sIx items.size 0 lo)).toArray) := by
  show ((items.toList.drop (sIx items.size 0 lo)).take (sIx items.size items.size hi - sIx items.size 0 lo)).toArray.size ≤ sizeLine
  rw [List.size_toArray, List.length_take, List.length_drop, Array.length_toList]
  omega
 have hj : sIx items.size items.size hi ≤ items.size := j6h _ _ (Nat.le_refl _) hi
 obtain ⟨os, hos, hcs, hds⟩ := id hs
 have hTs : s.TypeIs (.ref sl) "slice" := ⟨os, hos, hcs⟩
 unfold getItem
 try with_reducible refine wpAny_holding ?_
 first | refine wpAny_bind (wpAny_pure ?_) | skip
 refine wpAny_bind (wpAny_sequenceKey ht.typeIs (by decide) ?_)
 refine wpAny_bind (wpAny_callSpecial?_slot (name := Str.ofString "__getitem__") ht.typeIs PyProof.Rows.slot_tuple_getitem
  (wpAny_call_entry PyProof.Rows.slot_tuple_getitem ht.typeIs entry_tuple_getitem ?_ (args_tuple_getitem _ _)))
 show wpAny _ _ (Builtin.Tuple.tupleItemsOf (.ref t) >>= _) _ _ s
 refine wpAny_bind (tupleItemsOf_ ht ?_)
 refine wpAny_bind (wpAny_typeOf hTs ?_)
 rw [if_pos (by decide)]
 refine wpAny_bind (q7r hs pl pu ?_)
 have hno : ¬ ((((sIx items.size 0 lo : Nat) : Int) == 0 && (1 : Int) == 1 && (sIx items.size items.size hi - sIx items.size 0 lo) == items.size) = true) := by
  intro q
  rw [Bool.and_eq_true, Bool.and_eq_true] at q
  have q1 : ((sIx items.size 0 lo : Nat) : Int) = 0 := eq_of_beq q.1.1
  have q2 : sIx items.size items.size hi - sIx items.size 0 lo = items.size := eq_of_beq q.2
  exact hw ⟨by omega, by omega⟩
 show wpAny _ _ (if (((sIx items.size 0 lo : Nat) : Int) == 0 && (1 : Int) == 1 && (sIx items.size items.size hi - sIx items.size 0 lo) == items.size) = true then _ else _) _ _ s
 rw [if_neg hno, z8m]
 first
  | exact wpAny_bind (m := Builtin.Tuple.tupleExact _) (wpAny_newObj_type (wpAny_pure ⟨_, rfl, wpAny_pure h⟩) htake)
  | exact wpAny_bind (m := Builtin.Tuple.tupleExact _) (wpAny_newObj_type (wpAny_bind (wpAny_pure (wpAny_pure ⟨_, rfl, wpAny_pure h⟩))) htake)
  | exact wpAny_bind (wpAny_bind (m := Builtin.Tuple.tupleExact _) (wpAny_newObj_type (wpAny_pure (wpAny_pure ⟨_, rfl, wpAny_pure h⟩)) htake))
  | exact wpAny_bind (wpAny_bind (m := Builtin.Tuple.tupleExact _) (wpAny_newObj_type (wpAny_pure ⟨_, rfl, wpAny_pure h⟩) htake))
end
end HT
namespace L2
open PySem PySem.Spec PyProof.Rows
noncomputable abbrev TO := St → Hp → (Option Int → Hp → Prop) → Prop
noncomputable def PO (X : Cx) (e : Option Expr) (t : TO) : Prop :=
 ∀ (pins : List (Addr × Obj)) (s : Shared) (σ : St) (H : Hp) (Q : Option Int → Hp → Prop), Inv X pins σ H s → t σ H Q →
  wpAny (model X.prog X.w) X.A (evalPart e X.env) (fun u s' => ∃ o H', Inv X pins σ H' s' ∧ IsPart u o ∧ Q o H') X.xe s
noncomputable def j3f : TO := fun _ H Q => Q none H
noncomputable def j9l (t : TE) : TO := fun σ H Q => t σ H fun x H1 => ∃ i, x = .int i ∧ Q (some i) H1
section
variable {X : Cx} {e : Expr} {te : TE} {lo hi : Option Expr} {tl th : TO} {pos p2 : Pos}
theorem q5k : PO X none j3f := by
 intro pins s σ H Q I h
 rw [evalPart_none]
 exact wpAny_pure ⟨none, H, I, .none, h⟩
theorem q4f (h : PE X e te) : PO X (some e) (j9l te) := by
 intro pins s σ H Q I hw
 rw [evalPart_some]
 refine thn (h pins s σ H _ I hw) fun u s1 ⟨x, H1, I1, r1, q1⟩ => ?_
 obtain ⟨i, rfl, q⟩ := q1
 obtain ⟨t, rfl⟩ := r1
 exact ⟨some i, H1, I1, .int i t, q⟩
noncomputable def SlR (X : Cx) (r : V → Option Int → Option Int → Hp → VK → Prop) : Prop :=
 ∀ (pins : List (Addr × Obj)) (s : Shared) (σ : St) (H : Hp) (x : V) (v vl vu : Value) (lo hi : Option Int) (sl : Addr) (Q : VK), Inv X pins σ H s → q4y x v → s.heap.IsSliceOf sl vl vu .none → IsPart vl lo → IsPart vu hi → r x lo hi H Q →
  ∃ T id, typeLookup (.type T) "__getitem__" = pure (some (.builtin id)) ∧ s.TypeIs v T ∧ wpAny (model X.prog X.w) X.A (getItem v (.ref sl)) (EP X pins σ Q) X.xe s
noncomputable def tSl (r : V → Option Int → Option Int → Hp → VK → Prop) (te : TE) (tl th : TO) : TE := fun σ H Q => te σ H fun x H1 => tl σ H1 fun l H2 => th σ H2 fun u H3 => r x l u H3 Q
theorem q3o {r : V → Option Int → Option Int → Hp → VK → Prop} (hr : SlR X r) (he : PE X e te) (hl : PO X lo tl) (hu : PO X hi th) : PE X (.Subscript e (.Slice lo hi none p2) pos) (tSl r te tl th) := by
 intro pins s σ H Q I h
 refine Subscript_ (thn (he pins s σ H _ I h) fun v s1 ⟨x, H1, I1, r1, q1⟩ => ?_)
 refine wpAny_Slice (thn (hl pins s1 σ H1 _ I1 q1) fun vl s2 ⟨l, H2, I2, pl, q2⟩ => thn (hu pins s2 σ H2 _ I2 q2) fun vu s3 ⟨u, H3, I3, pu, q3⟩ => ?_)
 rw [evalPart_none]
 refine wpAny_pure ?_
 have I4 : Inv X pins σ H3 { s3 with heap := s3.heap.push { cls := .type "slice", data := .fields #[vl, vu, .none] } } := I3.kept (t' := s3.toks) fun b ob q => Heap.get?_push_of_some _ q
 obtain ⟨T, id, hT, ht, hg⟩ := hr pins { s3 with heap := s3.heap.push { cls := .type "slice", data := .fields #[vl, vu, .none] } } σ H3 x v vl vu l u s3.heap.objs.size Q I4 r1 (Heap.IsSliceOf.new ..) pl pu q3
 show wpAny (model X.prog X.w) X.A (subscriptTail e (.Slice lo hi none p2) v (.ref s3.heap.objs.size)) (EP X pins σ Q) X.xe { s3 with heap := s3.heap.push { cls := .type "slice", data := .fields #[vl, vu, .none] } }
 exact tail_any (ops := [.ref s3.heap.objs.size, v]) ht hT hg (by with_unfolding_all rfl)
noncomputable def x2g (xs : List V) (lo hi : Option Int) : List V := (xs.drop (HT.sIx xs.length 0 lo)).take (HT.sIx xs.length xs.length hi - HT.sIx xs.length 0 lo)
theorem x4i (xs : List V) (lo hi : Option Int) : (x2g xs lo hi).length ≤ xs.length := by
 unfold x2g
 rw [List.length_take, List.length_drop]
 omega
noncomputable def w3d (K : PySem.W.Frag) : V → Option Int → Option Int → Hp → VK → Prop := fun x lo hi H Q => ∃ a xs, x = .ref a ∧ SqT K H a xs ∧
 ¬ (HT.sIx xs.length 0 lo = 0 ∧ HT.sIx xs.length xs.length hi = xs.length) ∧ ∀ p, H p = none → Q (.ref p) (upd H p (.tup (x2g xs lo hi)))
theorem z5o : SlR X (w3d X.K) := by
 intro pins s σ H x v vl vu lo hi sl Q I rx hs pl pu h
 obtain ⟨a, xs, rfl, hx, hw, q⟩ := h
 cases rx
 obtain ⟨its, r, ht, hz⟩ := I.tuple hx
 have hlen : its.toArray.size = xs.length := by rw [List.size_toArray]; exact r.length.symm
 refine ⟨"tuple", _, PyProof.Rows.slot_tuple_getitem.lookup, ht.typeIs, ?_⟩
 refine HT.getItem_tuple_cut ht hs pl pu (by rw [hlen]; exact hw) ?_ (by rw [hlen]; exact hz)
 rw [hlen]
 refine ⟨.ref s.heap.objs.size, _, I.laid (t' := s.toks) (o := .tup (x2g xs lo hi)) (fun b ob q => Heap.get?_push_of_some _ q) (Nat.le_refl _) ?_, rfl, q _ (I.hok.fresh (Nat.le_refl _))⟩
 exact ⟨Nat.le_trans (x4i xs lo hi) hz, _, (r.drop (HT.sIx xs.length 0 lo)).take (HT.sIx xs.length xs.length hi - HT.sIx xs.length 0 lo), IsTup.new _ _⟩
noncomputable def j8c (K : PySem.W.Frag) : R2 := fun x y H Q => ∃ a b xs ys, x = .ref a ∧ y = .ref b ∧ SqT K H a xs ∧ SqT K H b ys ∧ xs ≠ [] ∧ xs.length + ys.length ≤ sizeLine ∧
 (ys = [] → Q (.ref a) H) ∧ (ys ≠ [] → ∀ p, H p = none → Q (.ref p) (upd H p (.tup (xs ++ ys))))
theorem q4b.nil_iff {xs : List V} {us : List Value} (r : q4b xs us) : us = [] ↔ xs = [] := by
 cases r with
 | nil => simp
 | cons _ _ => simp
theorem j4c : OpR X (binaryOp .Add) (j8c X.K) := by
 intro pins s σ H x y v u Q I rx ry h
 obtain ⟨a, b, xs, ys, rfl, rfl, ha, hb, hx, hz, q1, q2⟩ := h
 cases rx
 cases ry
 obtain ⟨its, r1, p1, _⟩ := I.tuple ha
 obtain ⟨its2, r2, p2, _⟩ := I.tuple hb
 refine HT.cat_tup p1 p2 (fun z => hx (r1.nil_iff.mp z)) (fun z => ⟨.ref a, H, I, rfl, q1 (r2.nil_iff.mp z)⟩) (fun z => ?_) (by rw [← r1.length, ← r2.length]; exact hz)
 refine ⟨.ref s.heap.objs.size, _, I.laid (t' := s.toks) (o := .tup (xs ++ ys)) (fun b ob q => Heap.get?_push_of_some _ q) (Nat.le_refl _) ?_, rfl, q2 (fun w => z (r2.nil_iff.mpr w)) _ (I.hok.fresh (Nat.le_refl _))⟩
 exact ⟨by rw [List.length_append]; exact hz, _, r1.append r2, IsTup.new _ _⟩
end
noncomputable def ixN (n : Nat) (i : Int) : Option Nat := if 0 ≤ i then (if i < n then some i.toNat else none) else if -(n : Int) ≤ i then some (i + n).toNat else none
noncomputable def atI {α : Type} (xs : List α) (i : Int) : Option α := (ixN xs.length i).bind fun j => xs[j]?
theorem j4x {n : Nat} {i : Int} {j : Nat} (h : ixN n i = some j) : seqIndex? i n = some j ∧ j < n ∧ -(n : Int) ≤ i ∧ i < n := by
 unfold ixN at h
 by_cases h0 : 0 ≤ i
 ·rw [if_pos h0] at h
  by_cases h1 : i < n
  ·rw [if_pos h1] at h
   have e : i.toNat = j := Option.some.inj h
   exact ⟨by rw [seqIndex_of h0 h1, e], by omega, by omega, h1⟩
  ·rw [if_neg h1] at h; cases h
 ·rw [if_neg h0] at h
  by_cases h1 : -(n : Int) ≤ i
  ·rw [if_pos h1] at h
   have e : (i + n).toNat = j := Option.some.inj h
   exact ⟨by rw [seqIndex_neg (by omega) h1, e], by omega, h1, by omega⟩
  ·rw [if_neg h1] at h; cases h
theorem z0c {α : Type} {xs : List α} {i : Int} {v : α} (h : atI xs i = some v) : ∃ j, seqIndex? i xs.length = some j ∧ xs[j]? = some v ∧ j < xs.length ∧ -(xs.length : Int) ≤ i ∧ i < xs.length := by
 unfold atI at h
 cases e : ixN xs.length i with
 | none => rw [e] at h; cases h
 | some j =>
  rw [e] at h
  obtain ⟨h1, h2, h3, h4⟩ := j4x e
  exact ⟨j, h1, h, h2, h3, h4⟩
theorem q0m {α : Type} {xs : List α} {j : Nat} {v : α} (h : xs[j]? = some v) : atI xs (j : Int) = some v := by
 have hj : j < xs.length := (List.getElem?_eq_some_iff.mp h).1
 have e : ixN xs.length (j : Int) = some j := by
  unfold ixN
  rw [if_pos (by omega), if_pos (by omega)]; simp
 unfold atI; rw [e]; exact h
noncomputable def x0v (b : Expr) : Prop := ∀ o i, subscripted b false o i = operate [o, i] (getItem o i)
noncomputable def IxR (X : Cx) (r : R2) : Prop :=
 ∀ (value slice : Expr) (pins : List (Addr × Obj)) (s : Shared) (σ : St) (H : Hp) (x y : V) (v u : Value) (Q : VK), Inv X pins σ H s → q4y x v → q4y y u → r x y H Q →
  subscripted slice false v u = operate [v, u] (getItem v u) → wpAny (model X.prog X.w) X.A (subscriptTail value slice v u) (EP X pins σ Q) X.xe s
noncomputable def MtR (X : Cx) (id : String) (r : V → List V → Hp → VK → Prop) : Prop :=
 ∀ (pins : List (Addr × Obj)) (s : Shared) (σ : St) (H : Hp) (x : V) (xs : List V) (v : Value) (us : List Value) (Q : VK), Inv X pins σ H s → q4y x v → q4b xs us → r x xs H Q →
  wpAny (model X.prog X.w) X.A (call (.builtin id) (v :: us)) (EP X pins σ Q) X.xe s
section
variable {X : Cx} {a b : Expr} {ta tb : TE} {pos : Pos}
theorem q0u {r : R2} (hr : IxR X r) (ha : PE X a ta) (hb : PE X b tb) (hs : x0v b) : PE X (.Subscript a b pos) (tOp r ta tb) := by
 intro pins s σ H Q I h
 exact Subscript_ (j9f ha hb I h fun v u s2 x y H2 I2 rx ry q => hr a b pins s2 σ H2 x y v u Q I2 rx ry q (hs _ _))
noncomputable def w0o (K : PySem.W.Frag) : R2 := fun x y H Q => ∃ p xs i v, x = .ref p ∧ y = .int i ∧ SqL K H p xs ∧ atI xs i = some v ∧ Q v H
noncomputable def w0l (K : PySem.W.Frag) : R2 := fun x y H Q => ∃ p xs i v, x = .ref p ∧ y = .int i ∧ SqT K H p xs ∧ atI xs i = some v ∧ Q v H
noncomputable def w1p : R2 := fun x y H Q => ∃ z i c, x = .str z ∧ y = .int i ∧ z.length ≤ sizeLine ∧ atI z.cps.toList i = some c ∧ Q (.str ⟨#[c]⟩) H
theorem q5j : IxR X (w0o X.K) := by
 intro value slice pins s σ H x y v u Q I rx ry h hs
 obtain ⟨p, xs, i, z, rfl, rfl, hq, he, q⟩ := h
 cases rx
 obtain ⟨t, rfl⟩ := ry
 obtain ⟨its, r, pl, hz⟩ := I.list hq
 obtain ⟨j, h1, h2, h3, h4, h5⟩ := z0c he
 obtain ⟨w, ew, rw'⟩ := r.get h2
 have hl := r.length
 have hn := x9h
 have fin : EP X pins σ Q w s := ⟨z, H, I, rw', q⟩
 by_cases h0 : 0 ≤ i
 ·have hj : i.toNat = j := by
   rw [seqIndex_of h0 h5] at h1
   exact Option.some.inj h1
  exact item_listR pl.isList h0 (by omega) (by rw [hj]; simpa using ew) fin hs
 ·have hj : (i + (its.toArray.size : Int)).toNat = j := by
   rw [seqIndex_neg (by omega) h4] at h1
   rw [List.size_toArray, ← hl]
   exact Option.some.inj h1
  exact subscriptTail_builtinR (x := w) pl.isList.typeIs slot_list_getitem.lookup
   (wpAny_getItem_list_neg (Q := fun r s' => r = w ∧ EP X pins σ Q r s') pl.isList (by omega) (by rw [List.size_toArray] <;> omega) (by omega) (by rw [hj]; simpa using ew) ⟨rfl, fin⟩) hs
theorem q0o : IxR X (w0l X.K) := by
 intro value slice pins s σ H x y v u Q I rx ry h hs
 obtain ⟨p, xs, i, z, rfl, rfl, hq, he, q⟩ := h
 cases rx
 obtain ⟨t, rfl⟩ := ry
 obtain ⟨its, r, pl, hz⟩ := I.tuple hq
 obtain ⟨j, h1, h2, h3, h4, h5⟩ := z0c he
 obtain ⟨w, ew, rw'⟩ := r.get h2
 have hl := r.length
 have hn := x9h
 have fin : EP X pins σ Q w s := ⟨z, H, I, rw', q⟩
 exact subscriptTail_builtinR (x := w) pl.typeIs slot_tuple_getitem.lookup
  (getItem_tuple (j := j) (Q := fun r s' => r = w ∧ EP X pins σ Q r s') pl (by omega) (by omega) (by rw [List.size_toArray, ← hl]; exact h1) (by simpa using ew) ⟨rfl, fin⟩) hs
theorem x3v : IxR X w1p := by
 intro value slice pins s σ H x y v u Q I rx ry h hs
 obtain ⟨z, i, c, rfl, rfl, hz, he, q⟩ := h
 obtain ⟨t, rfl⟩ := rx
 obtain ⟨t', rfl⟩ := ry
 obtain ⟨j, h1, h2, h3, h4, h5⟩ := z0c he
 have hl : z.cps.toList.length = z.length := by simp [Str.length]
 rw [hl] at h1 h4 h5
 have hn := x9h
 exact tail_any (typeIs_str s z t) slot_str_getitem.lookup (getItem_str (c := c) (by
  have e1 : decide (i < -(2 ^ 63 : Int)) = false := decide_eq_false (by omega)
  have e2 : decide (i ≥ 2 ^ 63) = false := decide_eq_false (by omega)
  rw [e1, e2, Bool.or_false]) (by rw [h1]; simpa using h2) ⟨.str ⟨#[c]⟩, H, I.tok _, ⟨_, rfl⟩, q⟩) hs
theorem x8n (lo hi : Option Int) (n : Nat) : (sliceBounds lo hi none n).1 = ((HT.sIx n 0 lo : Nat) : Int) ∧ (sliceBounds lo hi none n).2.1 = ((HT.sIx n n hi : Nat) : Int) ∧ (sliceBounds lo hi none n).2.2 = 1 := by
 refine ⟨?_, ?_, rfl⟩
 ·cases lo with
  | none => simp [sliceBounds, HT.sIx]
  | some i =>
   simp only [sliceBounds, HT.sIx, Option.getD_none, show (1 : Int) > 0 by decide, if_true]
   by_cases h : i < 0
   ·simp only [h, if_true] <;> omega
   ·simp only [h, if_false] <;> omega
 ·cases hi with
  | none => simp [sliceBounds, HT.sIx]
  | some i =>
   simp only [sliceBounds, HT.sIx, Option.getD_none, show (1 : Int) > 0 by decide, if_true]
   by_cases h : i < 0
   ·simp only [h, if_true] <;> omega
   ·simp only [h, if_false] <;> omega
theorem x7a (its : List Value) (lo hi : Option Int) : slicePick its.toArray lo hi none = ((its.drop (HT.sIx its.length 0 lo)).take (HT.sIx its.length its.length hi - HT.sIx its.length 0 lo)).toArray := by
 obtain ⟨h1, h2, h3⟩ := x8n lo hi its.toArray.size
 unfold slicePick
 rw [h1, h2, h3]
 simp only [sliceRange_one, pick_run, List.size_toArray] <;> rfl
noncomputable def w1u (K : PySem.W.Frag) : V → Option Int → Option Int → Hp → VK → Prop := fun x lo hi H Q => ∃ a xs, x = .ref a ∧ SqL K H a xs ∧ ∀ p, H p = none → Q (.ref p) (upd H p (.lst (x2g xs lo hi)))
theorem j3m : SlR X (w1u X.K) := by
 intro pins s σ H x v vl vu lo hi sl Q I rx hs pl pu h
 obtain ⟨a, xs, rfl, hx, q⟩ := h
 cases rx
 obtain ⟨its, r, ht, hz⟩ := I.list hx
 have hlen := r.length
 refine ⟨"list", _, slot_list_getitem.lookup, ht.isList.typeIs, ?_⟩
 refine wpAny_getItem_list_slice ht.isList hs pl pu .none (by simp) ?_ (by rw [List.size_toArray] <;> omega)
 rw [x7a, ← hlen]
 refine ⟨.ref s.heap.objs.size, _, I.laid (t' := s.toks) (o := .lst (x2g xs lo hi)) (fun b ob q => Heap.get?_push_of_some _ q) (Nat.le_refl _) ?_, rfl, q _ (I.hok.fresh (Nat.le_refl _))⟩
 exact ⟨Nat.le_trans (x4i xs lo hi) hz, _, 0, (r.drop (HT.sIx xs.length 0 lo)).take (HT.sIx xs.length xs.length hi - HT.sIx xs.length 0 lo), Heap.get?_push_size _ rfl⟩
noncomputable def x4h : V → Bool
 | .non => true
 | .bl _ => true
 | .int _ => true
 | .str _ => true
 | _ => false
noncomputable def eqV : V → V → Bool
 | .non, .non => true
 | .bl a, .bl b => a == b
 | .bl a, .int b => (if a then 1 else 0) == b
 | .int a, .bl b => a == (if b then 1 else 0)
 | .int a, .int b => a == b
 | .str a, .str b => a == b
 | _, _ => false
theorem j1o {A : Around} {s : Shared} {y x : V} {u v : Value} (ry : q4y y u) (rx : q4y x v) (fy : x4h y = true) (fx : x4h x = true) : SeqAt.EqAt A s u v (eqV y x) := by
 cases y with
 | non =>
  cases ry
  cases x with
  | non => cases rx; exact SeqAt.EqAt.same _
  | bl b => cases rx; exact SeqAt.EqAt.none_bool b
  | int b => obtain ⟨t, rfl⟩ := rx; exact SeqAt.EqAt.none_int b t
  | str b => obtain ⟨t, rfl⟩ := rx; exact SeqAt.EqAt.none_str b t
  | _ => exact absurd (show false = true from fx) Bool.false_ne_true
 | bl a =>
  cases ry
  cases x with
  | non => cases rx; exact SeqAt.EqAt.bool_none a
  | bl b => cases rx; exact SeqAt.EqAt.bool_bool a b
  | int b => obtain ⟨t, rfl⟩ := rx; exact SeqAt.EqAt.bool_int a b t
  | str b => obtain ⟨t, rfl⟩ := rx; exact SeqAt.EqAt.bool_str a b t
  | _ => exact absurd (show false = true from fx) Bool.false_ne_true
 | int a =>
  obtain ⟨t', rfl⟩ := ry
  cases x with
  | non => cases rx; exact SeqAt.EqAt.int_none a t'
  | bl b => cases rx; exact SeqAt.EqAt.int_bool a t' b
  | int b => obtain ⟨t, rfl⟩ := rx; exact SeqAt.EqAt.int_int a t' b t
  | str b => obtain ⟨t, rfl⟩ := rx; exact SeqAt.EqAt.int_str a t' b t
  | _ => exact absurd (show false = true from fx) Bool.false_ne_true
 | str a =>
  obtain ⟨t', rfl⟩ := ry
  cases x with
  | non => cases rx; exact SeqAt.EqAt.str_none a t'
  | bl b => cases rx; exact SeqAt.EqAt.str_bool a t' b
  | int b => obtain ⟨t, rfl⟩ := rx; exact SeqAt.EqAt.str_int a t' b t
  | str b => obtain ⟨t, rfl⟩ := rx; exact SeqAt.EqAt.str_str a t' b t
  | _ => exact absurd (show false = true from fx) Bool.false_ne_true
 | _ => exact absurd (show false = true from fy) Bool.false_ne_true
noncomputable def eqU (x : V) (u : Value) : Bool := match u with
 | .none => eqV .non x
 | .bool b => eqV (.bl b) x
 | .int i _ => eqV (.int i) x
 | .str z _ => eqV (.str z) x
 | _ => false
theorem j2a {x y : V} {u : Value} (r : q4y y u) (f : x4h y = true) : eqU x u = eqV y x := by
 cases y with
 | non => cases r; rfl
 | bl b => cases r; rfl
 | int i => obtain ⟨t, rfl⟩ := r; rfl
 | str z => obtain ⟨t, rfl⟩ := r; rfl
 | _ => exact absurd (show false = true from f) Bool.false_ne_true
theorem x3q {x : V} : ∀ {xs : List V} {us : List Value}, q4b xs us → xs.all x4h = true → us.any (eqU x) = xs.any fun y => eqV y x
 | _, _, .nil, _ => rfl
 | y :: xs, u :: us, .cons r t, f => by
  rw [List.all_cons, Bool.and_eq_true] at f
  rw [List.any_cons, List.any_cons, j2a r f.1, x3q t f.2]
theorem x0c {A : Around} {s : Shared} {x : V} {v : Value} (rx : q4y x v) (fx : x4h x = true) : ∀ {xs : List V} {us : List Value}, q4b xs us → xs.all x4h = true → ∀ u ∈ us, SeqAt.EqAt A s u v (eqU x u)
 | _, _, .nil, _ => fun u hu => by cases hu
 | y :: xs, u :: us, .cons r t, f => fun u' hu => by
  rw [List.all_cons, Bool.and_eq_true] at f
  rcases List.mem_cons.mp hu with rfl | hu
  ·rw [j2a r f.1]; exact j1o r rx f.1 fx
  ·exact x0c rx fx t f.2 u' hu
noncomputable def inV (x : V) (xs : List V) : Bool := xs.any fun y => eqV y x
noncomputable def rIn (K : PySem.W.Frag) (neg : Bool) : R2 := fun x y H Q => ∃ p xs, y = .ref p ∧ (SqL K H p xs ∨ SqT K H p xs) ∧ x4h x = true ∧ xs.all x4h = true ∧ Q (.bl (if neg then !inV x xs else inV x xs)) H
theorem x9b : OpR X (compareOp .In) (rIn X.K false) := by
 intro pins s σ H x y v u Q I rx ry h
 obtain ⟨p, xs, rfl, hq, fx, fs, q⟩ := h
 cases ry
 rcases hq with hq | hq
 ·obtain ⟨its, r, pl, hz⟩ := I.list hq
  refine SeqAt.in_listAt (eqU x) pl.isList (fun w hw => x0c rx fx r fs w (by simpa using hw)) ⟨.bl _, H, I, rfl, ?_⟩
  rw [show its.toArray.any (eqU x) = its.any (eqU x) by simp, x3q r fs]
  exact q
 ·obtain ⟨its, r, pl, hz⟩ := I.tuple hq
  refine SeqAt.in_tupleAt (eqU x) pl (fun w hw => x0c rx fx r fs w (by simpa using hw)) ⟨.bl _, H, I, rfl, ?_⟩
  rw [show its.toArray.any (eqU x) = its.any (eqU x) by simp, x3q r fs]
  exact q
theorem q8e : OpR X (compareOp .NotIn) (rIn X.K true) := by
 intro pins s σ H x y v u Q I rx ry h
 obtain ⟨p, xs, rfl, hq, fx, fs, q⟩ := h
 cases ry
 rcases hq with hq | hq
 ·obtain ⟨its, r, pl, hz⟩ := I.list hq
  refine SeqAt.notIn_listAt (eqU x) pl.isList (fun w hw => x0c rx fx r fs w (by simpa using hw)) ⟨.bl _, H, I, rfl, ?_⟩
  rw [show its.toArray.any (eqU x) = its.any (eqU x) by simp, x3q r fs]
  exact q
 ·obtain ⟨its, r, pl, hz⟩ := I.tuple hq
  refine SeqAt.notIn_tupleAt (eqU x) pl (fun w hw => x0c rx fx r fs w (by simpa using hw)) ⟨.bl _, H, I, rfl, ?_⟩
  rw [show its.toArray.any (eqU x) = its.any (eqU x) by simp, x3q r fs]
  exact q
theorem q0w : q9h X (.builtin "len") (fun xs H Q => ∃ p ys, xs = [.ref p] ∧ (SqL X.K H p ys ∨ SqT X.K H p ys) ∧ Q (.int ys.length) H) := by
 intro pins s σ H xs us Q I r h
 obtain ⟨p, ys, rfl, hq, q⟩ := h
 obtain ⟨u, rfl, rx⟩ := q8a r
 cases rx
 have hn := x9h
 rcases hq with hq | hq
 ·obtain ⟨its, r', pl, hz⟩ := I.list hq
  have hlen := r'.length
  exact Calls.call_len_list pl.isList (by simp only [List.size_toArray] <;> omega) ⟨.int ys.length, H, I.tok _, ⟨s.toks + 1, by rw [List.size_toArray, hlen]⟩, q⟩
 ·obtain ⟨its, r', pl, hz⟩ := I.tuple hq
  have hlen := r'.length
  exact len_tuple pl (by simp only [List.size_toArray] <;> omega) ⟨.int ys.length, H, I.tok _, ⟨s.toks + 1, by rw [List.size_toArray, hlen]⟩, q⟩
theorem q3n : q9h X (.builtin "len") (fun xs H Q => ∃ z, xs = [.str z] ∧ z.length ≤ sizeLine ∧ Q (.int z.length) H) := by
 intro pins s σ H xs us Q I r h
 obtain ⟨z, rfl, hz, q⟩ := h
 obtain ⟨u, rfl, t, rfl⟩ := q8a r
 have hn := x9h
 exact len_str (by omega) ⟨.int z.length, H, I.tok _, ⟨_, rfl⟩, q⟩
theorem x7i : q9h X (.type "list") (fun xs H Q => ∃ p ys, xs = [.ref p] ∧ (SqL X.K H p ys ∨ SqT X.K H p ys) ∧ ∀ l, H l = none → Q (.ref l) (upd H l (.lst ys))) := by
 intro pins s σ H xs us Q I r h
 obtain ⟨p, ys, rfl, hq, q⟩ := h
 obtain ⟨u, rfl, rx⟩ := q8a r
 cases rx
 have fin : ∀ (its : List Value), q4b ys its → ys.length ≤ sizeLine → ∀ (h' : Heap) (c' : Nat), (∀ b o', s.heap.get? b = some o' → h'.get? b = some o') →
   h'.get? s.heap.objs.size = some { cls := .type "list", dict := none, data := .seq its.toArray c', slots := #[] } → EP X pins σ Q (.ref s.heap.objs.size) { s with heap := h' } := fun its r' hz h' c' kp e =>
  ⟨.ref s.heap.objs.size, _, I.laid (t' := s.toks) kp (Nat.le_refl _) (show q3x X.prog X.w _ h' _ (.lst ys) from ⟨hz, its, c', r', e⟩), rfl, q _ (I.hok.fresh (Nat.le_refl _))⟩
 rcases hq with hq | hq
 ·obtain ⟨its, r', pl, hz⟩ := I.list hq
  have hlen := r'.length
  obtain ⟨o, ho, hc, n, hd⟩ := pl.isList
  exact call_list_seq p (.inl rfl) ho hc hd (fun h' c' kp e => fin its r' hz h' c' kp e) (by simp only [List.size_toArray] <;> omega)
 ·obtain ⟨its, r', pl, hz⟩ := I.tuple hq
  have hlen := r'.length
  obtain ⟨o, ho, hc, n, hd⟩ := pl
  exact call_list_seq p (.inr rfl) ho hc hd (fun h' c' kp e => fin its r' hz h' c' kp e) (by simp only [List.size_toArray] <;> omega)
theorem q5p : q9h X (.type "tuple") (fun xs H Q => ∃ p ys, xs = [.ref p] ∧ ((SqL X.K H p ys ∧ ∀ l, H l = none → Q (.ref l) (upd H l (.tup ys))) ∨ (SqT X.K H p ys ∧ Q (.ref p) H))) := by
 intro pins s σ H xs us Q I r h
 obtain ⟨p, ys, rfl, h⟩ := h
 obtain ⟨u, rfl, rx⟩ := q8a r
 cases rx
 rcases h with ⟨hq, q⟩ | ⟨hq, q⟩
 ·obtain ⟨its, r', pl, hz⟩ := I.list hq
  have hlen := r'.length
  refine call_tuple_list pl.isList (fun h' kp => ?_) (by simp only [List.size_toArray] <;> omega)
  have I1 : Inv X pins σ H { s with heap := h' } := I.kept (t' := s.toks) kp
  have I2 : Inv X pins σ (upd H h'.objs.size (.tup ys)) { s with heap := h'.push { cls := .type "tuple", data := .seq its.toArray } } :=
   I1.laid (t' := s.toks) (fun b o e => Heap.get?_push_of_some _ e) (Nat.le_refl _) (show q3x X.prog X.w _ _ _ (.tup ys) from ⟨hz, its, r', IsTup.new _ _⟩)
  exact ⟨.ref h'.objs.size, _, I2, rfl, q _ (I1.hok.fresh (Nat.le_refl _))⟩
 ·obtain ⟨its, r', pl, hz⟩ := I.tuple hq
  exact call_tuple_same pl ⟨.ref p, H, I, rfl, q⟩
noncomputable def tyV (K : PySem.W.Frag) (T : String) (x : V) (H : Hp) : Prop := match x with
 | .str _ => T = "str"
 | .int _ => T = "int"
 | .ref p => (T = "list" ∧ ∃ xs, SqL K H p xs) ∨ (T = "tuple" ∧ ∃ o, K.lookup p = some o ∧ o.cls = .type "tuple" ∧ o.dict = none) ∨
   (T = "dict" ∧ ((∃ kvs, H p = some (.dK kvs)) ∨ ∃ kvs, H p = some (.dT kvs))) ∨ (T = "set" ∧ ∃ S n, H p = some (.set S n))
 | _ => False
theorem j6x {pins : List (Addr × Obj)} {σ : St} {H : Hp} {s : Shared} {T : String} {x : V} {v : Value} (I : Inv X pins σ H s) (r : q4y x v) (ty : tyV X.K T x H) :
  s.TypeIs v T ∧ ∀ a, v = .ref a → ∃ ob, s.heap.get? a = some ob ∧ ob.dict = none := by
 cases x with
 | str z =>
  obtain ⟨t, rfl⟩ := r
  cases (show T = "str" from ty)
  exact ⟨typeIs_str s z t, fun _ e => nomatch e⟩
 | int i =>
  obtain ⟨t, rfl⟩ := r
  cases (show T = "int" from ty)
  exact ⟨typeIs_int s i t, fun _ e => nomatch e⟩
 | ref p =>
  cases r
  rcases ty with ⟨rfl, xs, hq⟩ | ⟨rfl, o, hk, hc, hd⟩ | ⟨rfl, hk⟩ | ⟨rfl, S, n, hk⟩
  ·obtain ⟨its, _, pl, _⟩ := I.list hq
   refine ⟨pl.isList.typeIs, fun a e => ?_⟩
   cases e
   obtain ⟨o, n, e, c, hd, _⟩ := pl
   exact ⟨o, e, hd⟩
  ·refine ⟨⟨o, I.kIn p o hk, hc⟩, fun a e => ?_⟩
   cases e
   exact ⟨o, I.kIn _ o hk, hd⟩
  ·have z : ∃ o, s.heap.get? p = some o ∧ o.ExactDict := by
    rcases hk with ⟨kvs, hk⟩ | ⟨kvs, hk⟩
    ·obtain ⟨_, _, _, _, o, _, _, e, ex, _⟩ := I.hok p _ hk
     exact ⟨o, e, ex⟩
    ·obtain ⟨_, _, _, _, o, _, _, e, ex, _⟩ := I.hok p _ hk
     exact ⟨o, e, ex⟩
   obtain ⟨o, e, ex⟩ := z
   refine ⟨⟨o, e, ex.1⟩, fun a e2 => ?_⟩
   cases e2
   exact ⟨o, e, ex.2.1⟩
  ·obtain ⟨o, _, _, _, e, ex, _⟩ := I.hok p _ hk
   refine ⟨⟨o, e, ex.1⟩, fun a e2 => ?_⟩
   cases e2
   exact ⟨o, e, ex.2.1⟩
 | _ => exact False.elim ty
noncomputable def tBM (K : PySem.W.Frag) (T : String) (r : V → List V → Hp → VK → Prop) (to : TE) (t : TA) : TE := fun σ H Q => to σ H fun x H1 => tyV K T x H1 ∧ t σ H1 fun xs H2 => r x xs H2 Q
variable {o e : Expr} {es : List Expr} {to : TE} {t : TA} {name : Str} {apos cpos : Pos} {T id : String} {r : V → List V → Hp → VK → Prop}
theorem x1b (pa : PlainAttrs T) (slot : Slot T name id) (hty : typeOf (.builtin id) = pure (.type "method_descriptor")) (hm : MtR X id r) (ho : PE X o to) (ha : PA X (e :: es) t)
  (hbase : attributeBase o name X.env (eval o X.env) = eval o X.env := by rfl)
  (hfew : ((backTo cpos (starEach (e :: es) X.env)).all (fun x => !x.1) && (backToKw cpos (keywordEach [] X.env)).all (fun x => x.1.isSome)
   && decide ((e :: es).length + ([] : List Keyword).length + (if ([] : List Keyword).isEmpty then 0 else 1) < 30)) = true := by rfl)
  (hline : (apos.endLine == cpos.line) = true := by rfl) (hs : starEach (e :: es) X.env = (false, eval e X.env) :: starEach es X.env := by rfl) (hplain : (backTo cpos (starEach es X.env)).any (·.1) = false := by rfl) :
  PE X (.Call (.Attribute o name apos) (e :: es) [] cpos) (tBM X.K T r to t) := by
 intro pins s σ H Q I h
 refine wpAny_Call_method_late hbase hfew hline rfl (thn (ho pins s σ H _ I h) fun v s1 ⟨x, H1, I1, r1, ty, q1⟩ => ?_)
 obtain ⟨h1, h2⟩ := j6x I1 r1 ty
 refine ⟨T, id, pa, slot, hty, h1, h2, ?_⟩
 have hA := ha cpos pins s1 σ H1 _ I1 q1
 rw [hs] at hA ⊢
 refine Calls.callWith_builtin (by show (false || (backTo cpos (starEach es X.env)).any (·.1)) = false; rw [hplain] <;> rfl) (Calls.evalArgs_plain ?_)
 exact thn hA fun us s2 ⟨vs, H2, I2, r2, q2⟩ => hm pins s2 σ H2 x vs v us Q I2 r1 r2 q2
end
noncomputable def MtM (X : Cx) (id : String) (r : V → List V → Hp → VK → Prop) : Prop :=
 ∀ (pins : List (Addr × Obj)) (s : Shared) (σ : St) (H : Hp) (x : V) (xs : List V) (v : Value) (us : List Value) (Q : VK), Inv X pins σ H s → q4y x v → q4b xs us → r x xs H Q →
  wpAny (model X.prog X.w) X.A (call (.builtin id) (v :: us)) (EP X pins σ Q) X.xe s
theorem q4b.one : ∀ {x : V} {us : List Value}, q4b [x] us → ∃ u, us = [u] ∧ q4y x u
 | _, _, .cons r .nil => ⟨_, rfl, r⟩
section
variable {X : Cx} {pins : List (Addr × Obj)} {σ : St} {H : Hp} {s : Shared} {l b : Addr} {xs ys zs : List V}
theorem Inv.lset {its its' : List Value} {n : Nat} {f : Array Value → Array Value} {t' : Nat} (I : Inv X pins σ H s) (hH : H l = some (.lst xs))
  (e : s.heap.get? l = some { cls := .type "list", data := .seq its.toArray n }) (hf : f its.toArray = its'.toArray) (hv : q4b ys its') (hz : ys.length ≤ sizeLine) :
  Inv X pins σ (upd H l (.lst ys)) { s with heap := s.heap.update l (Obj.mapSeq f), toks := t' } := by
 have q := PySem.IsL.update e f
 rw [hf] at q
 refine I.write (x := l) (e := l) (by rw [hH]; exact trivial) (.inl rfl) (fun b' u hb hu => (Heap.get?_update_other s.heap (Obj.mapSeq f) (Ne.symm hb)).trans hu) ⟨_, q⟩ ?_
 exact ⟨hz, its', _, hv, q⟩
theorem Inv.lnew {its : List Value} {t' : Nat} (I : Inv X pins σ H s) (hv : q4b ys its) (hz : ys.length ≤ sizeLine) :
  Inv X pins σ (upd H s.heap.objs.size (.lst ys)) { s with heap := s.heap.push { cls := .type "list", data := .seq its.toArray }, toks := t' } :=
 I.laid (fun _ _ q => Heap.get?_push_of_some _ q) (Nat.le_refl _) ⟨hz, its, 0, hv, Heap.get?_push_size _ rfl⟩
theorem Inv.fresh (I : Inv X pins σ H s) : H s.heap.objs.size = none := I.hok.fresh (Nat.le_refl _)
theorem Inv.lstM (I : Inv X pins σ H s) (hH : H l = some (.lst xs)) : xs.length ≤ sizeLine ∧ ∃ (its : List Value) (n : Nat), q4b xs its ∧ xs.length = its.length ∧ s.heap.get? l = some { cls := .type "list", data := .seq its.toArray n } := by
 obtain ⟨z, its, n, r, e⟩ := I.hok l _ hH
 exact ⟨z, its, n, r, r.length, e⟩
theorem j0r {n : Nat} (h : n ≤ sizeLine) : Builtin.List.listTooLong n = false := by
 unfold Builtin.List.listTooLong
 exact decide_eq_false (by omega)
end
section
variable {X : Cx}
noncomputable def j4t : V → List V → Hp → VK → Prop := fun x vs H Q => ∃ l xs y, x = .ref l ∧ vs = [y] ∧ H l = some (.lst xs) ∧ xs.length < sizeLine ∧ Q .non (upd H l (.lst (xs ++ [y])))
theorem q8o : MtM X "list.append" j4t := by
 intro pins s σ H x vs v us Q I rx rv h
 obtain ⟨l, xs, y, rfl, rfl, hH, hz, q⟩ := h
 cases rx
 obtain ⟨u, rfl, ru⟩ := rv.one
 obtain ⟨z, its, n, r, hl, e⟩ := I.lstM hH
 refine call_meets F.slot_list_append ⟨_, e, rfl⟩ F.entry_list_append (F.args_list_append_2 _ _) (PySem.list_append l its.toArray n u (by rw [List.size_toArray]; omega)) ⟨e, ?_⟩
 refine ⟨.non, _, I.lset (its' := its ++ [u]) hH e (by simp) (r.append (.cons ru .nil)) ?_, rfl, q⟩
 rw [List.length_append, List.length_singleton]
 omega
noncomputable def j4a : V → List V → Hp → VK → Prop := fun x vs H Q => ∃ l b xs zs, x = .ref l ∧ vs = [.ref b] ∧ H l = some (.lst xs) ∧ H b = some (.lst zs) ∧ xs.length + zs.length ≤ sizeLine ∧ Q .non (upd H l (.lst (xs ++ zs)))
theorem x7r : MtM X "list.extend" j4a := by
 intro pins s σ H x vs v us Q I rx rv h
 obtain ⟨l, b, xs, zs, rfl, rfl, hH, hB, hz, q⟩ := h
 cases rx
 obtain ⟨u, rfl, ru⟩ := rv.one
 cases ru
 obtain ⟨z, its, n, r, hl, e⟩ := I.lstM hH
 obtain ⟨z2, its2, n2, r2, hl2, e2⟩ := I.lstM hB
 have hsz : its.toArray.size + its2.toArray.size ≤ sizeLine := by rw [List.size_toArray, List.size_toArray]; omega
 have hlong : ¬ (!its.toArray.isEmpty && Builtin.List.listTooLong (its.toArray.size + its2.toArray.size)) = true := by
  rw [j0r hsz, Bool.and_false]
  exact Bool.false_ne_true
 refine call_meets F.slot_list_extend ⟨_, e, rfl⟩ F.entry_list_extend (F.args_list_extend_2 _ _)
  (AutoSeq1.list_extend_list_list_0 l its.toArray n b its2.toArray n2 hlong (by rw [List.size_toArray]; omega) (by omega)) ⟨e, e2, ?_⟩
 refine ⟨.non, _, I.lset (its' := its ++ its2) hH e (by simp) (r.append r2) ?_, rfl, q⟩
 rw [List.length_append]
 omega
noncomputable def w1r : R2 := fun x y H Q => ∃ l b xs zs, x = .ref l ∧ y = .ref b ∧ H l = some (.lst xs) ∧ H b = some (.lst zs) ∧ xs.length + zs.length ≤ sizeLine ∧ ∀ p, H p = none → Q (.ref p) (upd H p (.lst (xs ++ zs)))
theorem x8b : OpR X (binaryOp .Add) w1r := by
 intro pins s σ H x y v u Q I rx ry h
 obtain ⟨l, b, xs, zs, rfl, rfl, hH, hB, hz, q⟩ := h
 cases rx
 cases ry
 obtain ⟨z, its, n, r, hl, e⟩ := I.lstM hH
 obtain ⟨z2, its2, n2, r2, hl2, e2⟩ := I.lstM hB
 refine PySem.P.add_list e e2 ?_ (by rw [List.size_toArray, List.size_toArray]; omega)
 have ea : its.toArray ++ its2.toArray = (its ++ its2).toArray := by simp
 rw [ea]
 exact ⟨.ref _, _, I.lnew (t' := s.toks) (r.append r2) (by rw [List.length_append]; omega), rfl, q _ I.fresh⟩
end
section
variable {prog : Program} {w : World} {A : Around} {E : Value → Shared → Prop} {s : Shared}
set_option maxRecDepth 100000 in
end
section
variable {X : Cx}
end
end L2
namespace Att
open PySem PySem.W PySem.Calls PyProof.Rows
theorem x3k {P : Params} {h : Heap} : ∀ (ns : List Int) (vs : List Value), WellAll P h vs (ns.map WData.int) → IntsAre vs ns := by
 intro ns
 induction ns with
 | nil =>
  intro vs w
  rw [List.map_nil] at w
  cases w
  exact .nil
 | cons n ns ih =>
  intro vs w
  rw [List.map_cons] at w
  cases w with
  | cons a b =>
   cases a
   exact .cons _ _ (ih _ b)
theorem z8e {l : OpenLaw} {n : Nat} (hn : l.most = some n) {P : Params} {h : Heap} {args : List WData} {vals : List Value}
  (hpre : l.row.toRowW.claim.pre args = true) (hwl : WellAll P h vals args) :
  ∃ a vs ns, vals = [Value.ref a] ∧ args = [WData.list (ns.map WData.int)] ∧ h.get? a = some { cls := .type "list", data := .seq vs.toArray } ∧ IntsAre vs ns ∧ ns.length ≤ n := by
 have hsh : WShape.hasAll [] args [.list .int] = true := (pre_splitW hpre).1
 have hc : l.pre.holds [] { args := args } = true := (pre_splitW hpre).2
 obtain ⟨d, r, rfl, h1, h2⟩ := hasAllW_cons hsh
 obtain rfl := hasAllW_nil h2
 obtain ⟨xs, rfl, h3⟩ := hasW_list h1
 obtain ⟨ns, rfl⟩ := items_int h3
 have hlen : ns.length ≤ n := by
  unfold OpenLaw.pre at hc
  have h4 : (WTm.not (.lt (.lit (.int (n : Int))) (.len (.arg 0)))).holds [] { args := [.list (ns.map .int)] } = true := by
   have h4 := (holds_andW hc).1
   rw [hn] at h4
   exact h4
  have h5 := condW_of h4 (w_not (w_lt w_lit (w_len_list (w_arg rfl))))
  rw [List.length_map] at h5
  refine Nat.le_of_not_lt fun q => ?_
  have q' : (n : Int) < ((ns.length : Nat) : Int) := by omega
  first
   | (rw [decide_eq_true q'] at h5; exact absurd h5 (by decide))
   | (simp at h5; omega)
 cases hwl with
 | cons w1 w2 =>
  cases w2
  cases w1 with
  | list ho hall => exact ⟨_, _, ns, rfl, rfl, ho, x3k ns _ hall, hlen⟩
theorem z5r (l : OpenLaw) (args : List WData) : l.row.toRowW.claim.post args (.bool true) args = true :=
 postW_of (r := l.row.toRowW) (X := (true == true))
  (show WShape.has [] (.bool true) .bool = true by first | rfl | decide | simp [WShape.has, WShape.arms, WShape.armsAll])
  (show (WTm.eq .res (.lit (.bool true))).value [] { args := args, res := some (.bool true), after := args } = some (.bool (true == true)) from w_eq_bool (w_res rfl) w_lit) rfl
theorem attach_call {l : OpenLaw} {n : Nat} {q : Program} {loose : List Str} {XP : (Str → Option Value) → Heap → Prop} {YP : World → Heap → Prop} {d : DefRec}
  (hn : l.most = some n) (hdf : d.params.defaults = [])
  (call : ∀ (w : World) (s₀ s₁ : Shared) (mg mb : Str → Option Value) (fa : Addr) (o : Obj) (pm cd doc : Value) (a : Addr) (vs : List Value) (ns : List Int),
   Ground q loose [] XP w s₀ mg mb s₁.heap → YP w s₁.heap →
   s₁.heap.get? fa = some o → o.data = .func (docDef d.name d.params d.body d.scope pm cd doc) → s₁.heap.CodeRec cd d.name → mg d.name = some (.ref fa) →
   s₁.heap.get? a = some { cls := .type "list", data := .seq vs.toArray } → IntsAre vs ns → ns.length ≤ n → s₁.gens = #[] →
   codeAny (model l.prog w) callerA (.call (.ref fa) ⟨[.ref a], []⟩) (fun r s' => r = .ok (.ret (.bool true)) ∧ OldK s₁.heap s'.heap ∧ s'.os = s₁.os ∧ AllBare s'.gens) s₁) :
  WalkO q loose XP YP l.row.toRowW d [] (fun f vs => PySem.call f vs) := by
 intro w s₀ s₁ mg mb G Y fa o pm cd doc dV kV ho hd hcd hD hmg hg args vals as hpre hlay hrd hwl hlo
 obtain rfl : dV = .none := Dflts.none hD hdf
 obtain rfl : kV = .none := Dflts.noKw hD
 obtain ⟨a, vs, ns, rfl, rfl, hobj, hints, hlen⟩ := z8e hn hpre hwl
 refine enter_call (codeAny_mono (call w s₀ s₁ mg mb fa o pm cd doc a vs ns G Y ho (fd_plain hd) hcd hmg hobj hints hlen hg) fun r s' hq => ?_)
 obtain ⟨rfl, h2, h3, h4⟩ := hq
 exact ⟨.inl ⟨.bool true, .bool true, [], rfl, fun _ => rfl, .bool true, z5r l _, fun _ => ⟨List.Pairwise.nil, fun _ hm => (nomatch hm)⟩⟩, h2, h3, h4⟩
section
variable {prog : Program} {w : World} {A : Around} {E : Value → Shared → Prop} {s : Shared} {K : Frag}
noncomputable def w0e (h : Heap) (L d : Addr) : List (Addr × Obj) := (List.range h.objs.size).filterMap fun a => if a = L ∨ a = d then none else (h.get? a).map fun o => (a, o)
end
end Att
namespace L2
open PySem PySem.Spec PyProof.Rows
theorem x8v : ∀ {vs : List Value} {ns : List Int}, IntsAre vs ns → q4b (ns.map V.int) vs
 | _, _, .nil => .nil
 | _, _, .cons n t h => .cons ⟨t, rfl⟩ (x8v h)
noncomputable def j9g (H : Hp) : Prop := ∀ b, H b = none ∨ ∃ o xs, H b = some (.frz o (.lst xs))
theorem j0q {P : Program} {w : World} {K : PySem.W.Frag} {mg mb : Str → Option Value} {CX : CXT} {k : Nat} {fa a : Addr} {fd : FuncData} {x : Str} {sp : Sp} {s₁ : Shared} {vs : List Value} {ns : List Int}
  (KX : K.In s₁.heap) (hns : s₁.heap.Ns mainGlobals mg) (hb : s₁.heap.Ns builtinsNs mb) (hbb : ∀ x : Str, x ≠ "__name__" → mb x = bootBuiltins x) (hlim : s₁.heap.NoLimit) (hg : s₁.gens = #[])
  (ha : s₁.heap.get? a = some { cls := .type "list", data := .seq vs.toArray }) (hi : IntsAre vs ns) (hl : ns.length ≤ sizeLine) (hr : Room k callerA)
  (F : ∀ base : Heap, K.In base → base.Ns mainGlobals mg → FnOk P w K mg base CX k fa fd [x] sp) (hbind : ∀ (s : Shared) (u : Value), BindsTo s fd ⟨[u], []⟩ [(x, u)])
  (hsp : ∀ H : Hp, j9g H → SqL K H a (ns.map V.int) → sp [.ref a] H (fun v _ => v = .bl true) fun _ _ _ => False)
  (hCX : ∀ H e s', CX [] H s₁ (fun _ _ _ => False) e s' → False) :
  codeAny (model P w) callerA (.call (.ref fa) ⟨[.ref a], []⟩) (fun r s' => r = .ok (.ret (.bool true)) ∧ OldK s₁.heap s'.heap ∧ s'.os = s₁.os ∧ AllBare s'.gens) s₁ := by
 have rv := x8v hi
 have lenV := hi.length
 have core : ∀ H : Hp, j9g H → SqL K H a (ns.map V.int) → HOk P w H s₁.heap → (∀ b, H b ≠ none → b = a) → (H a ≠ none → K.lookup a = none) →
   codeAny (model P w) callerA (.call (.ref fa) ⟨[.ref a], []⟩) (fun r s' => r = .ok (.ret (.bool true)) ∧ OldK s₁.heap s'.heap ∧ s'.os = s₁.os ∧ AllBare s'.gens) s₁ := by
  intro H hO hS hok hA hK
  have base_of : ∀ {b : Addr} {o : Obj}, s₁.heap.get? b = some o → H b = none → (z9j s₁.heap H).get? b = some o := fun e n => j1e e n
  have noA : ∀ {b : Addr} {o : Obj} {es : Array DictEntry} {ep : Nat}, s₁.heap.get? b = some o → o.data = .dict es ep → H b = none := fun {b o es ep} e d => by
   cases q : H b with
   | none => rfl
   | some u =>
    have e' : b = a := hA b (by rw [q]; simp)
    subst e'
    rw [ha] at e; cases e
    have d' : Data.seq vs.toArray _ = Data.dict es ep := d
    cases d'
  have nsK : ∀ {b : Addr} {m : Str → Option Value}, s₁.heap.Ns b m → (z9j s₁.heap H).Ns b m := fun {b m} ⟨o, es, ep, e, d, r⟩ => ⟨o, es, ep, base_of e (noA e d), d, r⟩
  have hKb : K.In (z9j s₁.heap H) := fun b o e => base_of (KX b o e) (by
   cases q : H b with
   | none => rfl
   | some u =>
    have e' : b = a := hA b (by rw [q]; simp)
    subst e'
    rw [hK (by rw [q]; simp)] at e; cases e)
  have hM : Mod K mg (z9j s₁.heap H) := ⟨hKb, nsK hns, ⟨mb, nsK hb, hbb⟩, let ⟨mc, h1, h2⟩ := hlim; ⟨mc, nsK h1, h2⟩⟩
  have e0 : Env0 P w K mg (z9j s₁.heap H) callerA [] s₁ H := ⟨rfl, hM, fun b o e => j2o e, Nat.le_of_eq (z7f _ _), trivial, fun b hb => absurd (show b ∈ ([] : List Addr) from hb) (by simp), hok, .of_eq hg⟩
  refine codeAny_mono ((F _ hKb (nsK hns)).run callerA [] s₁ H ⟨[.ref a], []⟩ [.ref a] [.ref a] _ _ hr e0 (hbind s₁ (.ref a)) (.cons rfl .nil) (hsp H hO hS)) fun r s' h => ?_
  cases r with
  | error e => exact (hCX H e s' h).elim
  | ok fl =>
   cases fl with
   | next => exact False.elim h
   | brk => exact False.elim h
   | cont => exact False.elim h
   | ret u =>
    obtain ⟨v, H', os, bare, un, hok', r', q⟩ := h
    have q' : v = .bl true := q
    subst q'
    obtain rfl : u = Value.bool true := r'
    refine ⟨rfl, OldK.of_keep fun b o e => ?_, os, bare⟩
    cases q : H b with
    | none => exact un.keep b o e q (by intro z; exact absurd (show b ∈ ([] : List Addr) from z) (by simp)) (by simp)
    | some u =>
     rcases hO b with z | ⟨ob, xs, z⟩
     ·rw [q] at z; cases z
     ·have z2 := un.frzs b ob _ z
      obtain ⟨e1, _⟩ := hok b _ z
      obtain ⟨e2, _⟩ := hok' b _ z2
      rw [e] at e1; cases e1
      exact e2
 cases hk : K.lookup a with
 | some o =>
  have e := KX a o hk
  rw [ha] at e
  cases e
  refine core (fun _ => none) (fun _ => .inl rfl) (.inr ⟨_, vs.toArray, _, hk, rfl, rfl, rfl, by rw [List.size_toArray, lenV]; exact hl, by simpa using rv⟩) (fun b u z => by have z' : (none : Option HO) = some u := z; cases z') (fun b z => absurd rfl z) fun z => absurd rfl z
 | none =>
  refine core (fun b => if b = a then some (.frz { cls := .type "list", data := .seq vs.toArray } (.lst (ns.map V.int))) else none) (fun b => ?_) (.inl (.inr ⟨{ cls := .type "list", data := .seq vs.toArray }, if_pos rfl⟩)) (fun b u z => ?_) (fun b z => ?_) fun _ => hk
  ·by_cases hb : b = a
   ·exact .inr ⟨_, _, if_pos hb⟩
   ·exact .inl (if_neg hb)
  ·by_cases hb : b = a
   ·have z' := (if_pos hb).symm.trans z
    cases z'
    subst hb
    exact ⟨ha, by rw [List.length_map]; exact hl, vs, _, rv, ha⟩
   ·have z' := (if_neg hb).symm.trans z
    cases z'
  ·by_cases hb : b = a
   ·exact hb
   ·exact absurd (if_neg hb) z
noncomputable abbrev KOf {K : PySem.W.Frag} {h : Heap} (_ : K.In h) : PySem.W.Frag := K
theorem j4l {l : PySem.W.OpenLaw} {n k : Nat} {q : Program} {loose : List Str} {XP : (Str → Option Value) → Heap → Prop} {YP : World → Heap → Prop} {d : DefRec} {K : Params → PySem.W.Frag} {CX : World → CXT} {sp : World → Sp} {x : Str}
  (hn : l.most = some n) (hn2 : n ≤ sizeLine) (hdf : d.params.defaults = []) (hr : Room k callerA)
  (hY : ∀ (w : World) (h : Heap), YP w h → (K w.params).In h)
  (F : ∀ (w : World) (mg : Str → Option Value) (fa : Addr) (h : Heap), (K w.params).In h → h.Ns mainGlobals mg → mg d.name = some (.ref fa) →
   ∃ fd : FuncData, (∀ (s : Shared) (u : Value), BindsTo s fd ⟨[u], []⟩ [(x, u)]) ∧
    ∀ base : Heap, (K w.params).In base → base.Ns mainGlobals mg → FnOk l.prog w (K w.params) mg base (CX w) k fa fd [x] (sp w))
  (hsp : ∀ (w : World) (H : Hp) (a : Addr) (ns : List Int), ns.length ≤ n → j9g H → SqL (K w.params) H a (ns.map V.int) → sp w [.ref a] H (fun v _ => v = .bl true) fun _ _ _ => False)
  (hCX : ∀ (w : World) (H : Hp) (s : Shared) (e : Value) (s' : Shared), CX w [] H s (fun _ _ _ => False) e s' → False) :
  PySem.W.WalkO q loose XP YP l.row.toRowW d [] (fun f vs => PySem.call f vs) := by
 refine Att.attach_call hn hdf fun w s₀ s₁ mg mb fa o pm cd doc a vs ns G Y ho hd hcd hmg hobj hints hlen hg => ?_
 have KX := hY w _ Y
 obtain ⟨fd, hb, hF⟩ := F w mg fa _ KX G.T.g hmg
 exact j0q KX G.T.g G.T.b G.T.builtins G.T.nolimit hg hobj hints (Nat.le_trans hlen hn2) hr hF hb (fun H hO hS => hsp w H a ns hlen hO hS) fun H e s' => hCX w H s₁ e s'
noncomputable def q8p (s : Stmt) : Arguments := match s with
 | .FunctionDef _ a _ _ _ _ _ _ _ _ => a
 | _ => { posonlyargs := [], args := [], vararg := none, kwonlyargs := [], kw_defaults := [], kwarg := none, defaults := [] }
noncomputable def q6l (s : Stmt) : List Stmt := match s with
 | .FunctionDef _ _ b _ _ _ _ _ _ _ => b
 | _ => []
noncomputable def q0f (s : Stmt) : Scope := match s with
 | .FunctionDef _ _ _ _ _ _ sc _ _ _ => sc
 | _ => { kind := .function, names := [], isGenerator := false, isCoroutine := false }
noncomputable abbrev CX0 : CXT := fun _ _ _ _ _ _ => False
noncomputable abbrev E0 : XK := fun _ _ _ => False
theorem x6m {X : Cx} : x1t CX0 X E0 := fun _ _ _ _ _ _ _ h => h.elim
structure Fun (K : PySem.W.Frag) (x qual : Str) (st : Stmt) (f : Addr) (fd : FuncData) : Prop where
 ex : ∃ (oc : Value) (od : Option Addr) (kV doc pm : Value) (an : Option Addr) (cdv ct : Value) (osl : Array (Option Value)),
  fd = PySem.W.fnOf x qual (q8p st) (q6l st) (q0f st) .none kV doc pm an cdv ct ∧ K.lookup f = some ⟨oc, od, .func fd, osl⟩ ∧ PySem.W.codeIn K cdv qual = true
 kp : PySem.W.keepIn K (.ref f) = true
section
variable {P : Program} {w : World} {K : PySem.W.Frag} {mg : Str → Option Value} {base : Heap}
theorem Fun.ok {x qual : Str} {st : Stmt} {f : Addr} {fd : FuncData} {N ps : List Str} {k : Nat} {sp : Sp} (F : Fun K x qual st f fd) (S : FnScope N ps (q0f st)) (len : ∀ vs H Q E, sp vs H Q E → vs.length = ps.length)
  (hbody : ∀ (cdv : Value) (A : Around) (outer : List Env) (s : Shared) (H : Hp) (vs : List V) (Q : VK) (E : XK), Room k (A.deeper (envOfC qual (q0f st) s.heap.objs.size f cdv)) → sp vs H Q E →
   ∃ t, PSs (z1b CX0 P w K mg base N qual (q0f st) f cdv A outer s H E).nox (q6l st) t ∧ t { nx := fun _ H' => Q .non H', rt := Q } (x5w N vs) H) : FnOk P w K mg base CX0 (k + 1) f fd ps sp := by
 obtain ⟨oc, od, kV, doc, pm, an, cdv, ct, osl, rfl, lk, hcd⟩ := F.ex
 refine j6e lk hcd S len fun A outer s H vs Q E hr hsp => ?_
 obtain ⟨t, h, q⟩ := hbody cdv A outer s H vs Q E hr hsp
 exact ⟨t, h.nox, q⟩
theorem Fun.binds {x qual : Str} {st : Stmt} {f : Addr} {fd : FuncData} {ps : List Str} (F : Fun K x qual st f fd)
  (h : ∀ (kV doc pm : Value) (an : Option Addr) (cdv ct : Value) (us : List Value), us.length = ps.length → bindArgs (PySem.W.fnOf x qual (q8p st) (q6l st) (q0f st) .none kV doc pm an cdv ct) ⟨us, []⟩ = pure (ps.zip us)) : q5i K fd ps [] := by
 obtain ⟨oc, od, kV, doc, pm, an, cdv, ct, osl, rfl, lk, hcd⟩ := F.ex
 exact .all (h kV doc pm an cdv ct)
theorem j5v {x qual : Str} {st : Stmt} {f : Addr} {oc : Value} {od an : Option Addr} {osl : Array (Option Value)} {kV doc pm cdv ct : Value} (l : K.lookup f = some ⟨oc, od, .func (PySem.W.fnOf x qual (q8p st) (q6l st) (q0f st) .none kV doc pm an cdv ct), osl⟩)
  (c : PySem.W.codeIn K cdv qual = true) (k : PySem.W.keepIn K (.ref f) = true) : Fun K x qual st f (PySem.W.fnOf x qual (q8p st) (q6l st) (q0f st) .none kV doc pm an cdv ct) := ⟨⟨oc, od, kV, doc, pm, an, cdv, ct, osl, rfl, l, c⟩, k⟩
end
theorem j9o {A : Around} {k : Nat} (hr : Room k A) : A.units + 1 < cLine := Nat.lt_of_le_of_lt (Nat.add_le_add_left (by decide : 1 ≤ 64) _) hr.units
section
variable {X : Cx}
theorem pv (i : Nat) {x : Str} {pos : Pos} (hN : X.N[i]? = some x := by rfl) (hv : Vis X.env.scope x := by first | exact Or.inl rfl | exact Or.inr (Or.inl rfl) | exact Or.inr (Or.inr rfl)) (hd : (x == ("__debug__" : Str)) = false := by decide)
  (hcd : (x == ("__classdict__" : Str)) = false := by decide) : PE X (.Name x pos) (j7u i) := j6v hN hv hd hcd
end
theorem q1a {A B : Prop} (h : B) : if false = true then A else B := by
 rw [if_neg Bool.false_ne_true]
 exact h
theorem q1f {A B : Prop} (h : A) : if true = true then A else B := by
 rw [if_pos rfl]
 exact h
theorem q9a {c A B : Prop} [Decidable c] (h1 : c → A) (h2 : ¬ c → B) : if c then A else B := by
 by_cases h : c
 ·rw [if_pos h]
  exact h1 h
 ·rw [if_neg h]
  exact h2 h
noncomputable def q0y (H H' : Hp) : Prop := ∀ b o, H b = some o → H' b = some o
theorem q0y.refl (H : Hp) : q0y H H := fun _ _ h => h
theorem q0y.trans {H H1 H2 : Hp} (a : q0y H H1) (b : q0y H1 H2) : q0y H H2 := fun c o h => b c o (a c o h)
end L2
set_option maxHeartbeats 4000000
namespace L2
open PySem PySem.Spec PyProof.Rows
noncomputable def clo (cells : List (Str × Addr)) : List (Str × NameKind) → List (Str × Addr) → List (Str × Addr)
 | [], cs => cs
 | p :: r, cs => clo cells r (if (p.2 == NameKind.free) = true then (match cells.lookup p.1 with | some a => (p.1, a) :: cs | none => cs) else cs)
theorem j3u {env : Env} {f : Str × NameKind → List (Str × Addr) → Sem (ForInStep (List (Str × Addr)))}
  (hf : ∀ p cs, f p cs = if (p.2 == NameKind.free) = true then (cellOf env p.1 >>= fun a => pure (ForInStep.yield ((p.1, a) :: cs))) else pure (ForInStep.yield cs)) :
  ∀ (names : List (Str × NameKind)) (cs : List (Str × Addr)), (∀ p ∈ names, p.2 = .free → ∃ a, env.cells.lookup p.1 = some a) →
   (forIn names cs f : Sem (List (Str × Addr))) = pure (clo env.cells names cs) := by
 intro names
 induction names with
 | nil => intro cs _; rfl
 | cons p r ih =>
  intro cs h
  have hr := fun cs => ih cs fun q hq => h q (List.mem_cons_of_mem _ hq)
  rw [List.forIn_cons, hf]
  by_cases hk : p.2 = .free
  ·obtain ⟨a, ha⟩ := h p List.mem_cons_self hk
   have hb : (p.2 == NameKind.free) = true := by rw [hk]; rfl
   rw [if_pos hb]
   have hc : cellOf env p.1 = pure a := by unfold cellOf; rw [ha]
   rw [hc]
   show (forIn r ((p.1, a) :: cs) f : Sem _) = _
   rw [hr, clo, if_pos hb, ha]
  ·have hb : ¬ (p.2 == NameKind.free) = true := by simpa using hk
   rw [if_neg hb]
   show (forIn r cs f : Sem _) = _
   rw [hr, clo, if_neg hb]
theorem j3b {env : Env} {scope : Scope} (h : ∀ p ∈ scope.names, p.2 = .free → ∃ a, env.cells.lookup p.1 = some a) : closureFor scope env = pure (clo env.cells scope.names []) := by
 simp only [closureFor]
 rw [j3u (env := env) (fun p cs => by obtain ⟨n, k⟩ := p; cases hk : (k == NameKind.free) <;> simp [hk] <;> rfl) scope.names [] h]
 rfl
theorem x4c {cells : List (Str × Addr)} {x : Str} {c : Addr} : ∀ (names : List (Str × NameKind)) (cs : List (Str × Addr)), (clo cells names cs).lookup x = some c → cells.lookup x = some c ∨ cs.lookup x = some c := by
 intro names
 induction names with
 | nil => intro cs h; exact .inr h
 | cons p r ih =>
  intro cs h
  rw [clo] at h
  rcases ih _ h with e | e
  ·exact .inl e
  ·split at e
   ·cases ha : cells.lookup p.1 with
    | none => rw [ha] at e; exact .inr e
    | some a =>
     rw [ha] at e
     rw [List.lookup_cons] at e
     cases hx : x == p.1 with
     | true =>
      rw [hx] at e
      have : x = p.1 := by simpa using hx
      subst this
      left
      rw [ha]; exact e
     | false => rw [hx] at e; exact .inr e
   ·exact .inr e
theorem z7m {cells : List (Str × Addr)} {x : Str} {a : Addr} (ha : cells.lookup x = some a) : ∀ (names : List (Str × NameKind)) (cs : List (Str × Addr)),
  ((x, NameKind.free) ∈ names ∨ cs.lookup x = some a) → (clo cells names cs).lookup x = some a := by
 intro names
 induction names with
 | nil =>
   intro cs h; rcases h with h | h
   ·cases h
   ·exact h
 | cons p r ih =>
  intro cs h
  rw [clo]
  by_cases hr : (x, NameKind.free) ∈ r
  ·exact ih _ (.inl hr)
  ·refine ih _ (.inr ?_)
   by_cases hb : (p.2 == NameKind.free) = true
   ·rw [if_pos hb]
    by_cases hx : x = p.1
    ·subst hx
     rw [ha]
     simp [List.lookup_cons]
    ·have h2 : cs.lookup x = some a := by
      rcases h with h | h
      ·rcases List.mem_cons.mp h with e | e
       ·exact absurd (congrArg Prod.fst e) hx
       ·exact absurd e hr
      ·exact h
     cases hc : cells.lookup p.1 with
     | none => exact h2
     | some b =>
      have hx' : (x == p.1) = false := by simpa using hx
      simp [List.lookup_cons, hx', h2]
   ·rw [if_neg hb]
    rcases h with h | h
    ·rcases List.mem_cons.mp h with e | e
     ·exact absurd (by rw [← e]; rfl) hb
     ·exact absurd e hr
    ·exact h
theorem q6w {α β : Type} [BEq α] [LawfulBEq α] {x : α} {y : β} : ∀ {l : List (α × β)}, l.lookup x = some y → (x, y) ∈ l
 | [], h => by cases h
 | p :: r, h => by
  rw [List.lookup_cons] at h
  cases hx : x == p.1 with
  | true =>
   rw [hx] at h
   have e : x = p.1 := by simpa using hx
   cases h
   rw [e]
   exact List.mem_cons_self
  | false => rw [hx] at h; exact List.mem_cons_of_mem _ (q6w h)
theorem j2b {f : Str × NameKind → Str × NameKind} (hf : ∀ p, f p = p ∨ (p.2 = .free ∧ f p = (p.1, .cell))) {x : Str} : ∀ {names : List (Str × NameKind)}, (names.map f).lookup x = names.lookup x ∨ (names.lookup x = some .free ∧ (names.map f).lookup x = some .cell)
 | [] => .inl rfl
 | p :: r => by
  have ih := @j2b f hf x r
  rw [List.map_cons]
  rcases hf p with e | ⟨e1, e2⟩
  ·rw [e, List.lookup_cons, List.lookup_cons]
   cases hx : x == p.1 with
   | true => exact .inl rfl
   | false => exact ih
  ·rw [e2, List.lookup_cons, List.lookup_cons]
   cases hx : x == p.1 with
   | true => exact .inr ⟨congrArg some e1, rfl⟩
   | false => exact ih
theorem j5x {env : Env} {x : Str} {names : List (Str × NameKind)} :
  ((names.map fun (n, k) => if (k == NameKind.free && env.scope.kind == .function && env.kindOf n == some .cell) then (n, NameKind.cell) else (n, k)).lookup x = names.lookup x) ∨
  (names.lookup x = some .free ∧ (names.map fun (n, k) => if (k == NameKind.free && env.scope.kind == .function && env.kindOf n == some .cell) then (n, NameKind.cell) else (n, k)).lookup x = some .cell) := by
 refine j2b (fun p => ?_)
 obtain ⟨n, k⟩ := p
 by_cases hc : (k == NameKind.free && env.scope.kind == .function && env.kindOf n == some .cell) = true
 ·right
  have hk : k = .free := by
   simp only [Bool.and_eq_true, beq_iff_eq] at hc
   exact hc.1.1
  exact ⟨hk, by show (if _ then _ else _) = _; rw [if_pos hc]⟩
 ·left
  show (if _ then _ else _) = _
  rw [if_neg hc]
noncomputable def cxB (X : Cx) (NB : List Str) (scope : Scope) (cl : List (Str × Addr)) (C : Addr) (fp : List Addr) (s : Shared) (H : Hp) : Cx where
 prog := X.prog
 w := X.w
 K := X.K
 mg := X.mg
 base := X.base
 A := X.A
 N := NB
 s₀ := s
 H₀ := H
 env := compEnvC scope cl C X.env
 outer := X.stack
 stack := X.stack
 ex := fp
 fn := fun _ => false
 calm := X.calm
 pn := []
 xe := fun _ _ => False
noncomputable def j5b (X : Cx) (ifs : List Expr) (t : TT) : Prop :=
 ∀ (pins : List (Addr × Obj)) (s : Shared) (σ : St) (H : Hp) (Q : Bool → Hp → Prop), Inv X pins σ H s → t σ H Q →
  wpAny (model X.prog X.w) X.A (forIn ifs true fun c r => if r = true then do let ok ← isTrue c X.env (eval c X.env); pure (ForInStep.yield ok) else pure (ForInStep.yield r)) (TP X pins σ Q) X.xe s
noncomputable def w1b : TT := fun _ H Q => Q true H
theorem q2u {X : Cx} : j5b X [] w1b := fun _ _ _ H _ I h => wpAny_tests_nil ⟨H, I, h⟩
theorem x2f {X : Cx} {c : Expr} {t : TT} (h : PT X c t) : j5b X [c] t := fun pins s σ H Q I q => wpAny_tests_one (h pins s σ H Q I q)
section
variable {prog : Program} {w : World} {A : Around} {R : Result → Shared → Prop} {s : Shared}
theorem z6f {elt target iter : Expr} {ifs : List Expr} {scope : Scope} {pos : Pos} {it acc : Value} {env : Env} (I : Nat → Shared → Prop)
  (turn : ∀ n s, I n s → wpAny (model prog w) A (pyNext it) (fun r s1 => (r = none ∧ R (.ok .next) s1) ∨ ∃ v, r = some v ∧
   wpAny (model prog w) A (letOwnedTupleGo target it v) (fun _ s2 => wpAny (model prog w) A (assign target env v) (fun _ s3 =>
    wpAny (model prog w) A (forIn ifs true fun c r => if r = true then do let ok ← isTrue c env (eval c env); pure (ForInStep.yield ok) else pure (ForInStep.yield r)) (fun ok s4 =>
     if ok = true then wpAny (model prog w) A (eval elt env) (fun x s5 => wpAny (model prog w) A (call (.builtin "list.append") [acc, x]) (fun _ s6 => ∃ m, m < n ∧ I m s6) (fun _ _ => False) s5) (fun _ _ => False) s4
     else ∃ m, m < n ∧ I m s4) (fun _ _ => False) s3) (fun _ _ => False) s2) (fun _ _ => False) s1) (fun _ _ => False) s)
  (n : Nat) (h : I n s) : codeAny (model prog w) A (.compLoop (.ListComp elt [⟨target, iter, ifs, 0⟩] scope pos) 0 it acc env) R s := by
 refine codeAny_loop rfl I (fun k s0 hk => ?_) n h
 show wpAny _ A (Sem.onRaise (compTurn (.ListComp elt [⟨target, iter, ifs, 0⟩] scope pos) 0 it acc env) (fun x => do noteFrame x env; theTreesLotGoes x)) _ _ s0
 refine wpAny_noted ?_
 rw [compTurn_list]
 refine wpAny_bind (wpAny_standAt (wpAny_bind (wpAny_mono (turn k s0 hk) (fun r s1 h1 => ?_) fun _ _ z => z.elim)))
 rcases h1 with ⟨rfl, h1⟩ | ⟨v, rfl, h1⟩
 ·exact wpAny_pure h1
 ·refine wpAny_bind (wpAny_mono h1 (fun _ s2 h2 => wpAny_bind (wpAny_mono h2 (fun _ s3 h3 => wpAny_bind (wpAny_mono h3 (fun ok s4 h4 => ?_) fun _ _ z => z.elim)) fun _ _ z => z.elim)) fun _ _ z => z.elim)
  cases ok with
  | false => exact wpAny_pure ⟨rfl, h4⟩
  | true => exact wpAny_bind (wpAny_bind (wpAny_mono h4 (fun x s5 h5 => wpAny_bind (wpAny_mono h5 (fun _ s6 h6 => wpAny_pure (wpAny_pure ⟨rfl, h6⟩)) fun _ _ z => z.elim)) fun _ _ z => z.elim))
end
theorem HOk.but {P : Program} {w : World} {H : Hp} {h h' : Heap} {C : Addr} (x : HOk P w H h) (hC : H C = none) (k : ∀ b o, b ≠ C → h.get? b = some o → h'.get? b = some o) : HOk P w H h' := fun b u e => by
 have nit : ∀ c v, H c = some v → c ≠ C := fun c v q z => by rw [z, hC] at q; cases q
 refine (x b u e).stay (fun c v hc q => k c v ?_ q) (fun _ q => q) fun _ _ q => q
 rcases hc with z | z
 ·rw [z]; exact nit b u e
 ·exact nit c _ z
noncomputable def x8p (frs : St) (g : TG) (tt : TT) (te : TE) (Q : VK) (J : It) (H1 : Hp) : Prop := ∀ D, H1 D = none →
 ∃ W : Nat → Nat → List V → St → Hp → Prop, (∃ m, W 0 m [] frs (upd H1 D (.lst []))) ∧
  ∀ i m ys σ' H', W i m ys σ' H' → H' D = some (.lst ys) →
   (J.stop i H' ∧ Q (.ref D) H') ∨
   (J.go i H' ∧ ys.length < sizeLine ∧ ∀ x H2, J.yld i H' x H2 → g x σ' H2 fun σ3 H3 => tt σ3 H3 fun b H4 =>
    if b = true then te σ3 H4 fun v H5 => H5 D = some (.lst ys) ∧ ∃ m', m' < m ∧ W (i + 1) m' (ys ++ [v]) σ3 (upd H5 D (.lst (ys ++ [v])))
    else H4 D = some (.lst ys) ∧ ∃ m', m' < m ∧ W (i + 1) m' ys σ3 H4)
noncomputable def j3p (n : Nat) (fr : List Nat) (wi : TI) (g : TG) (tt : TT) (te : TE) : TE := fun σ H Q => wi σ H (x8p (List.replicate n none ++ fr.map fun k => (σ[k]?).join) g tt te Q)
section
variable {X : Cx} {elt tg iter : Expr} {ifs : List Expr} {scope : Scope} {pos : Pos} {NB : List Str} {n : Nat} {fr : List Nat} {wi : TI} {g : TG} {tt : TT} {te : TE}
structure CompOk (X : Cx) (scope : Scope) (NB : List Str) (n : Nat) (fr : List Nat) : Prop where
 kind : scope.kind = .function
 nocell : ∀ y ∈ scope.names, y.2 ≠ .cell
 names : ∀ y ∈ scope.names, y.2 = .local → scope.names.lookup y.1 = some .local
 free : ∀ y ∈ scope.names, y.2 = .free → X.env.kindOf y.1 = some .cell ∨ X.env.kindOf y.1 = some .free
 len : NB.length = n + fr.length
 own : ∀ (j k : Nat), fr[j]? = some k → ∃ x, NB[n + j]? = some x ∧ X.N[k]? = some x ∧ scope.names.lookup x = some .free
theorem j5u {pins : List (Addr × Obj)} {σ : St} {H : Hp} {s : Shared} {fp : List Addr} {C : Addr} (O : CompOk X scope NB n fr) (I : Inv X pins σ H s) (hf : ∀ b ∈ fp, z8j X pins H b) (hfl : ∀ b ∈ fp, b < s.heap.objs.size) (hC : s.heap.objs.size ≤ C) :
  (cxB X NB scope (clo X.env.cells scope.names []) C fp s H).Ok where
 mod := I.ok.mod
 kind := O.kind
 glob := I.ok.glob
 blt := I.ok.blt
 above := hC
 inj := fun x y c h1 h2 => by
  have e1 := (x4c scope.names [] h1).resolve_right (by intro z; cases z)
  have e2 := (x4c scope.names [] h2).resolve_right (by intro z; cases z)
  exact I.ok.inj x y c e1 e2
 has := fun x hx => by
  have hx' : (relabel scope X.env).names.lookup x = some .cell ∨ (relabel scope X.env).names.lookup x = some .free := hx
  have hfree : scope.names.lookup x = some .free := by
   have r := @j5x X.env x scope.names
   rcases r with r | r
   ·have hx2 : scope.names.lookup x = some .cell ∨ scope.names.lookup x = some .free := by rw [← r]; exact hx'
    rcases hx2 with e | e
    ·exact absurd rfl (O.nocell _ (q6w e))
    ·exact e
   ·exact r.1
  have hm := q6w hfree
  obtain ⟨c, hc⟩ := I.ok.has x (O.free _ hm rfl)
  exact ⟨c, z7m hc scope.names [] (.inl hm)⟩
 cab := fun x c h => nomatch h
 hd := fun h => I.ok.hd h
 frames := I.ok.frames
 stk := .inl rfl
 exf := fun b hb => ⟨Nat.ne_of_lt (Nat.lt_of_lt_of_le (hfl b hb) hC), fun x c h => by
  have e1 := (x4c scope.names [] h).resolve_right (by intro z; cases z)
  exact (hf b hb).2.2.2.2.1 x c e1⟩
 bs := I.bs
 bsz := Nat.le_trans I.ok.bsz I.sz
 noex := fun b o e hb => by
  rcases (hf b hb).2.2.2.1 with z | z
  ·exact I.ok.noex b o e z
  ·exact absurd (Nat.lt_of_lt_of_le (Heap.lt_size e) (Nat.le_trans I.ok.bsz z)) (Nat.lt_irrefl _)
 exfs := fun b hb z => by
  rcases List.mem_cons.mp (I.stkSub b z) with e | e
  ·exact (hf b hb).2.1 e
  ·exact (hf b hb).2.2.1 e
 funs := I.stack
 frf := I.stkFree
theorem Inv.but {pins : List (Addr × Obj)} {σ : St} {H : Hp} {s : Shared} {C : Addr} {h' : Heap} (I : Inv X pins σ H s) (hC : X.s₀.heap.objs.size ≤ C) (hH : H C = none) (hL : C ≠ X.env.locals) (hcl : ∀ x c, X.env.cells.lookup x = some c → c ≠ C) (hpn : ∀ p ∈ X.pn ++ pins, p.1 ≠ C) (sb : Heap.SameBut C s.heap h') :
  Inv X pins σ H { s with heap := h' } := by
 refine I.call' (s' := { s with heap := h' }) (ch := [C]) rfl ?_ (HOk.but I.hok hH fun b o hb e => sb.extBut b o hb e) I.bare (fun b hb => ?_)
 ·have ne : ∀ {b : Addr}, b ∉ [C] → b ≠ C := fun {b} h z => h (by rw [z]; exact List.mem_cons_self)
  exact ⟨fun b o e _ _ hx => sb.extBut b o (ne hx) e, fun b o e _ _ hx => ⟨o.slots, sb.extBut b o (ne hx) e⟩, fun _ _ _ n _ => n, fun b o e hx => ⟨o, sb.extBut b o (ne hx) e⟩, fun _ _ q => q, fun _ _ _ q => q, fun _ ps q => ⟨#[], by rw [q]; simp⟩⟩
 ·have e : b = C := by simpa using hb
  subst e
  exact ⟨.inr hC, hL, hcl, hpn⟩
theorem x8z {use : Option (Value → Sem Unit)} {QQ : Value → Shared → Prop} {pins : List (Addr × Obj)} {s : Shared} {σ : St} {H : Hp} {Q : VK} {pos2 : Pos} (O : CompOk X scope NB n fr) (hc : X.calm = true) (hi : PI X tg iter wi)
  (hg : ∀ cl C fp s H, PG (cxB X NB scope cl C fp s H) tg g) (ht : ∀ cl C fp s H, j5b (cxB X NB scope cl C fp s H) ifs tt) (he : ∀ cl C fp s H, PE (cxB X NB scope cl C fp s H) elt te)
  (hs : ∀ x, foldedSetIterable iter X.env x = pure x) (I : Inv X pins σ H s) (h : j3p n fr wi g tt te σ H Q)
  (fin0 : ∀ (D C : Addr) (H' : Hp) (s' : Shared) (m : Str → Option Value), s'.heap.Ns C m → Inv X pins σ H' s' → X.s₀.heap.objs.size ≤ C → H' C = none → C ≠ X.env.locals → (∀ x c, X.env.cells.lookup x = some c → c ≠ C) → (∀ p ∈ X.pn ++ pins, p.1 ≠ C) → Q (.ref D) H' →
   compPost (model X.prog X.w) X.A X.xe use QQ (.ref D) C (.ok .next) s') :
  wpAny (model X.prog X.w) X.A (comprehension (.ListComp elt [⟨tg, iter, ifs, 0⟩] scope pos) scope X.env pos2 (newList []) false (eval iter X.env) use) QQ X.xe s := by
 have hcl : closureFor scope X.env = pure (clo X.env.cells scope.names []) := j3b fun p hp hk => I.ok.has p.1 (O.free p hp hk)
 refine wpAny_comprehension_free (use := use) rfl hs hcl O.kind O.names (thn (hi pins s σ H _ I h) fun v s1 h1 => thn h1 fun itv s2 h2 => ?_)
 obtain ⟨it, fp, tn, J, H2, e, I2, T, st2, f2, R⟩ := h2
 subst e
 have fpl : ∀ b ∈ fp, b < s2.heap.objs.size := fun b hb => by
  obtain ⟨o, ho, _⟩ := T.obj 0 _ st2 b hb
  exact Heap.lt_size ho
 refine wpAny_newObj_type (wpAny_newFunctionEnv O.nocell (fun y hy => absurd hy (by simp)) (fun h1 ns1 sb1 => ?_) O.kind)
 dsimp only at ns1 sb1 ⊢
 generalize hD2 : s2.heap.push { cls := .type "list", dict := none, data := .seq ([] : List Value).toArray } = hp2 at ns1 sb1 ⊢
 have zC : hp2.objs.size = s2.heap.objs.size + 1 := by rw [← hD2, Heap.size_push]
 have kept : ∀ b o, s2.heap.get? b = some o → h1.get? b = some o := fun b o q => by
  have lt := Heap.lt_size q
  refine sb1.extBut b o (by rw [zC]; exact Nat.ne_of_lt (Nat.lt_succ_of_lt lt)) (Heap.get?_push_of_some _ ?_)
  rw [← hD2]
  exact Heap.get?_push_of_some _ q
 have gD : h1.get? s2.heap.objs.size = some { cls := .type "list", data := .seq ([] : List Value).toArray 0 } := by
  refine sb1.extBut _ _ (by rw [zC]; exact Nat.ne_of_lt (Nat.lt_succ_self _)) (Heap.get?_push_of_some _ ?_)
  rw [← hD2]
  exact Heap.get?_push_size _ rfl
 generalize hD : s2.heap.objs.size = D at *
 have fD : H2 D = none := I2.hok.fresh (Nat.le_of_eq hD)
 have fC : H2 hp2.objs.size = none := I2.hok.fresh (by rw [hD, zC]; exact Nat.le_succ _)
 have nCD : hp2.objs.size ≠ D := by rw [zC]; exact Nat.succ_ne_self _
 have hCle : s2.heap.objs.size ≤ hp2.objs.size := by rw [hD, zC]; exact Nat.le_succ _
 have ok := j5u (C := hp2.objs.size) O I2 f2 (fun b hb => by rw [hD]; exact fpl b hb) hCle
 obtain ⟨W, ⟨m0, w0⟩, turn⟩ := R D fD
 generalize hY : cxB X NB scope (clo X.env.cells scope.names []) hp2.objs.size fp s2 H2 = Y at ok
 have eY : Y.env = compEnvC scope (clo X.env.cells scope.names []) hp2.objs.size X.env := by rw [← hY]; rfl
 have I0 : Inv Y [] (List.replicate n none ++ fr.map fun k => (σ[k]?).join) (upd H2 D (.lst [])) { s2 with heap := h1, toks := s2.toks + ([] : List (Str × Value)).length } := by
  subst hY
  refine ⟨ok, rfl, I2.bare, Un.laid kept (Nat.le_of_eq hD) fD, ⟨_, ns1, fun i x v e1 e2 e3 => ?_⟩, fun x c h => ?_, ?_, fun x c h => ?_, fun p hp => absurd (show p ∈ ([] : List (Addr × Obj)) from hp) (by simp), ?_, ?_⟩
  ·have hin : n ≤ i := by
    refine Nat.le_of_not_lt fun z => ?_
    rw [List.getElem?_append_left (by simpa using z), List.getElem?_replicate] at e2
    split at e2 <;> cases e2
   obtain ⟨j, rfl⟩ := Nat.exists_eq_add_of_le hin
   rw [List.getElem?_append_right (by simp)] at e2
   simp only [List.length_replicate, Nat.add_sub_cancel_left, List.getElem?_map] at e2
   cases hk : fr[j]? with
   | none => rw [hk] at e2; cases e2
   | some k =>
    rw [hk] at e2
    obtain ⟨x', n1, n2, n3⟩ := O.own j k hk
    have e1' : NB[n + j]? = some x := e1
    rw [n1] at e1'
    cases e1'
    have e4 : (σ[k]?).join = some v := Option.some.inj e2
    have e5 : σ[k]? = some (some v) := by
     cases q : σ[k]? with
     | none => rw [q] at e4; cases e4
     | some z => rw [q] at e4; exact congrArg some e4
    have hm := q6w n3
    have kd := O.free _ hm rfl
    obtain ⟨m, hn, hl⟩ := I2.loc
    obtain ⟨u, ru, lk⟩ := hl k x v n2 e5 (by rcases kd with z | z; exact .inr (.inl z); exact .inr (.inr z))
    refine ⟨u, ru, .inr ⟨?_, ?_⟩⟩
    ·show (relabel scope X.env).names.lookup x = some .cell ∨ (relabel scope X.env).names.lookup x = some .free
     rcases @j5x X.env x scope.names with r | r
     ·exact .inr (Eq.trans r n3)
     ·exact .inl r.2
    ·rcases lk with ⟨z, _⟩ | ⟨_, c, hc1, hc2⟩
     ·rcases kd with q | q <;> (rw [z] at q; cases q)
     ·refine ⟨c, z7m hc1 scope.names [] (.inl hm), ?_⟩
      obtain ⟨o, ho, hd⟩ := hc2
      exact ⟨o, kept c o ho, hd⟩
  ·have e1 := (x4c scope.names [] (show (clo X.env.cells scope.names []).lookup x = some c from h)).resolve_right (by intro z; cases z)
   obtain ⟨v, o, ho, hd⟩ := I2.cell x c e1
   exact ⟨v, o, kept c o ho, hd⟩
  ·show upd H2 D (.lst []) hp2.objs.size = none
   rw [q1q nCD]; exact fC
  ·have e1 := (x4c scope.names [] (show (clo X.env.cells scope.names []).lookup x = some c from h)).resolve_right (by intro z; cases z)
   obtain ⟨v, o, ho, hd⟩ := I2.cell x c e1
   rw [q1q (by rw [← hD]; exact Nat.ne_of_lt (Heap.lt_size ho))]
   exact I2.freeC x c e1
  ·exact I2.hok.laid kept (Nat.le_of_eq hD) ⟨by simp, [], 0, .nil, gD⟩
  ·show _ = NB.length
   rw [O.len]; simp
 have fY : ∀ {H' : Hp}, (∀ b ∈ fp, H' b = none) → ∀ b ∈ fp, z8j Y [] H' b := fun {H'} hn b hb => by
  subst hY
  refine ⟨hn b hb, (ok.exf b hb).1, ok.exfs b hb, .inl hb, fun x c z => (ok.exf b hb).2 x c z, fun p hp => absurd (show p ∈ ([] : List (Addr × Obj)) from hp) (by simp)⟩
 have pY : Y.prog = X.prog ∧ Y.w = X.w ∧ Y.K = X.K ∧ Y.A = X.A ∧ Y.calm = true ∧ Y.xe = fun _ _ => False := by subst hY; exact ⟨rfl, rfl, rfl, rfl, hc, rfl⟩
 obtain ⟨p1, p2, p3, p4, p5, p6⟩ := pY
 have fin : ∀ {σ' : St} {H' : Hp} {s' : Shared}, Inv Y [] σ' H' s' → Q (.ref D) H' → compPost (model X.prog X.w) X.A X.xe use QQ (.ref D) hp2.objs.size (.ok .next) s' := fun {σ' H' s'} J' q => by
  subst hY
  obtain ⟨m, hn, _⟩ := J'.loc
  have fr' : H' hp2.objs.size = none := J'.free
  have neC : ∀ b o, s2.heap.get? b = some o → b ≠ hp2.objs.size := fun b o e => Nat.ne_of_lt (Nat.lt_of_lt_of_le (Heap.lt_size e) hCle)
  have J : Inv X pins σ H' s' := I2.call' (s' := s') J'.os J'.base J'.hok J'.bare fun b hb => by
   obtain ⟨_, a2, _, a4, a5, a6⟩ := f2 b hb
   exact ⟨a4, a2, a5, a6⟩
  refine fin0 D _ H' s' m hn J (Nat.le_trans I2.sz hCle) fr' (Ne.symm (Nat.ne_of_lt (Nat.lt_of_lt_of_le I2.lt hCle))) (fun x c e => ?_) (fun p hp => ?_) q
  ·obtain ⟨v, o, ho, _⟩ := I2.cell x c e
   exact neC c o ho
  ·exact neC _ _ (I2.pin p hp).1
 have st0 : tn 0 h1 := T.keep 0 _ _ st2 fun b hb o q => kept b o q
 have fp0 : ∀ b ∈ fp, upd H2 D (.lst []) b = none := fun b hb => by
  rw [q1q (Nat.ne_of_lt (fpl b hb))]; exact (f2 b hb).1
 have loop : ∀ s3 : Shared, s3 = { s2 with heap := h1, toks := s2.toks + ([] : List (Str × Value)).length } →
   codeAny (model X.prog X.w) X.A (.compLoop (.ListComp elt [⟨tg, iter, ifs, 0⟩] scope pos) 0 (.ref it) (.ref D) (compEnvC scope (clo X.env.cells scope.names []) hp2.objs.size X.env))
    (compPost (model X.prog X.w) X.A X.xe use QQ (.ref D) hp2.objs.size) s3 := by
  rintro s3 rfl
  refine z6f (fun k s' => ∃ i ys σ' H', Inv Y [] σ' H' s' ∧ tn i s'.heap ∧ (∀ b ∈ fp, H' b = none) ∧ H' D = some (.lst ys) ∧ W i k ys σ' H') ?_ m0 ⟨0, [], _, _, I0, st0, fp0, q0e, w0⟩
  rintro k s4 ⟨i, ys, σ4, H4, I4, t4, fr4, d4, w4⟩
  have hgY : PG Y tg g := by subst hY; exact hg _ _ _ _ _
  have htY : j5b Y ifs tt := by subst hY; exact ht _ _ _ _ _
  have heY : PE Y elt te := by subst hY; exact he _ _ _ _ _
  rcases turn i k ys σ4 H4 w4 d4 with ⟨stop, q⟩ | ⟨go, hlen, step⟩
  ·have z := T.done Y p1 p2 p3 p5 i [] s4 σ4 H4 (fun _ _ => False) I4 (fY fr4) t4 stop
   rw [p4] at z
   exact thn z fun r s5 ⟨hr, I5⟩ => .inl ⟨hr, fin I5 q⟩
  ·have z := T.item Y p1 p2 p3 p5 i [] s4 σ4 H4 (fun _ _ => False) I4 (fY fr4) t4 go
   rw [p4] at z
   refine thn z fun r s5 ⟨u, hr, h5⟩ => .inr ⟨u, hr, thn h5 fun _ s6 ⟨x, H6, I6, r6, y6, t6, fr6⟩ => ?_⟩
   have I6' := I6.pinned (fY fr6) (T.obj _ _ t6)
   have back : ∀ {σ7 : St} {H7 : Hp} {s7 : Shared}, Inv Y ([] ++ x8t fp s6.heap) σ7 H7 s7 → Inv Y [] σ7 H7 s7 ∧ tn (i + 1) s7.heap ∧ ∀ b ∈ fp, H7 b = none := fun {σ7 H7 s7} I7 => by
    refine ⟨I7.unpinned, T.keep _ _ _ t6 fun b hb o e => (I7.pin (b, o) (List.mem_append_right _ (List.mem_append_right _ (q9d hb e)))).1, fun b hb => ?_⟩
    obtain ⟨o, e, _⟩ := T.obj _ _ t6 b hb
    exact (I7.pin (b, o) (List.mem_append_right _ (List.mem_append_right _ (q9d hb e)))).2.1
   have a7 := hgY _ s6 σ4 H6 x u _ I6' r6 (step x H6 y6)
   rw [p1, p2, p4, p6, eY] at a7
   refine thn a7 fun _ s7 ⟨σ7, H7, I7, q7⟩ => ?_
   have a8 := htY _ s7 σ7 H7 _ I7 q7
   rw [p1, p2, p4, p6, eY] at a8
   refine thn a8 fun b s8 ⟨H8, I8, q8⟩ => ?_
   cases b with
   | false =>
    obtain ⟨d8, m', hm, w8⟩ := q8
    rw [if_neg Bool.false_ne_true]
    obtain ⟨b1, b2, b3⟩ := back I8
    exact ⟨m', hm, i + 1, ys, σ7, H8, b1, b2, b3, d8, w8⟩
   | true =>
    rw [if_pos rfl]
    have a9 := heY _ s8 σ7 H8 _ I8 q8
    rw [p1, p2, p4, p6, eY] at a9
    refine thn a9 fun uv s9 ⟨v, H9, I9, r9, d9, m', hm, w9⟩ => ?_
    have a10 := q8o (X := Y) _ s9 σ7 H9 (.ref D) [v] (.ref D) [uv] (fun x H' => H' = upd H9 D (.lst (ys ++ [v]))) I9 rfl (.cons r9 .nil) ⟨D, ys, v, rfl, rfl, d9, hlen, rfl⟩
    rw [p1, p2, p4, p6] at a10
    refine thn a10 fun _ s10 ⟨_, H10, I10, _, e10⟩ => ?_
    subst e10
    obtain ⟨b1, b2, b3⟩ := back I10
    exact ⟨m', hm, i + 1, _, σ7, _, b1, b2, b3, q0e, w9⟩
 refine codeAny_compStart_list (loop _ rfl) ?_
 exact T.self _ 0 _ _ _ st0 (loop _ rfl)
theorem q3g (O : CompOk X scope NB n fr) (hc : X.calm = true) (hi : PI X tg iter wi)
  (hg : ∀ cl C fp s H, PG (cxB X NB scope cl C fp s H) tg g) (ht : ∀ cl C fp s H, j5b (cxB X NB scope cl C fp s H) ifs tt) (he : ∀ cl C fp s H, PE (cxB X NB scope cl C fp s H) elt te)
  (hs : ∀ x, foldedSetIterable iter X.env x = pure x := by intro _; rfl) : PE X (.ListComp elt [⟨tg, iter, ifs, 0⟩] scope pos) (j3p n fr wi g tt te) := by
 intro pins s σ H Q I h
 rw [eval_ListComp]
 exact x8z (QQ := EP X pins σ Q) O hc hi hg ht he hs I h fun D C H' s' m hn J h1 h2 h3 h4 h5 q => ⟨m, hn, fun h' sb => ⟨.ref D, H', J.but h1 h2 h3 h4 h5 sb, rfl, q⟩⟩
theorem z0o {i : Nat} {x : Str} {py spos : Pos} (hN : X.N.Nodup) (hi1 : X.N[i]? = some x) (hx : Loc X.env.scope x) (O : CompOk X scope NB n fr) (hc : X.calm = true) (hi : PI X tg iter wi)
  (hg : ∀ cl C fp s H, PG (cxB X NB scope cl C fp s H) tg g) (ht : ∀ cl C fp s H, j5b (cxB X NB scope cl C fp s H) ifs tt) (he : ∀ cl C fp s H, PE (cxB X NB scope cl C fp s H) elt te)
  (hs : ∀ x, foldedSetIterable iter X.env x = pure x := by intro _; rfl) (hsw : swapsWith (.ListComp elt [⟨tg, iter, ifs, 0⟩] scope pos) (some (.Name x py)) spos.line X.env = pure true := by rfl)
  (hf : X.fn x = true ∨ X.env.scope.names.lookup x = some .local := by first | exact .inl rfl | exact .inr rfl | assumption) :
  PS X (.Assign [.Name x py] (.ListComp elt [⟨tg, iter, ifs, 0⟩] scope pos) spos) (j7r (j3p n fr wi g tt te) (z4d i)) := by
 intro pins s σ H D I h
 rw [exec_Assign_Name_used _ _ _ _ hsw]
 refine wpAny_bind (wpAny_standAt (wpAny_bind ?_))
 show wpAny _ X.A (do let _ ← comprehension (.ListComp elt [⟨tg, iter, ifs, 0⟩] scope pos) scope X.env _ (newList []) false (eval iter X.env) (some (assign (.Name x py) X.env))) _ _ s
 refine wpAny_bind (wpAny_mono (x8z (QQ := fun _ s' => SP X pins D .next s') (use := some (assign (.Name x py) X.env)) O hc hi hg ht he hs I h fun D1 C H' s' m hn J h1 h2 h3 h4 h5 q => ?_) (fun _ s' hq => wpAny_pure (wpAny_pure hq)) fun _ _ e => e)
 show wpAny _ X.A (assign (.Name x py) X.env (.ref D1)) _ _ _
 refine wpAny_assign_Name (x8d (v := .ref D1) J hN hi1 hx rfl (fun s2 J2 ⟨a, sb, ha⟩ => ?_) hf)
 refine ⟨m, hn.sameBut sb ?_, fun h' sb2 => ⟨_, H', J2.but h1 h2 h3 h4 h5 sb2, q⟩⟩
 rcases ha with e | e
 ·rw [e]; exact h3
 ·exact Ne.symm (h4 _ _ e)
end
noncomputable def Src (t : Bool) (h : Heap) (it l : Addr) (xs : Array Value) (k : Nat) : Prop := match t with
 | true => h.IsTupleIter it l k ∧ h.IsTuple l xs
 | false => h.IsListIter it l k ∧ h.IsList l xs
theorem Src.keep {t : Bool} {h h' : Heap} {it l : Addr} {xs : Array Value} {k : Nat} (x : Src t h it l xs k) (a : ∀ o, h.get? it = some o → h'.get? it = some o) (b : ∀ o, h.get? l = some o → h'.get? l = some o) : Src t h' it l xs k := by
 cases t with
 | true => obtain ⟨⟨o, h1, r1⟩, ⟨o2, h2, r2⟩⟩ := x; exact ⟨⟨o, a o h1, r1⟩, ⟨o2, b o2 h2, r2⟩⟩
 | false => obtain ⟨⟨o, h1, r1⟩, ⟨o2, h2, r2⟩⟩ := x; exact ⟨⟨o, a o h1, r1⟩, ⟨o2, b o2 h2, r2⟩⟩
section
variable {prog : Program} {w : World} {A : Around} {E : Value → Shared → Prop} {st : Shared}
theorem j0o {it l : Addr} {i : Nat} {its : Array Value} {x : Value} {Q : Value → Shared → Prop} (hit : st.heap.IsTupleIter it l i) (hl : st.heap.IsTuple l its) (hx : its[i]? = some x)
  (hQ : ∀ h', h'.IsTupleIter it l (i + 1) → Heap.SameBut it st.heap h' → Q x { st with heap := h' }) : wpAny (model prog w) A (Builtin.SmallTypes.nextOf (.ref it)) Q E st := by
 obtain ⟨o, ho, hc, hd⟩ := id hit
 obtain ⟨o2, ho2, _, n2, hd2⟩ := hl
 unfold Builtin.SmallTypes.nextOf
 refine wpAny_bind (wpAny_callSpecial?_slot (name := Str.ofString "__next__") hit.typeIs F.slot_tuple_iterator_next (wpAny_call_entry F.slot_tuple_iterator_next hit.typeIs F.entry_tuple_iterator_next ?_ (F.args_tuple_iterator_next_1 _)))
 show wpAny _ A.in1 (field (.ref it) 0 >>= _) _ _ st
 refine wpAny_bind (wpAny_field ho hd (x := .ref l) rfl ?_)
 show wpAny _ A.in1 (if (Value.ref l == Value.none) = true then _ else _) _ _ st
 rw [if_neg (fun z : (Value.ref l == Value.none) = true => Bool.false_ne_true z)]
 show wpAny _ A.in1 (field (.ref it) 1 >>= _) _ _ st
 refine wpAny_bind (wpAny_field (x := .int i 0) ho hd rfl ?_)
 show wpAny _ A.in1 (seqItems? (.ref l) >>= _) _ _ st
 refine wpAny_bind (wpAny_seqItems ho2 hd2 ?_)
 simp only [Int.toNat_natCast, hx]
 refine wpAny_bind (wpAny_setField ho hd (by simp) (wpAny_pure ⟨x, rfl, wpAny_pure (hQ _ ⟨_, Heap.get?_update_self _ ho (Obj.isFreed_of_fields (Obj.data_mapFields hd _)), (Obj.cls_mapFields ..).trans hc, ?_⟩ (Heap.SameBut.update ..))⟩))
 rw [Obj.data_mapFields hd]; simp [rawInt]
theorem x7w {it l : Addr} {i : Nat} {its : Array Value} {Q : Value → Shared → Prop} (hh : A.handled = none) (hit : st.heap.IsTupleIter it l i) (hl : st.heap.IsTuple l its) (hx : its[i]? = none)
  (hE : ∀ h' e, Heap.ExtBut it st.heap h' → (∃ o, h'.get? e = some o ∧ o.cls = .type "StopIteration") → E (.ref e) { st with heap := h' }) : wpAny (model prog w) A (Builtin.SmallTypes.nextOf (.ref it)) Q E st := by
 obtain ⟨o, ho, hc, hd⟩ := id hit
 obtain ⟨o2, ho2, _, n2, hd2⟩ := hl
 unfold Builtin.SmallTypes.nextOf
 refine wpAny_bind (wpAny_callSpecial?_slot (name := Str.ofString "__next__") hit.typeIs F.slot_tuple_iterator_next (wpAny_call_entry F.slot_tuple_iterator_next hit.typeIs F.entry_tuple_iterator_next ?_ (F.args_tuple_iterator_next_1 _)))
 show wpAny _ A.in1 (field (.ref it) 0 >>= _) _ _ st
 refine wpAny_bind (wpAny_field ho hd (x := .ref l) rfl ?_)
 show wpAny _ A.in1 (if (Value.ref l == Value.none) = true then _ else _) _ _ st
 rw [if_neg (fun z : (Value.ref l == Value.none) = true => Bool.false_ne_true z)]
 show wpAny _ A.in1 (field (.ref it) 1 >>= _) _ _ st
 refine wpAny_bind (wpAny_field (x := .int i 0) ho hd rfl ?_)
 show wpAny _ A.in1 (seqItems? (.ref l) >>= _) _ _ st
 refine wpAny_bind (wpAny_seqItems ho2 hd2 ?_)
 simp only [Int.toNat_natCast, hx]
 refine wpAny_bind (wpAny_rule (wpAny_bind (wpAny_setField ho hd (by simp) (wpAny_bind ?_))))
 show wpAny _ A.in1 (newExc (.type "StopIteration") []) _ _ _
 simp only [newTuple, newExc]
 refine wpAny_bind (wpAny_newObj_type (wpAny_bind (m := firstArgMember _ _) (wpAny_of_eq (a := Value.none) (by first | rfl | (simp only [firstArgMember]; rfl)) (wpAny_newObj_type ?_ (by size_fits)))) (by size_fits))
 simp only [raiseNew]
 refine wpAny_bind (wpAny_handled ?_)
 first | rw [hh] | rw [show A.in1.handled = none from hh]
 exact wpAny_bind (wpAny_pure (wpAny_throw (hE _ _ (((Heap.SameBut.update ..).extBut.push _).push _) ⟨_, Heap.get?_push_size _ rfl, rfl⟩)))
theorem Src.draw {t : Bool} {it l : Addr} {i : Nat} {its : Array Value} {x : Value} {Q : Value → Shared → Prop} (S : Src t st.heap it l its i) (hne : l ≠ it) (hx : its[i]? = some x)
  (hQ : ∀ h', Src t h' it l its (i + 1) → Heap.SameBut it st.heap h' → Q x { st with heap := h' }) : wpAny (model prog w) A (Builtin.SmallTypes.nextOf (.ref it)) Q E st := by
 cases t with
 | true => exact j0o S.1 S.2 hx fun h' a b => hQ h' ⟨a, S.2.extBut b.extBut hne⟩ b
 | false => exact wpAny_nextOf_list_item S.1 S.2 hx fun h' a b => hQ h' ⟨a, S.2.extBut b.extBut hne⟩ b
theorem Src.none {t : Bool} {it l : Addr} {i : Nat} {its : Array Value} {Q : Value → Shared → Prop} (hh : A.handled = none) (S : Src t st.heap it l its i) (hx : its[i]? = none)
  (hE : ∀ h' e, Heap.ExtBut it st.heap h' → (∃ o, h'.get? e = some o ∧ o.cls = .type "StopIteration") → E (.ref e) { st with heap := h' }) : wpAny (model prog w) A (Builtin.SmallTypes.nextOf (.ref it)) Q E st := by
 cases t with
 | true => exact x7w hh S.1 S.2 hx hE
 | false => exact wpAny_nextOf_list_end hh S.1 S.2 hx hE
structure Apart (z TI TO i1 i2 l1 l2 : Addr) : Prop where
 a : TI ≠ z ∧ TO ≠ z ∧ i1 ≠ z ∧ i2 ≠ z
 b : TI ≠ TO ∧ TI ≠ i1 ∧ TI ≠ i2 ∧ TO ≠ i1 ∧ TO ≠ i2 ∧ i1 ≠ i2
 c : l1 ≠ z ∧ l1 ≠ TO ∧ l1 ≠ i1 ∧ l1 ≠ i2
 d : l2 ≠ z ∧ l2 ≠ TO ∧ l2 ≠ i1 ∧ l2 ≠ i2
theorem z9u {z TI TO i1 i2 l1 l2 : Addr} {t1 t2 : Bool} {k : Nat} {xs ys : Array Value} {x y a b : Value} {Q : Value → Shared → Prop} (D : Apart z TI TO i1 i2 l1 l2)
  (hz : IsZip st.heap z TI TO .none) (hTI : IsPair st.heap TI (.ref i1) (.ref i2)) (hTO : IsPair st.heap TO a b)
  (h1 : Src t1 st.heap i1 l1 xs k) (h2 : Src t2 st.heap i2 l2 ys k) (hx : xs[k]? = some x) (hy : ys[k]? = some y)
  (hQ : ∀ h', IsZip h' z TI TO (rawInt st.heap.objs.size) → IsPair h' TO x y → Src t1 h' i1 l1 xs (k + 1) → Src t2 h' i2 l2 ys (k + 1) → IsPair h' st.heap.objs.size x y →
   (∀ c o, c ≠ z → c ≠ TO → c ≠ i1 → c ≠ i2 → st.heap.get? c = some o → h'.get? c = some o) → Q (.ref st.heap.objs.size) { st with heap := h' }) :
  wpAny (model prog w) A (Builtin.«zip.__next__» ⟨[.ref z], []⟩) (fun fin s' => ∃ v, fin = .done (.ret v) ∧ Q v s') E st := by
 obtain ⟨⟨d1, d2, d3, d4⟩, ⟨d5, d6, d7, d8, d9, d10⟩, ⟨d11, d12, d13, d14⟩, ⟨d15, d16, d17, d18⟩⟩ := D
 show wpAny _ A (field (.ref z) 2 >>= _) _ _ st
 refine wpAny_bind (wpAny_field (x := .bool false) hz rfl rfl ?_)
 show wpAny _ A (field (.ref z) 3 >>= _) _ _ st
 refine wpAny_bind (wpAny_field (x := .ref TI) hz rfl rfl (wpAny_bind (wpAny_seqItems hTI rfl ?_)))
 show wpAny _ A (Builtin.SmallTypes.ownedTupleIsFree (.ref z) >>= _) _ _ st
 refine wpAny_bind ?_
 unfold Builtin.SmallTypes.ownedTupleIsFree
 refine wpAny_bind (wpAny_field (x := .none) hz rfl rfl (wpAny_pure ?_))
 simp only [if_true]
 refine wpAny_bind (wpAny_rule (wpAny_bind (wpAny_field (x := .ref TO) hz rfl rfl (wpAny_bind (wpAny_setField_rec hz (by simp) fun g1 z1 b1 => ?_)))))
 replace z1 : IsZip g1 z TI TO .ellipsis := z1
 refine wpAny_bind ?_
 simp only [List.zipIdx_nil, List.zipIdx_cons, List.forIn_nil, List.forIn_cons]
 refine wpAny_bind (wpAny_bind (wpAny_onRaise ?_))
 show wpAny _ A (Builtin.SmallTypes.nextOf (.ref i1) >>= _) _ _ _
 have s1 : Src t1 g1 i1 l1 xs k := h1.keep (fun o e => b1.extBut _ o d3 e) (fun o e => b1.extBut _ o d11 e)
 refine wpAny_bind (Src.draw (st := { st with heap := g1 }) s1 d13 hx fun g2 s2 b2 => wpAny_pure ?_)
 have p2 : IsPair g2 TO a b := b2.extBut _ _ d8 (b1.extBut _ _ d2 hTO)
 refine wpAny_bind (wpAny_seqItems p2 rfl (wpAny_bind (wpAny_updateSeq_pair p2 fun g3 p3 b3 => ?_)))
 replace p3 : IsPair g3 TO x b := p3
 refine wpAny_bind (wpAny_letGo (wpAny_pure ?_))
 refine wpAny_bind (wpAny_bind (wpAny_onRaise ?_))
 show wpAny _ A (Builtin.SmallTypes.nextOf (.ref i2) >>= _) _ _ _
 have s3 : Src t2 g3 i2 l2 ys k := h2.keep (fun o e => b3.extBut _ o d9.symm (b2.extBut _ o d10.symm (b1.extBut _ o d4 e))) (fun o e => b3.extBut _ o d16 (b2.extBut _ o d17 (b1.extBut _ o d15 e)))
 refine wpAny_bind (Src.draw (st := { st with heap := g3 }) s3 d18 hy fun g4 s4 b4 => wpAny_pure ?_)
 have p4 : IsPair g4 TO x b := b4.extBut _ _ d9 p3
 refine wpAny_bind (wpAny_seqItems p4 rfl (wpAny_bind (wpAny_updateSeq_pair p4 fun g5 p5 b5 => ?_)))
 replace p5 : IsPair g5 TO x y := p5
 refine wpAny_bind (wpAny_letGo (wpAny_pure (wpAny_pure ?_)))
 refine wpAny_bind (wpAny_seqItems p5 rfl (wpAny_bind (wpAny_newTuple ?_)))
 have sz : g5.objs.size = st.heap.objs.size := by rw [b5.1, b4.1, b3.1, b2.1, b1.1]
 have z5 : IsZip g5 z TI TO .ellipsis := b5.extBut _ _ d2.symm (b4.extBut _ _ d4.symm (b3.extBut _ _ d2.symm (b2.extBut _ _ d3.symm z1)))
 have kp : ∀ c o, c ≠ z → c ≠ TO → c ≠ i1 → c ≠ i2 → st.heap.get? c = some o → g5.get? c = some o := fun c o c1 c2 c3 c4 e => b5.extBut _ _ c2 (b4.extBut _ _ c4 (b3.extBut _ _ c2 (b2.extBut _ _ c3 (b1.extBut _ _ c1 e))))
 have s5 : Src t1 g5 i1 l1 xs (k + 1) := s2.keep (fun o e => b5.extBut _ o d8.symm (b4.extBut _ o d10 (b3.extBut _ o d8.symm e))) (fun o e => b5.extBut _ o d12 (b4.extBut _ o d14 (b3.extBut _ o d12 e)))
 have r5 : Src t2 g5 i2 l2 ys (k + 1) := s4.keep (fun o e => b5.extBut _ o d9.symm e) (fun o e => b5.extBut _ o d16 e)
 have zlt : z < g5.objs.size := Heap.lt_size z5
 show wpAny _ A (Builtin.SmallTypes.ownedTupleHandOut (.ref z) (.ref g5.objs.size) >>= _) _ _ _
 refine wpAny_bind ?_
 unfold Builtin.SmallTypes.ownedTupleHandOut
 have z6 : IsZip (g5.push { cls := .type "tuple", data := .seq #[x, y] }) z TI TO .ellipsis := Heap.get?_push_of_some _ z5
 refine wpAny_bind (wpAny_setField_rec z6 (by simp) fun g7 z7 b7 => ?_)
 replace z7 : IsZip g7 z TI TO (rawInt g5.objs.size) := z7
 refine wpAny_setField_rec z7 (by simp) fun g8 z8 b8 => ?_
 replace z8 : IsZip g8 z TI TO (rawInt g5.objs.size) := z8
 have up : ∀ c o, c ≠ z → g5.get? c = some o → g8.get? c = some o := fun c o c1 e => b8.extBut _ _ c1 (b7.extBut _ _ c1 (Heap.get?_push_of_some _ e))
 have t8 : IsPair g8 g5.objs.size x y := b8.extBut _ _ (Nat.ne_of_gt zlt) (b7.extBut _ _ (Nat.ne_of_gt zlt) (Heap.get?_push_size _ rfl))
 rw [sz] at z8 t8
 refine wpAny_pure ⟨_, rfl, ?_⟩
 show Q (.ref g5.objs.size) _
 rw [sz]
 exact hQ g8 z8 (up _ _ d2 p5) (s5.keep (fun o e => up _ o d3 e) fun o e => up _ o d11 e) (r5.keep (fun o e => up _ o d4 e) fun o e => up _ o d15 e) t8 fun c o c1 c2 c3 c4 e => up c o c1 (kp c o c1 c2 c3 c4 e)
theorem j3d {z TI TO i1 i2 l1 l2 : Addr} {t1 t2 : Bool} {k : Nat} {xs ys : Array Value} {a b : Value} {Q : Fin → Shared → Prop} (hh : A.handled = none) (D : Apart z TI TO i1 i2 l1 l2)
  (hz : IsZip st.heap z TI TO .none) (hTI : IsPair st.heap TI (.ref i1) (.ref i2)) (hTO : IsPair st.heap TO a b)
  (h1 : Src t1 st.heap i1 l1 xs k) (h2 : Src t2 st.heap i2 l2 ys k) (hend : xs[k]? = none ∨ ys[k]? = none)
  (hE : ∀ h' e, (∀ c o, c ≠ z → c ≠ TO → c ≠ i1 → c ≠ i2 → st.heap.get? c = some o → h'.get? c = some o) → (∃ o, h'.get? e = some o ∧ o.cls = .type "StopIteration") → E (.ref e) { st with heap := h' }) :
  wpAny (model prog w) A (Builtin.«zip.__next__» ⟨[.ref z], []⟩) Q E st := by
 obtain ⟨⟨d1, d2, d3, d4⟩, ⟨d5, d6, d7, d8, d9, d10⟩, ⟨d11, d12, d13, d14⟩, ⟨d15, d16, d17, d18⟩⟩ := D
 show wpAny _ A (field (.ref z) 2 >>= _) _ _ st
 refine wpAny_bind (wpAny_field (x := .bool false) hz rfl rfl ?_)
 show wpAny _ A (field (.ref z) 3 >>= _) _ _ st
 refine wpAny_bind (wpAny_field (x := .ref TI) hz rfl rfl (wpAny_bind (wpAny_seqItems hTI rfl ?_)))
 show wpAny _ A (Builtin.SmallTypes.ownedTupleIsFree (.ref z) >>= _) _ _ st
 refine wpAny_bind ?_
 unfold Builtin.SmallTypes.ownedTupleIsFree
 refine wpAny_bind (wpAny_field (x := .none) hz rfl rfl (wpAny_pure ?_))
 simp only [if_true]
 refine wpAny_bind (wpAny_rule (wpAny_bind (wpAny_field (x := .ref TO) hz rfl rfl (wpAny_bind (wpAny_setField_rec hz (by simp) fun g1 z1 b1 => ?_)))))
 replace z1 : IsZip g1 z TI TO .ellipsis := z1
 refine wpAny_bind ?_
 simp only [List.zipIdx_nil, List.zipIdx_cons, List.forIn_nil, List.forIn_cons]
 refine wpAny_bind (wpAny_bind (wpAny_onRaise ?_))
 show wpAny _ A (Builtin.SmallTypes.nextOf (.ref i1) >>= _) _ _ _
 have s1 : Src t1 g1 i1 l1 xs k := h1.keep (fun o e => b1.extBut _ o d3 e) (fun o e => b1.extBut _ o d11 e)
 cases hx : xs[k]? with
 | none =>
  refine wpAny_bind (Src.none (st := { st with heap := g1 }) hh s1 hx fun g2 e b2 he => ?_)
  obtain ⟨oe, hoe, hce⟩ := he
  have z2 : IsZip g2 z TI TO .ellipsis := b2 _ _ d3.symm z1
  have ez : e ≠ z := fun q => by subst q; rw [z2] at hoe; cases hoe; simp at hce
  refine wpAny_setField_rec z2 (by simp) fun g3 _ b3 => hE g3 e (fun c o c1 _ c3 _ q => b3.extBut _ _ c1 (b2 _ _ c3 (b1.extBut _ _ c1 q))) ⟨oe, b3.extBut _ _ ez hoe, hce⟩
 | some x =>
  have hy : ys[k]? = none := by rcases hend with h | h; rw [hx] at h; cases h; exact h
  refine wpAny_bind (Src.draw (st := { st with heap := g1 }) s1 d13 hx fun g2 s2 b2 => wpAny_pure ?_)
  have p2 : IsPair g2 TO a b := b2.extBut _ _ d8 (b1.extBut _ _ d2 hTO)
  refine wpAny_bind (wpAny_seqItems p2 rfl (wpAny_bind (wpAny_updateSeq_pair p2 fun g3 p3 b3 => ?_)))
  refine wpAny_bind (wpAny_letGo (wpAny_pure ?_))
  refine wpAny_bind (wpAny_bind (wpAny_onRaise ?_))
  show wpAny _ A (Builtin.SmallTypes.nextOf (.ref i2) >>= _) _ _ _
  have s3 : Src t2 g3 i2 l2 ys k := h2.keep (fun o e => b3.extBut _ o d9.symm (b2.extBut _ o d10.symm (b1.extBut _ o d4 e))) (fun o e => b3.extBut _ o d16 (b2.extBut _ o d17 (b1.extBut _ o d15 e)))
  refine wpAny_bind (Src.none (st := { st with heap := g3 }) hh s3 hy fun g4 e b4 he => ?_)
  obtain ⟨oe, hoe, hce⟩ := he
  have z4 : IsZip g4 z TI TO .ellipsis := b4 _ _ d4.symm (b3.extBut _ _ d2.symm (b2.extBut _ _ d3.symm z1))
  have ez : e ≠ z := fun q => by subst q; rw [z4] at hoe; cases hoe; simp at hce
  refine wpAny_setField_rec z4 (by simp) fun g5 _ b5 => hE g5 e (fun c o c1 c2 c3 c4 q => b5.extBut _ _ c1 (b4 _ _ c4 (b3.extBut _ _ c2 (b2.extBut _ _ c3 (b1.extBut _ _ c1 q))))) ⟨oe, b5.extBut _ _ ez hoe, hce⟩
end
section
noncomputable def SqK (t : Bool) (h : Heap) (l : Addr) (xs : Array Value) : Prop := match t with
 | true => h.IsTuple l xs
 | false => h.IsList l xs
noncomputable def z7c (t : Bool) (l : Addr) : Obj := { cls := .type (if t then "tuple_iterator" else "list_iterator"), data := .fields #[.ref l, .int 0 0] }
theorem SqK.push {t : Bool} {h : Heap} {l : Addr} {xs : Array Value} (x : SqK t h l xs) (o : Obj) : SqK t (h.push o) l xs := by
 cases t with
 | true => exact Heap.IsTuple.push x o
 | false => exact Heap.IsList.push x o
theorem Src.new {t : Bool} {h : Heap} {it l : Addr} {xs : Array Value} (e : h.get? it = some (z7c t l)) (q : SqK t h l xs) : Src t h it l xs 0 := by
 cases t with
 | true => exact ⟨⟨_, e, rfl, rfl⟩, q⟩
 | false => exact ⟨⟨_, e, rfl, rfl⟩, q⟩
variable {prog : Program} {w : World} {A : Around} {E : Value → Shared → Prop} {st : Shared}
theorem z7y {t : Bool} {l : Addr} {its : Array Value} {Q : Value → Shared → Prop} (hl : SqK t st.heap l its) (hQ : Q (.ref st.heap.objs.size) { st with heap := st.heap.push (z7c t l) }) : wpAny (model prog w) A (pyIter (.ref l)) Q E st := by
 cases t with
 | true => exact wpAny_pyIter_tuple hl hQ
 | false => exact wpAny_pyIter_list hl hQ
noncomputable abbrev zp1 (h : Heap) (t1 : Bool) (l1 : Addr) : Heap := h.push (z7c t1 l1)
noncomputable abbrev zp2 (h : Heap) (t1 t2 : Bool) (l1 l2 : Addr) : Heap := (zp1 h t1 l1).push (z7c t2 l2)
noncomputable abbrev zp3 (h : Heap) (t1 t2 : Bool) (l1 l2 : Addr) : Heap := (zp2 h t1 t2 l1 l2).push { cls := .type "tuple", data := .seq #[.ref h.objs.size, .ref (zp1 h t1 l1).objs.size] }
noncomputable abbrev zp4 (h : Heap) (t1 t2 : Bool) (l1 l2 : Addr) : Heap := (zp3 h t1 t2 l1 l2).push { cls := .type "tuple", data := .seq #[.none, .none] }
noncomputable abbrev zp5 (h : Heap) (t1 t2 : Bool) (l1 l2 : Addr) : Heap := (zp4 h t1 t2 l1 l2).push { cls := .type "zip", data := .fields #[.none, .bool false, .bool false, .ref (zp2 h t1 t2 l1 l2).objs.size, .ref (zp3 h t1 t2 l1 l2).objs.size] }
theorem z3e (t1 t2 : Bool) (l1 l2 : Addr) (xs ys : Array Value) :
  Meets (Builtin.«zip.__new__» ⟨[.type "zip", .ref l1, .ref l2], []⟩) (fun _ R s => SqK t1 s.heap l1 xs ∧ SqK t2 s.heap l2 ys ∧ R (.ok (.ret (.ref (zp4 s.heap t1 t2 l1 l2).objs.size))) { s with heap := zp5 s.heap t1 t2 l1 l2 }) :=
 .of_wp fun prog w A R s h => by
  obtain ⟨hp, g, d, tk, os⟩ := s
  obtain ⟨q1, q2, h⟩ := h
  have hsub := sub_zip
  have r1 : SqK t1 (Shared.heap ⟨hp, g, d, tk, os⟩) l1 xs := q1
  have r2 : SqK t2 (Shared.heap ⟨hp.push (z7c t1 l1), g, d, tk, os⟩) l2 ys := q2.push _
  wp_walk using z7y r1, z7y r2
  exact ⟨_, rfl, h⟩
theorem z5v {t1 t2 : Bool} {l1 l2 : Addr} {xs ys : Array Value} {Q : Value → Shared → Prop} (q1 : SqK t1 st.heap l1 xs) (q2 : SqK t2 st.heap l2 ys)
  (h : ∀ h', IsZip h' (st.heap.objs.size + 4) (st.heap.objs.size + 2) (st.heap.objs.size + 3) .none → IsPair h' (st.heap.objs.size + 2) (.ref st.heap.objs.size) (.ref (st.heap.objs.size + 1)) →
   IsPair h' (st.heap.objs.size + 3) .none .none → Src t1 h' st.heap.objs.size l1 xs 0 → Src t2 h' (st.heap.objs.size + 1) l2 ys 0 →
   (∀ c o, st.heap.get? c = some o → h'.get? c = some o) → Q (.ref (st.heap.objs.size + 4)) { st with heap := h' }) :
  wpAny (model prog w) A (call (.type "zip") [.ref l1, .ref l2]) Q E st := by
 refine callType_new F.called_zip (by decide) (F.typeCall_zip_2 _ _) (F.newCall_zip_2 _ _) (fun obj => F.args_object_init_3 obj _ _) F.entry_zip_new (z3e t1 t2 l1 l2 xs ys) ⟨q1, q2, ?_⟩
 have n1 : (zp1 st.heap t1 l1).objs.size = st.heap.objs.size + 1 := Heap.size_push ..
 have n2 : (zp2 st.heap t1 t2 l1 l2).objs.size = st.heap.objs.size + 2 := by rw [Heap.size_push, n1]
 have n3 : (zp3 st.heap t1 t2 l1 l2).objs.size = st.heap.objs.size + 3 := by rw [Heap.size_push, n2]
 have n4 : (zp4 st.heap t1 t2 l1 l2).objs.size = st.heap.objs.size + 4 := by rw [Heap.size_push, n3]
 have g5 : (zp5 st.heap t1 t2 l1 l2).get? (zp4 st.heap t1 t2 l1 l2).objs.size = some _ := Heap.get?_push_size _ rfl
 have g4 : (zp5 st.heap t1 t2 l1 l2).get? (zp3 st.heap t1 t2 l1 l2).objs.size = some _ := Heap.get?_push_of_some _ (Heap.get?_push_size _ rfl)
 have g3 : (zp5 st.heap t1 t2 l1 l2).get? (zp2 st.heap t1 t2 l1 l2).objs.size = some _ := Heap.get?_push_of_some _ (Heap.get?_push_of_some _ (Heap.get?_push_size _ rfl))
 have g2 : (zp5 st.heap t1 t2 l1 l2).get? (zp1 st.heap t1 l1).objs.size = some _ := Heap.get?_push_of_some _ (Heap.get?_push_of_some _ (Heap.get?_push_of_some _ (Heap.get?_push_size _ rfl)))
 have g1 : (zp5 st.heap t1 t2 l1 l2).get? st.heap.objs.size = some _ := Heap.get?_push_of_some _ (Heap.get?_push_of_some _ (Heap.get?_push_of_some _ (Heap.get?_push_of_some _ (Heap.get?_push_size _ rfl))))
 show _ ∧ _
 rw [n2, n3, n4] at g5
 rw [n1, n2] at g3
 rw [n3] at g4
 rw [n1] at g2
 rw [n4]
 exact ⟨⟨_, g5, rfl⟩, h _ g5 g3 g4 (Src.new g1 ((((q1.push _).push _).push _).push _ |>.push _)) (Src.new g2 ((((q2.push _).push _).push _).push _ |>.push _)) fun c o x =>
  Heap.get?_push_of_some _ (Heap.get?_push_of_some _ (Heap.get?_push_of_some _ (Heap.get?_push_of_some _ (Heap.get?_push_of_some _ x))))⟩
end
noncomputable def Its (x : Str) : It := ⟨fun i _ => i < x.cps.size, fun i H v H' => H' = H ∧ ∃ c, x.cps[i]? = some c ∧ v = .str ⟨#[c]⟩, fun i _ => i = x.cps.size⟩
theorem x7s {P : Program} {w : World} {K : PySem.W.Frag} {y : Str} {pos : Pos} (it : Addr) (x : Str) (t : Tok) (nm : String)
  (W : ∀ A' : Around, A'.handled = none → Walks P w A' it [it] [it] x.cps.size (SignAt x) (fun i h => h.IsStrIter it nm x t i))
  (self : ∀ (A : Around) (i : Nat) (s : Shared) (Q : Value → Shared → Prop) (E : Value → Shared → Prop), s.heap.IsStrIter it nm x t i → Q (.ref it) s → wpAny (model P w) A (pyIter (.ref it)) Q E s) :
  Turn P w K (.Name y pos) (Its x) [it] it (fun i h => h.IsStrIter it nm x t i) where
 mem := by simp
 obj := fun i h st b hb => by
  have e : b = it := by simpa using hb
  subst e
  obtain ⟨o, e, c, d⟩ := st
  exact ⟨o, e, fun v z => by rw [d] at z; cases z⟩
 keep := fun i h h' st k => let ⟨o, ho, r⟩ := st; ⟨o, k it (by simp) o ho, r⟩
 item := by
  intro X hP hw hK hc i pins s σ H E I hf st hg
  subst hP hw hK
  obtain ⟨f0, f1, f2, f3, f4, f5⟩ := hf it (by simp)
  refine (W X.A (I.ok.hd hc)).item i s _ _ hg st fun v h' tk hv st' kk => ?_
  obtain ⟨c, u, hcc, rfl⟩ := hv
  have I1 : Inv X pins σ H { s with heap := h', toks := tk } := I.turned (fun b o hb e => kk b o (by simpa using hb) e) f0 f1 f3 f4 f5
  exact ⟨_, rfl, wpAny_pure ⟨.str ⟨#[c]⟩, H, I1, ⟨u, rfl⟩, ⟨rfl, c, hcc, rfl⟩, st', fun b hb => (hf b hb).1⟩⟩
 done := by
  intro X hP hw hK hc i pins s σ H E I hf st hg
  subst hP hw hK
  have hg' : i = x.cps.size := hg
  subst hg'
  obtain ⟨f0, f1, f2, f3, f4, f5⟩ := hf it (by simp)
  exact (W X.A (I.ok.hd hc)).done s _ _ st fun h' tk kk => ⟨rfl, I.turned (t' := tk) (fun b o hb e => kk b o (by simpa using hb) e) f0 f1 f3 f4 f5⟩
 self := self
noncomputable def w1h (te : TE) : TI := fun σ H R => te σ H fun v H1 => ∃ x, v = .str x ∧ R (Its x) H1
theorem j1z {X : Cx} {l : Expr} {te : TE} {y : Str} {p : Pos} (hl : PE X l te) : PI X (.Name y p) l (w1h te) := by
 intro pins s σ H R I h
 refine thn (hl pins s σ H _ I h) fun v s1 ⟨z, H1, I1, r1, q1⟩ => ?_
 obtain ⟨x, e, q⟩ := q1
 subst e
 obtain ⟨t, rfl⟩ := r1
 have fp : ∀ b ∈ [s1.heap.objs.size], z8j X pins H1 b := fun b hb => by
  have e : b = s1.heap.objs.size := by simpa using hb
  subst e
  exact I1.fpOk (Nat.le_refl _) (I1.hok.fresh (Nat.le_refl _))
 cases ha : x.cps.all (· < 128)
 ·exact wpAny_pyIter_wide ha ⟨s1.heap.objs.size, [s1.heap.objs.size], _, _, H1, rfl, I1.kept (t' := s1.toks) fun b o e => Heap.get?_push_of_some _ e,
   x7s _ x t "str_iterator" (fun A' hA => Walks.strWide hA _ x t) (fun _ _ _ _ _ st h => wpAny_pyIter_striter_wide st h), ⟨_, Heap.get?_push_size _ rfl, rfl, rfl⟩, fp, q⟩
 ·exact wpAny_pyIter_ascii ha ⟨s1.heap.objs.size, [s1.heap.objs.size], _, _, H1, rfl, I1.kept (t' := s1.toks) fun b o e => Heap.get?_push_of_some _ e,
   x7s _ x t "str_ascii_iterator" (fun A' hA => Walks.strAscii hA _ x t) (fun _ _ _ _ _ st h => wpAny_pyIter_striter_ascii st h), ⟨_, Heap.get?_push_size _ rfl, rfl, rfl⟩, fp, q⟩
noncomputable def SqB (t : Bool) (K : PySem.W.Frag) (H : Hp) (a : Addr) (xs : List V) : Prop := match t with
 | true => SqT K H a xs
 | false => SqL K H a xs
section
variable {X : Cx} {pins : List (Addr × Obj)} {σ : St} {H : Hp} {s : Shared}
theorem Inv.sq {t : Bool} {a : Addr} {xs : List V} (I : Inv X pins σ H s) (h : SqB t X.K H a xs) : ∃ its : List Value, q4b xs its ∧ SqK t s.heap a its.toArray ∧ xs.length ≤ sizeLine := by
 cases t with
 | true => obtain ⟨its, r, p, z⟩ := I.tuple h; exact ⟨its, r, p, z⟩
 | false => obtain ⟨its, r, p, z⟩ := I.list h; exact ⟨its, r, p.isList, z⟩
theorem Inv.sq_inj {t : Bool} {a : Addr} {xs ys : List V} (I : Inv X pins σ H s) (h : SqB t X.K H a xs) (h' : SqB t X.K H a ys) : xs = ys := by
 cases t with
 | true => exact I.tuple_inj h h'
 | false => exact I.list_inj h h'
theorem Inv.sq_ne {t : Bool} {a b : Addr} {xs : List V} (I : Inv X pins σ H s) (h : SqB t X.K H a xs) (f : z8j X pins H b) : a ≠ b := by
 intro z
 subst z
 obtain ⟨f0, _, _, f3, _⟩ := f
 have nob : ∀ o, X.base.get? a = some o → False := fun o e => by
  rcases f3 with q | q
  ·exact I.ok.noex a o e q
  ·exact absurd (Nat.lt_of_lt_of_le (Heap.lt_size e) (Nat.le_trans I.ok.bsz q)) (Nat.lt_irrefl _)
 cases t with
 | true =>
  rcases (show SqT X.K H a xs from h) with (q | ⟨o, q⟩) | q
  ·rw [f0] at q; cases q
  ·rw [f0] at q; cases q
  ·obtain ⟨o, q⟩ := q
   first
    | exact nob _ (I.mod.kin a o q.1)
    | (obtain ⟨_, _, q, _⟩ := q; exact nob _ (I.mod.kin a _ q))
    | (obtain ⟨_, q, _⟩ := q; exact nob _ (I.mod.kin a _ q))
 | false =>
  rcases (show SqL X.K H a xs from h) with (q | ⟨o, q⟩) | q
  ·rw [f0] at q; cases q
  ·rw [f0] at q; cases q
  ·obtain ⟨o, q⟩ := q
   first
    | exact nob _ (I.mod.kin a o q.1)
    | (obtain ⟨_, _, q, _⟩ := q; exact nob _ (I.mod.kin a _ q))
    | (obtain ⟨_, q, _⟩ := q; exact nob _ (I.mod.kin a _ q))
end
noncomputable def Itz (K : PySem.W.Frag) (t1 t2 : Bool) (a b : Addr) : It :=
 ⟨fun i H => ∃ xs ys x y, SqB t1 K H a xs ∧ SqB t2 K H b ys ∧ xs[i]? = some x ∧ ys[i]? = some y,
  fun i H v H' => ∃ p x y, v = .ref p ∧ H p = none ∧ H' = upd H p (.tup [x, y]) ∧ (∀ xs, SqB t1 K H a xs → xs[i]? = some x) ∧ ∀ ys, SqB t2 K H b ys → ys[i]? = some y,
  fun i H => ∃ xs ys, SqB t1 K H a xs ∧ SqB t2 K H b ys ∧ (xs.length ≤ i ∨ ys.length ≤ i)⟩
noncomputable def ItB (t : Bool) (h : Heap) (it l : Addr) (k : Nat) : Prop := match t with
 | true => h.IsTupleIter it l k
 | false => h.IsListIter it l k
theorem ItB.src {t : Bool} {h : Heap} {it l : Addr} {k : Nat} {xs : Array Value} (a : ItB t h it l k) (b : SqK t h l xs) : Src t h it l xs k := by cases t <;> exact ⟨a, b⟩
theorem Src.it {t : Bool} {h : Heap} {it l : Addr} {k : Nat} {xs : Array Value} (a : Src t h it l xs k) : ItB t h it l k := by cases t <;> exact a.1
theorem ItB.ob {t : Bool} {h : Heap} {it l : Addr} {k : Nat} (a : ItB t h it l k) : ∃ o, h.get? it = some o ∧ ∀ v, o.data ≠ .cell v := by
 cases t <;> (obtain ⟨o, e, _, d⟩ := a; exact ⟨o, e, fun v z => by rw [d] at z; cases z⟩)
theorem ItB.keep {t : Bool} {h h' : Heap} {it l : Addr} {k : Nat} (a : ItB t h it l k) (e : ∀ o, h.get? it = some o → h'.get? it = some o) : ItB t h' it l k := by
 cases t <;> (obtain ⟨o, q, r⟩ := a; exact ⟨o, e o q, r⟩)
theorem z9t {P : Program} {w : World} {K : PySem.W.Frag} {es : List Expr} {k0 : Nat} {tp : Pos} {t1 t2 : Bool} {a b z TI TO i1 i2 : Addr}
  (D : (TI ≠ z ∧ TO ≠ z ∧ i1 ≠ z ∧ i2 ≠ z) ∧ TI ≠ TO ∧ TI ≠ i1 ∧ TI ≠ i2 ∧ TO ≠ i1 ∧ TO ≠ i2 ∧ i1 ≠ i2) :
  Turn P w K (.Tuple es k0 tp) (Itz K t1 t2 a b) [z, TI, TO, i1, i2] z (fun i h => IsZip h z TI TO .none ∧ IsPair h TI (.ref i1) (.ref i2) ∧ (∃ u v, IsPair h TO u v) ∧ ItB t1 h i1 a i ∧ ItB t2 h i2 b i) where
 mem := by simp
 obj := fun i h st c hc => by
  obtain ⟨h1, h2, ⟨u, v, h3⟩, h4, h5⟩ := st
  simp only [List.mem_cons, List.not_mem_nil, or_false] at hc
  rcases hc with rfl | rfl | rfl | rfl | rfl
  ·exact ⟨_, h1, fun v z => by cases z⟩
  ·exact ⟨_, h2, fun v z => by cases z⟩
  ·exact ⟨_, h3, fun v z => by cases z⟩
  ·exact h4.ob
  ·exact h5.ob
 keep := fun i h h' st k => by
  obtain ⟨h1, h2, ⟨u, v, h3⟩, h4, h5⟩ := st
  exact ⟨k z (by simp) _ h1, k TI (by simp) _ h2, ⟨u, v, k TO (by simp) _ h3⟩, h4.keep fun o e => k i1 (by simp) o e, h5.keep fun o e => k i2 (by simp) o e⟩
 item := by
  intro X hP hw hK hc i pins s σ H E I hf st hg
  subst hP hw hK
  obtain ⟨h1, h2, ⟨u, v, h3⟩, h4, h5⟩ := st
  obtain ⟨xs, ys, x, y, q1, q2, hx, hy⟩ := hg
  obtain ⟨its, r1, p1, _⟩ := I.sq q1
  obtain ⟨jts, r2, p2, _⟩ := I.sq q2
  obtain ⟨ux, ex, rx⟩ := r1.get hx
  obtain ⟨uy, ey, ry⟩ := r2.get hy
  have fz := hf z (by simp)
  have fTI := hf TI (by simp)
  have fTO := hf TO (by simp)
  have f1 := hf i1 (by simp)
  have f2 := hf i2 (by simp)
  have Dd : Apart z TI TO i1 i2 a b := ⟨D.1, D.2, ⟨I.sq_ne q1 fz, I.sq_ne q1 fTO, I.sq_ne q1 f1, I.sq_ne q1 f2⟩, ⟨I.sq_ne q2 fz, I.sq_ne q2 fTO, I.sq_ne q2 f1, I.sq_ne q2 f2⟩⟩
  have hT : s.TypeIs (.ref z) "zip" := ⟨_, h1, rfl⟩
  unfold pyNext
  refine wpAny_bind (wpAny_attempt (wpAny_callSpecial?_slot (name := Str.ofString "__next__") hT F.slot_zip_next (wpAny_call_entry F.slot_zip_next hT F.entry_zip_next (z9u Dd h1 h2 h3 (h4.src p1) (h5.src p2) (by simpa using ex) (by simpa using ey) fun h' a1 a2 a3 a4 a5 a6 => wpAny_pure ?_) (F.args_zip_next_1 _))))
  refine ⟨_, rfl, wpAny_letOwnedTupleGo_zip a1 fun h2' b1 b2 => ?_⟩
  have lt : ∀ {c o}, s.heap.get? c = some o → s.heap.objs.size ≠ c := fun e => Nat.ne_of_gt (Heap.lt_size e)
  have nz := lt h1
  have hk : ∀ c o, c ∉ [z, TI, TO, i1, i2] → s.heap.get? c = some o → h2'.get? c = some o := fun c o hcn e => by
   simp only [List.mem_cons, List.not_mem_nil, or_false, not_or] at hcn
   exact b2.extBut c o hcn.1 (a6 c o hcn.1 hcn.2.2.1 hcn.2.2.2.1 hcn.2.2.2.2 e)
  have hTI' : h2'.get? TI = s.heap.get? TI := by
   rw [h2]
   exact b2.extBut _ _ D.1.1 (a6 TI _ D.1.1 D.2.1 D.2.2.1 D.2.2.2.1 h2)
  have I1 : Inv X pins σ H { s with heap := h2' } := by
   refine I.step (g' := s.gens) (d' := s.drawn) (t' := s.toks) (ch := [z, TI, TO, i1, i2]) (fun c hcm => ?_) (fun c o _ _ hcn e _ => hk c o hcn e) (fun c o _ _ hcn e _ => ⟨o.slots, hk c o hcn e⟩) (fun _ _ _ _ n => n)
    (fun c o hcn e => ⟨o, hk c o hcn e⟩) (fun _ _ e => e) (fun _ _ _ e => e) (fun c ps e => ⟨#[], by rw [e]; simp⟩) (fun m hm => ?_) (fun c u' e => ?_) I.bare
   ·obtain ⟨_, g1, _, g3, g4, g5⟩ := hf c hcm
    exact ⟨g3, g1, g4, g5⟩
   ·obtain ⟨o, es', ep, ho, r⟩ := hm
    exact ⟨o, es', ep, hk _ o (fun hm' => (hf _ hm').2.1 rfl) ho, r⟩
   ·have nin : ∀ c' u'', H c' = some u'' → c' ∉ [z, TI, TO, i1, i2] := fun c' u'' e' hm' => by rw [(hf _ hm').1] at e'; cases e'
    refine (I.hok c u' e).stay (fun c' v' hc' q => hk c' v' ?_ q) (fun _ q => q) fun _ _ q => q
    rcases hc' with rfl | hc'
    ·exact nin _ _ e
    ·exact nin _ _ hc'
  have hp : IsPair h2' s.heap.objs.size ux uy := b2.extBut _ _ nz a5
  have fp0 : H s.heap.objs.size = none := I.hok.fresh (Nat.le_refl _)
  have nfp : s.heap.objs.size ∉ [z, TI, TO, i1, i2] := fun hm => by
   obtain ⟨o, e, _⟩ : ∃ o, s.heap.get? s.heap.objs.size = some o ∧ True := by
    simp only [List.mem_cons, List.not_mem_nil, or_false] at hm
    rcases hm with q | q | q | q | q
    ·exact ⟨_, by rw [q]; exact h1, trivial⟩
    ·exact ⟨_, by rw [q]; exact h2, trivial⟩
    ·exact ⟨_, by rw [q]; exact h3, trivial⟩
    ·obtain ⟨o, e, _⟩ := h4.ob; exact ⟨o, by rw [q]; exact e, trivial⟩
    ·obtain ⟨o, e, _⟩ := h5.ob; exact ⟨o, by rw [q]; exact e, trivial⟩
   exact absurd (Heap.lt_size e) (Nat.lt_irrefl _)
  have I2 : Inv X pins σ (upd H s.heap.objs.size (.tup [x, y])) { s with heap := h2' } := by
   refine I1.step (s := { s with heap := h2' }) (g' := s.gens) (d' := s.drawn) (t' := s.toks) (h' := h2') (ch := [s.heap.objs.size]) (fun c hcm => ?_) (fun c o _ _ _ e _ => e) (fun c o _ _ _ e _ => ⟨o.slots, e⟩) (fun c o hcn e n => ?_)
    (fun c o _ e => ⟨o, e⟩) (fun c xs' e => ?_) (fun c o u' e => ?_) (fun c ps e => ⟨#[], ?_⟩) (fun m hm => hm) (fun c u' e => ?_) I.bare
   ·have e : c = s.heap.objs.size := by simpa using hcm
    subst e
    obtain ⟨_, g1, _, g3, g4, g5⟩ := I.fpOk (Nat.le_refl _) fp0
    exact ⟨g3, g1, g4, g5⟩
   ·rw [q1q (by simpa using hcn)]; exact n
   ·rw [q1q (q1u e fp0)]; exact e
   ·rw [q1q (q1u e fp0)]; exact e
   ·rw [q1q (q1u e fp0), e]; simp
   ·by_cases hcs : c = s.heap.objs.size
    ·subst hcs
     rw [q0e] at e
     cases e
     exact ⟨by simp [sizeLine_eq], [ux, uy], .cons rx (.cons ry .nil), ⟨_, hp, rfl, _, rfl⟩⟩
    ·rw [q1q hcs] at e
     exact (I1.hok c u' e).stay (fun _ _ _ q => q) (fun c' q => by rw [q1q (q1u q fp0)]; exact q) fun c' xs' q => by rw [q1q (q1u q fp0)]; exact q
  refine ⟨.ref s.heap.objs.size, _, I2, rfl, ⟨s.heap.objs.size, x, y, rfl, fp0, rfl, fun xs' q' => by rw [I.sq_inj q' q1]; exact hx, fun ys' q' => by rw [I.sq_inj q' q2]; exact hy⟩, ?_, fun c hcm => ?_⟩
  ·exact ⟨b1, hTI'.trans h2, ⟨ux, uy, b2.extBut _ _ D.1.2.1 a2⟩, (Src.it a3).keep fun o e => b2.extBut _ o D.1.2.2.1 e, (Src.it a4).keep fun o e => b2.extBut _ o D.1.2.2.2 e⟩
  ·rw [q1q (fun q => nfp (by rw [← q]; exact hcm))]; exact (hf c hcm).1
 done := by
  intro X hP hw hK hc i pins s σ H E I hf st hg
  subst hP hw hK
  obtain ⟨h1, h2, ⟨u, v, h3⟩, h4, h5⟩ := st
  obtain ⟨xs, ys, q1, q2, he⟩ := hg
  obtain ⟨its, r1, p1, _⟩ := I.sq q1
  obtain ⟨jts, r2, p2, _⟩ := I.sq q2
  have Dd : Apart z TI TO i1 i2 a b := ⟨D.1, D.2, ⟨I.sq_ne q1 (hf z (by simp)), I.sq_ne q1 (hf TO (by simp)), I.sq_ne q1 (hf i1 (by simp)), I.sq_ne q1 (hf i2 (by simp))⟩, ⟨I.sq_ne q2 (hf z (by simp)), I.sq_ne q2 (hf TO (by simp)), I.sq_ne q2 (hf i1 (by simp)), I.sq_ne q2 (hf i2 (by simp))⟩⟩
  have l1 := r1.length
  have l2 := r2.length
  have hend : its.toArray[i]? = none ∨ jts.toArray[i]? = none := by
   rcases he with e | e
   ·exact .inl (by simp; omega)
   ·exact .inr (by simp; omega)
  have hT : s.TypeIs (.ref z) "zip" := ⟨_, h1, rfl⟩
  unfold pyNext
  refine wpAny_bind (wpAny_attempt (wpAny_callSpecial?_slot (name := Str.ofString "__next__") hT F.slot_zip_next (wpAny_call_entry F.slot_zip_next hT F.entry_zip_next (j3d (I.ok.hd hc) Dd h1 h2 h3 (h4.src p1) (h5.src p2) hend fun h' e kk hx => ?_) (F.args_zip_next_1 _))))
  obtain ⟨o, ho, hcl⟩ := hx
  refine wpAny_bind (wpAny_isInstance (T := "StopIteration") (b := true) ⟨o, ho, hcl⟩ isSubtype_stop (wpAny_pure ⟨rfl, ?_⟩))
  have hk : ∀ c o, c ∉ [z, TI, TO, i1, i2] → s.heap.get? c = some o → h'.get? c = some o := fun c o hcn e => by
   simp only [List.mem_cons, List.not_mem_nil, or_false, not_or] at hcn
   exact kk c o hcn.1 hcn.2.2.1 hcn.2.2.2.1 hcn.2.2.2.2 e
  refine I.step (g' := s.gens) (d' := s.drawn) (t' := s.toks) (ch := [z, TI, TO, i1, i2]) (fun c hcm => ?_) (fun c o _ _ hcn e _ => hk c o hcn e) (fun c o _ _ hcn e _ => ⟨o.slots, hk c o hcn e⟩) (fun _ _ _ _ n => n)
   (fun c o hcn e => ⟨o, hk c o hcn e⟩) (fun _ _ e => e) (fun _ _ _ e => e) (fun c ps e => ⟨#[], by rw [e]; simp⟩) (fun m hm => ?_) (fun c u' e => ?_) I.bare
  ·obtain ⟨_, g1, _, g3, g4, g5⟩ := hf c hcm
   exact ⟨g3, g1, g4, g5⟩
  ·obtain ⟨o, es', ep, ho, r⟩ := hm
   exact ⟨o, es', ep, hk _ o (fun hm' => (hf _ hm').2.1 rfl) ho, r⟩
  ·have nin : ∀ c' u'', H c' = some u'' → c' ∉ [z, TI, TO, i1, i2] := fun c' u'' e' hm' => by rw [(hf _ hm').1] at e'; cases e'
   refine (I.hok c u' e).stay (fun c' v' hc' q => hk c' v' ?_ q) (fun _ q => q) fun _ _ q => q
   rcases hc' with rfl | hc'
   ·exact nin _ _ e
   ·exact nin _ _ hc'
 self := fun _ _ _ _ _ st h => wpAny_pyIter_zip st.1 h
noncomputable def w3c (K : PySem.W.Frag) (t1 t2 : Bool) (ta : TA) : TI := fun σ H R => ta σ H fun vs H1 => ∃ a b xs ys, vs = [.ref a, .ref b] ∧ SqB t1 K H1 a xs ∧ SqB t2 K H1 b ys ∧ R (Itz K t1 t2 a b) H1
theorem z5y (n : Nat) : (n + 2 ≠ n + 4 ∧ n + 3 ≠ n + 4 ∧ n ≠ n + 4 ∧ n + 1 ≠ n + 4) ∧ n + 2 ≠ n + 3 ∧ n + 2 ≠ n ∧ n + 2 ≠ n + 1 ∧ n + 3 ≠ n ∧ n + 3 ≠ n + 1 ∧ n ≠ n + 1 := by omega
theorem z7r (n x : Nat) (h : x = n + 4 ∨ x = n + 2 ∨ x = n + 3 ∨ x = n ∨ x = n + 1) : n ≤ x := by omega
theorem j0p : bootBuiltins "zip" = some (.type "zip") := by decide +kernel
theorem z1l {X : Cx} {es0 : List Expr} {k0 : Nat} {tp : Pos} {a b : Expr} {ta : TA} {p pos : Pos} {t1 t2 : Bool} (hg : Gl X "zip") (hm : X.mg "zip" = none) (ha : PA X [a, b] ta)
  (hs : starEach [a, b] X.env = [(false, eval a X.env), (false, eval b X.env)] := by rfl) (hs2 : starEach [b] X.env = [(false, eval b X.env)] := by rfl) :
  PI X (.Tuple es0 k0 tp) (.Call (.Name "zip" p) [a, b] [] pos) (w3c X.K t1 t2 ta) := by
 intro pins s σ H R I h
 refine Call_ (x5l I hg hm j0p (PyProof.Rows.callWith_type1 (thn (ha pos pins s σ H _ I h) fun us s1 ⟨vs, H1, I1, r1, q1⟩ => ?_) (by rw [hs, hs2]) (by rw [hs2]; rfl)))
 obtain ⟨c, d, xs, ys, e, q1, q2, q⟩ := q1
 subst e
 obtain ⟨u, u', rfl, ru, ru'⟩ := z3y r1
 cases ru
 cases ru'
 obtain ⟨its, _, p1, _⟩ := I1.sq q1
 obtain ⟨jts, _, p2, _⟩ := I1.sq q2
 refine z5v p1 p2 fun h' a1 a2 a3 a4 a5 kk => ?_
 refine wpAny_pyIter_zip (s := { s1 with heap := h' }) a1 ?_
 have I2 : Inv X pins σ H1 { s1 with heap := h' } := I1.kept (t' := s1.toks) kk
 refine ⟨_, [s1.heap.objs.size + 4, s1.heap.objs.size + 2, s1.heap.objs.size + 3, s1.heap.objs.size, s1.heap.objs.size + 1], _, _, H1, rfl, I2, z9t (t1 := t1) (t2 := t2) (a := c) (b := d) (z5y _),
  ⟨a1, a2, ⟨_, _, a3⟩, Src.it a4, Src.it a5⟩, fun x hx => ?_, q⟩
 have hge : s1.heap.objs.size ≤ x := by
  simp only [List.mem_cons, List.not_mem_nil, or_false] at hx
  exact z7r _ _ hx
 exact I1.fpOk hge (I1.hok.fresh hge)
section
variable {X : Cx} {a b : Expr} {ta tb : TE} {pos : Pos}
theorem x0t (hc : X.calm = true) : q9h X (.builtin "all") (fun xs H Q => ∃ p, ∃ bs : List Bool, xs = [.ref p] ∧ SqL X.K H p (bs.map V.bl) ∧ Q (.bl (bs.all id)) H) := by
 intro pins s σ H xs us Q I r h
 obtain ⟨p, bs, rfl, hq, q⟩ := h
 obtain ⟨u, rfl, rx⟩ := q8a r
 cases rx
 obtain ⟨its, rv, pl, hz⟩ := I.list hq
 have hl := pl.isList
 have hlt : p < s.heap.objs.size := by obtain ⟨_, e, _⟩ := hl; exact Heap.lt_size e
 have hlen : bs.length = its.length := by rw [← rv.length, List.length_map]
 refine call_all_walk (wpAny_pyIter_list hl ?_)
 refine ⟨s.heap.objs.size, [s.heap.objs.size, p], [s.heap.objs.size], its.toArray.size, _, _, fun i => (bs[i]?).getD true, rfl, Walks.list (A := X.A.in1) (I.ok.hd hc) _ p (Nat.ne_of_lt hlt) its.toArray,
  ⟨⟨_, Heap.get?_push_size _ rfl, rfl, rfl⟩, hl.push _⟩, fun i v s' Q' E' hP hQ => ?_, fun h' tk hk => ?_⟩
 ·have hP' : its[i]? = some v := by simpa using hP
  have hi : i < bs.length := by rw [hlen]; exact (List.getElem?_eq_some_iff.mp hP').1
  obtain ⟨u', e', r'⟩ := rv.get (i := i) (x := V.bl bs[i]) (by simp [hi])
  rw [hP'] at e'
  cases e'
  cases r'
  have e2 : (bs[i]?).getD true = bs[i] := by simp [hi]
  have hQ2 : Q' ((bs[i]?).getD true) s' := hQ
  rw [e2] at hQ2
  exact wpAny_truthy_bool hQ2
 ·have e : ((List.range its.toArray.size).all fun i => (bs[i]?).getD true) = bs.all id := by
   rw [List.size_toArray, ← hlen]
   rw [Bool.eq_iff_iff]
   simp only [List.all_eq_true, List.mem_range, id]
   constructor
   ·intro h x hx
    obtain ⟨i, hi, rfl⟩ := List.mem_iff_getElem.mp hx
    have := h i hi
    simpa [hi] using this
   ·intro h i hi
    have := h bs[i] (List.getElem_mem hi)
    simpa [hi] using this
  rw [e]
  refine ⟨.bl (bs.all id), H, I.kept (t' := tk) fun b x e => ?_, rfl, q⟩
  exact hk b x (fun hm => by rw [List.mem_singleton.mp hm] at e; exact Nat.lt_irrefl _ (Heap.lt_size e)) (Heap.get?_push_of_some _ e)
noncomputable def w2m (K : PySem.W.Frag) : List V → Hp → VK → Prop := fun xs H Q => ∃ x c t k, xs = [x, .ty c] ∧ TyOf K H x t ∧ PySem.W.kitOne K t (.type c) = some k ∧ Q (.bl k) H
theorem q2a : q9h X (.builtin "isinstance") (w2m X.K) := by
 intro pins s σ H xs us Q I r h
 obtain ⟨x, c, t, k, rfl, ty, e, q⟩ := h
 obtain ⟨u, u', rfl, rx, rc⟩ := z3y r
 cases rc
 exact z4w I rx ty e fun tk => ⟨.bl k, H, I.tok tk, rfl, q⟩
noncomputable def j6m (f : Addr) (sp : Sp) (E : XK) (tf : TE) (t : TA) : TE := fun σ H Q => tf σ H fun x H1 => x = .ref f ∧ t σ H1 fun vs H2 => sp (vs ++ []) H2 Q E
theorem z9a {CX : CXT} {k : Nat} {f : Addr} {fd : FuncData} {ps : List Str} {sp : Sp} {E : XK} {x : Str} {p : Pos} {e : Expr} {es : List Expr} {tf : TE} {t : TA} (F : FnOk X.prog X.w X.K X.mg X.base CX k f fd ps sp) (hr : Room k X.A)
  (hk : PySem.W.keepIn X.K (.ref f) = true) (hb : q5i X.K fd ps []) (hx : x1t CX X E) (hf : PE X (.Name x p) tf) (ha : PA X (e :: es) t)
  (he : starEach (e :: es) X.env = (false, eval e X.env) :: starEach es X.env := by rfl) (hpl : (backTo pos (starEach es X.env)).any (·.1) = false := by rfl) :
  PE X (.Call (.Name x p) (e :: es) [] pos) (j6m f sp E tf t) := by
 intro pins s σ H Q I h
 refine wpAny_Call_Name_kw (thn (hf pins s σ H _ I h) fun u s0 ⟨v, H0, I0, r0, e0, q0⟩ => ?_)
 subst e0
 cases r0
 refine PySem.W.callWith_K (h₀ := X.base) I.ok.mod.kin hk (thn (ha pos pins s0 σ H0 _ I0 q0) fun us s1 ⟨vs, H1, I1, r, q⟩ => ⟨I1.kIn, ?_⟩) he hpl
 exact z2b F hr hb .nil hx I1 r q
theorem x3x : OpR X (compareOp .LtE) (fun x y H Q => ∃ i j, x = .str i ∧ y = .str j ∧ Q (.bl (!decide (j.cps.toList < i.cps.toList))) H) := by
 intro pins s σ H x y v u Q I rx ry h
 obtain ⟨i, j, rfl, rfl, q⟩ := h
 obtain ⟨t, rfl⟩ := rx
 obtain ⟨t', rfl⟩ := ry
 exact PySem.P.le_str ⟨.bl _, H, I, rfl, q⟩
theorem j3z : MtR X "str.find" (fun x xs H Q => ∃ z y, x = .str z ∧ xs = [.str y] ∧ Q (.int (Txt.find z y)) H) := by
 intro pins s σ H x xs v us Q I rx rv h
 obtain ⟨z, y, rfl, rfl, q⟩ := h
 obtain ⟨t, rfl⟩ := rx
 obtain ⟨u, rfl, t', rfl⟩ := q8a rv
 exact SC.find ⟨.int _, H, I.tok _, ⟨_, rfl⟩, q⟩
theorem x5q : OpR X (binaryOp .Mult) (fun x y H Q => ∃ z n, x = .str z ∧ y = .int n ∧ z.length ≤ 1000 ∧ n ≤ 1000 ∧ -1000 ≤ n ∧ Q (.str (Txt.mul z n)) H) := by
 intro pins s σ H x y v u Q I rx ry h
 obtain ⟨z, n, rfl, rfl, hz, hn, hn2, q⟩ := h
 obtain ⟨t, rfl⟩ := rx
 obtain ⟨t', rfl⟩ := ry
 refine SB.mul ⟨?_, fun h1 _ => ?_, fun h1 _ => ?_⟩ fun t' k => ⟨.str _, H, I.tok _, ⟨_, rfl⟩, q⟩
 ·rw [decide_eq_false (by omega), decide_eq_false (by omega)]; rfl
 ·have h2 : (1000000 : Int) ≤ (2 ^ 63 - 1) / n := by
   rw [Int.le_ediv_iff_mul_le (by omega)]
   omega
  omega
 ·unfold Builtin.Str.tooLong
  have : z.length * n.toNat ≤ 1000 * 1000 := Nat.mul_le_mul hz (by omega)
  have e := sizeLine_eq
  exact decide_eq_false (by omega)
noncomputable def z8s : List V → List V → Bool
 | [], [] => true
 | x :: xs, y :: ys => eqV x y && z8s xs ys
 | _, _ => false
theorem z1c : ∀ {xs ys : List V}, xs.length ≠ ys.length → z8s xs ys = false
 | [], [], h => absurd rfl h
 | [], _ :: _, _ => rfl
 | _ :: _, [], _ => rfl
 | x :: xs, y :: ys, h => by
  rw [z8s, z1c (fun e => h (by simp [e])), Bool.and_false]
theorem x5d : ∀ {xs ys : List V}, xs.length = ys.length → (List.range xs.length).all (fun j => eqV (xs.getD j .non) (ys.getD j .non)) = z8s xs ys
 | [], [], _ => rfl
 | x :: xs, y :: ys, h => by
  have h' : xs.length = ys.length := by simpa using h
  rw [z8s, ← x5d h', List.length_cons, List.range_succ_eq_map, List.all_cons, List.all_map]
  rfl
theorem j1n (hu : X.A.units < cLine) : OpR X (compareOp .Eq) (fun x y H Q => ∃ p q xs ys, x = .ref p ∧ y = .ref q ∧ SqL X.K H p xs ∧ SqL X.K H q ys ∧ xs.all x4h = true ∧ ys.all x4h = true ∧ Q (.bl (z8s xs ys)) H) := by
 intro pins s σ H x y v u Q I rx ry h
 obtain ⟨p, q', xs, ys, rfl, rfl, h1, h2, f1, f2, q⟩ := h
 cases rx
 cases ry
 obtain ⟨its, r1, pl1, _⟩ := I.list h1
 obtain ⟨jts, r2, pl2, _⟩ := I.list h2
 by_cases hl : xs.length = ys.length
 ·refine SeqAt.eq_listAt (e := fun j => eqV (xs.getD j .non) (ys.getD j .non)) pl1.isList pl2.isList (by simp [← r1.length, ← r2.length, hl]) hu (fun j g1 g2 => ?_) ⟨.bl (z8s xs ys), H, I, ?_, q⟩
  ·have j1 : j < xs.length := by rw [r1.length]; simpa using g1
   have j2 : j < ys.length := by rw [r2.length]; simpa using g2
   obtain ⟨u1, e1, ru1⟩ := r1.get (i := j) (x := xs[j]) (by simp [j1])
   obtain ⟨u2, e2, ru2⟩ := r2.get (i := j) (x := ys[j]) (by simp [j2])
   have z1 : its.toArray[j] = u1 := by
    have := (List.getElem?_eq_some_iff.mp e1).2
    simpa using this
   have z2 : jts.toArray[j] = u2 := by
    have := (List.getElem?_eq_some_iff.mp e2).2
    simpa using this
   rw [z1, z2]
   have w1 : xs.getD j .non = xs[j] := by simp [j1]
   have w2 : ys.getD j .non = ys[j] := by simp [j2]
   show SeqAt.EqAt _ _ _ _ (eqV (xs.getD j .non) (ys.getD j .non))
   rw [w1, w2]
   exact j1o ru1 ru2 (List.all_eq_true.mp f1 _ (List.getElem_mem j1)) (List.all_eq_true.mp f2 _ (List.getElem_mem j2))
  ·rw [List.size_toArray, ← r1.length, x5d hl]; rfl
 ·refine SeqAt.eq_list_lengthsAt pl1.isList pl2.isList (by simp [← r1.length, ← r2.length, hl]) hu ⟨.bl (z8s xs ys), H, I, ?_, q⟩
  rw [z1c hl]; rfl
end
section
variable {prog : Program} {w : World} {A : Around} {E : Value → Shared → Prop} {s : Shared}
end
noncomputable def j6q : R2 := fun x y H Q => ∃ a b xs ys, x = .ref a ∧ y = .ref b ∧ H a = some (.tup xs) ∧ H b = some (.tup ys) ∧ xs.length + ys.length ≤ sizeLine ∧ ∀ p H', H' p = some (.tup (xs ++ ys)) → q0y H H' → Q (.ref p) H'
theorem q6a {X : Cx} : OpR X (binaryOp .Add) j6q := by
 intro pins s σ H x y v u Q I rx ry h
 obtain ⟨a, b, xs, ys, rfl, rfl, ha, hb, hz, q⟩ := h
 by_cases hx : xs = []
 ·subst hx
  cases rx
  cases ry
  obtain ⟨its, r1, p1, _⟩ := I.tuple (SqT.of ha)
  obtain ⟨its2, r2, p2, _⟩ := I.tuple (SqT.of hb)
  have e1 : its = [] := r1.nil_iff.mpr rfl
  obtain ⟨⟨cls, dd, data, sl⟩, ho, hc, n, hd⟩ := id p1
  obtain ⟨⟨cls2, dd2, data2, sl2⟩, ho2, hc2, n2, hd2⟩ := id p2
  simp only at hc hd hc2 hd2
  subst hc hd hc2 hd2
  exact concat_meets ⟨_, ho, rfl⟩ ⟨_, ho2, rfl⟩ noFill_tuple_add seq_tuple_add PySem.F.slot_tuple_add PySem.F.entry_tuple_add (PySem.F.args_tuple_add_2 _ _)
   (tuple_addW0 a b its.toArray its2.toArray n n2 dd dd2 sl sl2 (by simp [e1])) ⟨ho, ho2, ⟨.ref b, H, I, rfl, q b H (by simpa using hb) (q0y.refl _)⟩⟩
 ·refine j4c pins s σ H (.ref a) (.ref b) v u Q I rx ry ⟨a, b, xs, ys, rfl, rfl, SqT.of ha, SqT.of hb, hx, hz, fun e => ?_, fun _ p hp => ?_⟩
  ·subst e
   exact q a H (by simpa using ha) (q0y.refl _)
  ·exact q p _ q0e fun c o e => by rw [q1q (q1u e hp)]; exact e
theorem PT.weak {X : Cx} {e : Expr} {t t' : TT} (h : PT X e t) (w : ∀ σ H Q, t' σ H Q → t σ H Q) : PT X e t' := fun pins s σ H Q I q => h pins s σ H Q I (w σ H Q q)
end L2
namespace Kp
open PySem PyProof.Rows
noncomputable def q9i (c : Nat) : Bool := decide (97 ≤ c) && decide (c ≤ 122)
noncomputable def abc : Str := "abcdefghijklmnopqrstuvwxyz"
theorem j2x : abc.cps = #[97,98,99,100,101,102,103,104,105,106,107,108,109,110,111,112,113,114,115,116,117,118,119,120,121,122] := by decide +kernel
theorem j2e : ∀ (i : Nat), i < 26 → abc.cps[i]? = some (97 + i) := by rw [j2x]; decide
theorem j4i : abc.length = 26 := by decide +kernel
theorem j4r (x : Str) (c i : Nat) : Builtin.Str.subAt x ⟨#[c]⟩ i = true ↔ x.cps[i]? = some c := by
 unfold Builtin.Str.subAt
 have l1 : (⟨#[c]⟩ : Str).length = 1 := rfl
 rw [l1, beq_iff_eq]
 show x.cps.extract i (i + 1) = #[c] ↔ _
 by_cases h : i < x.cps.size
 ·have e : x.cps.extract i (i + 1) = #[x.cps[i]] := by
   apply Array.ext
   ·simp; omega
   ·intro j h1 h2
    have : j = 0 := by simp at h2; omega
    subst this
    simp
  rw [e, Array.getElem?_eq_getElem h]
  simp
 ·have e : x.cps.extract i (i + 1) = #[] := by
   apply Array.ext
   ·simp; omega
   ·intro j h1 h2; simp at h2
  rw [e, Array.getElem?_eq_none (by omega)]
  simp
theorem z2k (c : Nat) : (Txt.find abc ⟨#[c]⟩ < 0) ↔ q9i c = false := by
 have at_iff : ∀ i, StrLaws.At abc ⟨#[c]⟩ abc.length i ↔ i < 26 ∧ c = 97 + i := by
  intro i
  unfold StrLaws.At
  rw [j4r, j4i]
  constructor
  ·rintro ⟨h1, h2⟩
   have h3 : i < 26 := by have : (⟨#[c]⟩ : Str).length = 1 := rfl; omega
   rw [j2e i h3] at h2
   exact ⟨h3, (Option.some.inj h2).symm⟩
  ·rintro ⟨h1, rfl⟩
   exact ⟨by have : (⟨#[97 + i]⟩ : Str).length = 1 := rfl; omega, j2e i h1⟩
 have low : q9i c = true ↔ 97 ≤ c ∧ c ≤ 122 := by unfold q9i; simp
 rcases find_whole abc ⟨#[c]⟩ with ⟨e, h⟩ | ⟨i, e, h, _⟩
 ·rw [e]
  constructor
  ·intro _
   cases hl : q9i c with
   | false => rfl
   | true =>
    obtain ⟨a, b⟩ := low.mp hl
    exact absurd ((at_iff (c - 97)).mpr ⟨by omega, by omega⟩) (h _)
  ·intro _; decide
 ·rw [e]
  obtain ⟨h1, h2⟩ := (at_iff i).mp h
  constructor
  ·intro z; omega
  ·intro z
   have : q9i c = true := low.mpr ⟨by omega, by omega⟩
   rw [this] at z; cases z
theorem w2w (c : Nat) : (!decide ((⟨#[c]⟩ : Str).cps.toList < ("a" : Str).cps.toList)) = decide (97 ≤ c) := by
 have e : ("a" : Str).cps.toList = [97] := by decide +kernel
 rw [e]
 show (!decide ([c] < [97])) = _
 have : ([c] < [97]) ↔ c < 97 := by
  constructor
  ·intro h
   cases h with
   | rel h => exact h
   | cons h => cases h
  ·intro h; exact List.Lex.rel h
 rw [Bool.eq_iff_iff]
 simp only [Bool.not_eq_true', decide_eq_false_iff_not, decide_eq_true_eq, this]
 omega
theorem w2x (c : Nat) : (!decide (("z" : Str).cps.toList < (⟨#[c]⟩ : Str).cps.toList)) = decide (c ≤ 122) := by
 have e : ("z" : Str).cps.toList = [122] := by decide +kernel
 rw [e]
 show (!decide ([122] < [c])) = _
 have : ([122] < [c]) ↔ 122 < c := by
  constructor
  ·intro h
   cases h with
   | rel h => exact h
   | cons h => cases h
  ·intro h; exact List.Lex.rel h
 rw [Bool.eq_iff_iff]
 simp only [Bool.not_eq_true', decide_eq_false_iff_not, decide_eq_true_eq, this]
 omega
inductive D where
 | non | bl (b : Bool) | int (i : Int) | str (x : Str) | tup (xs : List D) | lst (xs : List D)
noncomputable def q2y : D → Bool
 | .str x => (decide (1 ≤ x.length) && decide (x.length ≤ 8)) && x.cps.toList.all q9i
 | _ => false
noncomputable def q1y : D → Bool
 | .str x => if x = "" ∨ 8 < x.length then false else (x.cps.toList.filter fun c => !q9i c).isEmpty
 | _ => false
theorem z4s (x : Str) : x = "" ↔ x.length = 0 := by
 constructor
 ·rintro rfl; rfl
 ·intro h
  obtain ⟨c⟩ := x
  have : c = #[] := Array.eq_empty_of_size_eq_zero h
  subst this
  rfl
theorem j2l : ∀ d, q2y d = q1y d
 | .str x => by
  unfold q2y q1y
  dsimp only
  have e := z4s x
  by_cases h0 : x.length = 0
  ·have h1 : ¬ 1 ≤ x.length := by omega
   rw [if_pos (.inl (e.mpr h0)), decide_eq_false h1]
   rfl
  ·by_cases h8 : 8 < x.length
   ·have h1 : ¬ x.length ≤ 8 := by omega
    rw [if_pos (.inr h8), decide_eq_false h1]
    simp
   ·have h1 : 1 ≤ x.length := by omega
    have h2 : x.length ≤ 8 := by omega
    rw [if_neg (by rintro (z | z); exact h0 (e.mp z); exact h8 z), decide_eq_true h1, decide_eq_true h2]
    generalize x.cps.toList = l
    rw [Bool.eq_iff_iff]
    simp [List.isEmpty_iff, List.filter_eq_nil_iff]
 | .non => rfl
 | .bl _ => rfl
 | .int _ => rfl
 | .tup _ => rfl
 | .lst _ => rfl
noncomputable def q0g : D → Bool
 | .int i => decide (0 ≤ i) && decide (i ≤ 8)
 | _ => false
noncomputable def x0m : List Int → Bool
 | a :: b :: r => decide (a < b) && x0m (b :: r)
 | _ => true
noncomputable def q4d : List D → List Int
 | .int i :: r => i :: q4d r
 | _ :: r => q4d r
 | [] => []
noncomputable def q3m : D → Bool
 | .tup ds => ds.all q0g && ((decide (1 ≤ ds.length) && decide (ds.length ≤ 9)) && x0m (q4d ds))
 | _ => false
noncomputable def goL : List D → Int → Bool
 | [], _ => true
 | .int i :: r, l => (decide (l ≤ i) && decide (i ≤ 8)) && goL r (i + 1)
 | _ :: _, _ => false
noncomputable def q3y : D → Bool
 | .tup ds => if ds.length = 0 then false else goL ds 0
 | _ => false
theorem z6v : ∀ (ds : List D) (l : Int), l ≤ 9 → goL ds l = true → (ds.length : Int) ≤ 9 - l
 | [], l, h, _ => by simp; omega
 | .int i :: r, l, h, g => by
  simp only [goL, Bool.and_eq_true, decide_eq_true_eq] at g
  have := z6v r (i + 1) (by omega) g.2
  simp only [List.length_cons]; omega
 | .non :: _, _, _, g => by cases g
 | .bl _ :: _, _, _, g => by cases g
 | .str _ :: _, _, _, g => by cases g
 | .tup _ :: _, _, _, g => by cases g
 | .lst _ :: _, _, _, g => by cases g
theorem x9o : ∀ (ds : List D) (l : Int), 0 ≤ l → (goL ds l = true ↔ ds.all q0g = true ∧ x0m (q4d ds) = true ∧ ∀ i, (q4d ds).head? = some i → l ≤ i)
 | [], l, h => by simp [goL, x0m, q4d]
 | .int i :: r, l, h => by
  simp only [goL, Bool.and_eq_true, decide_eq_true_eq, List.all_cons, q0g, q4d, List.head?_cons, Option.some.injEq]
  constructor
  ·rintro ⟨⟨a, b⟩, c⟩
   obtain ⟨c1, c2, c3⟩ := (x9o r (i + 1) (by omega)).mp c
   refine ⟨⟨⟨by omega, b⟩, c1⟩, ?_, fun j hj => by omega⟩
   cases hr : q4d r with
   | nil => rfl
   | cons j t =>
    have := c3 j (by rw [hr]; rfl)
    rw [hr] at c2
    simp only [x0m, Bool.and_eq_true, decide_eq_true_eq]
    exact ⟨by omega, c2⟩
  ·rintro ⟨⟨⟨a, b⟩, c⟩, d, e⟩
   refine ⟨⟨e i rfl, b⟩, (x9o r (i + 1) (by omega)).mpr ⟨c, ?_, ?_⟩⟩
   ·cases hr : q4d r with
    | nil => rfl
    | cons j t =>
     rw [hr] at d
     simp only [x0m, Bool.and_eq_true, decide_eq_true_eq] at d
     exact d.2
   ·intro j hj
    cases hr : q4d r with
    | nil => rw [hr] at hj; cases hj
    | cons k t =>
     rw [hr] at hj d
     cases hj
     simp only [x0m, Bool.and_eq_true, decide_eq_true_eq] at d
     omega
 | .non :: _, _, _ => by simp [goL, q0g]
 | .bl _ :: _, _, _ => by simp [goL, q0g]
 | .str _ :: _, _, _ => by simp [goL, q0g]
 | .tup _ :: _, _, _ => by simp [goL, q0g]
 | .lst _ :: _, _, _ => by simp [goL, q0g]
theorem z0i : ∀ (ds : List D), ds.all q0g = true → ∀ i, (q4d ds).head? = some i → 0 ≤ i
 | [], _, _, h => by cases h
 | .int i :: r, h, j, e => by
  simp only [List.all_cons, q0g, Bool.and_eq_true, decide_eq_true_eq] at h
  cases e
  exact h.1.1
 | .non :: _, h, _, _ => by simp [q0g] at h
 | .bl _ :: _, h, _, _ => by simp [q0g] at h
 | .str _ :: _, h, _, _ => by simp [q0g] at h
 | .tup _ :: _, h, _, _ => by simp [q0g] at h
 | .lst _ :: _, h, _, _ => by simp [q0g] at h
theorem z8r : ∀ d, q3m d = q3y d
 | .tup ds => by
  unfold q3m q3y
  dsimp only
  by_cases h0 : ds.length = 0
  ·rw [if_pos h0, decide_eq_false (by omega : ¬ 1 ≤ ds.length)]
   simp
  ·rw [if_neg h0, Bool.eq_iff_iff]
   simp only [Bool.and_eq_true, decide_eq_true_eq]
   have g := x9o ds 0 (by omega)
   constructor
   ·rintro ⟨a, ⟨b, c⟩, d⟩
    exact g.mpr ⟨a, d, z0i ds a⟩
   ·intro h
    obtain ⟨a, d, _⟩ := g.mp h
    have := z6v ds 0 (by omega) h
    exact ⟨a, ⟨by omega, by omega⟩, d⟩
 | .non => rfl
 | .bl _ => rfl
 | .int _ => rfl
 | .str _ => rfl
 | .lst _ => rfl
theorem x3o : ∀ (ds : List D), ds.all q0g = true → ds = (q4d ds).map D.int
 | [], _ => rfl
 | .int i :: r, h => by
  rw [List.all_cons, Bool.and_eq_true] at h
  rw [q4d, List.map_cons, ← x3o r h.2]
 | .non :: _, h => by simp [q0g] at h
 | .bl _ :: _, h => by simp [q0g] at h
 | .str _ :: _, h => by simp [q0g] at h
 | .tup _ :: _, h => by simp [q0g] at h
 | .lst _ :: _, h => by simp [q0g] at h
theorem z1x : ∀ (ns : List Int), ((ns.zip ns.tail).map fun p => decide (p.1 < p.2)).all id = x0m ns
 | [] => rfl
 | [_] => rfl
 | a :: b :: r => by
  have ih := z1x (b :: r)
  simp only [List.tail_cons] at ih ⊢
  rw [List.zip_cons_cons, List.map_cons, List.all_cons, x0m, ← ih]
  rfl
end Kp
namespace Kp
open PySem L2
mutual
inductive Is (B : Nat) (H : Hp) : V → D → Prop
 | non : Is B H .non .non
 | bl (b : Bool) : Is B H (.bl b) (.bl b)
 | int (i : Int) : Is B H (.int i) (.int i)
 | str (x : Str) (h : x.length ≤ B) : Is B H (.str x) (.str x)
 | tup {a : Addr} {vs : List V} {ds : List D} (e : H a = some (.tup vs)) (l : vs.length ≤ B) (r : IsL B H vs ds) : Is B H (.ref a) (.tup ds)
 | lst {a : Addr} {vs : List V} {ds : List D} (e : H a = some (.lst vs)) (l : vs.length ≤ B) (r : IsL B H vs ds) : Is B H (.ref a) (.lst ds)
inductive IsL (B : Nat) (H : Hp) : List V → List D → Prop
 | nil : IsL B H [] []
 | cons {v : V} {d : D} {vs : List V} {ds : List D} (h : Is B H v d) (t : IsL B H vs ds) : IsL B H (v :: vs) (d :: ds)
end
mutual
theorem Is.mono {B B' : Nat} {H H' : Hp} (hB : B ≤ B') (s : q0y H H') : ∀ {v d}, Is B H v d → Is B' H' v d
 | _, _, .non => .non
 | _, _, .bl b => .bl b
 | _, _, .int i => .int i
 | _, _, .str x h => .str x (Nat.le_trans h hB)
 | _, _, .tup e l r => .tup (s _ _ e) (Nat.le_trans l hB) (IsL.mono hB s r)
 | _, _, .lst e l r => .lst (s _ _ e) (Nat.le_trans l hB) (IsL.mono hB s r)
theorem IsL.mono {B B' : Nat} {H H' : Hp} (hB : B ≤ B') (s : q0y H H') : ∀ {vs ds}, IsL B H vs ds → IsL B' H' vs ds
 | _, _, .nil => .nil
 | _, _, .cons h t => .cons (Is.mono hB s h) (IsL.mono hB s t)
end
theorem Is.same {B : Nat} {H H' : Hp} {v : V} {d : D} (h : Is B H v d) (s : q0y H H') : Is B H' v d := h.mono (Nat.le_refl _) s
theorem IsL.same {B : Nat} {H H' : Hp} {v : List V} {d : List D} (h : IsL B H v d) (s : q0y H H') : IsL B H' v d := h.mono (Nat.le_refl _) s
theorem IsL.length {B : Nat} {H : Hp} : ∀ {vs ds}, IsL B H vs ds → vs.length = ds.length
 | _, _, .nil => rfl
 | _, _, .cons _ t => by simp [IsL.length t]
theorem IsL.get {B : Nat} {H : Hp} : ∀ {vs ds} {i : Nat} {v : V}, IsL B H vs ds → vs[i]? = some v → ∃ d, ds[i]? = some d ∧ Is B H v d
 | _, _, _, _, .nil, h => by simp at h
 | _, _, 0, _, .cons h _, e => by simp at e; subst e; exact ⟨_, rfl, h⟩
 | _, _, i + 1, v, .cons _ t, e => by
  obtain ⟨d, e', h⟩ := IsL.get (i := i) (v := v) t (by simpa using e)
  exact ⟨d, by simpa using e', h⟩
noncomputable def Th (B : Nat) (H : Hp) (v : V) : Prop := ∃ d, Is B H v d
noncomputable def ThL (B : Nat) (H : Hp) (vs : List V) : Prop := ∃ ds, IsL B H vs ds
theorem ThL.nil {B : Nat} {H : Hp} : ThL B H [] := ⟨[], .nil⟩
theorem ThL.cons {B : Nat} {H : Hp} {v : V} {vs : List V} (h : Th B H v) (t : ThL B H vs) : ThL B H (v :: vs) := let ⟨d, q⟩ := h; let ⟨ds, r⟩ := t; ⟨d :: ds, .cons q r⟩
theorem Th.tup {B : Nat} {H : Hp} {a : Addr} {vs : List V} (e : H a = some (.tup vs)) (l : vs.length ≤ B) (h : ThL B H vs) : Th B H (.ref a) := let ⟨_, q⟩ := h; ⟨_, .tup e l q⟩
theorem Th.int {B : Nat} {H : Hp} (i : Int) : Th B H (.int i) := ⟨_, .int i⟩
theorem Th.bl {B : Nat} {H : Hp} (i : Bool) : Th B H (.bl i) := ⟨_, .bl i⟩
theorem Th.non {B : Nat} {H : Hp} : Th B H .non := ⟨_, .non⟩
theorem Th.str {B : Nat} {H : Hp} (x : Str) (h : x.length ≤ B) : Th B H (.str x) := ⟨_, .str x h⟩
theorem q0h {H : Hp} {p : Addr} {o : HO} (h : H p = none) : q0y H (upd H p o) := fun b u e => by rw [q1q (q1u e h)]; exact e
noncomputable def tyN : D → String
 | .non => "NoneType" | .bl _ => "bool" | .int _ => "int" | .str _ => "str" | .tup _ => "tuple" | .lst _ => "list"
theorem Is.ty {B : Nat} {H : Hp} {K : PySem.W.Frag} {v : V} {d : D} (h : Is B H v d) : TyOf K H v (.type (tyN d)) := by
 cases h with
 | non => exact .non
 | bl b => exact .bl b
 | int i => exact .int i
 | str x _ => exact .str x
 | tup e _ _ => exact .tup e
 | lst e _ _ => exact .lst e
noncomputable def isInt : D → Bool | .int _ => true | .bl _ => true | _ => false
noncomputable def z6i : D → Bool | .bl _ => true | _ => false
noncomputable def z6k : D → Bool | .str _ => true | _ => false
noncomputable def j9z : D → Bool | .tup _ => true | _ => false
theorem q8w (K : PySem.W.Frag) : ∀ d : D, PySem.W.kitOne K (.type (tyN d)) (.type "int") = some (isInt d)
 | .non => by with_unfolding_all rfl
 | .bl _ => by with_unfolding_all rfl
 | .int _ => by with_unfolding_all rfl
 | .str _ => by with_unfolding_all rfl
 | .tup _ => by with_unfolding_all rfl
 | .lst _ => by with_unfolding_all rfl
theorem q5r (K : PySem.W.Frag) : ∀ d : D, PySem.W.kitOne K (.type (tyN d)) (.type "bool") = some (z6i d)
 | .non => by with_unfolding_all rfl
 | .bl _ => by with_unfolding_all rfl
 | .int _ => by with_unfolding_all rfl
 | .str _ => by with_unfolding_all rfl
 | .tup _ => by with_unfolding_all rfl
 | .lst _ => by with_unfolding_all rfl
theorem x3a (K : PySem.W.Frag) : ∀ d : D, PySem.W.kitOne K (.type (tyN d)) (.type "str") = some (z6k d)
 | .non => by with_unfolding_all rfl
 | .bl _ => by with_unfolding_all rfl
 | .int _ => by with_unfolding_all rfl
 | .str _ => by with_unfolding_all rfl
 | .tup _ => by with_unfolding_all rfl
 | .lst _ => by with_unfolding_all rfl
theorem q5d (K : PySem.W.Frag) : ∀ d : D, PySem.W.kitOne K (.type (tyN d)) (.type "tuple") = some (j9z d)
 | .non => by with_unfolding_all rfl
 | .bl _ => by with_unfolding_all rfl
 | .int _ => by with_unfolding_all rfl
 | .str _ => by with_unfolding_all rfl
 | .tup _ => by with_unfolding_all rfl
 | .lst _ => by with_unfolding_all rfl
theorem q1s : bootBuiltins "isinstance" = some (.builtin "isinstance") := by decide +kernel
theorem q9c : bootBuiltins "int" = some (.type "int") := by decide +kernel
theorem q6c : bootBuiltins "bool" = some (.type "bool") := by decide +kernel
theorem x0p : bootBuiltins "str" = some (.type "str") := by decide +kernel
theorem q2p : bootBuiltins "tuple" = some (.type "tuple") := by decide +kernel
theorem z4m : bootBuiltins "list" = some (.type "list") := by decide +kernel
theorem q8x : bootBuiltins "all" = some (.builtin "all") := by decide +kernel
theorem q4z {X : Cx} {x : Str} {n : String} {pos : Pos} (hg : Gl X x) (hm : X.mg x = none) (hv : bootBuiltins x = some (.type n)) (hn : x ≠ "__name__" := by decide) (hd : (x == ("__debug__" : Str)) = false := by decide) : PE X (.Name x pos) (tC (.ty n)) := j3w (v := .ty n) hg hm hv rfl hn hd
theorem IsL.un {B : Nat} {H : Hp} {vs : List V} {d : D} {ds : List D} (h : IsL B H vs (d :: ds)) : ∃ v us, vs = v :: us ∧ Is B H v d ∧ IsL B H us ds := by
 cases h with | cons a b => exact ⟨_, _, rfl, a, b⟩
theorem IsL.un0 {B : Nat} {H : Hp} {vs : List V} (h : IsL B H vs []) : vs = [] := by cases h; rfl
theorem Is.vint {B : Nat} {H : Hp} {v : V} {i : Int} (h : Is B H v (.int i)) : v = .int i := by cases h; rfl
theorem Is.vbl {B : Nat} {H : Hp} {v : V} {i : Bool} (h : Is B H v (.bl i)) : v = .bl i := by cases h; rfl
theorem Is.vstr {B : Nat} {H : Hp} {v : V} {i : Str} (h : Is B H v (.str i)) : v = .str i := by cases h; rfl
theorem Is.vtup {B : Nat} {H : Hp} {v : V} {ds : List D} (h : Is B H v (.tup ds)) : ∃ a vs, v = .ref a ∧ H a = some (.tup vs) ∧ vs.length ≤ B ∧ IsL B H vs ds := by cases h with | tup e l r => exact ⟨_, _, rfl, e, l, r⟩
section
variable {X : Cx} {K : PySem.W.Frag} {pos : Pos}
theorem x2o {es : List Expr} {k : Nat} {t : TGs} {n : Nat} (hK : X.K = K) (hc : X.calm = true) (h : PGs X es t) (hn : (assignEach es X.env).length = n := by rfl) (hst : (assignEach es X.env).findIdx? (·.1) = none := by rfl) : PG X (.Tuple es k pos) (w0a K n t) := by
 subst hK
 exact x1s hc h hn hst
theorem j0y (hK : X.K = K) : IxR X (w0o K) := by subst hK; exact q5j
theorem z7l {o e : Expr} {es : List Expr} {to : TE} {t : TA} {name : Str} {apos cpos : Pos} {T id : String} {r : V → List V → Hp → VK → Prop} (hK : X.K = K) (pa : PlainAttrs T) (slot : Slot T name id) (hty : typeOf (.builtin id) = pure (.type "method_descriptor")) (hm : MtR X id r) (ho : PE X o to) (ha : PA X (e :: es) t)
  (hbase : attributeBase o name X.env (eval o X.env) = eval o X.env := by rfl)
  (hfew : ((backTo cpos (starEach (e :: es) X.env)).all (fun x => !x.1) && (backToKw cpos (keywordEach [] X.env)).all (fun x => x.1.isSome) && decide ((e :: es).length + ([] : List Keyword).length + (if ([] : List Keyword).isEmpty then 0 else 1) < 30)) = true := by rfl)
  (hline : (apos.endLine == cpos.line) = true := by rfl) (hs : starEach (e :: es) X.env = (false, eval e X.env) :: starEach es X.env := by rfl) (hplain : (backTo cpos (starEach es X.env)).any (·.1) = false := by rfl) :
  PE X (.Call (.Attribute o name apos) (e :: es) [] cpos) (tBM K T r to t) := by
 subst hK
 exact x1b pa slot hty hm ho ha hbase hfew hline hs hplain
theorem q2s {x : Str} {f : Addr} (hg : Gl X x) (hm : X.mg x = some (.ref f)) (hd : (x == ("__debug__" : Str)) = false := by decide) : PE X (.Name x pos) (tC (.ref f)) := j4b (v := .ref f) hg hm rfl hd
end
noncomputable def x3r (outer scope : Scope) : Bool := scope.kind == .function && scope.names.all fun y => y.2 != .cell && (y.2 != .local || scope.names.lookup y.1 == some .local) && (y.2 != .free || outer.names.lookup y.1 == some .cell)
theorem x9z {X : Cx} {outer scope : Scope} {NB : List Str} {n : Nat} {fr : List Nat} (hX : X.env.scope = outer) (h : x3r outer scope = true) (hl : NB.length = n + fr.length)
  (ho : ∀ (j k : Nat), fr[j]? = some k → ∃ x, NB[n + j]? = some x ∧ X.N[k]? = some x ∧ scope.names.lookup x = some .free) : CompOk X scope NB n fr := by
 unfold x3r at h
 rw [Bool.and_eq_true, List.all_eq_true] at h
 obtain ⟨h1, h2⟩ := h
 refine ⟨by simpa using h1, fun y hy => ?_, fun y hy hk => ?_, fun y hy hk => ?_, hl, ho⟩
 ·have := h2 y hy
  simp only [Bool.and_eq_true, bne_iff_ne, ne_eq] at this
  exact this.1.1
 ·have := h2 y hy
  simp only [Bool.and_eq_true, Bool.or_eq_true, bne_iff_ne, ne_eq, beq_iff_eq] at this
  exact this.1.2.resolve_left (fun z => z hk)
 ·have := h2 y hy
  simp only [Bool.and_eq_true, Bool.or_eq_true, bne_iff_ne, ne_eq, beq_iff_eq] at this
  refine .inl ?_
  show X.env.scope.names.lookup y.1 = some .cell
  rw [hX]
  exact this.2.resolve_left (fun z => z hk)
theorem q5h {X : Cx} {outer scope : Scope} {NB : List Str} {n : Nat} (hX : X.env.scope = outer) (h : x3r outer scope = true) (hl : NB.length = n + 0) : CompOk X scope NB n [] :=
 x9z hX h hl fun j k e => by simp at e
theorem z0j {X : Cx} {outer scope : Scope} {NB : List Str} {n k0 : Nat} {x : Str} (hX : X.env.scope = outer) (h : x3r outer scope = true) (hl : NB.length = n + 1) (h1 : NB[n]? = some x) (h2 : X.N[k0]? = some x) (h3 : scope.names.lookup x = some .free) : CompOk X scope NB n [k0] :=
 x9z hX h hl fun j k e => by
  cases j with
  | zero => cases e; exact ⟨x, h1, h2, h3⟩
  | succ j => simp at e
theorem x3y {X : Cx} {outer scope : Scope} {NB : List Str} {n k0 k1 : Nat} {x y : Str} (hX : X.env.scope = outer) (h : x3r outer scope = true) (hl : NB.length = n + 2) (h1 : NB[n]? = some x) (h2 : X.N[k0]? = some x) (h3 : scope.names.lookup x = some .free)
  (g1 : NB[n + 1]? = some y) (g2 : X.N[k1]? = some y) (g3 : scope.names.lookup y = some .free) : CompOk X scope NB n [k0, k1] :=
 x9z hX h hl fun j k e => by
  match j, e with
  | 0, e => cases e; exact ⟨x, h1, h2, h3⟩
  | 1, e => cases e; exact ⟨y, g1, g2, g3⟩
  | j + 2, e => simp at e
theorem q3d {J : It} {H1 : Hp} {n k : Nat} {frs : St} {g : TG} {tt : TT} {te : TE} {Q : VK} (p : Nat → Bool) (f : Nat → V) (hn : n < sizeLine)
  (go : ∀ i H, i < n → q0y H1 H → J.go i H) (stop : ∀ H, q0y H1 H → J.stop n H)
  (turn : ∀ i H t x H2 (R : St → Hp → Option V → Prop), i < n → q0y H1 H → t.length = k → J.yld i H x H2 →
   (∀ t' H', t'.length = k → q0y H H' → R (t' ++ frs) H' (if p i = true then some (f i) else none)) →
   g x (t ++ frs) H2 fun σ3 H3 => tt σ3 H3 fun b H4 => if b = true then te σ3 H4 fun v H5 => R σ3 H5 (some v) else R σ3 H4 none)
  (hq : ∀ D H', q0y H1 H' → H1 D = none → H' D = some (.lst (((List.range n).filter p).map f)) → Q (.ref D) H') : x8p (List.replicate k none ++ frs) g tt te Q J H1 := by
 intro D hD
 refine ⟨fun i m ys σ H => i ≤ n ∧ m = n - i ∧ ys = ((List.range i).filter p).map f ∧ q0y H1 H ∧ ∃ t, t.length = k ∧ σ = t ++ frs, ⟨n, Nat.zero_le _, rfl, rfl, q0h hD, _, by simp, rfl⟩, ?_⟩
 rintro i m ys σ H ⟨hi, rfl, rfl, s1, t, ht, rfl⟩ hd
 by_cases hlt : i < n
 ·right
  refine ⟨go i H hlt s1, ?_, fun x H2 y => ?_⟩
  ·refine Nat.lt_of_le_of_lt ?_ hn
   rw [List.length_map]
   exact Nat.le_trans (List.length_filter_le _ _) (by simpa using hi)
  ·have h := turn i H t x H2 (fun σ3 H5 r => match r with
    | some v => H5 D = some (.lst (((List.range i).filter p).map f)) ∧ ∃ m', m' < n - i ∧ (i + 1 ≤ n ∧ m' = n - (i + 1) ∧ ((List.range i).filter p).map f ++ [v] = ((List.range (i + 1)).filter p).map f ∧ q0y H1 (upd H5 D (.lst (((List.range i).filter p).map f ++ [v]))) ∧ ∃ t, t.length = k ∧ σ3 = t ++ frs)
    | none => H5 D = some (.lst (((List.range i).filter p).map f)) ∧ ∃ m', m' < n - i ∧ (i + 1 ≤ n ∧ m' = n - (i + 1) ∧ ((List.range i).filter p).map f = ((List.range (i + 1)).filter p).map f ∧ q0y H1 H5 ∧ ∃ t, t.length = k ∧ σ3 = t ++ frs)) hlt s1 ht y ?_
   ·exact h
   ·intro t' H' ht' s2
    cases hp : p i with
    | true =>
     rw [if_pos rfl]
     refine ⟨s2 _ _ hd, n - (i + 1), by omega, by omega, rfl, ?_, fun b o e => ?_, t', ht', rfl⟩
     ·rw [List.range_succ, List.filter_append, List.map_append]
      simp [hp]
     ·rw [q1q (q1u e hD)]; exact s2 _ _ (s1 _ _ e)
    | false =>
     rw [if_neg Bool.false_ne_true]
     refine ⟨s2 _ _ hd, n - (i + 1), by omega, by omega, rfl, ?_, s1.trans s2, t', ht', rfl⟩
     rw [List.range_succ, List.filter_append, List.map_append]
     simp [hp]
 ·have e : i = n := by omega
  subst e
  exact .inl ⟨stop H s1, hq D H s1 hD hd⟩
noncomputable def spP (f : D → Bool) : Sp := fun vs H Q _ => ∃ B v d, B ≤ 1000 ∧ vs = [v] ∧ Is B H v d ∧ ∀ H', q0y H H' → Q (.bl (f d)) H'
theorem q2d {f : D → Bool} : ∀ vs H Q E, spP f vs H Q E → vs.length = 1 := fun vs H Q E ⟨_, _, _, _, e, _⟩ => by subst e; rfl
structure Cal (P : Program) (w : World) (K : PySem.W.Frag) (mg : Str → Option Value) (base : Heap) (name : Str) (k : Nat) (ps : List Str) (sp : Sp) : Prop where
 ex : ∃ f fd, FnOk P w K mg base CX0 k f fd ps sp ∧ mg name = some (.ref f) ∧ PySem.W.keepIn K (.ref f) = true ∧ q5i K fd ps []
theorem q0i {X : Cx} {x : Str} {k : Nat} {ps : List Str} {sp : Sp} {e : Expr} {es : List Expr} {t : TA} {p pos : Pos} (C : Cal X.prog X.w X.K X.mg X.base x k ps sp) (hr : Room k X.A) (ha : PA X (e :: es) t) (hg : Gl X x := by rfl) (hdb : (x == ("__debug__" : Str)) = false := by decide) (he : starEach (e :: es) X.env = (false, eval e X.env) :: starEach es X.env := by rfl) (hpl : (backTo pos (starEach es X.env)).any (·.1) = false := by rfl) :
  PE X (.Call (.Name x p) (e :: es) [] pos) (j1l sp [] E0 t) := let ⟨_, _, F, hm, hk, hb⟩ := C.ex; q8y F hr hg hm hk hb .nil x6m ha hdb he hpl
theorem j1v {n B : Nat} (h : n ≤ B) (hB : B ≤ 1000) : n ≤ sizeLine := by rw [sizeLine_eq]; omega
noncomputable def whole (d : D) : Bool := isInt d && !z6i d
theorem x2u {d : D} (h : whole d = true) : ∃ i, d = .int i := by
 cases d with
 | int i => exact ⟨i, rfl⟩
 | _ => cases h
section
variable {X : Cx} {es : List Expr} {te : TE} {t : TA} {pos : Pos}
theorem q6s {c : Const} {k : Nat} (ha : PE X (.Constant c k pos) te) (hr : PA X es t) : PA X (.Constant c k pos :: es) (q5o te t) := q0c ha hr rfl
theorem q1i {x : Str} (ha : PE X (.Name x pos) te) (hr : PA X es t) : PA X (.Name x pos :: es) (q5o te t) := q0c ha hr rfl
theorem j6z {l : List Expr} {k : Nat} (ha : PE X (.Tuple l k pos) te) (hr : PA X es t) : PA X (.Tuple l k pos :: es) (q5o te t) := q0c ha hr rfl
theorem w0g {o : UnaryOp} {a : Expr} (ha : PE X (.UnaryOp o a pos) te) (hr : PA X es t) : PA X (.UnaryOp o a pos :: es) (q5o te t) := q0c ha hr rfl
theorem q6x {o : Operator} {a b : Expr} (ha : PE X (.BinOp a o b pos) te) (hr : PA X es t) : PA X (.BinOp a o b pos :: es) (q5o te t) := q0c ha hr rfl
theorem q7o {f : Expr} {as : List Expr} {ks : List Keyword} (ha : PE X (.Call f as ks pos) te) (hr : PA X es t) : PA X (.Call f as ks pos :: es) (q5o te t) := q0c ha hr rfl
theorem q4a {a b : Expr} (ha : PE X (.Subscript a b pos) te) (hr : PA X es t) : PA X (.Subscript a b pos :: es) (q5o te t) := q0c ha hr rfl
theorem w0h {a : Expr} {o : List CmpOp} {b : List Expr} (ha : PE X (.Compare a o b pos) te) (hr : PA X es t) : PA X (.Compare a o b pos :: es) (q5o te t) := q0c ha hr rfl
end
theorem z5n {a b : Expr} {o : Operator} {pos : Pos} : x0v (.BinOp a o b pos) := fun _ _ => rfl
theorem w0i {x : Str} {pos : Pos} : x0v (.Name x pos) := fun _ _ => rfl
theorem q2j {c : Const} {k : Nat} {pos : Pos} : x0v (.Constant c k pos) := fun _ _ => rfl
theorem w0s {o : UnaryOp} {a : Expr} {pos : Pos} : x0v (.UnaryOp o a pos) := fun _ _ => rfl
theorem w1v {l : List Expr} {p : Pos} {t : Option Expr} {n : Nat} {env : Env} : swapsWith (.List l p) t n env = pure false := rfl
theorem w0k {a b : Expr} {p : Pos} {t : Option Expr} {n : Nat} {env : Env} : swapsWith (.Subscript a b p) t n env = pure false := rfl
theorem w1z {l : List Expr} {k : Nat} {p : Pos} {t : Option Expr} {n : Nat} {env : Env} : swapsWith (.Tuple l k p) t n env = pure false := rfl
structure QA (X : Cx) (es : List Expr) (t : TA) : Prop where
 h : PA X es t
section
variable {X : Cx} {es l : List Expr} {t u : TA} {p p' : Pos} {j : Nat}
theorem q3e : QA X [] j7p := ⟨q0b⟩
theorem q5w {i : Int} (r : QA X es t) : QA X (.Constant (.int i) j p :: es) (q5o (tC (.int i)) t) := ⟨q0c q0a r.h rfl⟩
theorem j9x {i : Bool} (r : QA X es t) : QA X (.Constant (.bool i) j p :: es) (q5o (tC (.bl i)) t) := ⟨q0c q7e r.h rfl⟩
theorem q2k {i : Str} (r : QA X es t) : QA X (.Constant (.str i) j p :: es) (q5o (tC (.str i)) t) := ⟨q0c q0r r.h rfl⟩
theorem z6a (r : QA X es t) : QA X (.Constant .none j p :: es) (q5o (tC .non) t) := ⟨q0c x5b r.h rfl⟩
theorem j6r {i : Int} (r : QA X es t) : QA X (.UnaryOp .USub (.Constant (.int i) j p) p' :: es) (q5o (tUn (rU fun i => .int (-i)) (tC (.int i))) t) := ⟨q0c (x4p q9l q0a) r.h rfl⟩
theorem j1m (a : QA X l u) (r : QA X es t) : QA X (.Tuple l j p :: es) (q5o (j8l u) t) := ⟨q0c (q2r a.h) r.h rfl⟩
theorem j6u (a : QA X l u) (r : QA X es t) : QA X (.List l p :: es) (q5o (j9q u) t) := ⟨q0c (q4o a.h) r.h rfl⟩
end
structure QE (X : Cx) (e : Expr) (t : TE) : Prop where
 h : PE X e t
structure QS (X : Cx) (st : Stmt) (t : TS) : Prop where
 h : PS X st t
section
variable {X : Cx} {es : List Expr} {t : TA} {p p' pos : Pos} {j : Nat}
theorem x5a (a : QA X es t) : QE X (.List es p) (j9q t) := ⟨q4o a.h⟩
theorem z0z {i : Nat} {x : Str} {e : Expr} {te : TE} (hN : X.N.Nodup) (hi : X.N[i]? = some x) (hx : Loc X.env.scope x) (he : QE X e te) (hs : swapsWith e (some (.Name x p')) pos.line X.env = pure false) (hf : X.fn x = true ∨ X.env.scope.names.lookup x = some .local := by first | exact .inl rfl | exact .inr rfl | assumption) :
  QS X (.Assign [.Name x p'] e pos) (j7r te (z4d i)) := ⟨q1b hN hi hx he.h hs hf⟩
end
end Kp
namespace Kp
open PySem L2 PyProof.Rows
noncomputable def j9m (K : PySem.W.Frag) (w : World) (to : TE) (t : TA) : TE := fun σ H Q => to σ H fun x H1 => ∃ a es n, x = .ref a ∧ K.lookup a = some ⟨.type "dict", none, .dict es n, #[]⟩ ∧ PySem.W.KeysLit w.params es.toList ∧ (a == sysModules) = false ∧
 t σ H1 fun xs H2 => ∃ k v, xs = [.str k] ∧ q4y v ((findBy Value.isStrOf es k).getD .none) ∧ Q v H2
theorem x9s {X : Cx} {o e : Expr} {to : TE} {t : TA} {apos cpos : Pos} (ho : PE X o to) (ha : PA X [e] t)
  (hbase : attributeBase o "get" X.env (eval o X.env) = eval o X.env := by rfl)
  (hfew : ((backTo cpos (starEach [e] X.env)).all (fun x => !x.1) && (backToKw cpos (keywordEach [] X.env)).all (fun x => x.1.isSome)
   && decide ([e].length + ([] : List Keyword).length + (if ([] : List Keyword).isEmpty then 0 else 1) < 30)) = true := by rfl)
  (hline : (apos.endLine == cpos.line) = true := by rfl) (hs : starEach [e] X.env = (false, eval e X.env) :: starEach [] X.env := by rfl) :
  PE X (.Call (.Attribute o "get" apos) [e] [] cpos) (j9m X.K X.w to t) := by
 intro pins s σ H Q I h
 refine wpAny_Call_method_late hbase hfew hline rfl (thn (ho pins s σ H _ I h) fun v s1 ⟨x, H1, I1, r1, a, es, n, ex, hl, hk, hsys, q1⟩ => ?_)
 subst ex
 cases r1
 have hm := PySem.W.mapOf_K (prog := X.prog) (w := X.w) I1.kIn hl hk
 refine ⟨"dict", "dict.get", PySem.F.plainAttrs_dict, PySem.F.slot_dict_get, PySem.F.type_dict_get, hm.typeIs, fun b e => ?_, ?_⟩
 ·cases e
  exact ⟨_, I1.kIn _ _ hl, rfl⟩
 have hA := ha cpos pins s1 σ H1 _ I1 q1
 rw [hs] at hA ⊢
 refine Calls.callWith_builtin rfl (Calls.evalArgs_plain ?_)
 refine thn hA fun us s2 ⟨vs, H2, I2, r2, k, vv, e2, rv, q2⟩ => ?_
 subst e2
 obtain ⟨u, rfl, t', rfl⟩ := q8a r2
 have hm2 := PySem.W.mapOf_K (prog := X.prog) (w := X.w) I2.kIn hl hk
 exact call_meetsIn PySem.F.slot_dict_get hm2.typeIs PySem.F.entry_dict_get (PySem.F.args_dict_get_2 _ _) (meets_dict_get (strKind X.prog X.w) a (strKind_is X.prog X.w k t') hsys) ⟨_, hm2, vv, H2, I2.tok _, rv, q2⟩
structure Tl (P : Program) (w : World) (K : PySem.W.Frag) (mg : Str → Option Value) (base : Heap) (k : Nat) (g : Addr) (p : D → Bool) : Prop where
 ex : ∃ k' fd px, k' ≤ k ∧ FnOk P w K mg base CX0 k' g fd [px] (spP p) ∧ PySem.W.keepIn K (.ref g) = true ∧ q5i K fd [px] []
noncomputable def j5k (P : Program) (w : World) (K : PySem.W.Frag) (mg : Str → Option Value) (base : Heap) (k : Nat) (E : XK) (tf : TE) (t : TA) : TE := fun σ H Q => tf σ H fun x H1 => ∃ g p, x = .ref g ∧ Tl P w K mg base k g p ∧ t σ H1 fun vs H2 => spP p (vs ++ []) H2 Q E
theorem j0d {X : Cx} {P : Program} {w : World} {K : PySem.W.Frag} {mg : Str → Option Value} {base : Heap} {k : Nat} {E : XK} {x : Str} {p pos : Pos} {e : Expr} {es : List Expr} {tf : TE} {t : TA} (h1 : X.prog = P) (h2 : X.w = w) (h3 : X.K = K) (h4 : X.mg = mg) (h5 : X.base = base) (hr : Room k X.A)
  (hx : x1t CX0 X E) (hf : PE X (.Name x p) tf) (ha : PA X (e :: es) t)
  (he : starEach (e :: es) X.env = (false, eval e X.env) :: starEach es X.env := by rfl) (hpl : (backTo pos (starEach es X.env)).any (·.1) = false := by rfl) :
  PE X (.Call (.Name x p) (e :: es) [] pos) (j5k P w K mg base k E tf t) := by
 subst h1 h2 h3 h4 h5
 intro pins s σ H Q I h
 refine wpAny_Call_Name_kw (thn (hf pins s σ H _ I h) fun u s0 ⟨v, H0, I0, r0, g, p, e0, T, q0⟩ => ?_)
 subst e0
 cases r0
 obtain ⟨k', fd, px, hk', F, hk, hb⟩ := T.ex
 refine PySem.W.callWith_K (h₀ := X.base) I.ok.mod.kin hk (thn (ha pos pins s0 σ H0 _ I0 q0) fun us s1 ⟨vs, H1, I1, r, q⟩ => ⟨I1.kIn, ?_⟩) he hpl
 exact z2b F (hr.mono hk') hb .nil hx I1 r q
section
variable {P : Program} {w : World} {K : PySem.W.Frag} {mg : Str → Option Value} {base : Heap}
inductive Tls (P : Program) (w : World) (K : PySem.W.Frag) (mg : Str → Option Value) (base : Heap) (k : Nat) : List V → List (D → Bool) → Prop
 | nil : Tls P w K mg base k [] []
 | cons {g : Addr} {p : D → Bool} {gs : List V} {ps : List (D → Bool)} (h : Tl P w K mg base k g p) (t : Tls P w K mg base k gs ps) : Tls P w K mg base k (.ref g :: gs) (p :: ps)
theorem Tls.length {k : Nat} : ∀ {gs ps}, Tls P w K mg base k gs ps → gs.length = ps.length
 | _, _, .nil => rfl
 | _, _, .cons _ t => by simp [Tls.length t]
theorem Tls.get {k : Nat} : ∀ {gs ps} {i : Nat} {v : V}, Tls P w K mg base k gs ps → gs[i]? = some v → ∃ g p, v = .ref g ∧ ps[i]? = some p ∧ Tl P w K mg base k g p
 | _, _, _, _, .nil, e => by simp at e
 | _, _, 0, _, .cons h _, e => by simp at e; subst e; exact ⟨_, _, rfl, rfl, h⟩
 | _, _, i + 1, v, .cons _ t, e => by
  obtain ⟨g, p, a, b, c⟩ := Tls.get (i := i) (v := v) t (by simpa using e)
  exact ⟨g, p, a, by simpa using b, c⟩
inductive Tbl (P : Program) (w : World) (K : PySem.W.Frag) (mg : Str → Option Value) (base : Heap) (k : Nat) : List DictEntry → List (Str × List (D → Bool)) → Prop
 | nil : Tbl P w K mg base k [] []
 | cons {x : Str} {tk : Tok} {t : Addr} {gs : List V} {ps : List (D → Bool)} {es : List DictEntry} {tb : List (Str × List (D → Bool))} (hs : ∀ H : Hp, SqT K H t gs) (ht : Tls P w K mg base k gs ps) (r : Tbl P w K mg base k es tb) :
   Tbl P w K mg base k (⟨PyData.keyHash w.params x, .str x tk, .ref t⟩ :: es) ((x, ps) :: tb)
theorem Tbl.keys {k : Nat} : ∀ {es tb}, Tbl P w K mg base k es tb → PySem.W.KeysLit w.params es
 | _, _, .nil => trivial
 | _, _, .cons _ _ r => ⟨⟨_, _, rfl, rfl⟩, Tbl.keys r⟩
theorem Tbl.find {k : Nat} {x : Str} : ∀ {es tb}, Tbl P w K mg base k es tb → ∃ v, q4y v (((es.find? fun e => Value.isStrOf x e.key).map (·.val)).getD .none) ∧
  ((tb.lookup x = none ∧ v = .non) ∨ ∃ ps t gs, tb.lookup x = some ps ∧ v = .ref t ∧ (∀ H : Hp, SqT K H t gs) ∧ Tls P w K mg base k gs ps)
 | _, _, .nil => ⟨.non, rfl, .inl ⟨rfl, rfl⟩⟩
 | _, _, @Tbl.cons _ _ _ _ _ _ y tk t gs ps es tb hs ht r => by
  rw [List.find?_cons, List.lookup_cons]
  have e : Value.isStrOf x (Value.str y tk) = (x == y) := by
   show (y == x) = (x == y)
   rw [Bool.eq_iff_iff, beq_iff_eq, beq_iff_eq]
   exact eq_comm
  dsimp only
  rw [e]
  cases hx : x == y with
  | true => exact ⟨.ref t, rfl, .inr ⟨ps, t, gs, rfl, rfl, hs, ht⟩⟩
  | false => exact Tbl.find r
end
end Kp
namespace Kp
open PySem
noncomputable def geD (l : Int) : D → Bool
 | .int i => decide (l ≤ i)
 | _ => false
noncomputable def q0x : List (D → Bool) → List D → Bool
 | [], [] => true
 | p :: ps, d :: ds => p d && q0x ps ds
 | _, _ => false
noncomputable def x0l (ps : List (D → Bool)) : D → Bool
 | .tup ds => q0x ps ds
 | _ => false
noncomputable def q1o : D → Str
 | .tup (.str x :: _) => x
 | _ => ""
noncomputable def q2n (tb : List (Str × List (D → Bool))) : D → Bool
 | .tup (.str x :: r) => match tb.lookup x with
  | some ps => q0x ps r
  | none => false
 | _ => false
theorem q4x {d : D} {x : Str} (h : q1o d = x) (hx : x ≠ "") : ∃ r, d = .tup (.str x :: r) := by
 unfold q1o at h
 split at h
 ·subst h; exact ⟨_, rfl⟩
 ·exact absurd h.symm hx
theorem x3f : ∀ {ps : List (D → Bool)} {ds : List D}, ds.length ≠ ps.length → q0x ps ds = false
 | [], [], h => absurd rfl h
 | [], _ :: _, _ => rfl
 | _ :: _, [], _ => rfl
 | p :: ps, d :: ds, h => by rw [q0x, x3f (fun e => h (by simp [e])), Bool.and_false]
theorem x2p : ∀ {ps : List (D → Bool)} {ds : List D}, ds.length = ps.length → ((List.range ps.length).map fun i => (ps.getD i fun _ => true) (ds.getD i .non)).all id = q0x ps ds
 | [], [], _ => rfl
 | p :: ps, d :: ds, h => by
  have h' : ds.length = ps.length := by simpa using h
  rw [q0x, ← x2p h', List.length_cons, List.range_succ_eq_map, List.map_cons, List.all_cons, List.map_map]
  rfl
theorem q9t {tb : List (Str × List (D → Bool))} {d : D} (h : tb.lookup (q1o d) = none) : q2n tb d = false := by
 unfold q2n
 split
 ·rename_i x r
  have h' : tb.lookup x = none := h
  rw [h']
 ·rfl
noncomputable def x8y (nm : D → Bool) : List (Str × List (D → Bool)) := [("set", [nm, whole]), ("add", [nm, whole]), ("get", [nm])]
noncomputable def q7z : D → Bool := q2n (x8y q2y)
noncomputable def x7y : List (Str × List (D → Bool)) := [("open", []), ("wish", [q2y, geD 1, q7z]), ("seats", [q3m])]
noncomputable def x0z : D → Bool := q2n x7y
noncomputable def q3z : D → Bool := x0l [geD 1, x0z]
noncomputable def one (p : D → Bool) : List D → Bool
 | [a] => p a
 | _ => false
noncomputable def two (p q : D → Bool) : List D → Bool
 | [a, b] => p a && q b
 | _ => false
noncomputable def x0q (p q s : D → Bool) : List D → Bool
 | [a, b, c] => p a && (q b && s c)
 | _ => false
noncomputable def q5q : D → Bool
 | .tup (.str x :: r) => if x = "get" then one q1y r else if x = "set" ∨ x = "add" then two q1y whole r else false
 | _ => false
noncomputable def x4y : D → Bool
 | .tup (.str x :: r) => match r with
  | [a, b, c] => if x = "wish" then q1y a && (geD 1 b && q5q c) else false
  | [a] => if x = "seats" then q3y a else false
  | [] => decide (x = "open")
  | _ => false
 | _ => false
noncomputable def q4n : D → Bool
 | .tup [a, b] => geD 1 a && x4y b
 | _ => false
theorem z4g (p q : D → Bool) : ∀ r : List D, q0x [p, q] r = two p q r
 | [] => rfl
 | [_] => by simp [q0x, one, two, x0q]
 | [a, b] => by simp [q0x, one, two, x0q]
 | _ :: _ :: _ :: _ => by simp [q0x, one, two, x0q]
theorem j5w (p : D → Bool) : ∀ r : List D, q0x [p] r = one p r
 | [] => rfl
 | [a] => by simp [q0x, one, two, x0q]
 | _ :: _ :: _ => by simp [q0x, one, two, x0q]
theorem j4y (p q s : D → Bool) : ∀ r : List D, q0x [p, q, s] r = x0q p q s r
 | [] => rfl
 | [_] => by simp [q0x, one, two, x0q]
 | [_, _] => by simp [q0x, one, two, x0q]
 | [a, b, c] => by simp [q0x, one, two, x0q]
 | _ :: _ :: _ :: _ :: _ => by simp [q0x, one, two, x0q]
theorem q9o : q2y = q1y := funext j2l
theorem z1k : q3m = q3y := funext z8r
theorem j8x : ("set" : Str) ≠ "get" := by decide +kernel
theorem j8k : ("add" : Str) ≠ "get" := by decide +kernel
theorem j2r (d : D) : q7z d = q5q d := by
 unfold q7z q2n q5q
 split
 ·rename_i x r
  unfold x8y
  rw [List.lookup_cons, List.lookup_cons, List.lookup_cons, List.lookup_nil, q9o]
  by_cases h1 : x = "set"
  ·have e1 : (x == ("set" : Str)) = true := by simp [h1]
   rw [e1, if_neg (by rw [h1]; exact j8x), if_pos (.inl h1)]
   exact z4g _ _ r
  ·have e1 : (x == ("set" : Str)) = false := by simp [h1]
   by_cases h2 : x = "add"
   ·have e2 : (x == ("add" : Str)) = true := by simp [h2]
    rw [e1, e2, if_neg (by rw [h2]; exact j8k), if_pos (.inr h2)]
    exact z4g _ _ r
   ·have e2 : (x == ("add" : Str)) = false := by simp [h2]
    by_cases h3 : x = "get"
    ·have e3 : (x == ("get" : Str)) = true := by simp [h3]
     rw [e1, e2, e3, if_pos h3]
     exact j5w _ r
    ·have e3 : (x == ("get" : Str)) = false := by simp [h3]
     rw [e1, e2, e3, if_neg h3, if_neg (by rintro (z | z); exact h1 z; exact h2 z)]
 ·rfl
theorem z5s : q7z = q5q := funext j2r
theorem j8z : ("open" : Str) ≠ "wish" := by decide +kernel
theorem j8s : ("open" : Str) ≠ "seats" := by decide +kernel
theorem j9i : ("wish" : Str) ≠ "seats" := by decide +kernel
theorem j8a : ("wish" : Str) ≠ "open" := by decide +kernel
theorem j8e : ("seats" : Str) ≠ "wish" := by decide +kernel
theorem j9u : ("seats" : Str) ≠ "open" := by decide +kernel
theorem j3s (d : D) : x0z d = x4y d := by
 unfold x0z q2n x4y
 split
 ·rename_i x r
  unfold x7y
  rw [List.lookup_cons, List.lookup_cons, List.lookup_cons, List.lookup_nil, q9o, z5s, z1k]
  by_cases h1 : x = "open"
  ·subst h1
   rw [show ((("open" : Str)) == ("open" : Str)) = true by simp]
   match r with
   | [] => simp [q0x]
   | [a] => exact (if_neg j8s).symm
   | [a, b] => rfl
   | [a, b, c] => exact (if_neg j8z).symm
   | _ :: _ :: _ :: _ :: _ => rfl
  ·have e1 : (x == ("open" : Str)) = false := by simp [h1]
   rw [e1]
   by_cases h2 : x = "wish"
   ·subst h2
    rw [show ((("wish" : Str)) == ("wish" : Str)) = true by simp]
    show q0x [q1y, geD 1, q5q] r = _
    rw [j4y]
    match r with
    | [] => exact (decide_eq_false j8a).symm
    | [a] => exact (if_neg j9i).symm
    | [a, b] => rfl
    | [a, b, c] => exact (if_pos rfl).symm
    | _ :: _ :: _ :: _ :: _ => rfl
   ·have e2 : (x == ("wish" : Str)) = false := by simp [h2]
    rw [e2]
    by_cases h3 : x = "seats"
    ·subst h3
     rw [show ((("seats" : Str)) == ("seats" : Str)) = true by simp]
     show q0x [q3y] r = _
     rw [j5w]
     match r with
     | [] => exact (decide_eq_false j9u).symm
     | [a] => exact (if_pos rfl).symm
     | [a, b] => rfl
     | [a, b, c] => exact (if_neg j8e).symm
     | _ :: _ :: _ :: _ :: _ => rfl
    ·have e3 : (x == ("seats" : Str)) = false := by simp [h3]
     rw [e3]
     match r with
     | [] => exact (decide_eq_false h1).symm
     | [a] => exact (if_neg h3).symm
     | [a, b] => rfl
     | [a, b, c] => exact (if_neg h2).symm
     | _ :: _ :: _ :: _ :: _ => rfl
 ·rfl
theorem j3v : x0z = x4y := funext j3s
theorem z9x (d : D) : q3z d = q4n d := by
 unfold q3z x0l q4n
 rw [j3v]
 split
 ·rename_i ds
  rw [z4g]
  match ds with
  | [] => rfl
  | [_] => rfl
  | [a, b] => rfl
  | _ :: _ :: _ :: _ => rfl
 ·rename_i h
  cases d with
  | tup ds => exact absurd rfl (h ds)
  | _ => rfl
theorem z4x (r : List D) : q5q (.tup (.str "get" :: r)) = one q1y r := by unfold q5q; exact if_pos rfl
noncomputable def z4h : D → Nat
 | .tup ds => ds.length
 | _ => 0
noncomputable def j1h : D → List D
 | .tup (_ :: r) => r
 | _ => []
noncomputable def z0r (d : D) : Bool := if q1o d = "wish" ∧ z4h d = 4 then x0q q1y (geD 1) q5q (j1h d) else if q1o d = "seats" ∧ z4h d = 2 then one q3y (j1h d) else decide (q1o d = "open" ∧ z4h d = 1)
theorem j0a {d : D} (h : q1o d = "") : z0r d = false := by
 unfold z0r
 rw [h, if_neg (fun z => absurd z.1 (by decide +kernel)), if_neg (fun z => absurd z.1 (by decide +kernel)), decide_eq_false (fun z => absurd z.1 (by decide +kernel))]
theorem j5y (d : D) : z0r d = x4y d := by
 by_cases h : q1o d = ""
 ·rw [j0a h]
  unfold x4y
  split
  ·rename_i x r
   have hx : x = "" := h
   subst hx
   match r with
   | [] => exact (decide_eq_false (by decide +kernel)).symm
   | [a] => exact (if_neg (by decide +kernel)).symm
   | [a, b] => rfl
   | [a, b, c] => exact (if_neg (by decide +kernel)).symm
   | _ :: _ :: _ :: _ :: _ => rfl
  ·rfl
 ·obtain ⟨r, e⟩ := q4x (d := d) rfl h
  generalize q1o d = x at e h
  subst e
  show (if x = "wish" ∧ r.length + 1 = 4 then x0q q1y (geD 1) q5q r else if x = "seats" ∧ r.length + 1 = 2 then one q3y r else decide (x = "open" ∧ r.length + 1 = 1)) = _
  match r with
  | [] =>
   rw [if_neg (fun z => absurd z.2 (by decide)), if_neg (fun z => absurd z.2 (by decide))]
   show decide (x = "open" ∧ 0 + 1 = 1) = decide (x = "open")
   simp
  | [a] =>
   rw [if_neg (fun z => absurd z.2 (by simp))]
   show _ = if x = "seats" then q3y a else false
   by_cases hs : x = "seats"
   ·rw [if_pos ⟨hs, rfl⟩, if_pos hs]; rfl
   ·rw [if_neg (fun z => hs z.1), if_neg hs, decide_eq_false (fun z => absurd z.2 (by simp))]
  | [a, b] =>
   rw [if_neg (fun z => absurd z.2 (by simp)), if_neg (fun z => absurd z.2 (by simp)), decide_eq_false (fun z => absurd z.2 (by simp))]
   rfl
  | [a, b, c] =>
   show _ = if x = "wish" then q1y a && (geD 1 b && q5q c) else false
   by_cases hs : x = "wish"
   ·rw [if_pos ⟨hs, rfl⟩, if_pos hs]; rfl
   ·rw [if_neg (fun z => hs z.1), if_neg hs, if_neg (fun z => absurd z.2 (by simp)), decide_eq_false (fun z => absurd z.2 (by simp))]
  | _ :: _ :: _ :: _ :: _ =>
   rw [if_neg (fun z => absurd z.2 (by simp)), if_neg (fun z => absurd z.2 (by simp)), decide_eq_false (fun z => absurd z.2 (by simp))]
   rfl
theorem z9s : z0r = x4y := funext j5y
end Kp
namespace K1
open PySem L2 Kp
noncomputable def top (i : Nat) : Stmt := PySem.Challenge.pw_keeplog_k05_written.main.body.getD i (.Pass ⟨0, 0, 0, 0⟩)
noncomputable abbrev z5w : Stmt := top 8
noncomputable abbrev x1n : Stmt := top 9
noncomputable abbrev q5m : Stmt := top 10
noncomputable abbrev q7k : Stmt := top 11
noncomputable abbrev z0a : Stmt := top 12
noncomputable abbrev x4l : Stmt := top 13
noncomputable abbrev z8x : Stmt := top 14
noncomputable abbrev x1m : Stmt := top 15
noncomputable abbrev j7q : Stmt := top 16
noncomputable abbrev z2i : Stmt := top 17
noncomputable abbrev q8b : Stmt := top 18
noncomputable abbrev q4j : Stmt := top 19
noncomputable abbrev x2s : Stmt := top 21
noncomputable abbrev z7w : Stmt := top 22
noncomputable abbrev x2y : Stmt := top 24
noncomputable abbrev x1i : Stmt := top 25
noncomputable abbrev q8v : Stmt := top 26
noncomputable abbrev q6h : Stmt := top 27
noncomputable abbrev q4e : Stmt := top 28
noncomputable abbrev q3v : Stmt := top 29
noncomputable abbrev x1g : Stmt := top 30
noncomputable abbrev q8n : Stmt := top 31
noncomputable abbrev x1d : Stmt := top 32
noncomputable abbrev x6x : Stmt := top 33
noncomputable abbrev x3b : Stmt := top 34
noncomputable abbrev q4q : Stmt := top 35
noncomputable abbrev q9v : Stmt := top 37
noncomputable abbrev q6o : Stmt := top 39
noncomputable abbrev q8u : Stmt := top 40
noncomputable abbrev q7n : Stmt := top 41
noncomputable abbrev q8r : Stmt := top 42
noncomputable abbrev q5e : Stmt := top 43
noncomputable abbrev q5y : Stmt := top 44
noncomputable abbrev q7d : Stmt := top 45
noncomputable abbrev q8g : Stmt := top 47
noncomputable abbrev q8j : Stmt := top 49
noncomputable abbrev q7h : Stmt := top 50
noncomputable abbrev q5v : Stmt := top 51
noncomputable abbrev q4t : Stmt := top 52
noncomputable abbrev q3i : Stmt := top 53
noncomputable abbrev q7a : Stmt := top 54
noncomputable abbrev q8i : Stmt := top 55
noncomputable abbrev q4c : Stmt := top 57
noncomputable abbrev x4e : Stmt := top 58
noncomputable abbrev j4o : Stmt := top 60
noncomputable abbrev z4q : Stmt := top 61
noncomputable abbrev z0n : Stmt := top 62
noncomputable abbrev q5f : Stmt := top 63
noncomputable abbrev q5t : Stmt := top 64
noncomputable abbrev q6m : Stmt := top 65
noncomputable abbrev x2a : Stmt := top 66
noncomputable abbrev q6i : Stmt := top 67
noncomputable abbrev q5u : Stmt := top 68
noncomputable abbrev q2v : Stmt := top 69
noncomputable abbrev q3h : Stmt := top 70
noncomputable abbrev q5s : Stmt := top 71
noncomputable abbrev q6k : Stmt := top 72
noncomputable abbrev q3q : Stmt := top 73
noncomputable abbrev q5g : Stmt := top 74
noncomputable abbrev j4w : Stmt := top 75
noncomputable abbrev x1q : Stmt := top 76
noncomputable abbrev q8f : Stmt := top 77
noncomputable abbrev q7p : Stmt := top 78
noncomputable abbrev z1i : Stmt := top 79
noncomputable abbrev q9u : Stmt := top 80
noncomputable abbrev q9p : Stmt := top 81
noncomputable abbrev x9j : Stmt := top 82
noncomputable abbrev q9r : Stmt := top 83
noncomputable abbrev q8m : Stmt := top 84
noncomputable abbrev q8l : Stmt := top 85
noncomputable abbrev q8z : Stmt := top 86
noncomputable abbrev q8t : Stmt := top 87
noncomputable abbrev q9w : Stmt := top 88
noncomputable abbrev q4w : Stmt := top 89
noncomputable abbrev q7q : Stmt := top 90
noncomputable abbrev q3t : Stmt := top 91
noncomputable abbrev q4p : Stmt := top 92
noncomputable abbrev q3f : Stmt := top 93
noncomputable abbrev q4k : Stmt := top 94
noncomputable abbrev q4h : Stmt := top 95
noncomputable abbrev q2e : Stmt := top 96
noncomputable abbrev q6n : Stmt := top 97
noncomputable abbrev q6e : Stmt := top 98
noncomputable abbrev q6z : Stmt := top 99
noncomputable abbrev j0n : Stmt := top 100
structure Txt (mg : Str → Option Value) : Prop where
 isi : mg "isinstance" = none
 int : mg "int" = none
 bool : mg "bool" = none
 str : mg "str" = none
 tuple : mg "tuple" = none
 list : mg "list" = none
 all : mg "all" = none
 zip : mg "zip" = none
 len : mg "len" = none
 range : mg "range" = none
section
variable {P : Program} {w : World} {K : PySem.W.Frag} {mg : Str → Option Value} {base : Heap}
theorem scW : FnScope ["thing"] ["thing"] (q0f z5w) := fSc
theorem z8o {f : Addr} {fd : FuncData} (F : Fun K "is_whole" "is_whole" z5w f fd) (T : Txt mg) : FnOk P w K mg base CX0 1 f fd ["thing"] (spP whole) := by
 refine F.ok scW q2d (fun cdv A outer s H vs Q E hr h => ?_)
 obtain ⟨B, v, d, hB, rfl, I, k⟩ := h
 refine ⟨_, q0p (q0k (q1x (q0n q2a rfl T.isi q1s (q0c (pv 0) (q0c (q4z rfl T.int q9c) q0b)))
  (q2i (z0y (q0n q2a rfl T.isi q1s (q0c (pv 0) (q0c (q4z rfl T.bool q6c) q0b))))))), ?_⟩
 refine ⟨_, rfl, _, _, _, _, rfl, I.ty, q8w K d, _, rfl, ?_⟩
 have k0 := k H (q0y.refl _)
 unfold whole at k0
 cases e : isInt d with
 | false => rw [e] at k0; exact q1a k0
 | true =>
  rw [e] at k0
  exact q1f ⟨_, rfl, _, _, _, _, rfl, I.ty, q5r K d, _, rfl, k0⟩
theorem scK : FnScope ["thing"] ["thing"] (q0f z0a) := fSc
theorem z3v {d : D} (h : whole d = false) : q0g d = false := by
 cases d with
 | int i => cases h
 | _ => rfl
theorem z5d {f : Addr} {fd : FuncData} (F : Fun K "is_keeper" "is_keeper" z0a f fd) (T : Txt mg) (CW : Cal P w K mg base "is_whole" 1 ["thing"] (spP whole)) : FnOk P w K mg base CX0 2 f fd ["thing"] (spP q0g) := by
 refine F.ok scK q2d (fun cdv A outer s H vs Q E hr h => ?_)
 obtain ⟨B, v, d, hB, rfl, I, k⟩ := h
 refine ⟨_, q0p (q0k (q1x (q0i CW hr (q0c (pv 0) q0b)) (q2i (x2i z0e z0e q0a (pv 0) q0a)))), ?_⟩
 refine ⟨_, rfl, B, v, d, hB, rfl, I, fun H' s' => ⟨_, rfl, ?_⟩⟩
 have k0 := k H' s'
 cases e : whole d with
 | false => rw [z3v e] at k0; exact q1a k0
 | true =>
  obtain ⟨i, rfl⟩ := x2u e
  cases I
  refine q1f ⟨_, rfl, _, _, rfl, rfl, _, rfl, ?_⟩
  have k0 : Q (.bl (decide (0 ≤ i) && decide (i ≤ 8))) H' := k0
  by_cases h0 : (0 : Int) ≤ i
  ·rw [decide_eq_true h0] at k0 ⊢
   exact q1f ⟨_, _, rfl, rfl, k0⟩
  ·rw [decide_eq_false h0] at k0 ⊢
   exact q1a k0
theorem scN : FnScope ["thing"] ["thing"] (q0f z8x) := fSc
theorem z8a {α : Type} (l : Array Nat) (p : Nat → Bool) : ((List.range l.size).map fun i => p (l.getD i 0)).all id = l.toList.all p := by
 rw [Bool.eq_iff_iff]
 simp only [List.all_eq_true, List.mem_map, List.mem_range, id, forall_exists_index, and_imp]
 constructor
 ·intro h x hx
  obtain ⟨i, hi, rfl⟩ := List.mem_iff_getElem.mp hx
  have hi' : i < l.size := by simpa using hi
  have := h _ i hi' rfl
  simpa [hi'] using this
 ·intro h b i hi e
  subst e
  have := h l[i] (by simp)
  simpa [hi] using this
theorem j4h {f : Addr} {fd : FuncData} (F : Fun K "is_name" "is_name" z8x f fd) (T : Txt mg) : FnOk P w K mg base CX0 1 f fd ["thing"] (spP q2y) := by
 refine F.ok scN q2d (fun cdv A outer s H vs Q E hr h => ?_)
 obtain ⟨B, v, d, hB, rfl, I, k⟩ := h
 refine ⟨_, q0p (q0k (q1x (q0n q2a rfl T.isi q1s (q0c (pv 0) (q0c (q4z rfl T.str x0p) q0b)))
  (q1x (x2i z0e z0e q0a (q0n q3n rfl T.len PySem.boot_len (q0c (pv 0) q0b)) q0a)
  (q2i (q0n (x0t rfl) rfl T.all q8x (q0c (q3g (NB := ["sign"]) (n := 1) (fr := []) (q5h (outer := q0f z8x) rfl (by decide +kernel) rfl) rfl (j1z (pv 0))
   (fun _ _ _ _ _ => q1h (i := 0) (show (["sign"] : List Str).Nodup by decide +kernel) rfl (Or.inl rfl)) (fun _ _ _ _ _ => q2u) (fun _ _ _ _ _ => x2i x3x x3x q0r (pv 0) q0r)) q0b)))))), ?_⟩
 refine ⟨_, rfl, _, _, _, _, rfl, I.ty, x3a K d, _, rfl, ?_⟩
 cases d with
 | str x =>
  cases I with
  | str _ hx =>
  refine q1f ⟨_, rfl, x, rfl, j1v hx hB, 1, _, rfl, rfl, _, rfl, ?_⟩
  have k1 : ∀ H', q0y H H' → Q (.bl ((decide (1 ≤ x.length) && decide (x.length ≤ 8)) && x.cps.toList.all q9i)) H' := k
  by_cases h1 : 1 ≤ x.length
  ·rw [decide_eq_true (show (1 : Int) ≤ (x.length : Int) by omega)]
   refine q1f ⟨_, 8, rfl, rfl, _, rfl, ?_⟩
   by_cases h8 : x.length ≤ 8
   ·rw [decide_eq_true (show (x.length : Int) ≤ 8 by omega)]
    refine q1f ⟨_, rfl, x, rfl, q3d (J := Its x) (k := 1) (fun _ => true) (fun i => .bl (q9i (x.cps.getD i 0))) (show x.cps.size < sizeLine by rw [sizeLine_eq]; have : x.cps.size = x.length := rfl; omega) (fun i H hi _ => hi) (fun H _ => rfl) ?_ ?_⟩
    ·intro i H2 t v H3 R hi s1 ht y hR
     obtain ⟨rfl, c, hc, rfl⟩ := y
     have ht' : ∃ t0, t = [t0] := by
      match t, ht with
      | [t0], _ => exact ⟨t0, rfl⟩
     obtain ⟨t0, rfl⟩ := ht'
     have ec : x.cps.getD i 0 = c := by rw [Array.getD_eq_getD_getElem?, hc]; rfl
     have hR' := hR [some (.str ⟨#[c]⟩)] H3 rfl (q0y.refl _)
     rw [ec] at hR'
     refine ⟨_, rfl, _, _, rfl, rfl, _, rfl, ?_⟩
     rw [w2w]
     unfold q9i at hR'
     by_cases h97 : 97 ≤ c
     ·rw [decide_eq_true h97] at hR' ⊢
      refine q1f ⟨_, _, rfl, rfl, ?_⟩
      rw [w2x]
      exact hR'
     ·rw [decide_eq_false h97] at hR' ⊢
      exact q1a hR'
    ·intro D H' s1 hD hd
     refine ⟨D, (List.range x.cps.size).map fun i => q9i (x.cps.getD i 0), rfl, SqL.of ?_, ?_⟩
     ·rw [hd, List.filter_eq_self.mpr (fun _ _ => rfl), List.map_map]
      rfl
     ·have k2 := k1 H' s1
      rw [decide_eq_true h1, decide_eq_true h8] at k2
      rw [z8a (α := Nat)]
      exact k2
   ·rw [decide_eq_false (show ¬ (x.length : Int) ≤ 8 by omega)]
    have k2 := k1 H (q0y.refl _)
    rw [decide_eq_true h1, decide_eq_false h8] at k2
    exact q1a k2
  ·rw [decide_eq_false (show ¬ (1 : Int) ≤ (x.length : Int) by omega)]
   have k2 := k1 H (q0y.refl _)
   rw [decide_eq_false h1] at k2
   exact q1a ⟨_, rfl, q1a k2⟩
 | non => exact q1a (k H (q0y.refl _))
 | bl _ => exact q1a (k H (q0y.refl _))
 | int _ => exact q1a (k H (q0y.refl _))
 | tup _ => exact q1a (k H (q0y.refl _))
 | lst _ => exact q1a (k H (q0y.refl _))
noncomputable def j9d (p : D → Bool) : D → Bool
 | .tup ds => ds.all p
 | _ => false
noncomputable def z9i (f : Addr) (p : D → Bool) : Sp := fun vs H Q _ => ∃ B v d, B ≤ 1000 ∧ vs = [v, .ref f] ∧ Is B H v d ∧ ∀ H', q0y H H' → Q (.bl (j9d p d)) H'
theorem scR : FnScope ["thing", "teller"] ["thing", "teller"] (q0f j7q) := fSc
theorem x5m (l : List D) (p : D → Bool) : ((List.range l.length).map fun i => p (l.getD i .non)).all id = l.all p := by
 rw [Bool.eq_iff_iff]
 simp only [List.all_eq_true, List.mem_map, List.mem_range, id, forall_exists_index, and_imp]
 constructor
 ·intro h x hx
  obtain ⟨i, hi, rfl⟩ := List.mem_iff_getElem.mp hx
  have := h _ i hi rfl
  simpa [hi] using this
 ·intro h b i hi e
  subst e
  have := h l[i] (List.getElem_mem hi)
  simpa [hi] using this
theorem z1u {f g : Addr} {fd gd : FuncData} {p : D → Bool} {kk : Nat} {px : Str} (F : Fun K "is_row_of" "is_row_of" j7q f fd) (T : Txt mg) (G : FnOk P w K mg base CX0 kk g gd [px] (spP p)) (kp : PySem.W.keepIn K (.ref g) = true) (b : q5i K gd [px] []) :
  FnOk P w K mg base CX0 (kk + 1) f fd ["thing", "teller"] (z9i g p) := by
 refine F.ok scR (fun vs H Q E ⟨_, _, _, _, e, _⟩ => by subst e; rfl) (fun cdv A outer s H vs Q E hr h => ?_)
 obtain ⟨B, v, d, hB, rfl, I, k⟩ := h
 refine ⟨_, q0p (q0k (q1x (q0n q2a rfl T.isi q1s (q0c (pv 0) (q0c (q4z rfl T.tuple q2p) q0b)))
  (q2i (q0n (x0t rfl) rfl T.all q8x (q0c (q3g (NB := ["part", "teller"]) (n := 1) (fr := [1]) (z0j (outer := q0f j7q) (x := "teller") rfl (by decide +kernel) rfl rfl rfl rfl) rfl (q7u (pv 0))
   (fun _ _ _ _ _ => q1h (i := 0) (show (["part", "teller"] : List Str).Nodup by decide +kernel) rfl (Or.inl rfl)) (fun _ _ _ _ _ => q2u) (fun _ _ _ _ _ => z9a G hr kp b x6m (pv 1) (q0c (pv 0) q0b))) q0b))))), ?_⟩
 refine ⟨_, rfl, _, _, _, _, rfl, I.ty, q5d K d, _, rfl, ?_⟩
 cases d with
 | tup ds =>
  cases I with
  | @tup a xs _ ea hl r =>
  have k1 : ∀ H', q0y H H' → Q (.bl (ds.all p)) H' := k
  have hlen := r.length
  refine q1f ⟨_, rfl, a, rfl, ⟨xs, SqT.of ea⟩, q3d (J := Itt K a) (k := 1) (n := xs.length) (fun _ => true) (fun i => .bl (p (ds.getD i .non))) (show xs.length < sizeLine by rw [sizeLine_eq]; omega)
   (fun i H2 hi s1 => ⟨xs, xs[i], SqT.of (s1 _ _ ea), by simp [hi]⟩) (fun H2 s1 => ⟨xs, SqT.of (s1 _ _ ea), Nat.le_refl _⟩) ?_ ?_⟩
  ·intro i H2 t v H3 R hi s1 ht y hR
   obtain ⟨rfl, hy⟩ := y
   have hv := hy xs (SqT.of (s1 _ _ ea))
   obtain ⟨di, hdi, Ii⟩ := r.get hv
   have ht' : ∃ t0, t = [t0] := by
    match t, ht with
    | [t0], _ => exact ⟨t0, rfl⟩
   obtain ⟨t0, rfl⟩ := ht'
   refine ⟨_, rfl, rfl, _, rfl, B, v, di, hB, rfl, Ii.same s1, fun H' s2 => ?_⟩
   have hR' := hR [some v] H' rfl s2
   have ed : ds.getD i .non = di := by rw [List.getD_eq_getElem?_getD, hdi]; rfl
   rw [ed] at hR'
   exact hR'
  ·intro D H' s1 hD hd
   refine ⟨D, (List.range xs.length).map fun i => p (ds.getD i .non), rfl, SqL.of ?_, ?_⟩
   ·rw [hd, List.filter_eq_self.mpr (fun _ _ => rfl), List.map_map]
    rfl
   ·rw [hlen, x5m]
    exact k1 H' s1
 | non => exact q1a (k H (q0y.refl _))
 | bl _ => exact q1a (k H (q0y.refl _))
 | int _ => exact q1a (k H (q0y.refl _))
 | str _ => exact q1a (k H (q0y.refl _))
 | lst _ => exact q1a (k H (q0y.refl _))
noncomputable def j1p : Sp := fun vs H Q _ => ∃ a ns, vs = [.ref a] ∧ H a = some (.tup (ns.map V.int)) ∧ 1 ≤ ns.length ∧ ns.length ≤ 1000 ∧ ∀ H', q0y H H' → Q (.bl (x0m ns)) H'
theorem w0r : FnScope ["parts"] ["parts"] (q0f x1m) := fSc
theorem j0b (ns : List Int) (h : 1 ≤ ns.length) : x2g (ns.map V.int) (some 1) none = ns.tail.map V.int := by
 unfold x2g
 have e1 : HT.sIx (ns.map V.int).length 0 (some 1) = 1 := by
  have := HT.sIx_nat (ns.map V.int).length 0 1
  rw [show ((1 : Nat) : Int) = 1 from rfl] at this
  rw [this, List.length_map]
  omega
 rw [e1, HT.sIx_none, List.length_map, List.take_of_length_le (by simp)]
 cases ns with
 | nil => simp at h
 | cons a r => rfl
theorem z3w (ns : List Int) : ((List.range (ns.length - 1)).map fun i => decide (ns.getD i 0 < ns.getD (i + 1) 0)).all id = x0m ns := by
 rw [← z1x]
 congr 1
 apply List.ext_getElem?
 intro i
 by_cases hi : i < ns.length - 1
 ·have h1 : i < ns.length := by omega
  have h2 : i + 1 < ns.length := by omega
  simp [hi, List.getElem?_zip_eq_some, h1, h2, List.getElem?_tail]
 ·rw [List.getElem?_eq_none (by simpa using hi), List.getElem?_eq_none]
  simp
  omega
theorem z5j {f : Addr} {fd : FuncData} (F : Fun K "is_rising" "is_rising" x1m f fd) (T : Txt mg) : FnOk P w K mg base CX0 1 f fd ["parts"] j1p := by
 refine F.ok w0r (fun vs H Q E ⟨_, _, e, _⟩ => by subst e; rfl) (fun cdv A outer s H vs Q E hr h => ?_)
 obtain ⟨a, ns, rfl, ha, h1, h2, k⟩ := h
 refine ⟨_, q0p (q0k (q0n (x0t rfl) rfl T.all q8x (q0c (q3g (NB := ["part", "later"]) (n := 2) (fr := []) (q5h (outer := q0f x1m) rfl (by decide +kernel) rfl) rfl
   (z1l (t1 := true) (t2 := true) rfl T.zip (q0c (pv 0) (q0c (q3o z5o (pv 0) (q4f q0a) q5k) q0b)))
   (fun _ _ _ _ _ => x2o (K := K) (n := 2) rfl rfl (q1v (q1h (i := 0) (show (["part", "later"] : List Str).Nodup by decide +kernel) rfl (Or.inl rfl)) (q1v (q1h (i := 1) (show (["part", "later"] : List Str).Nodup by decide +kernel) rfl (Or.inl rfl)) q5c))) (fun _ _ _ _ _ => q2u) (fun _ _ _ _ _ => q1z x5t (pv 0) (pv 1) (q0q _))) q0b))), ?_⟩
 have hcut := j0b ns h1
 have hs1 : HT.sIx (ns.map V.int).length 0 (some 1) = 1 := by
  have := HT.sIx_nat (ns.map V.int).length 0 1
  rw [show ((1 : Nat) : Int) = 1 from rfl] at this
  rw [this, List.length_map]
  omega
 refine ⟨_, rfl, _, rfl, 1, rfl, a, ns.map V.int, rfl, SqT.of ha, fun z => by rw [hs1] at z; exact absurd z.1 (by decide), fun p hp => ?_⟩
 rw [hcut]
 have sp : q0y H (upd H p (.tup (ns.tail.map V.int))) := q0h hp
 refine ⟨a, p, ns.map V.int, ns.tail.map V.int, rfl, SqT.of (sp _ _ ha), SqT.of q0e, q3d (J := Itz K true true a p) (k := 2) (n := ns.length - 1) (fun _ => true) (fun i => .bl (decide (ns.getD i 0 < ns.getD (i + 1) 0))) (by rw [sizeLine_eq]; omega) ?_ ?_ ?_ ?_⟩
 ·intro i H2 hi s1
  have i1 : i < ns.length := by omega
  have i2 : i < ns.tail.length := by rw [List.length_tail]; omega
  exact ⟨ns.map V.int, ns.tail.map V.int, .int ns[i], .int ns.tail[i], SqT.of (s1 _ _ (sp _ _ ha)), SqT.of (s1 _ _ q0e), by simp [i1], by rw [List.getElem?_map, List.getElem?_eq_getElem i2]; rfl⟩
 ·intro H2 s1
  exact ⟨ns.map V.int, ns.tail.map V.int, SqT.of (s1 _ _ (sp _ _ ha)), SqT.of (s1 _ _ q0e), .inr (by simp)⟩
 ·intro i H2 t v H3 R hi s1 ht y hR
  obtain ⟨q, x, y, rfl, hq, rfl, e1, e2⟩ := y
  have i1 : i < ns.length := by omega
  have i2 : i + 1 < ns.length := by omega
  have e1' := e1 _ (SqT.of (s1 _ _ (sp _ _ ha)))
  have e2' := e2 _ (SqT.of (s1 _ _ q0e))
  rw [List.getElem?_map, List.getElem?_eq_getElem i1] at e1'
  rw [List.getElem?_map, List.getElem?_tail, List.getElem?_eq_getElem i2] at e2'
  cases e1'
  cases e2'
  have ht' : ∃ t0 t1, t = [t0, t1] := by
   match t, ht with
   | [t0, t1], _ => exact ⟨t0, t1, rfl⟩
  obtain ⟨t0, t1, rfl⟩ := ht'
  refine ⟨q, _, rfl, SqT.of q0e, rfl, _, _, rfl, _, _, rfl, rfl, ⟨_, rfl, _, rfl, _, _, rfl, rfl, ?_⟩⟩
  have hR' := hR [some (.int ns[i]), some (.int ns[i + 1])] _ rfl (q0h (o := .tup [.int ns[i], .int ns[i + 1]]) hq)
  have g1 : ns.getD i 0 = ns[i] := by simp [i1]
  have g2 : ns.getD (i + 1) 0 = ns[i + 1] := by simp [i2]
  rw [g1, g2] at hR'
  exact hR'
 ·intro D H' s1 hD hd
  refine ⟨D, (List.range (ns.length - 1)).map fun i => decide (ns.getD i 0 < ns.getD (i + 1) 0), rfl, SqL.of ?_, ?_⟩
  ·rw [hd, List.filter_eq_self.mpr (fun _ _ => rfl), List.map_map]
   rfl
  ·rw [z3w]
   exact k H' (sp.trans s1)
theorem scS : FnScope ["thing"] ["thing"] (q0f z7w) := fSc
theorem x6s {B : Nat} {H : Hp} : ∀ {ns : List Int} {vs : List V}, IsL B H vs (ns.map D.int) → vs = ns.map V.int
 | [], _, h => by cases h; rfl
 | n :: r, _, h => by
  cases h with
  | cons h t => cases h; rw [x6s t]; rfl
theorem z9o {f : Addr} {fd : FuncData} (F : Fun K "is_seats" "is_seats" z7w f fd) (T : Txt mg) (CK : Cal P w K mg base "is_keeper" 2 ["thing"] (spP q0g))
  (CR : ∀ g gd, FnOk P w K mg base CX0 2 g gd ["thing"] (spP q0g) → PySem.W.keepIn K (.ref g) = true → q5i K gd ["thing"] [] → Cal P w K mg base "is_row_of" 3 ["thing", "teller"] (z9i g q0g))
  (CI : Cal P w K mg base "is_rising" 1 ["parts"] j1p) : FnOk P w K mg base CX0 4 f fd ["thing"] (spP q3m) := by
 refine F.ok scS q2d (fun cdv A outer s H vs Q E hr h => ?_)
 obtain ⟨B, v, d, hB, rfl, I, k⟩ := h
 obtain ⟨g, gd, G, m, kp, b⟩ := CK.ex
 obtain ⟨g2, gd2, G2, m2, kp2, b2⟩ := (CR g gd G kp b).ex
 refine ⟨_, q0p (q0k (q1x (q8y G2 hr rfl m2 kp2 b2 .nil x6m (q0c (pv 0) (q0c (q2s rfl m) q0b)))
  (q1x (x2i z0e z0e q0a (q0n q0w rfl T.len PySem.boot_len (q0c (pv 0) q0b)) q0a)
  (q2i (q0i CI (hr.mono (by decide)) (q0c (pv 0) q0b)))))), ?_⟩
 refine ⟨_, rfl, B, v, d, hB, rfl, I, fun H' s' => ⟨_, rfl, ?_⟩⟩
 cases d with
 | tup ds =>
  have k1 : ∀ H', q0y H H' → Q (.bl (ds.all q0g && ((decide (1 ≤ ds.length) && decide (ds.length ≤ 9)) && x0m (q4d ds)))) H' := k
  show if ds.all q0g = true then _ else _
  cases hall : ds.all q0g with
  | false =>
   have k2 := k1 H' s'
   rw [hall] at k2
   exact q1a k2
  | true =>
   cases I with
   | @tup a xs _ ea hl r =>
   have hlen := r.length
   refine q1f ⟨_, rfl, a, xs, rfl, .inr (SqT.of (s' _ _ ea)), 1, _, rfl, rfl, _, rfl, ?_⟩
   by_cases h1 : 1 ≤ ds.length
   ·rw [decide_eq_true (show (1 : Int) ≤ (xs.length : Int) by omega)]
    refine q1f ⟨_, 9, rfl, rfl, _, rfl, ?_⟩
    by_cases h9 : ds.length ≤ 9
    ·rw [decide_eq_true (show (xs.length : Int) ≤ 9 by omega)]
     have eds := x3o ds hall
     have exs : xs = (q4d ds).map V.int := by
      rw [eds] at r
      exact x6s r
     have eln : (q4d ds).length = ds.length := by
      have := congrArg List.length eds
      rw [List.length_map] at this
      exact this.symm
     refine q1f ⟨_, rfl, a, q4d ds, rfl, by rw [← exs]; exact s' _ _ ea, by omega, by omega, fun H2 s2 => ?_⟩
     have k2 := k1 H2 (s'.trans s2)
     rw [hall, decide_eq_true h1, decide_eq_true h9] at k2
     exact k2
    ·rw [decide_eq_false (show ¬ (xs.length : Int) ≤ 9 by omega)]
     have k2 := k1 H' s'
     rw [hall, decide_eq_true h1, decide_eq_false h9] at k2
     exact q1a k2
   ·rw [decide_eq_false (show ¬ (1 : Int) ≤ (xs.length : Int) by omega)]
    have k2 := k1 H' s'
    rw [hall, decide_eq_false h1] at k2
    exact q1a ⟨_, rfl, q1a k2⟩
 | non => exact q1a (k H' s')
 | bl _ => exact q1a (k H' s')
 | int _ => exact q1a (k H' s')
 | str _ => exact q1a (k H' s')
 | lst _ => exact q1a (k H' s')
end
end K1
namespace Kp
open PySem L2
theorem q3c {n : Nat} (h : n ≤ 1000) : n ≤ sizeLine := by rw [sizeLine_eq]; omega
section
variable {X : Cx} {es l : List Expr} {te : TE} {t u : TA} {p p' pos : Pos} {j : Nat}
theorem z4y {x : Str} (ha : PE X (.Name x p) te) (r : QA X es t) : QA X (.Name x p :: es) (q5o te t) := ⟨q1i ha r.h⟩
theorem j2h {f : Expr} {as : List Expr} {ks : List Keyword} (ha : PE X (.Call f as ks p) te) (r : QA X es t) : QA X (.Call f as ks p :: es) (q5o te t) := ⟨q7o ha r.h⟩
theorem j7t {a b : Expr} (ha : PE X (.Subscript a b p) te) (r : QA X es t) : QA X (.Subscript a b p :: es) (q5o te t) := ⟨q4a ha r.h⟩
theorem j7s {o : Operator} {a b : Expr} (ha : PE X (.BinOp a o b p) te) (r : QA X es t) : QA X (.BinOp a o b p :: es) (q5o te t) := ⟨q6x ha r.h⟩
theorem q6b (a : QA X es t) : QE X (.Tuple es j p) (j8l t) := ⟨q2r a.h⟩
theorem z5t {a b : Expr} {ta tb : TE} {r : R2} (hx : IxR X r) (ha : QE X a ta) (hb : PE X b tb) (px : x0v b) : QE X (.Subscript a b pos) (tOp r ta tb) := ⟨q0u hx ha.h hb px⟩
end
section
variable {X : Cx} {es l : List Expr} {n m : Nat} {p p' : Pos} {j : Nat}
end
section
variable {es l : List Expr} {te : TE} {t u : TA} {p p' pos : Pos} {j : Nat}
theorem j7g {X : Cx} {st : Stmt} {x1e : List Stmt} {t u : TS} (h1 : QS X st t) (h2 : PSs X x1e u) : PSs X (st :: x1e) (j8m t u) := q1c h1.h h2
theorem q0z {X : Cx} {st : Stmt} {x1e : List Stmt} {t u : TS} (h1 : PS X st t) (h2 : PSs X x1e u) : PSs X (st :: x1e) (j8m t u) := q1c h1 h2
theorem q1m {X : Cx} {st : Stmt} {t : TS} (h1 : PS X st t) : PSs X [st] t := q0p h1
theorem j4p {X : Cx} {e : Expr} (h : QE X e te) : PS X (.Return (some e) pos) (w0t te) := q0k h.h
theorem j7c {X : Cx} {a b : Expr} (ha : QE X (.Subscript a b p) te) (r : QA X es t) : QA X (.Subscript a b p :: es) (q5o te t) := ⟨q4a ha.h r.h⟩
end
end Kp
namespace L2
open PySem PySem.Spec PyProof.Rows
noncomputable def Ite (a : Addr) : It :=
 ⟨fun i H => ∃ xs x, H a = some (.lst xs) ∧ xs[i]? = some x,
  fun i H v H' => ∃ p x, v = .ref p ∧ H p = none ∧ H' = upd H p (.tup [.int i, x]) ∧ ∀ xs, H a = some (.lst xs) → xs[i]? = some x,
  fun i H => ∃ xs, H a = some (.lst xs) ∧ xs.length ≤ i⟩
theorem z4l {P : Program} {w : World} {K : PySem.W.Frag} {es : List Expr} {k0 : Nat} {tp : Pos} {a e it : Addr} (D : e ≠ it) :
  Turn P w K (.Tuple es k0 tp) (Ite a) [e, it] e (fun i h => (∃ old, IsEnum h e it i old) ∧ h.IsListIter it a i) where
 mem := by simp
 obj := fun i h st c hc => by
  obtain ⟨⟨old, h1⟩, o, h2, _, h3⟩ := st
  simp only [List.mem_cons, List.not_mem_nil, or_false] at hc
  rcases hc with rfl | rfl
  ·exact ⟨_, h1, fun v z => by cases z⟩
  ·exact ⟨o, h2, fun v z => by rw [h3] at z; cases z⟩
 keep := fun i h h' st k => by
  obtain ⟨⟨old, h1⟩, o, h2, h3⟩ := st
  exact ⟨⟨old, k e (by simp) _ h1⟩, o, k it (by simp) o h2, h3⟩
 item := by
  intro X hP hw hK hc i pins s σ H E I hf st hg
  subst hP hw hK
  obtain ⟨⟨old, h1⟩, h2⟩ := st
  obtain ⟨xs, x, q1, hx⟩ := hg
  obtain ⟨z1, its, n1, r1, p1⟩ := I.hok a _ q1
  have pl : s.heap.IsList a its.toArray := ⟨_, p1, rfl, _, rfl⟩
  obtain ⟨ux, ex, rx⟩ := r1.get hx
  have fe := hf e (by simp)
  have fi := hf it (by simp)
  have nea : a ≠ e := fun z => by subst z; rw [fe.1] at q1; cases q1
  have nia : a ≠ it := fun z => by subst z; rw [fi.1] at q1; cases q1
  refine wpAny_pyNext_enum_item h1 h2 pl (x := ux) (by simpa using ex) D fun h' heo hit' ht hz hk => ⟨_, rfl, wpAny_letOwnedTupleGo_enum heo fun h2' he2 hs2 => ?_⟩
  have lt : ∀ {c o}, s.heap.get? c = some o → s.heap.objs.size ≠ c := fun q => Nat.ne_of_gt (Heap.lt_size q)
  have hk2 : ∀ c o, c ∉ [e, it] → s.heap.get? c = some o → h2'.get? c = some o := fun c o hcn q => by
   simp only [List.mem_cons, List.not_mem_nil, or_false, not_or] at hcn
   exact hs2.extBut c o hcn.1 (hk c o hcn.1 hcn.2 q)
  have I1 : Inv X pins σ H { s with heap := h2', toks := s.toks + 1 } := by
   refine I.step (g' := s.gens) (d' := s.drawn) (t' := s.toks + 1) (ch := [e, it]) (fun c hcm => ?_) (fun c o _ _ hcn q _ => hk2 c o hcn q) (fun c o _ _ hcn q _ => ⟨o.slots, hk2 c o hcn q⟩) (fun _ _ _ _ n => n)
    (fun c o hcn q => ⟨o, hk2 c o hcn q⟩) (fun _ _ q => q) (fun _ _ _ q => q) (fun c ps q => ⟨#[], by rw [q]; simp⟩) (fun m hm => ?_) (fun c u' q => ?_) I.bare
   ·obtain ⟨_, g1, _, g3, g4, g5⟩ := hf c hcm
    exact ⟨g3, g1, g4, g5⟩
   ·obtain ⟨o, es', ep, ho, r⟩ := hm
    exact ⟨o, es', ep, hk2 _ o (fun hm' => (hf _ hm').2.1 rfl) ho, r⟩
   ·have nin : ∀ c' u'', H c' = some u'' → c' ∉ [e, it] := fun c' u'' e' hm' => by rw [(hf _ hm').1] at e'; cases e'
    refine (I.hok c u' q).stay (fun c' v' hc' q => hk2 c' v' ?_ q) (fun _ q => q) fun _ _ q => q
    rcases hc' with rfl | hc'
    ·exact nin _ _ q
    ·exact nin _ _ hc'
  have ne0 : s.heap.objs.size ≠ e := lt h1
  have ni0 : s.heap.objs.size ≠ it := by obtain ⟨o, q, _⟩ := h2; exact lt q
  have hp : h2'.get? s.heap.objs.size = some { cls := .type "tuple", data := .seq #[.int i s.toks, ux] } := hs2.extBut _ _ ne0 ht
  have fp0 : H s.heap.objs.size = none := I.hok.fresh (Nat.le_refl _)
  have I2 : Inv X pins σ (upd H s.heap.objs.size (.tup [.int i, x])) { s with heap := h2', toks := s.toks + 1 } := by
   refine I1.step (s := { s with heap := h2', toks := s.toks + 1 }) (g' := s.gens) (d' := s.drawn) (t' := s.toks + 1) (h' := h2') (ch := [s.heap.objs.size]) (fun c hcm => ?_) (fun c o _ _ _ q _ => q) (fun c o _ _ _ q _ => ⟨o.slots, q⟩) (fun c o hcn q n => ?_)
    (fun c o _ q => ⟨o, q⟩) (fun c xs' q => ?_) (fun c o u' q => ?_) (fun c ps q => ⟨#[], ?_⟩) (fun m hm => hm) (fun c u' q => ?_) I.bare
   ·have q : c = s.heap.objs.size := by simpa using hcm
    subst q
    obtain ⟨_, g1, _, g3, g4, g5⟩ := I.fpOk (Nat.le_refl _) fp0
    exact ⟨g3, g1, g4, g5⟩
   ·rw [q1q (by simpa using hcn)]; exact n
   ·rw [q1q (q1u q fp0)]; exact q
   ·rw [q1q (q1u q fp0)]; exact q
   ·rw [q1q (q1u q fp0), q]; simp
   ·by_cases hcs : c = s.heap.objs.size
    ·subst hcs
     rw [q0e] at q
     cases q
     exact ⟨by simp [sizeLine_eq], [.int i s.toks, ux], .cons ⟨_, rfl⟩ (.cons rx .nil), ⟨_, hp, rfl, _, rfl⟩⟩
    ·rw [q1q hcs] at q
     exact (I1.hok c u' q).stay (fun _ _ _ q => q) (fun c' q => by rw [q1q (q1u q fp0)]; exact q) fun c' xs' q => by rw [q1q (q1u q fp0)]; exact q
  refine ⟨.ref s.heap.objs.size, _, I2, rfl, ⟨s.heap.objs.size, x, rfl, fp0, rfl, fun xs' q' => by rw [q1] at q'; cases q'; exact hx⟩, ⟨⟨ux, he2⟩, ?_⟩, fun c hcm => ?_⟩
  ·obtain ⟨o, q, r⟩ := hit'
   exact ⟨o, hs2.extBut _ o (Ne.symm D) q, r⟩
  ·rw [q1q (fun q => by
    simp only [List.mem_cons, List.not_mem_nil, or_false] at hcm
    rcases hcm with z | z
    ·exact ne0 (by rw [← q]; exact z)
    ·exact ni0 (by rw [← q]; exact z))]
   exact (hf c hcm).1
 done := by
  intro X hP hw hK hc i pins s σ H E I hf st hg
  subst hP hw hK
  obtain ⟨⟨old, h1⟩, h2⟩ := st
  obtain ⟨xs, q1, hx⟩ := hg
  obtain ⟨z1, its, n1, r1, p1⟩ := I.hok a _ q1
  have pl : s.heap.IsList a its.toArray := ⟨_, p1, rfl, _, rfl⟩
  have l1 := r1.length
  refine wpAny_pyNext_enum_end (I.ok.hd hc) h1 h2 pl (by simp; omega) fun h' hk => ⟨rfl, ?_⟩
  have hk2 : ∀ c o, c ∉ [e, it] → s.heap.get? c = some o → h'.get? c = some o := fun c o hcn q => by
   simp only [List.mem_cons, List.not_mem_nil, or_false, not_or] at hcn
   exact hk c o hcn.2 q
  refine I.step (g' := s.gens) (d' := s.drawn) (t' := s.toks) (ch := [e, it]) (fun c hcm => ?_) (fun c o _ _ hcn q _ => hk2 c o hcn q) (fun c o _ _ hcn q _ => ⟨o.slots, hk2 c o hcn q⟩) (fun _ _ _ _ n => n)
   (fun c o hcn q => ⟨o, hk2 c o hcn q⟩) (fun _ _ q => q) (fun _ _ _ q => q) (fun c ps q => ⟨#[], by rw [q]; simp⟩) (fun m hm => ?_) (fun c u' q => ?_) I.bare
  ·obtain ⟨_, g1, _, g3, g4, g5⟩ := hf c hcm
   exact ⟨g3, g1, g4, g5⟩
  ·obtain ⟨o, es', ep, ho, r⟩ := hm
   exact ⟨o, es', ep, hk2 _ o (fun hm' => (hf _ hm').2.1 rfl) ho, r⟩
  ·have nin : ∀ c' u'', H c' = some u'' → c' ∉ [e, it] := fun c' u'' e' hm' => by rw [(hf _ hm').1] at e'; cases e'
   refine (I.hok c u' q).stay (fun c' v' hc' q => hk2 c' v' ?_ q) (fun _ q => q) fun _ _ q => q
   rcases hc' with rfl | hc'
   ·exact nin _ _ q
   ·exact nin _ _ hc'
 self := fun _ _ _ _ _ st h => let ⟨_, h1⟩ := st.1; wpAny_pyIter_enum h1 h
noncomputable def j8t (ta : TA) : TI := fun σ H R => ta σ H fun vs H1 => ∃ a xs, vs = [.ref a] ∧ H1 a = some (.lst xs) ∧ R (Ite a) H1
theorem z3l (n : Nat) : n + 1 ≠ n := by omega
theorem z3d (n x : Nat) (h : x = n + 1 ∨ x = n) : n ≤ x := by omega
theorem z7h : bootBuiltins "enumerate" = some (.type "enumerate") := by decide +kernel
theorem z6h {X : Cx} {es0 : List Expr} {k0 : Nat} {tp : Pos} {a : Expr} {ta : TA} {p pos : Pos} (hg : Gl X "enumerate") (hm : X.mg "enumerate" = none) (ha : PA X [a] ta)
  (hs : starEach [a] X.env = [(false, eval a X.env)] := by rfl) : PI X (.Tuple es0 k0 tp) (.Call (.Name "enumerate" p) [a] [] pos) (j8t ta) := by
 intro pins s σ H R I h
 refine Call_ (x5l I hg hm z7h (PyProof.Rows.callWith_type1 (thn (ha pos pins s σ H _ I h) fun us s1 ⟨vs, H1, I1, r1, q1⟩ => ?_) (by rw [hs]; rfl) (by rfl)))
 obtain ⟨c, xs, e, q1, q⟩ := q1
 subst e
 obtain ⟨u, rfl, ru⟩ := q8a r1
 cases ru
 obtain ⟨z1, its, n1, rr, p1⟩ := I1.hok c _ q1
 refine call_enumerate_1 p1 fun h' a1 a2 a3 kk => ?_
 refine wpAny_pyIter_enum (s := { s1 with heap := h' }) a1 ?_
 have I2 : Inv X pins σ H1 { s1 with heap := h' } := I1.kept (t' := s1.toks) kk
 refine ⟨_, [s1.heap.objs.size + 1, s1.heap.objs.size], _, _, H1, rfl, I2, z4l (a := c) (z3l _), ⟨⟨_, a1⟩, a2⟩, fun x hx => ?_, q⟩
 have hge : s1.heap.objs.size ≤ x := by
  simp only [List.mem_cons, List.not_mem_nil, or_false] at hx
  exact z3d _ _ hx
 exact I1.fpOk hge (I1.hok.fresh hge)
section
variable {X : Cx}
theorem x7b : ∀ {xs : List Str} {us : List Value}, q4b (xs.map V.str) us → StrsAre us xs
 | [], _, h => by cases h; exact .nil
 | x :: xs, _, h => by
  cases h with
  | cons r t => obtain ⟨tk, rfl⟩ := r; exact .cons _ _ (x7b t)
theorem x7v : ∀ {xs : List Str} {us : List Value}, StrsAre us xs → q4b (xs.map V.str) us
 | [], _, h => by cases h; exact .nil
 | x :: xs, _, h => by
  cases h with
  | cons _ _ t => exact .cons ⟨_, rfl⟩ (x7v t)
theorem x9l : q9h X (.builtin "sorted") (fun xs H Q => ∃ (p : Addr) (ys : List Str), xs = [.ref p] ∧ SqL X.K H p (ys.map V.str) ∧ ys.length < 64 ∧ ∀ l (ys' : List Str), H l = none → ys'.Perm ys → Q (.ref l) (upd H l (.lst (ys'.map V.str)))) := by
 intro pins s σ H xs us Q I r h
 obtain ⟨p, ys, rfl, hq, h64, q⟩ := h
 obtain ⟨u, rfl, rx⟩ := q8a r
 cases rx
 obtain ⟨its, rv, pl, hz⟩ := I.list hq
 have hlen : its.length = ys.length := by rw [← rv.length, List.length_map]
 refine sorted_strs pl.isList (x7b rv) (by omega) fun out ys' h1 h2 h3 => ?_
 obtain ⟨e, he⟩ := sortedAll_at s.heap its out
 have hl : ys'.length = ys.length := h2.length_eq
 have fr : H (s.heap.objs.size + 1) = none := I.hok.fresh (Nat.le_add_right s.heap.objs.size 1)
 refine ⟨.ref _, _, I.laid (t' := s.toks) (o := .lst (ys'.map V.str)) (fun b o => sortedAll_old) (Nat.le_add_right s.heap.objs.size 1) ⟨?_, out.toList, e, x7v h1, by simpa using he⟩, rfl, q _ ys' fr h2⟩
 rw [List.length_map, sizeLine_eq]; omega
theorem z9b : MtR X "list.count" (fun x xs H Q => ∃ (p : Addr) (ys : List Str) (z : Str), x = .ref p ∧ xs = [.str z] ∧ SqL X.K H p (ys.map V.str) ∧ ∀ n : Int, Q (.int n) H) := by
 intro pins s σ H x xs v us Q I rx rv h
 obtain ⟨p, ys, z, rfl, rfl, hq, q⟩ := h
 cases rx
 obtain ⟨u, rfl, t', rfl⟩ := q8a rv
 obtain ⟨its, r1, pl, hz⟩ := I.list hq
 exact count_list_strs pl.isList (x7b r1) ⟨.int _, H, I.tok _, ⟨_, rfl⟩, q _⟩
end
end L2
namespace Kp
open PySem
noncomputable def ltS (a b : Str) : Bool := decide (a.cps.toList < b.cps.toList)
noncomputable def x3g : List Str → Bool
 | a :: b :: r => ltS a b && x3g (b :: r)
 | _ => true
noncomputable def x5r (p : D → Bool) : D → Bool
 | .tup ds => ds.all p && x3g (ds.map q1o)
 | _ => false
noncomputable def x0f : D → Bool := x0l [q2y, whole]
noncomputable def q3w : D → Bool := x0l [q2y, geD 1, whole]
noncomputable def x2w : D → Bool := x5r x0f
noncomputable def q7f : D → Bool := x5r q3w
noncomputable def q4g : D → Bool := x0l [x2w, q7f]
noncomputable def z8i : D → Bool
 | .tup (.int a :: .int b :: _) => decide (decide (a = 0) = decide (b = 0))
 | _ => false
noncomputable def x6g (d : D) : Bool := x0l [geD 0, geD 0, q3m, q4g] d && z8i d
noncomputable def goR (p : D → Bool) : List D → Str → Bool
 | [], _ => true
 | d :: r, ah => (p d && ltS ah (q1o d)) && goR p r (q1o d)
noncomputable def q8s (p : D → Bool) : D → Bool
 | .tup ds => goR p ds ""
 | _ => false
noncomputable def x5v : D → Bool := x0l [q1y, whole]
noncomputable def q7l : D → Bool := x0l [q1y, geD 1, whole]
noncomputable def q7s : D → Bool
 | .tup [a, b] => q8s x5v a && q8s q7l b
 | _ => false
noncomputable def q3r (a b : D) : Bool := (geD 0 a && geD 0 b) && (match a, b with
 | .int i, .int j => (decide (i = 0) && decide (j = 0)) || (decide (0 < i) && decide (0 < j))
 | _, _ => false)
noncomputable def q8c : D → Bool
 | .tup [a, b, c, d] => q3r a b && (q3y c && q7s d)
 | _ => false
theorem z6g : x0f = x5v := by unfold x0f x5v; rw [q9o]
theorem x8w : q3w = q7l := by unfold q3w q7l; rw [q9o]
theorem z7p (p : D → Bool) : ∀ (ds : List D) (ah : Str), goR p ds ah = (ds.all p && x3g (ah :: ds.map q1o))
 | [], ah => rfl
 | d :: r, ah => by
  rw [goR, z7p p r, List.all_cons, List.map_cons, x3g]
  cases p d <;> cases ltS ah (q1o d) <;> simp
theorem j6t (x : Str) (h : x ≠ "") : ltS "" x = true := by
 unfold ltS
 rw [decide_eq_true_eq]
 have e : ("" : Str).cps.toList = [] := by decide +kernel
 rw [e]
 obtain ⟨c⟩ := x
 cases hc : c.toList with
 | nil =>
  exfalso
  apply h
  have : c = #[] := by simpa using hc
  subst this
  rfl
 | cons a r =>
  exact List.Lex.nil
theorem x5o {d : D} {r : List D} (h : q1y d = true) : q1o (.tup (d :: r)) ≠ "" := by
 cases d with
 | str x =>
  intro z
  have z' : x = "" := z
  rw [q1y, if_pos (.inl z')] at h
  cases h
 | _ => cases h
theorem x7p {d : D} (h : x5v d = true) : ∃ x y, d = .tup [x, y] ∧ q1y x = true ∧ whole y = true := by
 cases d with
 | tup ds =>
  have h' : q0x [q1y, whole] ds = true := h
  rw [z4g] at h'
  match ds, h' with
  | [x, y], h' =>
   have h2 : (q1y x && whole y) = true := h'
   rw [Bool.and_eq_true] at h2
   exact ⟨x, y, rfl, h2⟩
 | _ => cases h
theorem x3p {d : D} (h : q7l d = true) : ∃ x y z, d = .tup [x, y, z] ∧ q1y x = true ∧ geD 1 y = true ∧ whole z = true := by
 cases d with
 | tup ds =>
  have h' : q0x [q1y, geD 1, whole] ds = true := h
  rw [j4y] at h'
  match ds, h' with
  | [x, y, z], h' =>
   have h2 : (q1y x && (geD 1 y && whole z)) = true := h'
   rw [Bool.and_eq_true, Bool.and_eq_true] at h2
   exact ⟨x, y, z, rfl, h2⟩
 | _ => cases h
theorem z2h {p : D → Bool} (hp : ∀ d, p d = true → q1o d ≠ "") (d : D) : x5r p d = q8s p d := by
 cases d with
 | tup ds =>
  show (ds.all p && x3g (ds.map q1o)) = goR p ds ""
  rw [z7p]
  cases ds with
  | nil => rfl
  | cons a r =>
   rw [List.all_cons, List.map_cons, x3g]
   cases h : p a with
   | false => rfl
   | true => rw [j6t _ (hp a h), Bool.true_and, Bool.true_and]
 | _ => rfl
theorem j4v : ∀ d, x5v d = true → q1o d ≠ "" := fun d h => by
 obtain ⟨x, y, rfl, hx, _⟩ := x7p h
 exact x5o hx
theorem z6n : ∀ d, q7l d = true → q1o d ≠ "" := fun d h => by
 obtain ⟨x, y, z, rfl, hx, _⟩ := x3p h
 exact x5o hx
theorem j1a : x2w = q8s x5v := by unfold x2w; rw [z6g]; exact funext (z2h j4v)
theorem z2p : q7f = q8s q7l := by unfold q7f; rw [x8w]; exact funext (z2h z6n)
theorem j0u (d : D) : q4g d = q7s d := by
 unfold q4g
 rw [j1a, z2p]
 cases d with
 | tup ds =>
  show q0x [q8s x5v, q8s q7l] ds = _
  rw [z4g]
  match ds with
  | [] => rfl
  | [_] => rfl
  | [a, b] => rfl
  | _ :: _ :: _ :: _ => rfl
 | _ => rfl
theorem z9y : q4g = q7s := funext j0u
theorem x6p (a b : D) (r : List D) : ((geD 0 a && geD 0 b) && z8i (.tup (a :: b :: r))) = q3r a b := by
 unfold q3r
 cases ha : geD 0 a with
 | false => rfl
 | true =>
  cases hb : geD 0 b with
  | false => rfl
  | true =>
   cases a with
   | int i =>
    cases b with
    | int j =>
     have hi : 0 ≤ i := of_decide_eq_true ha
     have hj : 0 ≤ j := of_decide_eq_true hb
     show (true && true && decide (decide (i = 0) = decide (j = 0))) = (true && true && ((decide (i = 0) && decide (j = 0)) || (decide (0 < i) && decide (0 < j))))
     by_cases h1 : i = 0
     ·by_cases h2 : j = 0
      ·simp [h1, h2]
      ·simp [h1, h2]
     ·have h1' : 0 < i := by omega
      by_cases h2 : j = 0
      ·simp [h1, h2]
      ·have h2' : 0 < j := by omega
       simp [h1, h2, h1', h2']
    | _ => cases hb
   | _ => cases ha
theorem z7s (d : D) : x6g d = q8c d := by
 unfold x6g
 rw [z9y, z1k]
 cases d with
 | tup ds =>
  show (q0x [geD 0, geD 0, q3y, q7s] ds && z8i (.tup ds)) = _
  match ds with
  | [] => rfl
  | [_] => simp [q0x, q8c]
  | [_, _] => simp [q0x, q8c]
  | [_, _, _] => simp [q0x, q8c]
  | [a, b, c, e] =>
   show ((geD 0 a && (geD 0 b && (q3y c && (q7s e && true)))) && z8i (.tup [a, b, c, e])) = (q3r a b && (q3y c && q7s e))
   rw [← x6p a b [c, e]]
   cases geD 0 a <;> cases geD 0 b <;> cases q3y c <;> cases q7s e <;> simp
  | _ :: _ :: _ :: _ :: _ :: _ => simp [q0x, q8c]
 | _ => rfl
end Kp
namespace Kp
open PySem
noncomputable def q2t : D → Bool
 | .bl _ => true
 | _ => false
noncomputable def q7y : D → Bool
 | .non => true
 | d => q0g d
noncomputable def j9w (p : D → Bool) : D → Bool
 | .tup ds => ds.all p
 | _ => false
noncomputable def q2f (d : D) : Bool := j9w q3z d && decide (z4h d ≤ 5)
noncomputable def j7m : D → Bool
 | .tup (.int i :: _) => decide (1 ≤ i)
 | _ => false
noncomputable def q8k (d : D) : Bool := x6g d && j7m d
noncomputable def q2q : List (Str × List (D → Bool)) := [("ask", [q0g, q0g, geD 1, geD 0, geD 0]), ("voice", [q0g, q0g, geD 1, q2t]), ("hand", [q0g, q0g, geD 1, geD 0, geD 0, q2f, geD 0]), ("pack", [q0g, q0g, geD 1, q8k]),
 ("held", [q0g, q0g, geD 1, q2t, geD 0]), ("wish", [q2y, q0g, geD 1, q7z]), ("told", [q0g, q2y, geD 1, whole]), ("away", [q0g, q2y, geD 1, q7y])]
noncomputable def q2z : D → D → Bool
 | .int i, .int j => decide (i = j)
 | .str i, .str j => decide (i = j)
 | _, _ => false
noncomputable def j3o : D → Bool
 | .tup (_ :: a :: b :: _) => !q2z a b
 | _ => false
noncomputable def z3j : D → Bool
 | .tup (.str x :: _ :: _ :: _ :: a :: b :: r) => if x = "ask" ∨ x = "hand" then z8i (.tup (a :: b :: r)) else true
 | _ => true
noncomputable def q3s (d : D) : Bool := q2n q2q d && (j3o d && z3j d)
noncomputable def q9k (a b t : D) : Bool := ((q0g a && q0g b) && !q2z a b) && geD 1 t
noncomputable def q6d : D → Bool
 | .tup ds => decide (ds.length ≤ 5) && ds.all q4n
 | _ => false
noncomputable def nzD : D → Bool
 | .tup (.int i :: _) => !decide (i = 0)
 | _ => false
noncomputable def q4i (x : Str) (r : List D) : Bool :=
 if x = "ask" then (match r with | [a, b, t, p, l] => q9k a b t && q3r p l | _ => false)
 else if x = "voice" then (match r with | [a, b, t, v] => q9k a b t && q2t v | _ => false)
 else if x = "hand" then (match r with | [a, b, t, p, l, e, m] => q9k a b t && (q3r p l && (q6d e && geD 0 m)) | _ => false)
 else if x = "pack" then (match r with | [a, b, t, k] => q9k a b t && (q8c k && nzD k) | _ => false)
 else if x = "held" then (match r with | [a, b, t, v, m] => q9k a b t && (q2t v && geD 0 m) | _ => false)
 else if x = "wish" then (match r with | [n, k, c, d] => geD 1 c && (q1y n && (q0g k && q5q d)) | _ => false)
 else if x = "told" then (match r with | [k, n, c, v] => geD 1 c && ((q0g k && q1y n) && whole v) | _ => false)
 else if x = "away" then (match r with | [k, n, c, h] => geD 1 c && ((q0g k && q1y n) && q7y h) | _ => false)
 else false
noncomputable def q7j : D → Bool
 | .tup (.str x :: r) => q4i x r
 | _ => false
theorem z3a (p q s t : D → Bool) : ∀ r : List D, q0x [p, q, s, t] r = (match r with | [a, b, c, d] => p a && (q b && (s c && t d)) | _ => false)
 | [] => rfl
 | [_] => by simp [q0x]
 | [_, _] => by simp [q0x]
 | [_, _, _] => by simp [q0x]
 | [a, b, c, d] => by simp [q0x]
 | _ :: _ :: _ :: _ :: _ :: _ => by simp [q0x]
theorem z9n (p q s t u : D → Bool) : ∀ r : List D, q0x [p, q, s, t, u] r = (match r with | [a, b, c, d, e] => p a && (q b && (s c && (t d && u e))) | _ => false)
 | [] => rfl
 | [_] => by simp [q0x]
 | [_, _] => by simp [q0x]
 | [_, _, _] => by simp [q0x]
 | [_, _, _, _] => by simp [q0x]
 | [a, b, c, d, e] => by simp [q0x]
 | _ :: _ :: _ :: _ :: _ :: _ :: _ => by simp [q0x]
theorem j4f (p q s t u v w : D → Bool) : ∀ r : List D, q0x [p, q, s, t, u, v, w] r = (match r with | [a, b, c, d, e, f, g] => p a && (q b && (s c && (t d && (u e && (v f && w g))))) | _ => false)
 | [] => rfl
 | [_] => by simp [q0x]
 | [_, _] => by simp [q0x]
 | [_, _, _] => by simp [q0x]
 | [_, _, _, _] => by simp [q0x]
 | [_, _, _, _, _] => by simp [q0x]
 | [_, _, _, _, _, _] => by simp [q0x]
 | [a, b, c, d, e, f, g] => by simp [q0x]
 | _ :: _ :: _ :: _ :: _ :: _ :: _ :: _ :: _ => by simp [q0x]
theorem z9g : q3z = q4n := funext z9x
theorem z2l (d : D) : q2f d = q6d d := by
 unfold q2f
 rw [z9g]
 cases d with
 | tup ds =>
  show (ds.all q4n && decide (ds.length ≤ 5)) = (decide (ds.length ≤ 5) && ds.all q4n)
  rw [Bool.and_comm]
 | _ => rfl
theorem x6k {d : D} (h : q8c d = true) : ∃ i r, d = .tup (.int i :: r) ∧ 0 ≤ i := by
 cases d with
 | tup ds =>
  match ds, h with
  | [a, b, c, e], h =>
   have h' : (q3r a b && (q3y c && q7s e)) = true := h
   unfold q3r at h'
   rw [Bool.and_eq_true, Bool.and_eq_true, Bool.and_eq_true] at h'
   have ha := h'.1.1.1
   cases a with
   | int i => exact ⟨i, _, rfl, of_decide_eq_true ha⟩
   | _ => cases ha
 | _ => cases h
theorem j2y (d : D) : q8k d = (q8c d && nzD d) := by
 unfold q8k
 rw [z7s]
 cases h : q8c d with
 | false => rfl
 | true =>
  obtain ⟨i, r, rfl, hi⟩ := x6k h
  show (true && decide (1 ≤ i)) = (true && !decide (i = 0))
  rw [Bool.true_and, Bool.true_and, Bool.eq_iff_iff]
  simp only [decide_eq_true_eq, Bool.not_eq_true', decide_eq_false_iff_not]
  omega
theorem x2q {n k : D} (h1 : q1y n = true) (h2 : q0g k = true) : q2z n k = false ∧ q2z k n = false := by
 cases n with
 | str x =>
  cases k with
  | int i => exact ⟨rfl, rfl⟩
  | _ => cases h2
 | _ => cases h1
theorem x4b (d : D) : q3s d = q7j d := by
 unfold q3s q7j q2n
 split
 ·rename_i x r
  unfold q2q q4i
  simp only [List.lookup_cons, List.lookup_nil]
  have ne : ∀ {s t : Str}, s ≠ t → (s == t) = false := fun h => by simp [h]
  by_cases h1 : x = "ask"
  ·subst h1
   rw [if_pos rfl, show (("ask" : Str) == ("ask" : Str)) = true by simp]
   show (q0x [q0g, q0g, geD 1, geD 0, geD 0] r && _) = _
   rw [z9n]
   match r with
   | [a, b, t, p, l] =>
    show ((q0g a && (q0g b && (geD 1 t && (geD 0 p && geD 0 l)))) && (!q2z a b && (if ("ask" : Str) = "ask" ∨ ("ask" : Str) = "hand" then z8i (.tup [p, l]) else true))) = (q9k a b t && q3r p l)
    rw [if_pos (.inl rfl), ← x6p p l []]
    unfold q9k
    ac_rfl
   | [] => rfl
   | [_] => rfl
   | [_, _] => rfl
   | [_, _, _] => rfl
   | [_, _, _, _] => rfl
   | _ :: _ :: _ :: _ :: _ :: _ :: _ => rfl
  rw [if_neg h1, ne h1]
  by_cases h2 : x = "voice"
  ·subst h2
   rw [if_pos rfl, show (("voice" : Str) == ("voice" : Str)) = true by simp]
   show (q0x [q0g, q0g, geD 1, q2t] r && _) = _
   rw [z3a]
   match r with
   | [a, b, t, v] =>
    show ((q0g a && (q0g b && (geD 1 t && q2t v))) && (!q2z a b && true)) = (q9k a b t && q2t v)
    unfold q9k
    rw [Bool.and_true]
    ac_rfl
   | [] => rfl
   | [_] => rfl
   | [_, _] => rfl
   | [_, _, _] => rfl
   | _ :: _ :: _ :: _ :: _ :: _ => rfl
  rw [if_neg h2, ne h2]
  by_cases h3 : x = "hand"
  ·subst h3
   rw [if_pos rfl, show (("hand" : Str) == ("hand" : Str)) = true by simp]
   show (q0x [q0g, q0g, geD 1, geD 0, geD 0, q2f, geD 0] r && _) = _
   rw [j4f]
   match r with
   | [a, b, t, p, l, e, m] =>
    show ((q0g a && (q0g b && (geD 1 t && (geD 0 p && (geD 0 l && (q2f e && geD 0 m)))))) && (!q2z a b && (if ("hand" : Str) = "ask" ∨ ("hand" : Str) = "hand" then z8i (.tup [p, l, e, m]) else true))) = (q9k a b t && (q3r p l && (q6d e && geD 0 m)))
    rw [if_pos (.inr rfl), ← x6p p l [e, m], z2l]
    unfold q9k
    ac_rfl
   | [] => rfl
   | [_] => rfl
   | [_, _] => rfl
   | [_, _, _] => rfl
   | [_, _, _, _] => rfl
   | [_, _, _, _, _] => rfl
   | [_, _, _, _, _, _] => rfl
   | _ :: _ :: _ :: _ :: _ :: _ :: _ :: _ :: _ => rfl
  rw [if_neg h3, ne h3]
  have hx : ¬ (x = "ask" ∨ x = "hand") := by rintro (z | z); exact h1 z; exact h3 z
  have ends : ∀ r, z3j (.tup (.str x :: r)) = true := fun r => by
   match r with
   | [] => rfl
   | [_] => rfl
   | [_, _] => rfl
   | [_, _, _] => rfl
   | [_, _, _, _] => rfl
   | _ :: _ :: _ :: a :: b :: t =>
    show (if x = "ask" ∨ x = "hand" then z8i (.tup (a :: b :: t)) else true) = true
    rw [if_neg hx]
  rw [ends, Bool.and_true]
  by_cases h4 : x = "pack"
  ·subst h4
   rw [if_pos rfl, show (("pack" : Str) == ("pack" : Str)) = true by simp]
   show (q0x [q0g, q0g, geD 1, q8k] r && _) = _
   rw [z3a]
   match r with
   | [a, b, t, v] =>
    show ((q0g a && (q0g b && (geD 1 t && q8k v))) && !q2z a b) = (q9k a b t && (q8c v && nzD v))
    rw [j2y]
    unfold q9k
    ac_rfl
   | [] => rfl
   | [_] => rfl
   | [_, _] => rfl
   | [_, _, _] => rfl
   | _ :: _ :: _ :: _ :: _ :: _ => rfl
  rw [if_neg h4, ne h4]
  by_cases h5 : x = "held"
  ·subst h5
   rw [if_pos rfl, show (("held" : Str) == ("held" : Str)) = true by simp]
   show (q0x [q0g, q0g, geD 1, q2t, geD 0] r && _) = _
   rw [z9n]
   match r with
   | [a, b, t, v, m] =>
    show ((q0g a && (q0g b && (geD 1 t && (q2t v && geD 0 m)))) && !q2z a b) = (q9k a b t && (q2t v && geD 0 m))
    unfold q9k
    ac_rfl
   | [] => rfl
   | [_] => rfl
   | [_, _] => rfl
   | [_, _, _] => rfl
   | [_, _, _, _] => rfl
   | _ :: _ :: _ :: _ :: _ :: _ :: _ => rfl
  rw [if_neg h5, ne h5]
  by_cases h6 : x = "wish"
  ·subst h6
   rw [if_pos rfl, show (("wish" : Str) == ("wish" : Str)) = true by simp]
   show (q0x [q2y, q0g, geD 1, q7z] r && _) = _
   rw [z3a, q9o, z5s]
   match r with
   | [n, k, c, d] =>
    show ((q1y n && (q0g k && (geD 1 c && q5q d))) && !q2z n k) = (geD 1 c && (q1y n && (q0g k && q5q d)))
    cases hn : q1y n with
    | false => simp
    | true =>
     cases hk : q0g k with
     | false => simp
     | true => rw [(x2q hn hk).1]; simp
   | [] => rfl
   | [_] => rfl
   | [_, _] => rfl
   | [_, _, _] => rfl
   | _ :: _ :: _ :: _ :: _ :: _ => rfl
  rw [if_neg h6, ne h6]
  by_cases h7 : x = "told"
  ·subst h7
   rw [if_pos rfl, show (("told" : Str) == ("told" : Str)) = true by simp]
   show (q0x [q0g, q2y, geD 1, whole] r && _) = _
   rw [z3a, q9o]
   match r with
   | [k, n, c, d] =>
    show ((q0g k && (q1y n && (geD 1 c && whole d))) && !q2z k n) = (geD 1 c && ((q0g k && q1y n) && whole d))
    cases hn : q1y n with
    | false => simp
    | true =>
     cases hk : q0g k with
     | false => simp
     | true => rw [(x2q hn hk).2]; simp
   | [] => rfl
   | [_] => rfl
   | [_, _] => rfl
   | [_, _, _] => rfl
   | _ :: _ :: _ :: _ :: _ :: _ => rfl
  rw [if_neg h7, ne h7]
  by_cases h8 : x = "away"
  ·subst h8
   rw [if_pos rfl, show (("away" : Str) == ("away" : Str)) = true by simp]
   show (q0x [q0g, q2y, geD 1, q7y] r && _) = _
   rw [z3a, q9o]
   match r with
   | [k, n, c, d] =>
    show ((q0g k && (q1y n && (geD 1 c && q7y d))) && !q2z k n) = (geD 1 c && ((q0g k && q1y n) && q7y d))
    cases hn : q1y n with
    | false => simp
    | true =>
     cases hk : q0g k with
     | false => simp
     | true => rw [(x2q hn hk).2]; simp
   | [] => rfl
   | [_] => rfl
   | [_, _] => rfl
   | [_, _, _] => rfl
   | _ :: _ :: _ :: _ :: _ :: _ => rfl
  rw [if_neg h8, ne h8]
  rfl
 ·rename_i h
  cases d with
  | tup ds =>
   match ds with
   | [] => rfl
   | .str x :: r => exact absurd rfl (h x r)
   | .non :: _ => rfl
   | .bl _ :: _ => rfl
   | .int _ :: _ => rfl
   | .tup _ :: _ => rfl
   | .lst _ :: _ => rfl
  | _ => rfl
end Kp
namespace Kp
open PySem L2
noncomputable def x8i (H H' : Hp) : Prop := ∀ b xs, H b = some (.tup xs) → H' b = some (.tup xs)
theorem x0y {J : It} {H1 : Hp} {n k : Nat} {frs : St} {g : TG} {tt : TT} {te : TE} {Q : VK} (R : Hp → V → Prop) (mono : ∀ H H' v, x8i H H' → R H v → R H' v) (hn : n < sizeLine)
  (go : ∀ i H, i < n → q0y H1 H → J.go i H) (stop : ∀ H, q0y H1 H → J.stop n H)
  (turn : ∀ i H t x H2 (S : St → Hp → Option V → Prop), i < n → q0y H1 H → t.length = k → J.yld i H x H2 →
   (∀ t' H' v, t'.length = k → q0y H H' → R H' v → S (t' ++ frs) H' (some v)) → (∀ t' H', t'.length = k → q0y H H' → S (t' ++ frs) H' none) →
   g x (t ++ frs) H2 fun σ3 H3 => tt σ3 H3 fun b H4 => if b = true then te σ3 H4 fun v H5 => S σ3 H5 (some v) else S σ3 H4 none)
  (hq : ∀ D H' ys, q0y H1 H' → H1 D = none → H' D = some (.lst ys) → ys.length ≤ n → (∀ v ∈ ys, R H' v) → Q (.ref D) H') : x8p (List.replicate k none ++ frs) g tt te Q J H1 := by
 intro D hD
 refine ⟨fun i m ys σ H => i ≤ n ∧ m = n - i ∧ ys.length ≤ i ∧ (∀ v ∈ ys, R H v) ∧ q0y H1 H ∧ ∃ t, t.length = k ∧ σ = t ++ frs, ⟨n, Nat.zero_le _, rfl, Nat.le_refl _, fun v hv => (List.not_mem_nil hv).elim, q0h hD, _, by simp, rfl⟩, ?_⟩
 rintro i m ys σ H ⟨hi, rfl, hl, hR, s1, t, ht, rfl⟩ hd
 by_cases hlt : i < n
 ·right
  refine ⟨go i H hlt s1, by omega, fun x H2 y => ?_⟩
  have keep : ∀ (H5 : Hp) (zs : List V), H5 D = some (.lst ys) → x8i H5 (upd H5 D (.lst zs)) := fun H5 zs h5 b xs e => by
   rw [q1q (fun q => by rw [q, h5] at e; cases e)]; exact e
  have tup : ∀ {H H' : Hp}, q0y H H' → x8i H H' := fun s b xs e => s _ _ e
  refine turn i H t x H2 (fun σ3 H5 r => match r with
   | some v => H5 D = some (.lst ys) ∧ ∃ m', m' < n - i ∧ (i + 1 ≤ n ∧ m' = n - (i + 1) ∧ (ys ++ [v]).length ≤ i + 1 ∧ (∀ u ∈ ys ++ [v], R (upd H5 D (.lst (ys ++ [v]))) u) ∧ q0y H1 (upd H5 D (.lst (ys ++ [v]))) ∧ ∃ t, t.length = k ∧ σ3 = t ++ frs)
   | none => H5 D = some (.lst ys) ∧ ∃ m', m' < n - i ∧ (i + 1 ≤ n ∧ m' = n - (i + 1) ∧ ys.length ≤ i + 1 ∧ (∀ u ∈ ys, R H5 u) ∧ q0y H1 H5 ∧ ∃ t, t.length = k ∧ σ3 = t ++ frs)) hlt s1 ht y ?_ ?_
  ·intro t' H' v ht' s2 rv
   have h5 := s2 _ _ hd
   refine ⟨h5, n - (i + 1), by omega, by omega, rfl, by rw [List.length_append]; show ys.length + 1 ≤ _; omega, fun u hu => ?_, fun b o e => ?_, t', ht', rfl⟩
   ·rcases List.mem_append.mp hu with z | z
    ·exact mono _ _ _ (keep H' _ h5) (mono _ _ _ (tup s2) (hR u z))
    ·rw [List.mem_singleton.mp z]
     exact mono _ _ _ (keep H' _ h5) rv
   ·rw [q1q (q1u e hD)]; exact s2 _ _ (s1 _ _ e)
  ·intro t' H' ht' s2
   exact ⟨s2 _ _ hd, n - (i + 1), by omega, by omega, rfl, by omega, fun u hu => mono _ _ _ (tup s2) (hR u hu), s1.trans s2, t', ht', rfl⟩
 ·have e : i = n := by omega
  subst e
  exact .inl ⟨stop H s1, hq D H ys s1 hD hd hl hR⟩
noncomputable def q9y (_ : Hp) (v : V) : Prop := ∃ x : Str, v = .str x ∧ x.length ≤ 16
theorem q9y.list {H : Hp} : ∀ {ys : List V}, (∀ v ∈ ys, q9y H v) → ∃ ws : List Str, ys = ws.map V.str ∧ ∀ x ∈ ws, x.length ≤ 16
 | [], _ => ⟨[], rfl, fun x hx => (List.not_mem_nil hx).elim⟩
 | y :: ys, h => by
  obtain ⟨x, rfl, hx⟩ := h y List.mem_cons_self
  obtain ⟨ws, rfl, hw⟩ := q9y.list (fun v hv => h v (List.mem_cons_of_mem _ hv))
  exact ⟨x :: ws, rfl, fun z hz => by
   rcases List.mem_cons.mp hz with rfl | hz
   ·exact hx
   ·exact hw z hz⟩
theorem z5u {X : Cx} {K : PySem.W.Frag} (hK : X.K = K) : MtR X "list.count" (fun x xs H Q => ∃ (p : Addr) (ys : List Str) (z : Str), x = .ref p ∧ xs = [.str z] ∧ SqL K H p (ys.map V.str) ∧ ∀ n : Int, Q (.int n) H) := by
 subst hK; exact z9b
theorem q4v {t : St} (h : t.length = 1) : ∃ t0, t = [t0] := by
 match t, h with
 | [t0], _ => exact ⟨t0, rfl⟩
theorem x7u {t : St} (h : t.length = 2) : ∃ t0 t1, t = [t0, t1] := by
 match t, h with
 | [t0, t1], _ => exact ⟨t0, t1, rfl⟩
end Kp
namespace L2
open PySem PySem.Spec PyProof.Rows
section
variable {κ : Type} [DecidableEq κ]
noncomputable def z3u (kvs : List (κ × V)) (k : κ) : Option V := (kvs.find? fun kv => decide (kv.1 = k)).map (·.2)
noncomputable def j2i (kvs : List (κ × V)) (k : κ) (v : V) : List (κ × V) :=
 if (kvs.any fun kv => decide (kv.1 = k)) = true then kvs.map (fun kv => if kv.1 = k then (kv.1, v) else kv) else kvs ++ [(k, v)]
theorem z1z {p : κ × V} {r : List (κ × V)} {k : κ} (e : p.1 = k) : z3u (p :: r) k = some p.2 := by simp [z3u, List.find?_cons, e]
theorem z1m {p : κ × V} {r : List (κ × V)} {k : κ} (e : ¬ p.1 = k) : z3u (p :: r) k = z3u r k := by simp [z3u, List.find?_cons, e]
theorem x9q (kvs : List (κ × V)) (k : κ) (v : V) : (j2i kvs k v).length ≤ kvs.length + 1 := by
 unfold j2i
 split
 ·rw [List.length_map]; omega
 ·rw [List.length_append, List.length_cons, List.length_nil]; omega
theorem KV.val {kvs : List (κ × V)} {vs : List (κ × Value)} (r : KV kvs vs) (k : κ) : z9c (z3u kvs k) (valueAt vs k) := by
 unfold KV at r
 induction r with
 | nil => exact True.intro
 | @cons p q ps qs h t ih =>
  obtain ⟨h1, h2⟩ := h
  by_cases e : p.1 = k
  ·have e' : q.1 = k := h1.symm.trans e
   have b : valueAt (q :: qs) k = some q.2 := by simp [valueAt, List.find?_cons, e']
   rw [z1z e, b]; exact h2
  ·have e' : ¬ q.1 = k := fun z => e (h1.trans z)
   have b : valueAt (q :: qs) k = valueAt qs k := by simp [valueAt, List.find?_cons, e']
   rw [z1m e, b]; exact ih
theorem KV.any {kvs : List (κ × V)} {vs : List (κ × Value)} (r : KV kvs vs) (k : κ) : (kvs.any fun kv => decide (kv.1 = k)) = vs.any fun kv => decide (kv.1 = k) := by
 unfold KV at r
 induction r with
 | nil => rfl
 | cons h t ih => rw [List.any_cons, List.any_cons, ih, h.1]
theorem KV.repl {kvs : List (κ × V)} {vs : List (κ × Value)} (r : KV kvs vs) (k : κ) {y : V} {u : Value} (ry : q4y y u) :
  KV (kvs.map fun kv => if kv.1 = k then (kv.1, y) else kv) (vs.map fun kv => if kv.1 = k then (kv.1, u) else kv) := by
 unfold KV at r ⊢
 induction r with
 | nil => exact .nil
 | @cons p q ps qs h t ih =>
  rw [List.map_cons, List.map_cons]
  refine .cons ?_ ih
  obtain ⟨h1, h2⟩ := h
  by_cases e : p.1 = k
  ·rw [if_pos e, if_pos (h1.symm.trans e)]; exact ⟨h1, ry⟩
  ·rw [if_neg e, if_neg (fun z => e (h1.trans z))]; exact ⟨h1, h2⟩
theorem KV.put {kvs : List (κ × V)} {vs : List (κ × Value)} (r : KV kvs vs) (k : κ) {y : V} {u : Value} (ry : q4y y u) : KV (j2i kvs k y) (stored vs k u) := by
 unfold j2i stored
 rw [r.any k]
 by_cases e : (vs.any fun kv => decide (kv.1 = k)) = true
 ·rw [if_pos e, if_pos e]; exact r.repl k ry
 ·rw [if_neg e, if_neg e]; exact Paired.snoc r ⟨rfl, ry⟩
end
theorem j3g {P : Program} {w : World} {k : Key} {u : Value} (r : q4y (kV k) u) : (q4l P w).is k u = true := by
 cases k with
 | inl i => obtain ⟨t, e⟩ := (show ∃ t, u = Value.int i t from r); subst e; exact x9m P w i t
 | inr x => obtain ⟨t, e⟩ := (show ∃ t, u = Value.str x t from r); subst e; exact z0m P w x t
theorem x8c {P : Program} {w : World} : ∀ {ks : List Key} {us : List Value}, q4b (ks.map kV) us → ItemsAre (q4l P w) ks us
 | [], _, r => by rw [List.map_nil] at r; cases r; exact .nil
 | k :: ks, _, r => by
  rw [List.map_cons] at r
  cases r with
  | cons h t => exact .cons (j3g h) (x8c t)
noncomputable abbrev KT (H : Hp) : List (List Key × V) → List (List Key × Addr × Value) → Prop := Paired fun p q => p.1 = q.1 ∧ H q.2.1 = some (.tup (p.1.map kV)) ∧ q4y p.2 q.2.2
theorem KT.val {H : Hp} {kvs : List (List Key × V)} {xs : List (List Key × Addr × Value)} (r : KT H kvs xs) (k : List Key) : z9c (z3u kvs k) ((atKey xs k).map (·.2)) := by
 induction r with
 | nil => exact True.intro
 | @cons p q ps qs h t ih =>
  obtain ⟨h1, _, h2⟩ := h
  by_cases e : p.1 = k
  ·have e' : q.1 = k := h1.symm.trans e
   have b : atKey (q :: qs) k = some q.2 := by simp [atKey, List.find?_cons, e']
   rw [z1z e, b]; exact h2
  ·have e' : ¬ q.1 = k := fun z => e (h1.trans z)
   have b : atKey (q :: qs) k = atKey qs k := by simp [atKey, List.find?_cons, e']
   rw [z1m e, b]; exact ih
section
variable {P : Program} {w : World} {H : Hp} {h : Heap} {a : Addr}
theorem j6f {u : HO} (ok : HOk P w H h) (e : Rd H a u) : q3x P w H h a u := e.ok ok
theorem j4j {kvs : List (Key × V)} (ok : HOk P w H h) (e : Rd H a (.dK kvs)) : kvs.length ≤ sizeLine ∧ (a == sysModules) = false ∧ ∃ vs, KV kvs vs ∧ h.DictOf (q4l P w) a vs :=
 show q3x P w H h a (.dK kvs) from j6f ok e
theorem j8v {kvs : List (Key × V)} (ok : HOk P w H h) (e : H a = some (.dK kvs)) : kvs.length ≤ sizeLine ∧ (a == sysModules) = false ∧ ∃ vs, KV kvs vs ∧ h.DictOf (q4l P w) a vs := j4j ok (.inl e)
theorem j2c {ks : List Key} (ok : HOk P w H h) (e : H a = some (.tup (ks.map kV))) : (tupleKind (q4l P w)).is h ks a := by
 obtain ⟨_, its, r, o, h1, h2, n, h3⟩ := (show q3x P w H h a (.tup (ks.map kV)) from ok a _ e)
 exact ⟨o, its.toArray, n, h1, h2, h3, by simpa using x8c r⟩
theorem j5z {kvs : List (List Key × V)} (ok : HOk P w H h) (e : Rd H a (.dT kvs)) : kvs.length ≤ sizeLine ∧ (a == sysModules) = false ∧
  ∃ xs, KT H kvs xs ∧ h.DictOfH (tupleKind (q4l P w)) a xs := by
 obtain ⟨z, y, xs, r, o, es, ep, h1, h2, h3, h4, h5⟩ := (show q3x P w H h a (.dT kvs) from j6f ok e)
 refine ⟨z, y, xs, r, o, es, ep, h1, h2, h3, h4, fun x hx => ?_, h5⟩
 have all : ∀ {l : List (List Key × V)} {m : List (List Key × Addr × Value)}, KT H l m → ∀ x ∈ m, (tupleKind (q4l P w)).is h x.1 x.2.1 := by
  intro l m q
  induction q with
  | nil => intro x hx; exact nomatch hx
  | @cons p q ps qs hq t ih =>
   intro x hx
   rcases List.mem_cons.mp hx with e | hx
   ·subst e
    exact j2c ok (by rw [← hq.1]; exact hq.2.1)
   ·exact ih x hx
 exact all r x hx
end
noncomputable def j2f (H : Hp) (a : Addr) (y : V) (r : Option V) : Prop :=
 (∃ kvs k, Rd H a (.dK kvs) ∧ y = kV k ∧ r = z3u kvs k) ∨ ∃ kvs k b, Rd H a (.dT kvs) ∧ y = .ref b ∧ H b = some (.tup (k.map kV)) ∧ r = z3u kvs k
theorem j2f.k {H : Hp} {a : Addr} {kvs : List (Key × V)} {k : Key} (e : H a = some (.dK kvs)) : j2f H a (kV k) (z3u kvs k) := .inl ⟨kvs, k, .inl e, rfl, rfl⟩
section
variable {X : Cx} {pins : List (Addr × Obj)} {σ : St} {H : Hp} {s : Shared} {a : Addr} {y v : V} {u r : Value} {o : Option V} {A : Around} {E : Value → Shared → Prop}
theorem Inv.big (I : Inv X pins σ H s) : sysModules < s.heap.objs.size := by
 have h : mainGlobals < s.heap.objs.size := (I.mod.glob.keeps I.bk).lt
 exact Nat.lt_trans (by decide) h
theorem z6x {Q : Value → Shared → Prop} (hu : A.units + 1 < cLine) (I : Inv X pins σ H s) (g : j2f H a y (some v)) (ry : q4y y u) (h : ∀ w' s', Inv X pins σ H s' → q4y v w' → Q w' s') :
  wpAny (model X.prog X.w) A (getItem (.ref a) u) Q E s := by
 rcases g with ⟨kvs, k, e, ey, l⟩ | ⟨kvs, k, b, e, ey, eb, l⟩
 ·subst ey
  obtain ⟨z, hd, vs, rel, dd⟩ := j4j I.hok e
  obtain ⟨w', hw, rw'⟩ := z9c.some_of (v := v) (o := valueAt vs k) (by rw [l]; exact rel.val k)
  exact wpAny_getItem_of (j3g ry) dd.mapOf hw (h w' _ (I.tok _) rw')
 ·subst ey
  cases (show u = Value.ref b from ry)
  obtain ⟨z, hd, xs, rel, dd⟩ := j5z I.hok e
  obtain ⟨w', hw, rw'⟩ := z9c.some_of (v := v) (o := (atKey xs k).map (·.2)) (by rw [l]; exact rel.val k)
  obtain ⟨p, hp, hp2⟩ := Option.map_eq_some_iff.mp hw
  refine wpAny_getItem_heap (tupleKind_room_in1 hu) (j2c I.hok eb) dd hp ?_
  rw [hp2]
  exact h w' _ (I.tok _) rw'
theorem j4g {h' : Heap} {t' : Nat} {ob : HO} (I : Inv X pins σ H s) (mu : Mut (H a)) (hs : Heap.SameBut a s.heap h') (he : ∃ q, h'.get? a = some q) (new : q3x X.prog X.w (upd H a ob) h' a ob) :
  Inv X pins σ (upd H a ob) { s with heap := h', toks := t' } :=
 I.write (x := a) (e := a) mu (.inl rfl) (fun b q hb z => (hs.2 b hb).trans z) he new
theorem j7l {P : Program} {w : World} {H' : Hp} {h' : Heap} {kvs : List (Key × V)} {vs : List (Key × Value)} (z : kvs.length ≤ sizeLine) (hd : (a == sysModules) = false) (rel : KV kvs vs) (dd : h'.DictOf (q4l P w) a vs) :
  q3x P w H' h' a (.dK kvs) := ⟨z, hd, vs, rel, dd⟩
end
section
variable {X : Cx} {pins : List (Addr × Obj)} {σ : St} {H : Hp} {s : Shared} {a : Addr} {kvs : List (Key × V)} {k : Key} {u : Value} {A : Around} {E : Value → Shared → Prop}
end
noncomputable def j8i (i : Expr) : Prop := ∀ ov iv, subscripted i false ov iv = operate [ov, iv] (getItem ov iv)
theorem z5l {prog : Program} {w : World} {A : Around} {E : Value → Shared → Prop} {s : Shared} {env : Env} {value slice : Expr} {pos : Pos} {T id : String} {Q : Value → Shared → Prop}
  (hl : typeLookup (.type T) "__getitem__" = pure (some (.builtin id))) (hs : j8i slice)
  (h : wpAny (model prog w) A (eval value env) (fun o s₁ => wpAny (model prog w) A (eval slice env) (fun i s₂ => s₂.TypeIs o T ∧ wpAny (model prog w) A (getItem o i) Q E s₂) E s₁) E s) :
  wpAny (model prog w) A (eval (.Subscript value slice pos) env) Q E s := by
 refine Subscript_ (wpAny_mono h (fun o s₁ h₁ => wpAny_mono h₁ (fun i s₂ h₂ => ?_) fun _ _ x => x) fun _ _ x => x)
 obtain ⟨hT, h₂⟩ := h₂
 unfold subscriptTail
 refine wpAny_bind ?_
 rw [getitemInPython_of_ne hT.not_modules]
 refine wpAny_bind (wpAny_specialOf hT hl ?_)
 have fin : wpAny (model prog w) A (subscripted slice false o i) (fun r s₃ => wpAny (model prog w) A (letTemporaryGo value o r >>= fun _ => pure r) Q E s₃) E s₂ := by
  rw [hs o i]
  exact wpAny_operating (wpAny_mono h₂ (fun r s₃ h₃ => wpAny_bind (wpAny_letTemporaryGo (wpAny_pure h₃))) fun _ _ x => x)
 first
  | exact wpAny_pure (wpAny_bind fin)
  | exact wpAny_bind (wpAny_pure (wpAny_bind fin))
  | exact wpAny_bind fin
theorem x9u {X : Cx} {pins : List (Addr × Obj)} {σ : St} {H : Hp} {s : Shared} {a : Addr} {y : V} {o : Option V} (I : Inv X pins σ H s) (g : j2f H a y o) : s.TypeIs (.ref a) "dict" := by
 rcases g with ⟨kvs, k, e, _, _⟩ | ⟨kvs, k, b, e, _, _, _⟩
 ·obtain ⟨_, _, vs, _, dd⟩ := j4j I.hok e
  exact dd.typeIs
 ·obtain ⟨_, _, xs, _, dd⟩ := j5z I.hok e
  exact dd.typeIs
noncomputable def j9b (td ty : TE) : TE := fun σ H Q => td σ H fun x H1 => ty σ H1 fun y H2 => ∃ a v, x = .ref a ∧ j2f H2 a y (some v) ∧ Q v H2
section
variable {X : Cx} {o i e value : Expr} {pos pos' tpos : Pos} {td ty tv : TE}
theorem j4s (hu : X.A.units + 1 < cLine) (ho : PE X o td) (hi : PE X i ty) (hs : j8i i) : PE X (.Subscript o i pos) (j9b td ty) := by
 intro pins s σ H Q I h
 refine z5l PySem.F.slot_dict_getitem.lookup hs (thn (ho pins s σ H _ I h) fun u s1 ⟨x, H1, I1, rx, q1⟩ => thn (hi pins s1 σ H1 _ I1 q1) fun iv s2 ⟨y, H2, I2, ry, a, v, ex, g, q2⟩ => ?_)
 subst ex
 obtain rfl : u = Value.ref a := rx
 exact ⟨x9u I2 g, z6x hu I2 g ry fun w' s3 I3 rw' => ⟨v, H2, I3, rw', q2⟩⟩
end
theorem z9w {P : Program} {w : World} {H : Hp} (h : Heap) (hb : sysModules < h.objs.size) : q3x P w H (h.push { cls := .type "dict", data := .dict #[] }) h.objs.size (.dK []) :=
 ⟨Nat.zero_le _, beq_eq_false_iff_ne.mpr (Ne.symm (Nat.ne_of_lt hb)), [], .nil, Heap.DictOf.new h⟩
section
variable {X : Cx} {pos : Pos}
end
noncomputable def z6l : List (TE × TE) → St → Hp → (List (V × V) → Hp → Prop) → Prop
 | [], _, H, Q => Q [] H
 | (tk, tv) :: r, σ, H, Q => tk σ H fun x H1 => tv σ H1 fun y H2 => z6l r σ H2 fun ps H3 => Q ((x, y) :: ps) H3
noncomputable abbrev VV : List (V × V) → List (Value × Value) → Prop := Paired fun p q => q4y p.1 q.1 ∧ q4y p.2 q.2
noncomputable def PPs (X : Cx) (pos : Pos) (keys : List (Option Expr)) (values : List Expr) (trs : List (TE × TE)) : Prop :=
 ∀ (pins : List (Addr × Obj)) (s : Shared) (σ : St) (H : Hp) (Q : List (V × V) → Hp → Prop), Inv X pins σ H s → z6l trs σ H Q →
  wpAny (model X.prog X.w) X.A (evalPairs (pairTrees keys values X.env pos)) (fun vs s' => ∃ ps H', Inv X pins σ H' s' ∧ VV ps vs ∧ Q ps H') X.xe s
theorem j2q {X : Cx} {pos : Pos} : PPs X pos [] [] [] := fun pins s σ H Q I h => pairTrees_nil_walk ⟨[], H, I, .nil, h⟩
theorem x0d {X : Cx} {pos : Pos} {k v : Expr} {ks : List (Option Expr)} {vs : List Expr} {tk tv : TE} {trs : List (TE × TE)} (hk : PE X k tk) (hv : PE X v tv) (hr : PPs X pos ks vs trs) :
  PPs X pos (some k :: ks) (v :: vs) ((tk, tv) :: trs) := fun pins s σ H Q I h =>
 pairTrees_cons_walk (thn (hk pins s σ H _ I h) fun u s1 ⟨x, H1, I1, rx, q1⟩ => thn (hv pins s1 σ H1 _ I1 q1) fun w2 s2 ⟨y, H2, I2, ry, q2⟩ =>
  thn (hr pins s2 σ H2 _ I2 q2) fun ws s3 ⟨ps, H3, I3, rel, q3⟩ => ⟨(x, y) :: ps, H3, I3, .cons ⟨rx, ry⟩ rel, q3⟩)
noncomputable def q8h (kvs more : List (Key × V)) : List (Key × V) := more.foldl (fun acc kv => j2i acc kv.1 kv.2) kvs
theorem KV.merge : ∀ {more : List (Key × V)} {rs : List (Key × Value)} {kvs : List (Key × V)} {vs : List (Key × Value)}, KV more rs → KV kvs vs → KV (q8h kvs more) (merged vs rs) := by
 intro more rs kvs vs r
 unfold KV at r
 induction r generalizing kvs vs with
 | nil => intro q; exact q
 | @cons p q ps qs h t ih =>
  intro r0
  have e : KV (j2i kvs p.1 p.2) (stored vs q.1 q.2) := by
   have := r0.put p.1 h.2
   rw [← h.1]; exact this
  exact ih e
theorem x0j : ∀ (more kvs : List (Key × V)), (q8h kvs more).length ≤ kvs.length + more.length
 | [], kvs => by show kvs.length ≤ kvs.length + 0; omega
 | p :: r, kvs => by
  have h1 := x0j r (j2i kvs p.1 p.2)
  have h2 := x9q kvs p.1 p.2
  show (q8h (j2i kvs p.1 p.2) r).length ≤ _
  rw [List.length_cons]; omega
theorem x5e {P : Program} {w : World} : ∀ {kvs : List (Key × V)} {ws : List (Value × Value)}, VV (kvs.map fun kv => (kV kv.1, kv.2)) ws → ∃ rs, Carries (q4l P w) ws rs ∧ KV kvs rs
 | [], _, r => by rw [List.map_nil] at r; cases r; exact ⟨[], True.intro, .nil⟩
 | p :: kvs, _, r => by
  rw [List.map_cons] at r
  cases r with
  | @cons a b as bs h t =>
   obtain ⟨rs, c, q⟩ := x5e (P := P) (w := w) t
   obtain ⟨b1, b2⟩ := b
   exact ⟨(p.1, b2) :: rs, ⟨j3g h.1, rfl, c⟩, .cons ⟨rfl, h.2⟩ q⟩
noncomputable def j9h (trs : List (TE × TE)) : TE := fun σ H Q => ∀ p, H p = none → z6l trs σ (upd H p (.dK [])) fun ps H2 => H2 p = some (.dK []) ∧ ∃ kvs : List (Key × V), ps = kvs.map (fun kv => (kV kv.1, kv.2)) ∧ kvs.length ≤ 15 ∧ Q (.ref p) (upd H2 p (.dK (q8h [] kvs)))
theorem j3l {X : Cx} {pos : Pos} {keys : List (Option Expr)} {values : List Expr} {trs : List (TE × TE)} (h : PPs X pos keys values trs) (hall : keys.all (·.isSome) = true) (hl : keys.length = values.length) (h0 : keys ≠ [])
  (h15 : keys.length ≤ 15) : PE X (.Dict keys values pos) (j9h trs) := by
 intro pins s σ H Q I q
 have hn := I.hok.fresh (Nat.le_refl s.heap.objs.size)
 have I1 := I.laid (a := s.heap.objs.size) (o := .dK []) (h' := s.heap.push { cls := .type "dict", data := .dict #[] }) (t' := s.toks) (fun _ _ q => Heap.get?_push_of_some _ q) (Nat.le_refl _) (z9w s.heap I.big)
 refine wpAny_Dict_walk (knd := q4l X.prog X.w) hall hl h0 h15 (thn (h pins _ σ _ _ I1 (q _ hn)) fun ws s2 ⟨ps, H2, I2, rel, e, kvs, ep, lk, q2⟩ => ?_)
 subst ep
 obtain ⟨rs, c, rk⟩ := x5e (P := X.prog) (w := X.w) rel
 obtain ⟨z, hd, vs0, r0, dd⟩ := j8v I2.hok e
 cases r0
 refine ⟨rs, c, dd, fun h' dd' hs => ⟨.ref s.heap.objs.size, _, ?_, rfl, q2⟩⟩
 have hz : (q8h [] kvs).length ≤ sizeLine := by
  have h1 := x0j kvs []
  rw [List.length_nil] at h1
  rw [sizeLine_eq]; omega
 have he : ∃ q, h'.get? s.heap.objs.size = some q := let ⟨q, _, _, hq, _⟩ := dd'; ⟨q, hq⟩
 exact j4g I2 (by rw [e]; exact True.intro) hs he (j7l hz hd (rk.merge .nil) dd')
end L2
namespace Kp
open PySem L2 PySem.Spec PyProof.Rows
theorem j6d {X : Cx} (hu : X.A.units < cLine) : OpR X (compareOp .Eq) (fun x y H Q => ∃ p q xs, x = .ref p ∧ y = .ref q ∧ SqL X.K H p xs ∧ SqL X.K H q [] ∧ Q (.bl xs.isEmpty) H) := by
 intro pins s σ H x y v u Q I rx ry h
 obtain ⟨p, q', xs, rfl, rfl, h1, h2, q⟩ := h
 cases xs with
 | nil => exact j1n hu pins s σ H _ _ _ _ Q I rx ry ⟨p, q', [], [], rfl, rfl, h1, h2, rfl, rfl, q⟩
 | cons a r =>
  cases rx
  cases ry
  obtain ⟨its, r1, pl1, _⟩ := I.list h1
  obtain ⟨jts, r2, pl2, _⟩ := I.list h2
  exact SeqAt.eq_list_lengthsAt pl1.isList pl2.isList (by simp [← r1.length, ← r2.length]) hu ⟨.bl false, H, I, rfl, q⟩
theorem q6v {kvs : List (Key × V)} {k : Key} {v : V} (h : decide (z3u (q8h [] kvs) k = some v) = true) : z3u (q8h [] kvs) k = some v := of_decide_eq_true h
end Kp
namespace Kp
open PySem L2
mutual
inductive ThN (B : Nat) (H : Hp) : V → Prop
 | non : ThN B H .non
 | bl (b : Bool) : ThN B H (.bl b)
 | int (i : Int) : ThN B H (.int i)
 | str (x : Str) (h : x.length ≤ B) : ThN B H (.str x)
 | tup {a : Addr} {vs : List V} (e : H a = some (.tup vs)) (l : vs.length ≤ B) (r : ThNL B H vs) : ThN B H (.ref a)
inductive ThNL (B : Nat) (H : Hp) : List V → Prop
 | nil : ThNL B H []
 | cons {v : V} {vs : List V} (h : ThN B H v) (t : ThNL B H vs) : ThNL B H (v :: vs)
end
mutual
theorem ThN.sameT {B B' : Nat} {H H' : Hp} (hB : B ≤ B') (s : x8i H H') : ∀ {v}, ThN B H v → ThN B' H' v
 | _, .non => .non
 | _, .bl b => .bl b
 | _, .int i => .int i
 | _, .str x h => .str x (Nat.le_trans h hB)
 | _, .tup e l r => .tup (s _ _ e) (Nat.le_trans l hB) (ThNL.sameT hB s r)
theorem ThNL.sameT {B B' : Nat} {H H' : Hp} (hB : B ≤ B') (s : x8i H H') : ∀ {vs}, ThNL B H vs → ThNL B' H' vs
 | _, .nil => .nil
 | _, .cons h t => .cons (ThN.sameT hB s h) (ThNL.sameT hB s t)
end
mutual
theorem ThN.th {B : Nat} {H : Hp} : ∀ {v}, ThN B H v → Th B H v
 | _, .non => Th.non
 | _, .bl b => Th.bl b
 | _, .int i => Th.int i
 | _, .str x h => Th.str x h
 | _, .tup e l r => Th.tup e l (ThNL.th r)
theorem ThNL.th {B : Nat} {H : Hp} : ∀ {vs}, ThNL B H vs → ThL B H vs
 | _, .nil => ThL.nil
 | _, .cons h t => ThL.cons (ThN.th h) (ThNL.th t)
end
theorem z9v {H H' : Hp} (s : q0y H H') : x8i H H' := fun b xs e => s _ _ e
end Kp
namespace HT
open PySem PySem.Spec PyProof.Rows L2
section
variable {prog : Program} {w : World} {A : Around} {E : Value → Shared → Prop} {s : Shared}
theorem getItem_tuple_whole {t sl : Addr} {items : Array Value} {vl vu : Value} {lo hi : Option Int} {Q : Value → Shared → Prop} (ht : IsTup s.heap t items) (hs : s.heap.IsSliceOf sl vl vu .none) (pl : IsPart vl lo) (pu : IsPart vu hi)
  (hw : sIx items.size 0 lo = 0 ∧ sIx items.size items.size hi = items.size) (h : Q (.ref t) s) : wpAny (model prog w) A (getItem (.ref t) (.ref sl)) Q E s := by
 obtain ⟨os, hos, hcs, hds⟩ := id hs
 have hTs : s.TypeIs (.ref sl) "slice" := ⟨os, hos, hcs⟩
 unfold getItem
 try with_reducible refine wpAny_holding ?_
 first | refine wpAny_bind (wpAny_pure ?_) | skip
 refine wpAny_bind (wpAny_sequenceKey ht.typeIs (by decide) ?_)
 refine wpAny_bind (wpAny_callSpecial?_slot (name := Str.ofString "__getitem__") ht.typeIs PyProof.Rows.slot_tuple_getitem
  (wpAny_call_entry PyProof.Rows.slot_tuple_getitem ht.typeIs entry_tuple_getitem ?_ (args_tuple_getitem _ _)))
 show wpAny _ _ (Builtin.Tuple.tupleItemsOf (.ref t) >>= _) _ _ s
 refine wpAny_bind (tupleItemsOf_ ht ?_)
 refine wpAny_bind (wpAny_typeOf hTs ?_)
 rw [if_pos (by decide)]
 refine wpAny_bind (q7r hs pl pu ?_)
 have hyes : (((sIx items.size 0 lo : Nat) : Int) == 0 && (1 : Int) == 1 && (sIx items.size items.size hi - sIx items.size 0 lo) == items.size) = true := by
  rw [hw.1, hw.2]; simp
 show wpAny _ _ (if (((sIx items.size 0 lo : Nat) : Int) == 0 && (1 : Int) == 1 && (sIx items.size items.size hi - sIx items.size 0 lo) == items.size) = true then _ else _) _ _ s
 rw [if_pos hyes]
 refine wpAny_bind (m := Builtin.Tuple.tupleIsExact _) (wpAny_bind (wpAny_typeOf ht.typeIs (wpAny_pure ?_)))
 rw [if_pos (by decide)]
 refine wpAny_bind (wpAny_rule ?_)
 first
  | exact wpAny_bind (wpAny_pure (wpAny_pure ⟨_, rfl, wpAny_pure h⟩))
  | exact wpAny_pure ⟨_, rfl, wpAny_pure h⟩
  | exact wpAny_bind (wpAny_pure ⟨_, rfl, wpAny_pure h⟩)
end
end HT
namespace L2
open PySem PySem.Spec PyProof.Rows L2
theorem z3i {xs : List V} {lo hi : Option Int} (h1 : HT.sIx xs.length 0 lo = 0) (h2 : HT.sIx xs.length xs.length hi = xs.length) : x2g xs lo hi = xs := by
 unfold x2g; rw [h1, h2]; simp
end L2
namespace L2
open PySem PySem.Spec PyProof.Rows
section
variable {X : Cx}
variable {o e : Expr} {es : List Expr} {to : TE} {t : TA} {name : Str} {apos cpos : Pos} {id : String} {r : V → List V → Hp → VK → Prop}
end
section
variable {X : Cx}
end
end L2
namespace K1
open PySem L2 Kp
end K1
namespace L2
open PySem PySem.Spec PyProof.Rows
section
variable {X : Cx}
end
end L2
namespace K1
open PySem L2 Kp
theorem SqT.same' {K : PySem.W.Frag} {H H' : Hp} {a : Addr} {xs : List V} (h : SqT K H a xs) (s : q0y H H') : SqT K H' a xs := by
 rcases h with h | h
 ·exact .inl (h.elim (fun e => .inl (s _ _ e)) fun ⟨o, e⟩ => .inr ⟨o, s _ _ e⟩)
 ·exact .inr h
end K1
namespace Kp
open PySem L2 PySem.Spec PyProof.Rows
noncomputable abbrev Ord := PyProof.Rows.KeyKind
section
variable {prog : Program} {w : World} {A : Around} {E : Value → Shared → Prop} {s : Shared} {a0 : Array Keyed} {κ : Ord} {kd : SortKind} {st : SortSt}
structure TB (κ : Ord) (kd : SortKind) (a0 : Array Keyed) (st : SortSt) : Prop where
 pm : (arrOf st).Perm a0
 kn : kindOf st = kd
 fl : failedOf st = none
 pe : pendingOf st = #[]
 un : ∀ i j, i < a0.size → j < a0.size → KK κ (arrOf st) i = KK κ (arrOf st) j → i = j
noncomputable def Up (κ : Ord) (xs : Array Keyed) (k : Nat) : Prop := ∀ i j, i < j → j < k → κ.blt (KK κ xs i) (KK κ xs j) = true
noncomputable def TD (κ : Ord) (a0 : Array Keyed) (st : SortSt) : Prop := (arrOf st).Perm a0 ∧ failedOf st = none ∧ pendingOf st = #[(0, a0.size, 0)] ∧ Up κ (arrOf st) a0.size
end
end Kp
namespace Kp
open PySem L2 PySem.Spec PyProof.Rows
section
variable {prog : Program} {w : World} {A : Around} {E : Value → Shared → Prop} {s : Shared}
end
end Kp
namespace Kp
open PySem L2 PySem.Spec PyProof.Rows
section
variable {prog : Program} {w : World} {A : Around} {E : Value → Shared → Prop} {s : Shared}
end
end Kp
namespace Kp
open PySem L2 PySem.Spec PyProof.Rows
noncomputable def j5n (a b : Str) : Prop := a.cps.toList < b.cps.toList
section
variable {X : Cx}
end
end Kp
namespace Kp
open PySem L2 PySem.Spec PyProof.Rows
section
variable {X : Cx}
end
end Kp
namespace L2
open PySem PySem.Spec PyProof.Rows
noncomputable def w3l : V → Option Int → Option Int → Hp → VK → Prop := fun x lo hi H Q => ∃ a xs, x = .ref a ∧ H a = some (.tup xs) ∧ ∀ p H', H' p = some (.tup (x2g xs lo hi)) → q0y H H' → Q (.ref p) H'
theorem q6g {X : Cx} : SlR X w3l := by
 intro pins s σ H x v vl vu lo hi sl Q I rx hs pl pu h
 obtain ⟨a, xs, rfl, hx, q⟩ := h
 by_cases hw : HT.sIx xs.length 0 lo = 0 ∧ HT.sIx xs.length xs.length hi = xs.length
 ·cases rx
  obtain ⟨its, r, ht, hz⟩ := I.tuple (SqT.of hx)
  have hlen : its.toArray.size = xs.length := by rw [List.size_toArray]; exact r.length.symm
  refine ⟨"tuple", _, PyProof.Rows.slot_tuple_getitem.lookup, ht.typeIs, ?_⟩
  refine HT.getItem_tuple_whole ht hs pl pu (by rw [hlen]; exact hw) ⟨.ref a, H, I, rfl, q a H (by rw [z3i hw.1 hw.2]; exact hx) (q0y.refl _)⟩
 ·exact z5o pins s σ H _ _ vl vu lo hi sl Q I rx hs pl pu ⟨a, xs, rfl, SqT.of hx, hw, fun p hp => q p _ q0e (Kp.q0h hp)⟩
end L2
namespace K1
open PySem L2 Kp
theorem j0z {α : Type} (xs : List α) (k : Nat) : xs.drop (min k xs.length) = xs.drop k := by
 by_cases h : k ≤ xs.length
 ·rw [Nat.min_eq_left h]
 ·rw [Nat.min_eq_right (by omega), List.drop_length, List.drop_eq_nil_of_le (by omega)]
theorem z9m {α : Type} (xs : List α) (k : Nat) : xs.take (min k xs.length) = xs.take k := by
 by_cases h : k ≤ xs.length
 ·rw [Nat.min_eq_left h]
 ·rw [Nat.min_eq_right (by omega), List.take_length, List.take_of_length_le (by omega)]
theorem z7i (xs : List V) (k : Nat) : x2g xs none (some (k : Int)) = xs.take k := by
 unfold x2g; rw [HT.sIx_nat, HT.sIx_none, List.drop_zero, Nat.sub_zero, z9m]
theorem q8d (xs : List V) (k : Nat) : x2g xs (some (k : Int)) none = xs.drop k := by
 unfold x2g; rw [HT.sIx_nat, HT.sIx_none, j0z]
 exact List.take_of_length_le (by rw [List.length_drop]; omega)
theorem w0q {p : Prop} [Decidable p] (h : ¬ decide p = true) : ¬ p := fun g => h (decide_eq_true g)
end K1
namespace Kp
open PySem L2 PySem.Spec PyProof.Rows
end Kp
namespace Kp
open PySem L2 PySem.Spec PyProof.Rows
end Kp
namespace L2
open PySem
end L2
set_option maxHeartbeats 1000000
namespace L2
open PySem PySem.Spec PyProof.Rows
section
variable {prog : Program} {w : World} {A : Around} {R : Result → Shared → Prop} {it : Addr} {fp wr : List Addr} {n : Nat} {Pv : Nat → Value → Prop} {St : Nat → Heap → Prop} {dv : Value}
end
section
variable {X : Cx}
theorem x4z : ∀ {ys : List Int} {its : List Value}, q4b (ys.map V.int) its → ∃ xs : List (Int × Tok), its = xs.map (fun p => Value.int p.1 p.2) ∧ xs.map (·.1) = ys
 | [], _, h => by cases h; exact ⟨[], rfl, rfl⟩
 | y :: ys, _, h => by
  cases h with
  | cons r t =>
   obtain ⟨tk, rfl⟩ := r
   obtain ⟨xs, rfl, rfl⟩ := x4z t
   exact ⟨(y, tk) :: xs, rfl, rfl⟩
theorem j1r {xs : List (Int × Tok)} {i : Nat} (h : i < xs.length) : numAt xs.toArray i = (xs.map (·.1))[i]'(by simpa using h) := by
 unfold numAt; simp [h]
theorem z5i (hc : X.calm = true) : q9h X (.builtin "max") (fun vs H Q => ∃ (p : Addr) (ys : List Int), vs = [.ref p] ∧ SqL X.K H p (ys.map V.int) ∧ ys ≠ [] ∧ ∀ m ∈ ys, (∀ y ∈ ys, y ≤ m) → Q (.int m) H) := by
 intro pins s σ H xs us Q I r h
 obtain ⟨p, ys, rfl, hq, hne, q⟩ := h
 obtain ⟨u, rfl, rx⟩ := q8a r
 cases rx
 obtain ⟨its, rv, pl, hz⟩ := I.list hq
 obtain ⟨zs, rfl, rfl⟩ := x4z rv
 have hlen : 0 < zs.length := List.length_pos_iff.mpr fun e => hne (by rw [e]; rfl)
 have el : intItems zs.toArray = (zs.map fun p => Value.int p.1 p.2).toArray := by simp [intItems]
 refine max_intList (xs := zs.toArray) (I.ok.hd hc) (by rw [el]; exact pl.isList) (by simpa using hlen) fun v h' tk hv k => ?_
 obtain ⟨t, rfl⟩ := intItems_at hv
 obtain ⟨b1, b2⟩ := argBest_gt (numAt zs.toArray) (zs.toArray.size - 1)
 generalize argBest (fun i j => decide (numAt zs.toArray i > numAt zs.toArray j)) (zs.toArray.size - 1) = j at b1 b2
 have hj : j < zs.length := by simp at b1; omega
 refine ⟨.int (numAt zs.toArray j), H, I.kept k, ⟨t, rfl⟩, q _ ?_ fun y hy => ?_⟩
 ·rw [j1r hj]; exact List.getElem_mem _
 ·obtain ⟨i, hi, rfl⟩ := List.getElem_of_mem hy
  have hi' : i < zs.length := by simpa using hi
  have := b2 i (by simp; omega)
  rw [j1r hi'] at this
  exact this
end
end L2
namespace K1
open PySem L2 Kp
theorem j6l (ms : List Int) (p : Int → Bool) (f : Int → V) : (((List.range (ms.map V.int).length).filter fun i => p (ms.getD i 0)).map fun i => f (ms.getD i 0)) = (ms.filter p).map f := by
 have e0 : ms = (List.range ms.length).map fun i => ms.getD i 0 := by
  apply List.ext_getElem?
  intro i
  by_cases hi : i < ms.length
  ·simp [hi]
  ·rw [List.getElem?_eq_none (by omega), List.getElem?_eq_none (by simp; omega)]
 rw [List.length_map]
 conv => rhs; rw [e0]
 rw [List.filter_map, List.map_map]
 rfl
theorem x6c {K : PySem.W.Frag} {a : Addr} {ms : List Int} {H1 : Hp} {frs : St} {g : TG} {tt : TT} {te : TE} {Q : VK} (hS : SqT K H1 a (ms.map V.int)) (hn : ms.length ≤ 1000) (p : Int → Bool) (f : Int → V)
  (turn : ∀ (i : Nat) (hi : i < ms.length) t H2 (R : St → Hp → Option V → Prop), q0y H1 H2 → t.length = 1 → (∀ t' H', t'.length = 1 → q0y H2 H' → R (t' ++ frs) H' (if p ms[i] = true then some (f ms[i]) else none)) →
   g (.int ms[i]) (t ++ frs) H2 fun σ3 H3 => tt σ3 H3 fun b H4 => if b = true then te σ3 H4 fun v H5 => R σ3 H5 (some v) else R σ3 H4 none)
  (hq : ∀ D H', q0y H1 H' → H1 D = none → H' D = some (.lst ((ms.filter p).map f)) → Q (.ref D) H') : x8p (List.replicate 1 none ++ frs) g tt te Q (Itt K a) H1 := by
 refine q3d (J := Itt K a) (k := 1) (n := (ms.map V.int).length) (fun i => p (ms.getD i 0)) (fun i => f (ms.getD i 0)) (by rw [List.length_map, sizeLine_eq]; omega) (fun i H3 hi s4 => ⟨_, .int (ms.getD i 0), SqT.same' hS s4, ?_⟩) (fun H3 s4 => ⟨_, SqT.same' hS s4, Nat.le_refl _⟩) ?_ ?_
 ·rw [List.length_map] at hi
  simp [hi]
 ·intro i H3 t v H4 R hi s4 ht y hR
  obtain ⟨rfl, hy⟩ := y
  have hi' : i < ms.length := by simpa using hi
  have hv := hy _ (SqT.same' hS s4)
  rw [List.getElem?_map, List.getElem?_eq_getElem hi'] at hv
  cases hv
  have eg : ms.getD i 0 = ms[i] := by simp [hi']
  rw [eg] at hR
  exact turn i hi' t H4 R s4 ht hR
 ·intro D1 H3 s4 hD hd
  rw [j6l] at hd
  exact hq D1 H3 s4 hD hd
end K1
namespace Kp
open PySem L2
end Kp
set_option maxHeartbeats 4000000
namespace Kp
open PySem L2
end Kp
namespace K1
open PySem L2 Kp
theorem x3z {a b : Str} (h : a.cps.toList = b.cps.toList) : a = b := by
 obtain ⟨⟨x⟩⟩ := a
 obtain ⟨⟨y⟩⟩ := b
 simp only at h
 rw [h]
instance (a b : Str) : Decidable (j5n a b) := inferInstanceAs (Decidable (a.cps.toList < b.cps.toList))
end K1
namespace Kp
open PySem L2 PySem.Spec PyProof.Rows
section
variable {X : Cx}
end
end Kp
namespace Kp
open PySem L2
end Kp
namespace Kp
open PySem L2 PySem.Spec PyProof.Rows
section
variable {X : Cx}
theorem z1p : ∀ l : List (Str × Tok), q4b ((l.map (·.1)).map V.str) (strValues l)
 | [] => .nil
 | p :: l => .cons ⟨_, rfl⟩ (z1p l)
theorem z7g {z y : Str} (hy : 1 ≤ y.length) : (Txt.split z y).length ≤ z.length + 1 := by
 have := split_weight z y hy
 omega
theorem z9k : MtR X "str.split" (fun x xs H Q => ∃ z y, x = .str z ∧ xs = [.str y] ∧ 1 ≤ y.length ∧ z.length + 1 ≤ sizeLine ∧ ∀ l, H l = none → Q (.ref l) (upd H l (.lst ((Txt.split z y).map V.str)))) := by
 intro pins s σ H x xs v us Q I rx rv h
 obtain ⟨z, y, rfl, rfl, hy, hz, q⟩ := h
 obtain ⟨t, rfl⟩ := rx
 obtain ⟨u, rfl, t', rfl⟩ := q8a rv
 have hfew := z7g (z := z) hy
 have fin : ∀ (l : List (Str × Tok)) (k : Nat), l.map (·.1) = Txt.split z y →
   EP X pins σ Q (.ref s.heap.objs.size) { s with toks := k, heap := s.heap.push { cls := .type "list", data := .seq (strValues l).toArray } } := by
  intro l k e
  refine ⟨.ref s.heap.objs.size, _, I.laid (t' := k) (o := .lst ((Txt.split z y).map V.str)) (fun b o hb => Heap.get?_push_of_some _ hb) (Nat.le_refl _) ⟨?_, strValues l, _, ?_, Heap.get?_push_size _ rfl⟩, rfl, q _ (I.hok.fresh (Nat.le_refl _))⟩
  ·rw [List.length_map]; omega
  ·rw [← e]; exact z1p l
 have hy0 : (y.length == 0) = false := by
  rw [beq_eq_false_iff_ne]; omega
 have hself : ∀ S : List Str, S = [z] → Txt.split z y = S → listOfItself z t X.A (wants (EP X pins σ Q) X.xe) s := by
  intro S e1 e2
  exact fin [(z, t)] s.toks (by rw [e2, e1]; rfl)
 cases hc : (decide (z.length < y.length) || decide (Builtin.Str.strKind z < Builtin.Str.strKind y)) with
 | true => exact call_meets PySem.F.slot_str_split (typeIs_str _ _ _) PySem.F.entry_str_split (PySem.F.args_str_split_2 _ _) (meets_str_split_cannot_occur z y t t' hc) (hself [z] rfl (if_pos hc))
 | false =>
  have hc' : ¬ (decide (z.length < y.length) || decide (Builtin.Str.strKind z < Builtin.Str.strKind y)) = true := by rw [hc]; decide
  cases ho : (Builtin.Str.occurrences z y 0 z.length (z.length + 1)).isEmpty with
  | true => exact call_meets PySem.F.slot_str_split (typeIs_str _ _ _) PySem.F.entry_str_split (PySem.F.args_str_split_2 _ _) (meets_str_split_not_found z y t t' hc hy0 ho) (hself [z] rfl ((if_neg hc').trans (if_pos ho)))
  | false =>
   have ho' : ¬ (Builtin.Str.occurrences z y 0 z.length (z.length + 1)).isEmpty = true := by rw [ho]; decide
   have es : Txt.split z y = Builtin.Str.partsBetween z (Builtin.Str.occurrences z y 0 z.length (z.length + 1)) y.length := (if_neg hc').trans (if_neg ho')
   refine call_meets PySem.F.slot_str_split (typeIs_str _ _ _) PySem.F.entry_str_split (PySem.F.args_str_split_2 _ _) (meets_str_split_sep z y t t' hc hy0 ho (by omega) (by rw [← es]; omega)) ?_
   rw [← es]
   simp only [strsFrom_eq]
   exact fin (numbered s.toks (Txt.split z y)) _ (numbered_texts _ _)
theorem x3t : MtR X "str.join" (fun x xs H Q => ∃ z p, ∃ ys : List Str, x = .str z ∧ xs = [.ref p] ∧ SqL X.K H p (ys.map V.str) ∧ JoinOk z ys = true ∧ Q (.str (Str.join z ys)) H) := by
 intro pins s σ H x xs v us Q I rx rv h
 obtain ⟨z, p, ys, rfl, rfl, hq, hok, q⟩ := h
 obtain ⟨t, rfl⟩ := rx
 obtain ⟨u, rfl, rx⟩ := q8a rv
 cases rx
 obtain ⟨its, rv, pl, hz⟩ := I.list hq
 have hl := pl.isList
 have hv : ∃ l : List (Str × Tok), strValues l = its ∧ l.map (·.1) = ys := by
  clear hl pl hq hz hok q
  generalize hw : ys.map V.str = ws at rv
  induction rv generalizing ys with
  | nil => exact ⟨[], rfl, (List.map_eq_nil_iff.mp hw).symm⟩
  | cons r1 t1 ih =>
   cases ys with
   | nil => cases hw
   | cons y ys =>
    cases hw
    obtain ⟨k, rfl⟩ := r1
    obtain ⟨l, e1, e2⟩ := ih ys rfl
    exact ⟨(y, k) :: l, by rw [← e1]; rfl, by rw [← e2]; rfl⟩
 obtain ⟨l, e1, e2⟩ := hv
 rw [← e1] at hl
 refine SC.join hl e2 hok fun t' k => ⟨.str (Str.join z ys), H, I.tok _, ?_, q⟩
 show ∃ t, _ = _
 exact ⟨t', by rw [show Txt.join z ys = Str.join z ys from StrLaws.glued_eq_join z ys]⟩
end
end Kp
namespace Kp
open PySem PySem.Spec PyProof.Rows PySem.NumText
noncomputable def q1p (n : Int) : Str := Str.ofString (toString n)
noncomputable def j0g (n : Int) : List Nat := (q1p n).cps.toList
noncomputable def x4m (m : Nat) : List Nat := (Nat.toDigits 10 m).map Char.toNat
theorem x0b (m : Nat) : j0g (m : Int) = x4m m := PySem.W.KIN.signs_num m
theorem x2c {n : Int} (h : n < 0) : j0g n = 45 :: x4m n.natAbs := by
 unfold j0g q1p
 rw [toString_neg h, signs_ofString, String.toList_append, List.map_append]
 have e : (0 : Int) - n = ((n.natAbs : Nat) : Int) := by omega
 rw [e]
 have q := PySem.W.KIN.signs_num n.natAbs
 rw [signs_ofString] at q
 rw [q]
 rfl
theorem q9q (m : Nat) : AllDigits (x4m m) := by
 intro c hc
 obtain ⟨ch, hch, rfl⟩ := List.mem_map.mp hc
 have h := Nat.isDigit_of_mem_toDigits (b := 10) (n := m) (by decide) (by decide) hch
 have h2 : ch.val.toNat ≥ 48 ∧ ch.val.toNat ≤ 57 := by
  unfold Char.isDigit at h
  rw [Bool.and_eq_true, decide_eq_true_eq, decide_eq_true_eq] at h
  exact ⟨h.1, h.2⟩
 exact ⟨h2.1, h2.2⟩
theorem x7e (m : Nat) {k : Nat} (hk : 0 < k) : (x4m m).length ≤ k ↔ m < 10 ^ k := by
 unfold x4m
 rw [List.length_map]
 exact Nat.length_toDigits_le_iff (by decide) hk
theorem z9l {m : Nat} (h : m < 10) : x4m m = [48 + m] := by
 unfold x4m
 rw [Nat.toDigits_of_lt_base h]
 have : ∀ m : Nat, m < 10 → [(Nat.digitChar m).toNat] = [48 + m] := by decide
 exact this m h
theorem z6p {m : Nat} (h : 10 ≤ m) : x4m m = x4m (m / 10) ++ [48 + m % 10] := by
 unfold x4m
 rw [Nat.toDigits_of_base_le (by decide) h, List.map_append]
 have : ∀ m : Nat, m < 10 → [(Nat.digitChar m).toNat] = [48 + m] := by decide
 rw [← this (m % 10) (Nat.mod_lt _ (by decide))]
 rfl
theorem z8y (n : Int) : (q1p n).length = (j0g n).length := by
 unfold j0g
 rw [Array.length_toList]
 rfl
theorem x3z {a b : Str} (h : a.cps.toList = b.cps.toList) : a = b := by
 obtain ⟨⟨x⟩⟩ := a
 obtain ⟨⟨y⟩⟩ := b
 cases (show x = y from h)
 rfl
theorem z2y (n : Int) : ∀ c ∈ j0g n, c = 45 ∨ (48 ≤ c ∧ c ≤ 57) := by
 intro c hc
 by_cases h : n < 0
 ·rw [x2c h] at hc
  rcases List.mem_cons.mp hc with rfl | hc
  ·exact .inl rfl
  ·exact .inr (q9q _ c hc)
 ·obtain ⟨m, rfl⟩ := Int.eq_ofNat_of_zero_le (show 0 ≤ n by omega)
  rw [x0b] at hc
  exact .inr (q9q _ c hc)
theorem q1e {n : Int} {k : Nat} (hk : 0 < k) (h : n.natAbs < 10 ^ k) : (q1p n).length ≤ k + 1 := by
 have hl : (x4m n.natAbs).length ≤ k := (x7e _ hk).mpr h
 rw [z8y]
 by_cases hn : n < 0
 ·rw [x2c hn, List.length_cons]; omega
 ·obtain ⟨m, rfl⟩ := Int.eq_ofNat_of_zero_le (show 0 ≤ n by omega)
  rw [x0b]
  have : ((m : Int)).natAbs = m := by simp
  rw [this] at hl
  omega
end Kp
namespace Kp
open PySem PySem.Spec PyProof.Rows
noncomputable def x7h (c : Nat) : List (List Nat) → List Nat
 | [] => []
 | [x] => x
 | x :: y :: r => x ++ c :: x7h c (y :: r)
theorem x6v {c : Nat} : ∀ {x y r s : List Nat}, c ∉ x → c ∉ y → x ++ c :: r = y ++ c :: s → x = y ∧ r = s
 | [], [], r, s, _, _, h => ⟨rfl, (List.cons.inj h).2⟩
 | [], b :: y, r, s, _, hy, h => absurd ((List.cons.inj h).1) (fun e => hy (e ▸ List.mem_cons_self))
 | a :: x, [], r, s, hx, _, h => absurd ((List.cons.inj h).1) (fun e => hx (e ▸ List.mem_cons_self))
 | a :: x, b :: y, r, s, hx, hy, h => by
  obtain ⟨e, h⟩ := List.cons.inj h
  obtain ⟨e1, e2⟩ := x6v (fun z => hx (List.mem_cons_of_mem _ z)) (fun z => hy (List.mem_cons_of_mem _ z)) h
  exact ⟨by rw [e, e1], e2⟩
theorem x8a {c : Nat} : ∀ (ws us : List (List Nat)), ws ≠ [] → us ≠ [] → (∀ x ∈ ws, c ∉ x) → (∀ x ∈ us, c ∉ x) → x7h c ws = x7h c us → ws = us
 | [], _, h, _, _, _, _ => absurd rfl h
 | _, [], _, h, _, _, _ => absurd rfl h
 | [x], [y], _, _, _, _, h => by
  have : x = y := h
  rw [this]
 | [x], y :: z :: r, _, _, hx, _, h => by
  have e : x = y ++ c :: x7h c (z :: r) := h
  exact absurd (show c ∈ x by rw [e]; simp) (hx x (by simp))
 | x :: z :: r, [y], _, _, _, hy, h => by
  have e : x ++ c :: x7h c (z :: r) = y := h
  exact absurd (show c ∈ y by rw [← e]; simp) (hy y (by simp))
 | x :: z :: r, y :: u :: s, _, _, hx, hy, h => by
  obtain ⟨e1, e2⟩ := x6v (hx x (by simp)) (hy y (by simp)) (show x ++ c :: x7h c (z :: r) = y ++ c :: x7h c (u :: s) from h)
  have := x8a (z :: r) (u :: s) (by simp) (by simp) (fun p hp => hx p (List.mem_cons_of_mem _ hp)) (fun p hp => hy p (List.mem_cons_of_mem _ hp)) e2
  rw [e1, this]
noncomputable def cL (x : Str) : List Nat := x.cps.toList
theorem x0s (a b : Str) : cL (a ++ b) = cL a ++ cL b := by unfold cL; rw [show (a ++ b).cps = a.cps ++ b.cps from rfl, Array.toList_append]
theorem z0q (c : Nat) : ∀ ws : List Str, cL (Str.join ⟨#[c]⟩ ws) = x7h c (ws.map cL)
 | [] => rfl
 | [x] => rfl
 | x :: y :: r => by
  have ih := z0q c (y :: r)
  have e : Str.join ⟨#[c]⟩ (x :: y :: r) = x ++ ⟨#[c]⟩ ++ Str.join ⟨#[c]⟩ (y :: r) := rfl
  rw [e, x0s, x0s, ih, List.append_assoc]
  rfl
theorem x5p : ∀ {ws us : List Str}, ws.map cL = us.map cL → ws = us
 | [], [], _ => rfl
 | [], _ :: _, h => by cases h
 | _ :: _, [], h => by cases h
 | x :: ws, y :: us, h => by
  obtain ⟨e, h⟩ := List.cons.inj h
  rw [x3z e, x5p h]
theorem j0l (x : Str) (c : Nat) : Txt.split x ⟨#[c]⟩ ≠ [] := by
 intro e
 have h := StrLaws.join_split x ⟨#[c]⟩
 rw [e] at h
 have hx : x = Str.empty := h.symm
 subst hx
 have q : Txt.split Str.empty ⟨#[c]⟩ = [Str.empty] := if_pos (by rfl)
 rw [q] at e
 cases e
theorem z4a {c : Nat} {ws : List Str} (hne : ws ≠ []) (hf : ∀ x ∈ ws, c ∉ cL x) : Txt.split (Str.join ⟨#[c]⟩ ws) ⟨#[c]⟩ = ws := by
 have h1 := congrArg cL (StrLaws.join_split (Str.join ⟨#[c]⟩ ws) ⟨#[c]⟩)
 rw [z0q, z0q] at h1
 refine x5p (x8a _ _ (fun e => j0l _ _ (List.map_eq_nil_iff.mp e)) (fun e => hne (List.map_eq_nil_iff.mp e)) ?_ ?_ h1)
 ·intro x hx
  obtain ⟨p, hp, rfl⟩ := List.mem_map.mp hx
  exact StrLaws.split_free _ c p hp
 ·intro x hx
  obtain ⟨p, hp, rfl⟩ := List.mem_map.mp hx
  exact hf p hp
end Kp
namespace Kp
open PySem L2 PySem.Spec PyProof.Rows PySem.NumText
theorem j7n (p : Nat → Bool) : ∀ l : List Nat, (l.takeWhile p).length + (l.dropWhile p).length = l.length
 | [] => rfl
 | a :: r => by
  rw [List.takeWhile_cons, List.dropWhile_cons]
  split
  ·have := j7n p r
   simp only [List.length_cons]
   omega
  ·simp
theorem z2x (x : Str) : (Txt.lstripChars x "-").length = ((cL x).dropWhile (· == 45)).length := by
 unfold Txt.lstripChars
 rw [stripBy_eq]
 have e : ("-" : Str).cps = #[45] := by decide +kernel
 rw [e]
 have e2 : (#[45] : Array Nat).contains = fun c => c == 45 := by
  funext c
  rw [Bool.eq_iff_iff]
  simp
 rw [e2]
 have h := j7n (fun c => c == 45) (cL x)
 show (Builtin.Str.strSub x ((cL x).takeWhile fun c => c == 45).length x.length).length = _
 have h2 := congrArg List.length (StrLaws.strSub_toList x ((cL x).takeWhile fun c => c == 45).length x.length)
 rw [Array.length_toList, List.length_take, List.length_drop] at h2
 have h3 : (cL x).length = x.length := Array.length_toList
 have h4 : x.cps.toList.length = x.length := h3
 show (Builtin.Str.strSub x _ x.length).cps.size = _
 rw [h2, h4]
 omega
theorem z4f (n : Int) : (Txt.lstripChars (q1p n) "-").length = (x4m n.natAbs).length := by
 rw [z2x]
 have hd : ∀ m, (x4m m).dropWhile (· == 45) = x4m m := by
  intro m
  have h := q9q m
  cases e : x4m m with
  | nil => rfl
  | cons c r =>
   rw [e] at h
   have hc := h c List.mem_cons_self
   have : (c == 45) = false := by rw [beq_eq_false_iff_ne]; omega
   rw [List.dropWhile_cons, this]
   rfl
 show ((j0g n).dropWhile (· == 45)).length = _
 by_cases hn : n < 0
 ·rw [x2c hn, List.dropWhile_cons]
  show ((x4m n.natAbs).dropWhile (· == 45)).length = _
  rw [hd]
 ·obtain ⟨m, rfl⟩ := Int.eq_ofNat_of_zero_le (show 0 ≤ n by omega)
  rw [x0b, hd]
  simp
theorem x6l (n : Int) : (Txt.lstripChars (q1p n) "-").length < 61 ↔ n.natAbs < 10 ^ 60 := by
 rw [z4f, ← x7e _ (by decide : 0 < 60)]
 omega
theorem x9g (x : Str) : (Txt.lstripChars x "-").length ≤ x.length := len_lstripChars x "-"
section
variable {X : Cx}
theorem z5g : MtR X "str.lstrip" (fun x xs H Q => ∃ z y, x = .str z ∧ xs = [.str y] ∧ z.length ≤ sizeLine ∧ Q (.str (Txt.lstripChars z y)) H) := by
 intro pins s σ H x xs v us Q I rx rv h
 obtain ⟨z, y, rfl, rfl, hz, q⟩ := h
 obtain ⟨t, rfl⟩ := rx
 obtain ⟨u, rfl, t', rfl⟩ := q8a rv
 exact SC.lstripChars (fun t' k => ⟨.str _, H, I.tok _, ⟨_, rfl⟩, q⟩) hz
end
end Kp
namespace Kp
open PySem L2 PySem.Spec PyProof.Rows PySem.NumText
noncomputable def q2o : D → List Str
 | .int i => [q1p i]
 | _ => []
noncomputable def x8q : D → List Str
 | .str x => [x]
 | _ => []
noncomputable def j4q : D → List Str
 | .bl b => [if b then "yes" else "no"]
 | _ => []
noncomputable def j5d : D → List Str
 | .non => ["none"]
 | d => q2o d
noncomputable def q2h : List (D → List Str) → List D → List Str
 | f :: fs, d :: ds => f d ++ q2h fs ds
 | _, _ => []
noncomputable def j1q (fs : List (D → List Str)) : D → List Str
 | .tup ds => q2h fs ds
 | _ => []
noncomputable def q6f (f : D → List Str) : D → List Str
 | .tup ds => q1p (ds.length : Int) :: ds.flatMap f
 | _ => []
noncomputable def byW (tb : List (Str × List (D → List Str))) : D → List Str
 | .tup (.str x :: ds) => x :: q2h ((tb.lookup x).getD []) ds
 | _ => []
noncomputable def q3u : D → List Str := q6f q2o
noncomputable def x7k : List (Str × List (D → List Str)) := [("set", [x8q, q2o]), ("add", [x8q, q2o]), ("get", [x8q])]
noncomputable def q5z : D → List Str := byW x7k
noncomputable def x9f : List (Str × List (D → List Str)) := [("open", []), ("wish", [x8q, q2o, q5z]), ("seats", [q3u])]
noncomputable def z2w : D → List Str := byW x9f
noncomputable def q3j : D → List Str := j1q [q2o, z2w]
noncomputable def q6y : D → List Str := q6f q3j
noncomputable def q7c : D → List Str := j1q [x8q, q2o]
noncomputable def q5n : D → List Str := j1q [x8q, q2o, q2o]
noncomputable def q7v : D → List Str := j1q [q6f q7c, q6f q5n]
noncomputable def z2s : D → List Str := j1q [q2o, q2o, q3u, q7v]
noncomputable def q9g : List (Str × List (D → List Str)) := [("ask", [q2o, q2o, q2o, q2o, q2o]), ("voice", [q2o, q2o, q2o, j4q]), ("hand", [q2o, q2o, q2o, q2o, q2o, q2o, q6y]), ("pack", [q2o, q2o, q2o, z2s]),
 ("held", [q2o, q2o, q2o, j4q, q2o]), ("wish", [x8q, q2o, q2o, q5z]), ("told", [q2o, x8q, q2o, q2o]), ("away", [q2o, x8q, q2o, j5d])]
noncomputable def x1y : List D → List D
 | [a, b] => [b, a]
 | a :: r => a :: x1y r
 | [] => []
noncomputable def q1j : D → List Str
 | .tup (.str x :: ds) => x :: q2h ((q9g.lookup x).getD []) (if x = "hand" then x1y ds else ds)
 | _ => []
mutual
noncomputable def q1g (k : Nat) : D → Bool
 | .int i => decide (i.natAbs < 10 ^ k)
 | .tup ds => smallL k ds
 | .lst ds => smallL k ds
 | _ => true
noncomputable def smallL (k : Nat) : List D → Bool
 | [] => true
 | d :: ds => q1g k d && smallL k ds
end
mutual
noncomputable def z8g (B : Nat) : D → Bool
 | .tup ds => decide (ds.length ≤ B) && widL B ds
 | .lst ds => decide (ds.length ≤ B) && widL B ds
 | _ => true
noncomputable def widL (B : Nat) : List D → Bool
 | [] => true
 | d :: ds => z8g B d && widL B ds
end
mutual
theorem Is.wid {B : Nat} {H : Hp} : ∀ {v : V} {d : D}, Is B H v d → z8g B d = true
 | _, _, .non => rfl
 | _, _, .bl _ => rfl
 | _, _, .int _ => rfl
 | _, _, .str _ _ => rfl
 | _, _, .tup e l r => by rw [z8g, r.wid, decide_eq_true (r.length ▸ l)]; rfl
 | _, _, .lst e l r => by rw [z8g, r.wid, decide_eq_true (r.length ▸ l)]; rfl
theorem IsL.wid {B : Nat} {H : Hp} : ∀ {vs : List V} {ds : List D}, IsL B H vs ds → widL B ds = true
 | _, _, .nil => rfl
 | _, _, .cons h t => by rw [widL, h.wid, t.wid]; rfl
end
theorem q2w {k : Nat} : ∀ {ds : List D}, smallL k ds = true ↔ ∀ d ∈ ds, q1g k d = true
 | [] => by simp [smallL]
 | d :: ds => by rw [smallL, Bool.and_eq_true, q2w]; simp
theorem x0k {k : Nat} : ∀ {ds : List D}, widL k ds = true ↔ ∀ d ∈ ds, z8g k d = true
 | [] => by simp [widL]
 | d :: ds => by rw [widL, Bool.and_eq_true, x0k]; simp
noncomputable def x7q (w : Str) : Prop := (Txt.lstripChars w "-").length < 61
structure POk (n : Nat) (ds : List D) (ws : List Str) : Prop where
 free : ∀ w ∈ ws, 32 ∉ cL w
 fit : (∀ w ∈ ws, x7q w) ↔ smallL 60 ds = true
 len : ∀ k, 60 ≤ k → smallL k ds = true → ∀ w ∈ ws, w.length ≤ k + 1
 few : ws.length ≤ n
noncomputable def WOk (B n : Nat) (p : D → Bool) (f : D → List Str) : Prop := ∀ d, p d = true → z8g B d = true → POk n [d] (f d)
theorem POk.nil : POk 0 [] [] := ⟨fun _ h => absurd h List.not_mem_nil, ⟨fun _ => rfl, fun _ _ h => absurd h List.not_mem_nil⟩, fun _ _ _ _ h => absurd h List.not_mem_nil, Nat.le_refl _⟩
theorem x1c {k : Nat} {a b : List D} : smallL k (a ++ b) = true ↔ smallL k a = true ∧ smallL k b = true := by
 rw [q2w, q2w, q2w]
 simp only [List.mem_append, or_imp, forall_and]
theorem POk.app {n m : Nat} {a b : List D} {u w : List Str} (h : POk n a u) (g : POk m b w) : POk (n + m) (a ++ b) (u ++ w) where
 free := fun x hx => (List.mem_append.mp hx).elim (h.free x) (g.free x)
 fit := by
  rw [x1c, ← h.fit, ← g.fit]
  simp only [List.mem_append, or_imp, forall_and]
 len := fun k hk hs x hx => by
  obtain ⟨h1, h2⟩ := x1c.mp hs
  exact (List.mem_append.mp hx).elim (h.len k hk h1 x) (g.len k hk h2 x)
 few := by
  have := h.few
  have := g.few
  rw [List.length_append]
  omega
theorem POk.up {n m : Nat} {a : List D} {u : List Str} (h : POk n a u) (hm : n ≤ m) : POk m a u := ⟨h.free, h.fit, h.len, Nat.le_trans h.few hm⟩
theorem POk.tup {n : Nat} {ds : List D} {u : List Str} (h : POk n ds u) : POk n [.tup ds] u :=
 ⟨h.free, by rw [smallL, smallL, Bool.and_true, q1g]; exact h.fit, fun k hk hs => h.len k hk (by rw [smallL, smallL, Bool.and_true, q1g] at hs; exact hs), h.few⟩
theorem POk.of {n : Nat} {ds es : List D} {u : List Str} (h : POk n ds u) (e : ∀ k, 60 ≤ k → (smallL k ds = true ↔ smallL k es = true)) : POk n es u :=
 ⟨h.free, h.fit.trans (e 60 (by decide)), fun k hk hs => h.len k hk ((e k hk).mpr hs), h.few⟩
theorem WOk.up {B n m : Nat} {p : D → Bool} {f : D → List Str} (h : WOk B n p f) (hm : n ≤ m) : WOk B m p f := fun d a b => (h d a b).up hm
theorem WOk.sub {B n : Nat} {p q : D → Bool} {f : D → List Str} (h : WOk B n p f) (hq : ∀ d, q d = true → p d = true) : WOk B n q f := fun d a b => h d (hq d a) b
theorem j0c (n : Int) : 32 ∉ cL (q1p n) := fun h => by
 rcases z2y n 32 h with h | h
 ·cases h
 ·omega
theorem q0v : ∀ {d : D}, whole d = true → ∃ i, d = .int i
 | .int i, _ => ⟨i, rfl⟩
theorem q1l {l : Int} : ∀ {d : D}, geD l d = true → whole d = true
 | .int i, _ => rfl
theorem q1k : ∀ {d : D}, q0g d = true → whole d = true
 | .int i, _ => rfl
theorem z7a (i : Int) : POk 1 [.int i] [q1p i] where
 free := fun w hw => by
  cases List.mem_singleton.mp hw
  exact j0c i
 fit := by
  rw [smallL, smallL, Bool.and_true]
  show (∀ w ∈ [q1p i], x7q w) ↔ decide (i.natAbs < 10 ^ 60) = true
  rw [decide_eq_true_eq, ← x6l]
  simp [x7q]
 len := fun k hk hs w hw => by
  cases List.mem_singleton.mp hw
  rw [smallL, smallL, Bool.and_true] at hs
  exact q1e (by omega) (of_decide_eq_true hs)
 few := Nat.le_refl _
theorem q4m {B : Nat} : WOk B 1 whole q2o := fun d h _ => by
 obtain ⟨i, rfl⟩ := q0v h
 exact z7a i
end Kp
namespace Kp
open PySem L2 PySem.Spec PyProof.Rows PySem.NumText
noncomputable def x4x (x : Str) : Bool := x.cps.toList.all q9i && decide (x.length ≤ 8)
theorem z8n {x : Str} (h : x4x x = true) : 32 ∉ cL x := fun hm => by
 unfold x4x at h
 rw [Bool.and_eq_true, List.all_eq_true] at h
 have := h.1 32 hm
 revert this
 decide
theorem z7t {x : Str} (h : x4x x = true) : x7q x := by
 unfold x4x at h
 rw [Bool.and_eq_true, decide_eq_true_eq] at h
 have := x9g x
 unfold x7q
 omega
theorem q7m {x : Str} (h : x4x x = true) : x.length ≤ 8 := by
 unfold x4x at h
 rw [Bool.and_eq_true, decide_eq_true_eq] at h
 exact h.2
theorem q3k : ∀ {d : D}, q2y d = true → ∃ x, d = .str x ∧ x4x x = true
 | .str x, h => by
  refine ⟨x, rfl, ?_⟩
  unfold q2y at h
  dsimp only at h
  rw [Bool.and_eq_true, Bool.and_eq_true] at h
  unfold x4x
  rw [h.2, h.1.2]
  rfl
theorem x3i {x : Str} (d : D) (hx : x4x x = true) (hd : ∀ k, q1g k d = true) : POk 1 [d] [x] where
 free := fun w hw => by
  cases List.mem_singleton.mp hw
  exact z8n hx
 fit := by
  have := z7t hx
  rw [smallL, smallL, Bool.and_true, hd]
  simp [this]
 len := fun k hk hs w hw => by
  cases List.mem_singleton.mp hw
  have := q7m hx
  omega
 few := Nat.le_refl _
theorem q7b {B : Nat} : WOk B 1 q2y x8q := fun d h _ => by
 obtain ⟨x, rfl, hx⟩ := q3k h
 exact x3i _ hx fun _ => rfl
theorem q9e : ∀ {d : D}, q2t d = true → ∃ b, d = .bl b
 | .bl b, _ => ⟨b, rfl⟩
theorem j7d (b : Bool) : x4x (if b then "yes" else "no") = true := by cases b <;> decide +kernel
theorem z5z {B : Nat} : WOk B 1 q2t j4q := fun d h _ => by
 obtain ⟨b, rfl⟩ := q9e h
 exact x3i _ (j7d b) fun _ => rfl
theorem z8v : x4x "none" = true := by decide +kernel
theorem x9e : ∀ {d : D}, q7y d = true → d = .non ∨ (whole d = true ∧ j5d d = q2o d)
 | .non, _ => .inl rfl
 | .int i, _ => .inr ⟨rfl, rfl⟩
theorem j3c {B : Nat} : WOk B 1 q7y j5d := fun d h hw => by
 rcases x9e h with rfl | ⟨h1, e⟩
 ·exact x3i _ z8v fun _ => rfl
 ·rw [e]; exact q4m d h1 hw
inductive WOkL (B : Nat) : Nat → List (D → Bool) → List (D → List Str) → Prop
 | nil : WOkL B 0 [] []
 | cons {n m : Nat} {p : D → Bool} {f : D → List Str} {ps : List (D → Bool)} {fs : List (D → List Str)} (h : WOk B n p f) (t : WOkL B m ps fs) : WOkL B (n + m) (p :: ps) (f :: fs)
theorem WOkL.p {B : Nat} : ∀ {n : Nat} {ps : List (D → Bool)} {fs : List (D → List Str)} {ds : List D}, WOkL B n ps fs → q0x ps ds = true → widL B ds = true → POk n ds (q2h fs ds)
 | _, _, _, [], .nil, _, _ => .nil
 | _, _, _, _ :: _, .nil, h, _ => by cases h
 | _, _, _, [], .cons _ _, h, _ => by cases h
 | _, _, _, d :: ds, .cons h t, hf, hw => by
  rw [q0x, Bool.and_eq_true] at hf
  rw [widL, Bool.and_eq_true] at hw
  exact (h d hf.1 hw.1).app (t.p hf.2 hw.2)
theorem q5x {ps : List (D → Bool)} : ∀ {d : D}, x0l ps d = true → ∃ ds, d = .tup ds ∧ q0x ps ds = true
 | .tup ds, h => ⟨ds, rfl, h⟩
theorem q9m {B : Nat} {ds : List D} (h : z8g B (.tup ds) = true) : ds.length ≤ B ∧ widL B ds = true := by
 rw [z8g, Bool.and_eq_true, decide_eq_true_eq] at h
 exact h
theorem x3n {B n : Nat} {ps : List (D → Bool)} {fs : List (D → List Str)} (t : WOkL B n ps fs) : WOk B n (x0l ps) (j1q fs) := fun d hd hw => by
 obtain ⟨ds, rfl, h⟩ := q5x hd
 exact (t.p h (q9m hw).2).tup
theorem x6n {B n : Nat} {p : D → Bool} {f : D → List Str} (h : WOk B n p f) : ∀ {ds : List D}, ds.all p = true → widL B ds = true → POk (ds.length * n) ds (ds.flatMap f)
 | [], _, _ => by rw [List.length_nil, Nat.zero_mul]; exact .nil
 | d :: ds, ha, hw => by
  rw [List.all_cons, Bool.and_eq_true] at ha
  rw [widL, Bool.and_eq_true] at hw
  have := (h d ha.1 hw.1).app (x6n h ha.2 hw.2)
  rw [List.flatMap_cons]
  exact this.up (by rw [List.length_cons, Nat.succ_mul]; omega)
theorem x3u {B n m : Nat} {p : D → Bool} {f : D → List Str} (h : WOk B n p f) {ds : List D} (ha : ds.all p = true) (hw : widL B ds = true) (hl : ds.length ≤ m) (hm : m < 10 ^ 60) : POk (1 + m * n) [.tup ds] (q6f f (.tup ds)) := by
 have h1 := x6n h ha hw
 have h0 := z7a (ds.length : Int)
 have h2 := h0.app h1
 have h3 : POk (1 + ds.length * n) ds (q6f f (.tup ds)) := by
  refine h2.of fun k hk => ?_
  have hb : 10 ^ 60 ≤ 10 ^ k := Nat.pow_le_pow_right (by decide) hk
  rw [List.singleton_append, smallL, q1g, decide_eq_true (by simp; omega), Bool.true_and]
 exact (h3.up (by have := Nat.mul_le_mul_right n hl; omega)).tup
theorem x0n {B n : Nat} {p : D → Bool} {f : D → List Str} (h : WOk B n p f) (hB : B < 10 ^ 60) : WOk B (1 + B * n) (x5r p) (q6f f) := fun d hd hw => by
 cases d with
 | tup ds =>
  have hd' : (ds.all p && x3g (ds.map q1o)) = true := hd
  rw [Bool.and_eq_true] at hd'
  exact x3u h hd'.1 (q9m hw).2 (q9m hw).1 hB
 | _ => cases hd
theorem q6u {B : Nat} : WOk B 10 q3m q3u := fun d hd hw => by
 cases d with
 | tup ds =>
  have hd' : (ds.all q0g && ((decide (1 ≤ ds.length) && decide (ds.length ≤ 9)) && x0m (q4d ds))) = true := hd
  rw [Bool.and_eq_true, Bool.and_eq_true, Bool.and_eq_true, decide_eq_true_eq, decide_eq_true_eq] at hd'
  exact x3u (m := 9) (q4m.sub fun _ => q1k) hd'.1 (q9m hw).2 hd'.2.1.2 (by decide)
 | _ => cases hd
theorem z0w {B n : Nat} {p : D → Bool} {f : D → List Str} (h : WOk B n p f) {d : D} (hd : j9w p d = true) (hl : z4h d ≤ 5) (hw : z8g B d = true) : POk (1 + 5 * n) [d] (q6f f d) := by
 cases d with
 | tup ds => exact x3u (m := 5) h hd (q9m hw).2 hl (by decide)
 | _ => cases hd
inductive TOk (B n : Nat) : List (Str × List (D → Bool)) → List (Str × List (D → List Str)) → Prop
 | nil : TOk B n [] []
 | cons {x : Str} {m : Nat} {ps : List (D → Bool)} {fs : List (D → List Str)} {t : List (Str × List (D → Bool))} {u : List (Str × List (D → List Str))} (hx : x4x x = true) (hm : m ≤ n) (h : WOkL B m ps fs) (r : TOk B n t u) : TOk B n ((x, ps) :: t) ((x, fs) :: u)
theorem TOk.at {B n : Nat} {x : Str} : ∀ {t : List (Str × List (D → Bool))} {u : List (Str × List (D → List Str))} {ps : List (D → Bool)}, TOk B n t u → t.lookup x = some ps → ∃ m fs, u.lookup x = some fs ∧ m ≤ n ∧ WOkL B m ps fs ∧ x4x x = true
 | _, _, _, .nil, e => by cases e
 | _, _, ps', .cons (x := y) hx hm h r, e => by
  rw [List.lookup_cons] at e
  by_cases hy : x = y
  ·subst hy
   rw [show (x == x) = true from by simp] at e
   cases e
   exact ⟨_, _, by rw [List.lookup_cons, show (x == x) = true from by simp], hm, h, hx⟩
  ·have hb : (x == y) = false := by rw [beq_eq_false_iff_ne]; exact hy
   rw [hb] at e
   obtain ⟨m, fs, a, b⟩ := r.at e
   exact ⟨m, fs, by rw [List.lookup_cons, hb]; exact a, b⟩
theorem q2x {tb : List (Str × List (D → Bool))} {d : D} (h : q2n tb d = true) : ∃ x r ps, d = .tup (.str x :: r) ∧ tb.lookup x = some ps ∧ q0x ps r = true := by
 unfold q2n at h
 split at h
 ·rename_i x r
  split at h
  ·rename_i ps e
   exact ⟨x, r, ps, rfl, e, h⟩
  ·cases h
 ·cases h
theorem z6w {B n : Nat} {t : List (Str × List (D → Bool))} {u : List (Str × List (D → List Str))} (T : TOk B n t u) : WOk B (1 + n) (q2n t) (byW u) := fun d hd hw => by
 obtain ⟨x, r, ps, rfl, e, hf⟩ := q2x hd
 obtain ⟨m, fs, e2, hm, h, hx⟩ := T.at e
 have hw' := (q9m hw).2
 rw [widL, Bool.and_eq_true] at hw'
 have h1 := h.p hf hw'.2
 have h2 := (x3i (.str x) hx fun _ => rfl).app h1
 have h3 : POk (1 + m) [.tup (.str x :: r)] (byW u (.tup (.str x :: r))) := by
  have : byW u (.tup (.str x :: r)) = [x] ++ q2h fs r := by
   show x :: q2h ((u.lookup x).getD []) r = _
   rw [e2]; rfl
  rw [this]
  exact h2.tup
 exact h3.up (by omega)
theorem x0a {B : Nat} : WOk B 3 q7z q5z := z6w (n := 2) (.cons (by decide +kernel) (by decide) (.cons q7b (.cons q4m .nil)) (.cons (by decide +kernel) (by decide) (.cons q7b (.cons q4m .nil)) (.cons (by decide +kernel) (by decide) (.cons q7b .nil) .nil)))
theorem z1n {B : Nat} : WOk B 11 x0z z2w := z6w (n := 10) (.cons (by decide +kernel) (by decide) .nil (.cons (by decide +kernel) (by decide) (.cons q7b (.cons (q4m.sub fun _ => q1l) (.cons x0a .nil))) (.cons (by decide +kernel) (by decide) (.cons q6u .nil) .nil)))
theorem q9z {B : Nat} : WOk B 12 q3z q3j := x3n (.cons (q4m.sub fun _ => q1l) (.cons z1n .nil))
theorem x2h {B : Nat} : WOk B 2 x0f q7c := x3n (.cons q7b (.cons q4m .nil))
theorem q9b {B : Nat} : WOk B 3 q3w q5n := x3n (.cons q7b (.cons (q4m.sub fun _ => q1l) (.cons q4m .nil)))
theorem x2n {B : Nat} (hB : B < 10 ^ 60) : WOk B (2 + 5 * B) q4g q7v := (x3n (.cons (x0n x2h hB) (.cons (x0n q9b hB) .nil))).up (by omega)
theorem z5e {B : Nat} (hB : B < 10 ^ 60) : WOk B (14 + 5 * B) (x0l [geD 0, geD 0, q3m, q4g]) z2s := (x3n (.cons (q4m.sub fun _ => q1l) (.cons (q4m.sub fun _ => q1l) (.cons q6u (.cons (x2n hB) .nil))))).up (by omega)
theorem z1s {B : Nat} (hB : B < 10 ^ 60) : WOk B (14 + 5 * B) q8k z2s := (z5e hB).sub fun d h => by
 unfold q8k x6g at h
 rw [Bool.and_eq_true, Bool.and_eq_true] at h
 exact h.1.1
end Kp
namespace Kp
open PySem L2 PySem.Spec PyProof.Rows PySem.NumText
noncomputable def x6a : List (Str × List (D → Bool)) := [("ask", [q0g, q0g, geD 1, geD 0, geD 0]), ("voice", [q0g, q0g, geD 1, q2t])]
noncomputable def x5y : List (Str × List (D → Bool)) := [("pack", [q0g, q0g, geD 1, q8k]),
 ("held", [q0g, q0g, geD 1, q2t, geD 0]), ("wish", [q2y, q0g, geD 1, q7z]), ("told", [q0g, q2y, geD 1, whole]), ("away", [q0g, q2y, geD 1, q7y])]
noncomputable def x2e : List (Str × List (D → List Str)) := [("ask", [q2o, q2o, q2o, q2o, q2o]), ("voice", [q2o, q2o, q2o, j4q])]
noncomputable def x2d : List (Str × List (D → List Str)) := [("pack", [q2o, q2o, q2o, z2s]),
 ("held", [q2o, q2o, q2o, j4q, q2o]), ("wish", [x8q, q2o, q2o, q5z]), ("told", [q2o, x8q, q2o, q2o]), ("away", [q2o, x8q, q2o, j5d])]
theorem x1a {α : Type} {x y : Str} {a : α} (h : x ≠ y) : ∀ (l r : List (Str × α)), (l ++ (y, a) :: r).lookup x = (l ++ r).lookup x
 | [], r => by
  have hb : (x == y) = false := by rw [beq_eq_false_iff_ne]; exact h
  rw [List.nil_append, List.nil_append, List.lookup_cons, hb]
 | (z, b) :: l, r => by
  rw [List.cons_append, List.cons_append, List.lookup_cons, List.lookup_cons, x1a h l r]
theorem k1 {B : Nat} : WOk B 1 q0g q2o := q4m.sub fun _ => q1k
theorem g1 {B : Nat} {l : Int} : WOk B 1 (geD l) q2o := q4m.sub fun _ => q1l
theorem z3r {B : Nat} (hB : B < 10 ^ 60) : TOk B (17 + 5 * B) (x6a ++ x5y) (x2e ++ x2d) :=
 .cons (by decide +kernel) (by omega) (.cons k1 (.cons k1 (.cons g1 (.cons g1 (.cons g1 .nil)))))
 (.cons (by decide +kernel) (by omega) (.cons k1 (.cons k1 (.cons g1 (.cons z5z .nil))))
 (.cons (by decide +kernel) (by omega) (.cons k1 (.cons k1 (.cons g1 (.cons (z1s hB) .nil))))
 (.cons (by decide +kernel) (by omega) (.cons k1 (.cons k1 (.cons g1 (.cons z5z (.cons g1 .nil)))))
 (.cons (by decide +kernel) (by omega) (.cons q7b (.cons k1 (.cons g1 (.cons x0a .nil))))
 (.cons (by decide +kernel) (by omega) (.cons k1 (.cons q7b (.cons g1 (.cons q4m .nil))))
 (.cons (by decide +kernel) (by omega) (.cons k1 (.cons q7b (.cons g1 (.cons j3c .nil)))) .nil))))))
theorem z8d {B : Nat} : WOk B 61 q2f q6y := fun d hd hw => by
 unfold q2f at hd
 rw [Bool.and_eq_true, decide_eq_true_eq] at hd
 exact z0w q9z hd.1 hd.2 hw
theorem x7c {r : List D} (h : q0x [q0g, q0g, geD 1, geD 0, geD 0, q2f, geD 0] r = true) : ∃ a b c p l e m, r = [a, b, c, p, l, e, m] ∧ q0g a = true ∧ q0g b = true ∧ geD 1 c = true ∧ geD 0 p = true ∧ geD 0 l = true ∧ q2f e = true ∧ geD 0 m = true := by
 rw [j4f] at h
 split at h
 ·rename_i a b c d e f g
  simp only [Bool.and_eq_true] at h
  obtain ⟨h1, h2, h3, h4, h5, h6, h7⟩ := h
  exact ⟨a, b, c, d, e, f, g, rfl, h1, h2, h3, h4, h5, h6, h7⟩
 ·cases h
theorem x1h {B : Nat} (hB : B < 10 ^ 60) : WOk B (70 + 5 * B) (q2n q2q) q1j := fun d hd hw => by
 obtain ⟨x, r, ps, rfl, e, hf⟩ := q2x hd
 have hw' := (q9m hw).2
 by_cases hx : x = "hand"
 ·subst hx
  have e2 : ps = [q0g, q0g, geD 1, geD 0, geD 0, q2f, geD 0] := (Option.some.inj e).symm
  subst e2
  obtain ⟨a, b, c, p, l, es, m, rfl, h1, h2, h3, h4, h5, h6, h7⟩ := x7c hf
  have ew : q1j (.tup (.str "hand" :: [a, b, c, p, l, es, m])) = [("hand" : Str)] ++ q2h [q2o, q2o, q2o, q2o, q2o, q2o, q6y] [a, b, c, p, l, m, es] := rfl
  rw [ew]
  have hww : ∀ d ∈ [a, b, c, p, l, m, es], z8g B d = true := fun d hd => x0k.mp hw' d (by simp at hd ⊢; rcases hd with h | h | h | h | h | h | h <;> simp [h])
  have q : POk _ [a, b, c, p, l, m, es] (q2h [q2o, q2o, q2o, q2o, q2o, q2o, q6y] [a, b, c, p, l, m, es]) :=
   WOkL.p (B := B) (ps := [q0g, q0g, geD 1, geD 0, geD 0, geD 0, q2f]) (.cons k1 (.cons k1 (.cons g1 (.cons g1 (.cons g1 (.cons g1 (.cons z8d .nil))))))) (by simp [q0x, h1, h2, h3, h4, h5, h6, h7]) (x0k.mpr hww)
  have q2 := (x3i (x := ("hand" : Str)) (.str "hand") (by decide +kernel) fun _ => rfl).app q
  refine ((q2.of (es := .str "hand" :: [a, b, c, p, l, es, m]) fun k _ => ?_).up (by omega)).tup
  simp only [List.singleton_append, smallL, Bool.and_eq_true, Bool.and_true]
  constructor
  ·rintro ⟨z1, z2, z3, z4, z5, z6, z7, z8⟩; exact ⟨z1, z2, z3, z4, z5, z6, z8, z7⟩
  ·rintro ⟨z1, z2, z3, z4, z5, z6, z7, z8⟩; exact ⟨z1, z2, z3, z4, z5, z6, z8, z7⟩
 ·have e1 : (x6a ++ x5y).lookup x = some ps := by rw [← x1a (y := "hand") hx]; exact e
  have e2 : q9g.lookup x = (x2e ++ x2d).lookup x := by rw [← x1a (y := "hand") (a := [q2o, q2o, q2o, q2o, q2o, q2o, q6y]) hx]; rfl
  have hb : q2n (x6a ++ x5y) (.tup (.str x :: r)) = true := by
   unfold q2n
   dsimp only
   rw [e1]
   exact hf
  have q := z6w (z3r hB) _ hb hw
  have ew : q1j (.tup (.str x :: r)) = byW (x2e ++ x2d) (.tup (.str x :: r)) := by
   show x :: q2h ((q9g.lookup x).getD []) (if x = "hand" then x1y r else r) = x :: q2h (((x2e ++ x2d).lookup x).getD []) r
   rw [if_neg hx, e2]
  rw [ew]
  exact q.up (by omega)
end Kp
namespace L2
open PySem PySem.Spec PyProof.Rows
noncomputable def CXe (P : Program) (w : World) : CXT := fun outer H s E e s' => ∃ (a : Addr) (cls a0 : Value) (B : Heap) (H1 : Hp), e = .ref a ∧ s'.os = s.os ∧ AllBare s'.gens ∧ Heap.FlyingW B outer a cls a0 s'.heap ∧
 Un (frs outer) [] H H1 s.heap s'.heap ∧ (∀ b o, s.heap.get? b = some o → H b = none → b ∉ frs outer → B.get? b = some o) ∧ (∀ b o, s.heap.get? b = some o → b ∉ frs outer → ∃ o', B.get? b = some o') ∧ HOk P w H1 B ∧ H1 a = none ∧ E cls none H1
theorem q3x.there {P : Program} {w : World} {H : Hp} {h : Heap} {a : Addr} {o : HO} (x : q3x P w H h a o) : ∃ u, h.get? a = some u := by
 cases o with
 | lst xs => obtain ⟨_, _, _, _, e⟩ := x; exact ⟨_, e⟩
 | tup xs => obtain ⟨_, _, _, o, e, _⟩ := x; exact ⟨_, e⟩
 | dK kvs => obtain ⟨_, _, _, _, o, _, _, e, _⟩ := x; exact ⟨_, e⟩
 | dT kvs => obtain ⟨_, _, _, _, o, _, _, e, _⟩ := x; exact ⟨_, e⟩
 | set S n => obtain ⟨o, _, _, _, e, _⟩ := x; exact ⟨_, e⟩
 | ins C dx fs => obtain ⟨_, _, _, e, _⟩ := x; exact ⟨_, e⟩
 | own y => exact x
 | xd fs => obtain ⟨_, ⟨_, _, _, e, _⟩, _⟩ := x; exact ⟨_, e⟩
 | rng lo hi => obtain ⟨_, _, _, e⟩ := x; exact ⟨_, e⟩
 | frz ob u => obtain ⟨e, _⟩ := x; exact ⟨_, e⟩
 | tbl ps => exact ⟨_, x⟩
 | met f y => exact ⟨_, x⟩
 | ext φ => obtain ⟨_, e, _⟩ := x; exact e
theorem z2e {env : Env} {outer : List Env} {L : Addr} (hf : env.frame = some L) : frs (env :: outer) = L :: frs outer := by
 unfold frs; rw [List.filterMap_cons, hf]
section
variable {P : Program} {w : World} {K : PySem.W.Frag} {mg : Str → Option Value} {base : Heap} {N : List Str} {qual : Str} {scope : Scope} {f : Addr} {cd : Value} {A : Around} {outer : List Env} {s : Shared} {H : Hp} {E : XK}
theorem q9n : x1t (CXe P w) (z1b (CXe P w) P w K mg base N qual scope f cd A outer s H E) E := by
 intro pins σ H2 s2 e s' I h
 obtain ⟨a, cls, a0, B, H1, rfl, os, bare, fl, un, cov, cov2, hok, ha, q⟩ := h
 have hf : (envOfC qual scope s.heap.objs.size f cd).frame = some s.heap.objs.size := rfl
 have hfr : frs ((envOfC qual scope s.heap.objs.size f cd) :: outer) = s.heap.objs.size :: frs outer := z2e hf
 have un' : Un (frs ((envOfC qual scope s.heap.objs.size f cd) :: outer)) [] H2 H1 s2.heap s'.heap := un
 have cov' : ∀ b o, s2.heap.get? b = some o → H2 b = none → b ∉ frs ((envOfC qual scope s.heap.objs.size f cd) :: outer) → B.get? b = some o := cov
 have cov2' : ∀ b o, s2.heap.get? b = some o → b ∉ frs ((envOfC qual scope s.heap.objs.size f cd) :: outer) → ∃ o', B.get? b = some o' := cov2
 have fl' : Heap.FlyingW B ((envOfC qual scope s.heap.objs.size f cd) :: outer) a cls a0 s'.heap := fl
 have bs : Un (frs outer) [] H H2 s.heap s2.heap := I.base
 have ne : ∀ {b : Addr} {o : Obj}, s.heap.get? b = some o → b ∉ frs outer → b ∉ frs ((envOfC qual scope s.heap.objs.size f cd) :: outer) := fun {b o} e hb z => by
  rw [hfr] at z
  rcases List.mem_cons.mp z with z | z
  ·exact absurd (Heap.lt_size e) (by rw [z]; exact Nat.lt_irrefl _)
  ·exact hb z
 have inn : ∀ {b : Addr}, b ∈ frs outer → b ∈ frs ((envOfC qual scope s.heap.objs.size f cd) :: outer) := fun {b} hb => by rw [hfr]; exact List.mem_cons_of_mem _ hb
 have nx : ∀ b : Addr, b ∉ ([] : List Addr) := fun b z => absurd z (by simp)
 show wpAny (model P w) (A.deeper (envOfC qual scope s.heap.objs.size f cd)) (leaving (envOfC qual scope s.heap.objs.size f cd) (.ref a)) _ _ s'
 refine wpAny_leaves_onW (I.ok.frames) hf fl' fun h' fl2 ups => ?_
 have fmem := fl'.2.2.1
 have covS : ∀ b o, s.heap.get? b = some o → H b = none → b ∉ frs outer → B.get? b = some o := fun b o e n hb => cov' b o (bs.keep b o e n hb (nx b)) (bs.free b o e n (nx b)) (ne e hb)
 have cov2S : ∀ b o, s.heap.get? b = some o → b ∉ frs outer → ∃ o', B.get? b = some o' := fun b o e hb => by
  obtain ⟨o1, e1⟩ := bs.there b o e (nx b)
  exact cov2' b o1 e1 (ne e hb)
 refine ⟨a, cls, a0, B, H1, rfl, os.trans I.os, bare, fl2, ⟨fun b o e n hb _ => fl2.1 _ _ (covS b o e n hb), fun b o e n hb _ => ?_, fun b o e n _ => ?_, fun b o e _ => ?_, fun b xs q => un'.tups b xs (bs.tups b xs q), fun b o u q => un'.frzs b o u (bs.frzs b o u q), fun b ps q => ?_⟩, covS, cov2S, hok, ha, q⟩
 ·obtain ⟨sl1, e1⟩ := bs.slot b o e n hb (nx b)
  obtain ⟨sl2, e2⟩ := un'.slot b _ e1 (bs.free b o e n (nx b)) (inn hb) (nx b)
  obtain ⟨_, o3, e3, nf⟩ := fmem.mem (inn hb)
  rw [e2] at e3
  cases e3
  obtain ⟨sl4, e4⟩ := ups b _ e2 nf
  exact ⟨sl4, e4⟩
 ·obtain ⟨o1, e1⟩ := bs.there b o e (nx b)
  exact un'.free b o1 e1 (bs.free b o e n (nx b)) (nx b)
 ·by_cases hb : b ∈ frs outer
  ·obtain ⟨_, o3, e3, nf⟩ := fmem.mem (inn hb)
   obtain ⟨sl4, e4⟩ := ups b _ e3 nf
   exact ⟨_, e4⟩
  ·obtain ⟨o', e'⟩ := cov2S b o e hb
   exact ⟨o', fl2.1 _ _ e'⟩
 ·obtain ⟨m1, q1⟩ := bs.tbls b ps q
  obtain ⟨m2, q2⟩ := un'.tbls b _ q1
  exact ⟨m1 ++ m2, by rw [q2, Array.append_assoc]⟩
theorem j6w {pins : List (Addr × Obj)} {σ : St} {H1 : Hp} {s1 : Shared} {h2 : Heap} {a : Addr} {cls : Value} {args : List Value}
  (I : Inv (z1b (CXe P w) P w K mg base N qual scope f cd A outer s H E) pins σ H1 s1) (hx : Heap.MadeExcOf s1.heap h2 a cls args) (q : E cls none H1) :
  (z1b (CXe P w) P w K mg base N qual scope f cd A outer s H E).xe (.ref a) { s1 with heap := h2 } := by
 have hf : (envOfC qual scope s.heap.objs.size f cd).frame = some s.heap.objs.size := rfl
 have hfr : frs ((envOfC qual scope s.heap.objs.size f cd) :: outer) = s.heap.objs.size :: frs outer := z2e hf
 have bs : Un (frs outer) [] H H1 s.heap s1.heap := I.base
 have stk : s1.heap.FunFrames base ((envOfC qual scope s.heap.objs.size f cd) :: outer) := I.stack
 have fre : ∀ b ∈ frs ((envOfC qual scope s.heap.objs.size f cd) :: outer), H1 b = none := I.stkFree
 have ne : ∀ {b : Addr} {o : Obj}, s.heap.get? b = some o → b ∉ frs outer → b ∉ frs ((envOfC qual scope s.heap.objs.size f cd) :: outer) := fun {b o} e hb z => by
  rw [hfr] at z
  rcases List.mem_cons.mp z with z | z
  ·exact absurd (Heap.lt_size e) (by rw [z]; exact Nat.lt_irrefl _)
  ·exact hb z
 have inn : ∀ {b : Addr}, b ∈ frs outer → b ∈ frs ((envOfC qual scope s.heap.objs.size f cd) :: outer) := fun {b} hb => by rw [hfr]; exact List.mem_cons_of_mem _ hb
 have nx : ∀ b : Addr, b ∉ ([] : List Addr) := fun b z => absurd z (by simp)
 have hin : ∀ env ∈ ((envOfC qual scope s.heap.objs.size f cd) :: outer), ∀ b, env.frame = some b → b ∈ frs ((envOfC qual scope s.heap.objs.size f cd) :: outer) := fun env he b hb => List.mem_filterMap.mpr ⟨env, he, hb⟩
 show wpAny (model P w) (A.deeper (envOfC qual scope s.heap.objs.size f cd)) (leaving (envOfC qual scope s.heap.objs.size f cd) (.ref a)) _ _ { s1 with heap := h2 }
 refine wpAny_leaves_madeW (base := PySem.W.hideAll s1.heap (frs ((envOfC qual scope s.heap.objs.size f cd) :: outer))) (h := s1.heap) I.ok.frames hf (fun b o e => PySem.W.of_hideAll _ e) (PySem.W.funFrames_hide stk hin) hx fun h' t fl _ _ ups => ?_
 have ups1 : s1.heap.UpToSlots h' := (Heap.UpToSlots.of_keeps hx.keeps).trans ups
 have covS : ∀ b o, s.heap.get? b = some o → H b = none → b ∉ frs outer → (PySem.W.hideAll s1.heap (frs ((envOfC qual scope s.heap.objs.size f cd) :: outer))).get? b = some o := fun b o e n hb => PySem.W.hideAll_get _ (bs.keep b o e n hb (nx b)) (ne e hb)
 have cov2S : ∀ b o, s.heap.get? b = some o → b ∉ frs outer → ∃ o', (PySem.W.hideAll s1.heap (frs ((envOfC qual scope s.heap.objs.size f cd) :: outer))).get? b = some o' := fun b o e hb => by
  obtain ⟨o1, e1⟩ := bs.there b o e (nx b)
  exact ⟨o1, PySem.W.hideAll_get _ e1 (ne e hb)⟩
 have tr : ∀ b o, H1 b = some o → b ∉ frs ((envOfC qual scope s.heap.objs.size f cd) :: outer) := fun b o e z => by rw [fre b z] at e; cases e
 have hok : HOk P w H1 (PySem.W.hideAll s1.heap (frs ((envOfC qual scope s.heap.objs.size f cd) :: outer))) := fun b o e => by
  refine (I.hok b o e).stay (fun c u hc g => PySem.W.hideAll_get _ g ?_) (fun _ q => q) fun _ _ q => q
  rcases hc with rfl | hc
  ·exact tr _ _ e
  ·exact tr _ _ hc
 have ha : H1 a = none := by
  cases e : H1 a with
  | none => rfl
  | some o =>
   obtain ⟨u, hu⟩ := (I.hok a o e).there
   rw [hx.new] at hu
   cases hu
 refine ⟨a, cls, .ref t, _, H1, rfl, I.os, I.bare, fl, ⟨fun b o e n hb _ => fl.1 _ _ (covS b o e n hb), fun b o e n hb _ => ?_, bs.free, fun b o e _ => ?_, bs.tups, bs.frzs, bs.tbls⟩, covS, cov2S, hok, ha, q⟩
 ·obtain ⟨sl1, e1⟩ := bs.slot b o e n hb (nx b)
  obtain ⟨_, o3, e3, nf⟩ := stk.mem (inn hb)
  rw [e1] at e3
  cases e3
  obtain ⟨sl4, e4⟩ := ups1 b _ e1 nf
  exact ⟨sl4, e4⟩
 ·by_cases hb : b ∈ frs outer
  ·obtain ⟨_, o3, e3, nf⟩ := stk.mem (inn hb)
   obtain ⟨sl4, e4⟩ := ups1 b _ e3 nf
   exact ⟨_, e4⟩
  ·obtain ⟨o', e'⟩ := cov2S b o e hb
   exact ⟨o', fl.1 _ _ e'⟩
end
theorem j6i {K : PySem.W.Frag} {h₀ : Heap} {mg : Str → Option Value} {x : Str} {C : Addr} {bmB : List Value} {newId : String} (X : K.In h₀) (hm : mg x = some (.ref C)) (q : PySem.W.excIn K C bmB newId = true) : OwnCls x C bmB newId mg h₀ := by
 refine ⟨hm, ?_⟩
 unfold PySem.W.excIn at q
 split at q
 ·rename_i dd cd sl ho
  split at q
  ·rename_i C' bm k0 k1 k2 k3 n k5 hm hs
   simp only [Bool.and_eq_true, beq_iff_eq, Bool.not_eq_true'] at q
   obtain ⟨⟨⟨⟨⟨rfl, rfl⟩, hdel⟩, ht⟩, hok⟩, hni⟩ := q
   obtain ⟨nm, bs, mro, ns, qn, hd, sn, sub, ab, col, del⟩ := cd
   dsimp only at hm hdel hok hni
   subst hm hdel
   have hsl : sl = #[k0, k1, k2, k3, some (.builtin n), k5] := by
    obtain ⟨l⟩ := sl
    simp only at hs
    rw [hs]
   subst hsl
   exact ⟨bm, ns, nm, qn, bs, hd, sn, sub, ab, col, dd, k0, k1, k2, k3, k5, _, X _ _ ho, .of_isNs (PySem.W.isNs_of_in X hok), PySem.W.nsMap_none_of_in X hok hni, PySem.W.tail_of_in X ht⟩
  ·cases q
 ·cases q
abbrev j8r : List Value := [.type "ValueError", .type "Exception", .type "BaseException", .type "object"]
noncomputable def j1u (X : Cx) (E : XK) : Prop := ∀ (pins : List (Addr × Obj)) (σ : St) (H : Hp) (s : Shared) (h' : Heap) (a : Addr) (cls : Value) (args : List Value), Inv X pins σ H s → Heap.MadeExcOf s.heap h' a cls args → E cls none H → X.xe (.ref a) { s with heap := h' }
theorem x8o {P : Program} {w : World} {K : PySem.W.Frag} {mg : Str → Option Value} {base : Heap} {N : List Str} {qual : Str} {scope : Scope} {f : Addr} {cd : Value} {A : Around} {outer : List Env} {s : Shared} {H : Hp} {E : XK} :
  j1u (z1b (CXe P w) P w K mg base N qual scope f cd A outer s H E) E := fun _ _ _ _ _ _ _ _ I hx q => j6w I hx q
noncomputable def j7k (C : Addr) (E : XK) (ta : TA) : TS := fun _ σ H => ta σ H fun vs H1 => vs.length ≤ 1000 ∧ E (.ref C) none H1
theorem z1q {X : Cx} {E : XK} {x : Str} {C : Addr} {np cpos pos : Pos} {e₀ : Expr} {x1e : List Expr} {ta : TA} (R : j1u X E) (hc : X.calm = true) (hg : Gl X x) (hm : X.mg x = some (.ref C)) (q : PySem.W.excIn X.K C j8r "ValueError.__new__" = true) (ha : PA X (e₀ :: x1e) ta)
  (he : starEach (e₀ :: x1e) X.env = (false, eval e₀ X.env) :: starEach x1e X.env := by rfl) (hplain : (backTo cpos (starEach x1e X.env)).any (·.1) = false := by rfl) (hd : (x == ("__debug__" : Str)) = false := by decide) :
  PS X (.Raise (some (.Call (.Name x np) (e₀ :: x1e) [] cpos)) none pos) (j7k C E ta) := by
 intro pins s σ H D I h
 obtain ⟨tl, N, nm, qn, bs, hdct, sn, sub, ab, col, dd, k0, k1, k2, k3, k5, mN, hC, hN, hni, T⟩ := (j6i (x := x) I.ok.mod.kin hm q).obj
 refine wpAny_Raise_call_subT (C := C) (nm := nm) (q := qn) (N := N) (bs := bs) (bm := tl) (hdct := hdct) (sn := sn) (sub := sub) (ab := ab) (col := col) (dd := dd) (k0 := k0) (k1 := k1) (k2 := k2) (k3 := k3) (k5 := k5)
  PySem.F.excBase_ValueError (mN := mN) (T.hasType PySem.F.excBase_ValueError.hasBase) (I.ok.hd hc) (by rw [he]; show (false || (backTo cpos (starEach x1e X.env)).any (·.1)) = false; rw [hplain]; rfl) hni (x2j I hg hm ⟨rfl, ?_⟩ hd)
 have h' := ha cpos pins s σ H _ I h
 rw [he] at h' ⊢
 refine Calls.evalArgs_plain (wpAny_mono h' (fun us s₂ ⟨vs, H1, I1, r, hl, qe⟩ => ?_) fun _ _ y => y)
 refine ⟨rfl, ?_, I1.bk _ _ hC, hN.keeps I1.bk, T.keeps I1.bk, fun h2 a hx => R pins σ H1 s₂ h2 a (.ref C) us I1 hx qe⟩
 rw [← r.length]
 have : (1000 : Nat) ≤ sizeLine := by rw [sizeLine_eq]; decide
 exact Nat.le_trans hl this
theorem _root_.L2.Fun.okE {P : Program} {w : World} {K : PySem.W.Frag} {mg : Str → Option Value} {base : Heap} {x qual : Str} {st : Stmt} {f : Addr} {fd : FuncData} {N ps : List Str} {k : Nat} {sp : Sp} (F : Fun K x qual st f fd) (S : FnScope N ps (q0f st)) (len : ∀ vs H Q E, sp vs H Q E → vs.length = ps.length)
  (hbody : ∀ (cdv : Value) (A : Around) (outer : List Env) (s : Shared) (H : Hp) (vs : List V) (Q : VK) (E : XK), Room k (A.deeper (envOfC qual (q0f st) s.heap.objs.size f cdv)) → sp vs H Q E →
   ∃ t, PSs (z1b (CXe P w) P w K mg base N qual (q0f st) f cdv A outer s H E) (q6l st) t ∧ t { nx := fun _ H' => Q .non H', rt := Q } (x5w N vs) H) : FnOk P w K mg base (CXe P w) (k + 1) f fd ps sp := by
 obtain ⟨oc, od, kV, doc, pm, an, cdv, ct, osl, rfl, lk, hcd⟩ := F.ex
 exact j6e lk hcd S len fun A outer s H vs Q E hr hsp => hbody cdv A outer s H vs Q E hr hsp
theorem j1y {CX : CXT} {P : Program} {w : World} {K : PySem.W.Frag} {mg : Str → Option Value} {base : Heap} {N : List Str} {qual : Str} {scope : Scope} {f : Addr} {cd : Value} {A : Around} {outer : List Env} {s : Shared} {H : Hp} {E : XK} :
  PassesOwn (model P w) (z1b CX P w K mg base N qual scope f cd A outer s H E).A (z1b CX P w K mg base N qual scope f cd A outer s H E).env (z1b CX P w K mg base N qual scope f cd A outer s H E).xe := PassesOwn.leaving
theorem j1b {K : PySem.W.Frag} {a b : Addr} {xs ys : List V} {g : TG} {tb : TS} {D : Ends} {σ : St} {H : Hp} (Pv : Nat → St → Hp → Prop) (h0 : Pv 0 σ H) (hl : ∀ i σ H, Pv i σ H → SqT K H a xs ∧ SqT K H b ys)
  (hs : ∀ i x y p σ H, xs[i]? = some x → ys[i]? = some y → H p = none → Pv i σ H → g (.ref p) σ (upd H p (.tup [x, y])) fun σ2 H2 => tb { D with nx := Pv (i + 1), ct := Pv (i + 1), bk := D.nx } σ2 H2)
  (hd : ∀ i σ H, i ≤ xs.length → i ≤ ys.length → (xs.length ≤ i ∨ ys.length ≤ i) → Pv i σ H → D.nx σ H) :
  ∃ W : Nat → Nat → St → Hp → Prop, (∃ m, W 0 m σ H) ∧ ∀ i m σ H, W i m σ H →
   ((Itz K true true a b).stop i H ∧ D.nx σ H) ∨ ((Itz K true true a b).go i H ∧ ∃ N : St → Hp → Prop, (∀ σ' H', N σ' H' → ∃ m', m' < m ∧ W (i + 1) m' σ' H') ∧ ∀ x H', (Itz K true true a b).yld i H x H' → g x σ H' fun σ2 H2 => tb { D with nx := N, ct := N, bk := D.nx } σ2 H2) := by
 refine ⟨fun i m σ H => m = xs.length - i ∧ i ≤ xs.length ∧ i ≤ ys.length ∧ Pv i σ H, ⟨xs.length, by simp, Nat.zero_le _, Nat.zero_le _, h0⟩, ?_⟩
 rintro i m σ H ⟨rfl, hi, hj, p⟩
 obtain ⟨q1, q2⟩ := hl i σ H p
 by_cases hlt : i < xs.length ∧ i < ys.length
 ·refine .inr ⟨⟨xs, ys, xs[i], ys[i], q1, q2, by simp [hlt.1], by simp [hlt.2]⟩, Pv (i + 1), fun σ' H' p' => ⟨xs.length - (i + 1), by omega, rfl, hlt.1, hlt.2, p'⟩, fun x H' y => ?_⟩
  obtain ⟨r, u, w, e, hr, e2, y1, y2⟩ := y
  subst e e2
  exact hs i u w r σ _ (y1 xs q1) (y2 ys q2) hr p
 ·exact .inl ⟨⟨xs, ys, q1, q2, by omega⟩, hd i σ H hi hj (by omega) p⟩
end L2
namespace K1
open PySem L2 Kp
end K1
namespace L2
open PySem PySem.Spec PyProof.Rows
noncomputable def z0h (a : Addr) (cls : Value) : HO := .ext fun h => ∃ o, h.get? a = some o ∧ o.cls = cls
section
variable {X : Cx} {pins : List (Addr × Obj)} {σ : St} {H : Hp} {s : Shared}
theorem w1i {E : XK} {e : Value} {s' : Shared} (I : Inv X pins σ H s) (h : CXe X.prog X.w X.stack H s E e s') :
  ∃ a cls a0 B H1, e = .ref a ∧ Heap.FlyingW B X.stack a cls a0 s'.heap ∧ H1 a = none ∧ E cls none H1 ∧
   ∀ h', Heap.FlyingW B X.stack a cls a0 h' → s'.heap.UpToSlots h' → Inv X pins σ (upd H1 a (z0h a cls)) { s' with heap := h' } := by
 obtain ⟨a, cls, a0, B, H1, rfl, os, bare, fl, un, cov, cov2, hok, ha, q⟩ := h
 refine ⟨a, cls, a0, B, H1, rfl, fl, ha, q, fun h' fl2 ups => ?_⟩
 have nx : ∀ b : Addr, b ∉ ([] : List Addr) := fun b z => absurd z (by simp)
 have fmem := fl.2.2.1
 have ne : ∀ {b : Addr} {o : HO}, H1 b = some o → b ≠ a := fun {b o} e z => by rw [z, ha] at e; cases e
 obtain ⟨oe, vs, hoe, hoec, hoed, _⟩ := fl2.first
 have notF : a ∉ frs X.stack := fun z => by
  obtain ⟨_, o3, e3, nf⟩ := fl2.2.2.1.mem z
  rw [hoe] at e3
  cases e3
  exact nf vs hoed
 have hok1 : HOk X.prog X.w H1 h' := fun b o e => (hok b o e).stay (fun c u _ g => fl2.1 _ _ g) (fun _ q => q) fun _ _ q => q
 refine I.call' (s' := { s' with heap := h' }) (ch := []) os ⟨fun b o e n hb _ => fl2.1 _ _ (cov b o e n hb), fun b o e n hb _ => ?_, fun b o e n _ => ?_, fun b o e _ => ?_, fun b xs q => ?_, fun b o u q => ?_, fun b ps q => ?_⟩ (fun b o e => ?_) bare fun b z => absurd z (nx b)
 ·obtain ⟨sl2, e2⟩ := un.slot b o e n hb (nx b)
  obtain ⟨_, o3, e3, nf⟩ := fmem.mem hb
  rw [e2] at e3
  cases e3
  obtain ⟨sl4, e4⟩ := ups b _ e2 nf
  exact ⟨sl4, e4⟩
 ·by_cases z : b = a
  ·subst z
   have := cov b o e n notF
   rw [fl2.2.1] at this
   cases this
  ·rw [q1q z]
   exact un.free b o e n (nx b)
 ·by_cases hb : b ∈ frs X.stack
  ·obtain ⟨_, o3, e3, nf⟩ := fmem.mem hb
   obtain ⟨sl4, e4⟩ := ups b _ e3 nf
   exact ⟨_, e4⟩
  ·obtain ⟨o', e'⟩ := cov2 b o e hb
   exact ⟨o', fl2.1 _ _ e'⟩
 ·have := un.tups b xs q
  rw [q1q (ne this)]; exact this
 ·have := un.frzs b o u q
  rw [q1q (ne this)]; exact this
 ·obtain ⟨m, h2⟩ := un.tbls b ps q
  exact ⟨m, by rw [q1q (ne h2)]; exact h2⟩
 ·by_cases z : b = a
  ·subst z
   rw [q0e] at e
   cases e
   refine ⟨⟨oe, hoe, hoec⟩, ⟨oe, hoe⟩, fun h1 h2 ⟨o, e1, e2⟩ k => ⟨o, k o e1, e2⟩⟩
  ·rw [q1q z] at e
   exact (hok1 b o e).stay (fun c u _ g => g) (fun c q => by rw [q1q (ne q)]; exact q) fun c xs q => by rw [q1q (ne q)]; exact q
noncomputable abbrev Cx.suite (X : Cx) (a : Addr) : Cx := { X with A := X.A.mark (some (.ref a)), calm := false, xe := fun _ _ => False }
theorem Cx.Ok.suite {X : Cx} (ok : X.Ok) (a : Addr) : (X.suite a).Ok :=
 ⟨ok.mod, ok.kind, ok.glob, ok.blt, ok.above, ok.inj, ok.has, ok.cab, (fun z => by cases z), ok.frames, ok.stk, ok.exf, ok.bs, ok.bsz, ok.noex, ok.exfs, ok.funs, ok.frf⟩
theorem Inv.suite (I : Inv X pins σ H s) (a : Addr) : Inv (X.suite a) pins σ H s := ⟨I.ok.suite a, I.os, I.bare, I.base, I.loc, I.cell, I.free, I.freeC, I.pin, I.hok, I.len⟩
theorem Inv.unsuite {a : Addr} (ok : X.Ok) (I : Inv (X.suite a) pins σ H s) : Inv X pins σ H s := ⟨ok, I.os, I.bare, I.base, I.loc, I.cell, I.free, I.freeC, I.pin, I.hok, I.len⟩
theorem SP.unsuite {a : Addr} (ok : X.Ok) {D : Ends} {f : Flow} {s' : Shared} (h : SP (X.suite a) pins D f s') : SP X pins D f s' := by
 cases f with
 | next => obtain ⟨σ', H', I, q⟩ := h; exact ⟨σ', H', I.unsuite ok, q⟩
 | brk => obtain ⟨σ', H', I, q⟩ := h; exact ⟨σ', H', I.unsuite ok, q⟩
 | cont => obtain ⟨σ', H', I, q⟩ := h; exact ⟨σ', H', I.unsuite ok, q⟩
 | ret u => obtain ⟨v, σ', H', I, r, q⟩ := h; exact ⟨v, σ', H', I.unsuite ok, r, q⟩
noncomputable def w0d (K : PySem.W.Frag) (C : Addr) (R : Addr → Hp → Prop) : XK := fun cls _ H => PySem.W.exmOne K cls (.ref C) = some true ∧ ∀ a, H a = none → R a (upd H a (z0h a cls))
theorem Inv.lost {h' : Heap} {m' : Str → Option Value} {tk : Nat} (I : Inv X pins σ H s) (hn : h'.Ns X.env.locals m') (sb : Heap.SameBut X.env.locals s.heap h') : Inv X pins (List.replicate X.N.length none) H { s with heap := h', toks := tk } := by
 have low : ∀ {b : Addr} {o : Obj}, X.s₀.heap.get? b = some o → b ≠ X.env.locals := fun {b o} e => Nat.ne_of_lt (Nat.lt_of_lt_of_le (Heap.lt_size e) I.ok.above)
 refine ⟨I.ok, I.os, I.bare, ⟨fun b o e n hb hx => sb.extBut b o (low e) (I.base.keep b o e n hb hx), fun b o e n hb hx => ?_, I.base.free, fun b o e hx => ?_, I.base.tups, I.base.frzs, I.base.tbls⟩, ⟨m', hn, fun i x v _ e2 _ => ?_⟩, fun x c e => ?_, I.free, I.freeC, fun p hp => ?_, ?_, by simp⟩
 ·obtain ⟨sl, e1⟩ := I.base.slot b o e n hb hx
  exact ⟨sl, sb.extBut b _ (low e) e1⟩
 ·obtain ⟨o', e1⟩ := I.base.there b o e hx
  exact ⟨o', sb.extBut b _ (low e) e1⟩
 ·rw [List.getElem?_replicate] at e2
  split at e2 <;> cases e2
 ·obtain ⟨v, z⟩ := I.cell x c e
  exact ⟨v, z.sameBut sb (I.cne x c e)⟩
 ·obtain ⟨e, n, ne, nf, d⟩ := I.pin p hp
  exact ⟨sb.extBut _ _ ne e, n, ne, nf, d⟩
 ·exact HOk.but I.hok I.free fun b o hb e => sb.extBut b o hb e
noncomputable def Ends.lost (D : Ends) (n : Nat) : Ends := { D with nx := fun _ H => D.nx (List.replicate n none) H, bk := fun _ H => D.bk (List.replicate n none) H, ct := fun _ H => D.ct (List.replicate n none) H }
theorem z9q {x n : Str} {i : Nat} {C : Addr} {np hp : Pos} {b₀ : Stmt} {suite : List Stmt} {x1e : List ExceptHandler} {ts : TS} {D : Ends} {e : Value} {s' : Shared} (hst : X.stack = X.env :: X.outer) (hf : X.env.frame = some X.env.locals) (hg : Gl X x) (hm : X.mg x = some (.ref C)) (hN : X.N.Nodup) (hi : X.N[i]? = some n) (hl : X.env.scope.names.lookup n = some .local)
  (hs : ∀ a, PSs (X.suite a) (b₀ :: suite) ts)
  (I : Inv X pins σ H s) (h : CXe X.prog X.w X.stack H s (w0d X.K C fun a H2 => ts (D.lost X.N.length) (σ.set i (some (.ref a))) H2) e s') (hd : (x == ("__debug__" : Str)) = false := by decide) :
  wpAny (model X.prog X.w) X.A (noteFrame e X.env) (fun _ s₂ => wpAny (model X.prog X.w) X.A (setFlight e none) (fun _ s₃ =>
   wpAny (model X.prog X.w) X.A (handleBy e X.env (.ExceptHandler (some (.Name x np)) (some n) (b₀ :: suite) hp :: x1e)) (SP X pins D) X.xe s₃) X.xe s₂) X.xe s' := by
 obtain ⟨a, cls, a0, B, H1, rfl, fl, ha, ⟨hx, q⟩, inv⟩ := w1i I h
 rw [hst] at fl inv
 have hfr : X.A.frames = some (X.env :: X.outer) := by rw [← hst]; exact I.ok.frames
 refine wpAny_looks_onW hfr hf fl fun h₄ held u4 => ?_
 refine wpAny_landsW held fun h₅ fl5 u5 => ?_
 have J := (inv h₅ fl5 (u4.trans u5)).suite a
 refine wpAny_handleBy_cons (codeAny_handlers_test (x2j (X := X.suite a) J hg hm ?_ hd)) (by intro q; cases q)
 obtain ⟨ob, hob, hobc⟩ := fl5.there
 refine PySem.W.exm_one (M := model X.prog X.w) J.kIn (hobc ▸ (PySem.W.Looks.ld hob).andThen .now) hx _ _ _ _ (fun _ _ e => e) (codeAny_handlers_suite_as ?_)
 refine lands_againW fl5 fun h₆ fl6 u6 => ?_
 have J6 := (inv h₆ fl6 ((u4.trans u5).trans u6)).suite a
 refine x2b (X := X.suite a) (v := .ref a) J6 hN hi (.inl hl) rfl (fun s2 J7 => ?_) (.inr hl)
 refine wpAny_mono (hs a pins _ _ _ (D.lost X.N.length) J7 (q a ha)) (fun f s3 h3 => ?_) fun _ _ z => False.elim z
 have h3' := h3.unsuite I.ok
 have hp' : (X.env.scope.kind == .class || (X.env.scope.kind == .module && X.env.locals != X.env.globals)) = false := by rw [I.ok.kind]; rfl
 have go : ∀ {σ' : St} {H' : Hp}, Inv X pins σ' H' s3 → (∀ h' m' tk, h'.Ns X.env.locals m' → Heap.SameBut X.env.locals s3.heap h' → Inv X pins (List.replicate X.N.length none) H' { s3 with heap := h', toks := tk } → SP X pins D f { s3 with heap := h', toks := tk }) →
   wpAny (model X.prog X.w) X.A (do bindName X.env n .none; unbindBehindTheSuite X.env n hp) (fun _ s₅ => SP X pins D f s₅) X.xe s3 := fun {σ' H'} I3 k => by
  obtain ⟨m, hn, _⟩ := I3.loc
  exact wpAny_nameGoes hl hn hp' fun h' m' hn' sb => k h' m' _ hn' sb (I3.lost hn' sb)
 cases f with
 | next => obtain ⟨σ', H', I3, q3⟩ := h3'; exact go I3 fun h' m' tk _ _ I4 => ⟨_, H', I4, q3⟩
 | brk => obtain ⟨σ', H', I3, q3⟩ := h3'; exact go I3 fun h' m' tk _ _ I4 => ⟨_, H', I4, q3⟩
 | cont => obtain ⟨σ', H', I3, q3⟩ := h3'; exact go I3 fun h' m' tk _ _ I4 => ⟨_, H', I4, q3⟩
 | ret u => obtain ⟨v, σ', H', I3, r3, q3⟩ := h3'; exact go I3 fun h' m' tk _ _ I4 => ⟨v, _, H', I4, r3, q3⟩
theorem z9r {k : Nat} {f : Addr} {fd : FuncData} {ps : List Str} {sp : Sp} {E : XK} {W : Value → Shared → Prop} {x : Str} {p pos : Pos} {e : Expr} {es : List Expr} {t : TA} {Q : VK} (F : FnOk X.prog X.w X.K X.mg X.base (CXe X.prog X.w) k f fd ps sp) (hr : Room k X.A) (hg : Gl X x) (hm : X.mg x = some (.ref f)) (hk : PySem.W.keepIn X.K (.ref f) = true) (hb : q5i X.K fd ps [])
  (ha : PA (X.wish W) (e :: es) t) (he : starEach (e :: es) X.env = (false, eval e X.env) :: starEach es X.env) (hpl : (backTo pos (starEach es X.env)).any (·.1) = false) (hdb : (x == ("__debug__" : Str)) = false)
  (I : Inv X pins σ H s) (h : t σ H fun vs H1 => sp (vs ++ []) H1 Q E) (hW : ∀ H1 s1 e s', Inv X pins σ H1 s1 → CXe X.prog X.w X.stack H1 s1 E e s' → W e s') :
  wpAny (model X.prog X.w) X.A (eval (.Call (.Name x p) (e :: es) [] pos) X.env) (EP X pins σ Q) W s := by
 refine wpAny_Call_Name_kw (x2j I hg hm ?_ hdb)
 refine PySem.W.callWith_K (h₀ := X.base) I.ok.mod.kin hk (thn (ha pos pins s σ H _ (I.wish W) h) fun us s1 ⟨vs, H1, I1, r, q⟩ => ⟨I1.kIn, ?_⟩) he hpl
 have I1' : Inv X pins σ H1 s1 := I1.unwish
 have r2 : q4b (vs ++ []) (us ++ []) := r.append .nil
 have hl : (us ++ []).length = ps.length := by rw [← r2.length]; exact F.len _ _ _ _ q
 refine wpAny_call (codeAny_mono (F.run X.A X.stack s1 H1 ⟨us, []⟩ (us ++ []) (vs ++ []) Q E hr I1'.env0 (hb s1 us I1'.kIn hl) r2 q) fun r s' hq => ?_)
 cases r with
 | error e => exact hW H1 s1 e s' I1' hq
 | ok fl =>
  cases fl with
  | ret u => exact I1'.after hq
  | next => exact False.elim hq
  | brk => exact False.elim hq
  | cont => exact False.elim hq
end
section
variable {X : Cx} {k : Nat} {f C : Addr} {fd : FuncData} {ps : List Str} {sp : Sp} {x y n : Str} {i j : Nat} {p pos rp tp np hp py : Pos} {e : Expr} {es : List Expr} {t : TA} {b₀ : Stmt} {suite : List Stmt} {ts : TS}
noncomputable def z7b (K : PySem.W.Frag) (C : Addr) (N : Nat) (i j : Nat) (sp : Sp) (t : TA) (ts : TS) : TS := fun D σ H => t σ H fun vs H1 => sp (vs ++ []) H1 (fun v H2 => D.nx (σ.set i (some v)) H2) (w0d K C fun a H2 => ts (D.lost N) (σ.set j (some (.ref a))) H2)
theorem x9v {m : Str} (hst : X.stack = X.env :: X.outer) (hf : X.env.frame = some X.env.locals) (F : FnOk X.prog X.w X.K X.mg X.base (CXe X.prog X.w) k f fd ps sp) (hr : Room k X.A) (hg : Gl X x) (hm : X.mg x = some (.ref f)) (hk : PySem.W.keepIn X.K (.ref f) = true) (hb : q5i X.K fd ps []) (ha : ∀ W, PA (X.wish W) (e :: es) t)
  (hN : X.N.Nodup) (hi : X.N[i]? = some n) (hx : Loc X.env.scope n) (hgC : Gl X y) (hmC : X.mg y = some (.ref C)) (hj : X.N[j]? = some m) (hl : X.env.scope.names.lookup m = some .local) (hs : ∀ a, PSs (X.suite a) (b₀ :: suite) ts) (hfn : X.fn n = true ∨ X.env.scope.names.lookup n = some .local := by first | exact .inl rfl | exact .inr rfl | assumption)
  (he : starEach (e :: es) X.env = (false, eval e X.env) :: starEach es X.env := by rfl) (hpl : (backTo pos (starEach es X.env)).any (·.1) = false := by rfl) (hdb : (x == ("__debug__" : Str)) = false := by decide) (hdc : (y == ("__debug__" : Str)) = false := by decide) :
  PS X (.Try [.Assign [.Name n py] (.Call (.Name x p) (e :: es) [] pos) rp] [.ExceptHandler (some (.Name y np)) (some m) (b₀ :: suite) hp] [] [] tp) (z7b X.K C X.N.length i j sp t ts) := by
 intro pins s σ H D I h
 refine wpAny_Try_except (wpAny_execs_cons (wpAny_Assign_Name (thn (z9r (Q := fun v H2 => D.nx (σ.set i (some v)) H2) F hr hg hm hk hb (ha _) he hpl hdb I h fun H1 s1 e1 s' I1 h1 => z9q hst hf hgC hmC hN hj hl hs I1 h1 hdc) fun v s1 ⟨z, H1, I1, r1, q1⟩ => ?_)))
 refine x2b I1 hN hi hx r1 (fun s2 I2 => ?_) hfn
 exact wpAny_execs_nil (wpAny_execs_nil ⟨_, H1, I2, q1⟩)
end
end L2
namespace L2
open PySem PySem.Spec PyProof.Rows PySem.W PySem.Builtin PySem.Builtin.ObjectAttr PySem.Builtin.Getset_descriptor
section
variable {prog : Program} {w : World} {A : Around} {E : Value → Shared → Prop} {s : Shared} {K : Frag} {x C : Addr} {R : Result → Shared → Prop} {h : Heap} {g : Array GenState} {d : Drawn} {t : Nat} {os : OsState} {o : Obj} {name : Str}
theorem x2v {M : Model} {a gg : Value} (X : K.In h) (ha : findIn K (.ref C) name = some (some a)) (hg : specialIn K a "__get__" = some (some gg)) (ht : takesIn K a = some true) : Looks M h (find (.ref x) (.ref C) name) (.bind gg a) :=
 (looks_findIn X ha).andThen ((looks_specialIn X hg).andThen ((show Looks M h (dataDescriptor? (some a) (some gg)) (some (gg, a)) from (looks_takesIn X ht).andThen .now).andThen (Looks.tag .now)))
theorem z2n {tp : Value} (X : K.In s.heap) (L0 : Looks (model prog w) s.heap (typeOf (.ref x)) (.ref C)) (hm : mroIn K C (.type "object") = some true)
  (h : R (.ok (.ret (.ref C))) s) : codeAny (model prog w) A (.call (.builtin "getset_descriptor.__get__") ⟨[.builtin "object.__class__", .ref x, tp], []⟩) R s := by
 obtain ⟨hh, g, dr, t, os⟩ := s
 have L1 := looks_mroIn (M := model prog w) X hm
 refine codeAny_call_builtin KF.slot_gs.plain KF.entry_gs (KF.slot_gs.check _ _ _ _ _ _ _ _ KF.type_class (KF.args_gs _ _ _) ?_)
 unfold Builtin.«getset_descriptor.__get__» descrGet
 rw [dga_obj]
 refine wpAny_bind (wpAny_pure ?_)
 unfold descrGetter descrCheckInstance descrNameAndClass isInstance
 simp only [KF.owner_class]
 repeat lk
 refine ⟨Code.quiet_builtin _ (by decide +kernel), codeAny_builtin KF.entry_class ?_⟩
 unfold Builtin.«object.__class__» shownTypeOf
 repeat lk
 exact h
structure ExcK (K : Frag) (C : Addr) : Prop where
 ga : findIn K (.ref C) "__getattribute__" = some (some (.builtin "BaseException.__getattribute__"))
 gn : findIn K (.ref C) "__getattr__" = some none
 cl : findIn K (.ref C) "__class__" = some (some (.builtin "object.__class__"))
 gt : specialIn K (.builtin "object.__class__") "__get__" = some (some (.builtin "getset_descriptor.__get__"))
 tk : takesIn K (.builtin "object.__class__") = some true
 mo : mroIn K C (.type "object") = some true
 mb : mroIn K C (.type "BaseException") = some true
theorem z6q {M : Model} {nameV : Value} {Q : Unit → Shared → Prop} (X : K.In h) (FX : ExcK K C) (L0 : Looks M h (typeOf (.ref x)) (.ref C)) (hq : Q () ⟨h, g, d, t, os⟩) : wpAny M A (checkBuiltinCall "BaseException.__getattribute__" ⟨[.ref x, nameV], []⟩) Q E ⟨h, g, d, t, os⟩ := by
 have hk : builtinKind "BaseException.__getattribute__" = some .slot := by decide +kernel
 have hsplit : splitId "BaseException.__getattribute__" = some ("BaseException", "__getattribute__") := by decide +kernel
 have ha := PySem.F.args_bexc_ga (.ref x) nameV
 have L1 := looks_mroIn (M := M) X FX.mb
 simp only [checkBuiltinCall, hk, hsplit]
 refine wpAny_bind ?_
 unfold isInstance
 repeat (first | lk | wp_step)
 exact hq
theorem x7t {tk : Tok} {Q : Fin → Shared → Prop} (X : K.In h) (FX : ExcK K C) (L0 : Looks (model prog w) h (typeOf (.ref x)) (.ref C)) (hq : Q (.done (.ret (.ref C))) ⟨h, g, d, t, os⟩) :
  wpAny (model prog w) A (Builtin.«object.__getattribute__» ⟨[.ref x, .str "__class__" tk], []⟩) Q E ⟨h, g, d, t, os⟩ := by
 have L1 := x2v (M := model prog w) (x := x) X FX.cl FX.gt FX.tk
 unfold Builtin.«object.__getattribute__»
 refine wpAny_bind (wpAny_pure ?_)
 dsimp only
 refine wpAny_bind (wpAny_pure (wpAny_bind (L0.at (wpAny_bind (L1.at ?_)))))
 dsimp only
 unfold bindTo
 refine wpAny_bind ?_
 try refine wpAny_holding ?_
 refine wpAny_call (z2n (s := ⟨h, g, d, t, os⟩) X L0 FX.mo ?_)
 exact wpAny_pure hq
theorem z0b {tk : Tok} {R : Result → Shared → Prop} (X : K.In h) (FX : ExcK K C) (L0 : Looks (model prog w) h (typeOf (.ref x)) (.ref C)) (hq : R (.ok (.ret (.ref C))) ⟨h, g, d, t, os⟩) :
  codeAny (model prog w) A (.call (.builtin "BaseException.__getattribute__") ⟨[.ref x, .str "__class__" tk], []⟩) R ⟨h, g, d, t, os⟩ :=
 codeAny_call_builtin PySem.F.excAttr_ValueError.ga.plain PySem.F.entry_bexc_ga (z6q X FX L0 (x7t X FX L0 hq))
theorem z4i {tk : Tok} {Q : Value → Shared → Prop} (X : K.In h) (FX : ExcK K C) (hx : h.get? x = some o) (hc : o.cls = .ref C) (hq : Q (.ref C) ⟨h, g, d, t, os⟩) :
  wpAny (model prog w) A (getAttrBy (.ref x) (.str "__class__" tk) false) Q E ⟨h, g, d, t, os⟩ := by
 have L0 : Looks (model prog w) h (typeOf (.ref x)) (.ref C) := hc ▸ (Looks.ld hx).andThen .now
 have L1 := looks_findIn (M := model prog w) X FX.ga
 have L2 := looks_findIn (M := model prog w) X FX.gn
 have f3 := PySem.F.excAttr_ValueError.ga.bind (.ref x)
 have hx2 : (Value.builtin "BaseException.__getattribute__" == Value.builtin "object.__getattribute__") = false := by decide +kernel
 have hx1 : (onTheHeap (Value.ref C) && Value.builtin "BaseException.__getattribute__" == Value.builtin "object.__getattribute__") = false := by rw [hx2]; rfl
 repeat (any_goals (first | assumption | (with_reducible refine Looks.at L0 ?_) | (with_reducible refine Looks.at L1 ?_) | (with_reducible refine Looks.at L2 ?_) | (with_reducible refine wpAny_loadPart_at hx ?_; rw [hc]) | wp_step))
 refine z0b X FX L0 ?_
 repeat (any_goals (first | assumption | wp_step))
theorem x9n {Q : Option Value → Shared → Prop} (X : K.In h) (FX : ExcK K C) (hx : h.get? x = some o) (hc : o.cls = .ref C) (hq : Q (some (.ref C)) ⟨h, g, d, t + 1, os⟩) : wpAny (model prog w) A (getAttr? (.ref x) "__class__") Q E ⟨h, g, d, t, os⟩ := by
 unfold getAttr? getAttrBy?
 repeat (any_goals (first | assumption | with_reducible apply z4i X FX hx hc | wp_step))
end
theorem x6q {K : Frag} {a C : Addr} (FX : ExcK K C) (hk : (clsIn K C).isSome = true) : KitX K (.ref a) (.ref C) (fun h => ∃ o, h.get? a = some o ∧ o.cls = .ref C) where
 ty := fun M h X ⟨o, hx, hc⟩ => hc ▸ (Looks.ld hx).andThen .now
 it := fun _ _ X _ => by
  obtain ⟨cdD, hcD⟩ := Option.isSome_iff_exists.mp hk
  unfold clsIn at hcD
  split at hcD
  ·rename_i c' d' cd' sl' ho
   intro A' Q' E' s' k q
   unfold isType loadHead
   exact wpAny_bind (wpAny_loadPart (k _ _ (X _ _ ho)) (wpAny_pure q))
  ·cases hcD
 ne := fun h tp dd its n sl X htp => by
  obtain ⟨cdD, hcD⟩ := Option.isSome_iff_exists.mp hk
  refine Bool.eq_false_iff.mpr fun q => ?_
  have e : C = tp := Value.ref.inj (beq_iff_eq.mp q)
  subst e
  unfold clsIn at hcD
  split at hcD
  ·rename_i c' d' cd' sl' ho
   have z := (X _ _ ho).symm.trans htp
   cases z
  ·cases hcD
 ca := fun {_ _ _ _ _ s} X ⟨o, hx, hc⟩ k => by
  obtain ⟨h, g, d, t, os⟩ := s
  exact x9n X FX hx hc k
theorem z6r {X : List Addr} : ∀ {us : List Value}, q4b (X.map V.ref) us → us = X.map Value.ref := by
 induction X with
 | nil => intro us r; cases r; rfl
 | cons a r ih =>
  intro us z
  cases z with
  | cons h t =>
   have e : _ = Value.ref a := h
   rw [e, ih t]; rfl
noncomputable def j5h (K : Frag) : List V → Hp → VK → Prop := fun xs H Q => ∃ a C b, H a = some (z0h a (.ref C)) ∧ ExcK K C ∧ (clsIn K C).isSome = true ∧
 ((∃ c, xs = [.ref a, .ref c] ∧ kitOne K (.ref C) (.ref c) = some b) ∨ (∃ T, xs = [.ref a, .ty T] ∧ kitOne K (.ref C) (.type T) = some b) ∨ ∃ (tp : Addr) (cs : List Addr), xs = [.ref a, .ref tp] ∧ H tp = some (.tup (cs.map V.ref)) ∧ kitAny K (.ref C) (cs.map Value.ref) = some b) ∧ Q (.bl b) H
theorem z7n {X : Cx} : q9h X (.builtin "isinstance") (j5h X.K) := by
 intro pins s σ H xs us Q I r h
 obtain ⟨a, C, b, ha, FX, hk, hc, q⟩ := h
 obtain ⟨hφ, _, _⟩ := (show q3x X.prog X.w H s.heap a (z0h a (.ref C)) from I.hok a _ ha)
 rcases hc with ⟨c, rfl, e⟩ | ⟨T, rfl, e⟩ | ⟨tp, cs, rfl, htp, e⟩
 ·obtain ⟨u, u', rfl, rx, rc⟩ := z3y r
  cases rx
  cases rc
  exact kia_one (x6q FX hk) I.kIn hφ e (fun z => nomatch z) fun tk => ⟨.bl b, H, I.tok tk, rfl, q⟩
 ·obtain ⟨u, u', rfl, rx, rc⟩ := z3y r
  cases rx
  cases rc
  exact kia_one (x6q FX hk) I.kIn hφ e (fun z => nomatch z) fun tk => ⟨.bl b, H, I.tok tk, rfl, q⟩
 ·obtain ⟨u, u', rfl, rx, rc⟩ := z3y r
  cases rx
  cases rc
  obtain ⟨_, its, rv, p⟩ := (show q3x X.prog X.w H s.heap tp (.tup (cs.map V.ref)) from I.hok tp _ htp)
  have e2 := z6r rv
  subst e2
  obtain ⟨o, h1, h2, n, h3⟩ := p
  obtain ⟨oc, od, odt, osl⟩ := o
  cases h2
  cases h3
  exact kia_tup (x6q FX hk) I.kIn hφ h1 e (fun z => nomatch z) fun tk => ⟨.bl b, H, I.tok tk, rfl, q⟩
end L2
namespace L2
open PySem PySem.Spec PyProof.Rows
section
variable {P : Program} {w : World} {K : PySem.W.Frag} {mg : Str → Option Value} {base : Heap}
end
section
variable {X : Cx} {k : Nat} {f : Addr} {fd : FuncData} {ps : List Str} {sp : Sp} {x : Str} {p pos : Pos} {e : Expr} {es : List Expr} {t : TA}
end
end L2
namespace Kp
open PySem L2
structure CalE (P : Program) (w : World) (K : PySem.W.Frag) (mg : Str → Option Value) (base : Heap) (name : Str) (k : Nat) (ps : List Str) (sp : Sp) : Prop where
 ex : ∃ f fd, FnOk P w K mg base (CXe P w) k f fd ps sp ∧ mg name = some (.ref f) ∧ PySem.W.keepIn K (.ref f) = true ∧ q5i K fd ps []
theorem q4r {X : Cx} {x : Str} {k : Nat} {ps : List Str} {sp : Sp} {e : Expr} {es : List Expr} {t : TA} {p pos : Pos} {E : XK} (C : CalE X.prog X.w X.K X.mg X.base x k ps sp) (hr : Room k X.A) (hx : x1t (CXe X.prog X.w) X E) (ha : PA X (e :: es) t) (hg : Gl X x := by rfl) (hdb : (x == ("__debug__" : Str)) = false := by decide) (he : starEach (e :: es) X.env = (false, eval e X.env) :: starEach es X.env := by rfl) (hpl : (backTo pos (starEach es X.env)).any (·.1) = false := by rfl) :
  PE X (.Call (.Name x p) (e :: es) [] pos) (j1l sp [] E t) := let ⟨_, _, F, hm, hk, hb⟩ := C.ex; q8y F hr hg hm hk hb .nil hx ha hdb he hpl
theorem j2z : bootBuiltins "ValueError" = some (.type "ValueError") := by decide +kernel
end Kp
namespace K1
open PySem L2 Kp
end K1
namespace Kp
open PySem L2
noncomputable def spW (cN : Addr) (p : D → Bool) (f : D → List Str) : Sp := fun vs H Q E => ∃ B v d, B ≤ 1000 ∧ vs = [v] ∧ Is B H v d ∧ p d = true ∧
 (q1g 60 d = true → ∀ l H', q0y H H' → H l = none → H' l = some (.lst ((f d).map V.str)) → Q (.ref l) H') ∧ (q1g 60 d = false → ∀ H', q0y H H' → E (.ref cN) none H')
theorem q4u {cN : Addr} {p : D → Bool} {f : D → List Str} {px : Str} : ∀ vs H Q E, spW cN p f vs H Q E → vs.length = [px].length := fun vs H Q E ⟨_, _, _, _, e, _⟩ => by subst e; rfl
structure Wrt (P : Program) (w : World) (K : PySem.W.Frag) (mg : Str → Option Value) (base : Heap) (cN : Addr) (k : Nat) (g : Addr) (p : D → Bool) (f : D → List Str) : Prop where
 ex : ∃ k' fd px, k' ≤ k ∧ FnOk P w K mg base (CXe P w) k' g fd [px] (spW cN p f) ∧ PySem.W.keepIn K (.ref g) = true ∧ q5i K fd [px] []
inductive Wrs (P : Program) (w : World) (K : PySem.W.Frag) (mg : Str → Option Value) (base : Heap) (cN : Addr) (k : Nat) : List V → List (D → Bool) → List (D → List Str) → Prop
 | nil : Wrs P w K mg base cN k [] [] []
 | cons {g : Addr} {p : D → Bool} {f : D → List Str} {gs : List V} {ps : List (D → Bool)} {fs : List (D → List Str)} (h : Wrt P w K mg base cN k g p f) (t : Wrs P w K mg base cN k gs ps fs) : Wrs P w K mg base cN k (.ref g :: gs) (p :: ps) (f :: fs)
theorem Wrs.length {P : Program} {w : World} {K : PySem.W.Frag} {mg : Str → Option Value} {base : Heap} {cN : Addr} {k : Nat} : ∀ {gs : List V} {ps : List (D → Bool)} {fs : List (D → List Str)}, Wrs P w K mg base cN k gs ps fs → gs.length = ps.length ∧ gs.length = fs.length
 | _, _, _, .nil => ⟨rfl, rfl⟩
 | _, _, _, .cons _ t => by have := t.length; simp [this.1, ← this.2]
theorem Wrs.get {P : Program} {w : World} {K : PySem.W.Frag} {mg : Str → Option Value} {base : Heap} {cN : Addr} {k : Nat} : ∀ {gs : List V} {ps : List (D → Bool)} {fs : List (D → List Str)} {i : Nat} {v : V}, Wrs P w K mg base cN k gs ps fs → gs[i]? = some v → ∃ g p f, v = .ref g ∧ ps[i]? = some p ∧ fs[i]? = some f ∧ Wrt P w K mg base cN k g p f
 | _, _, _, _, _, .nil, e => by simp at e
 | _, _, _, 0, _, .cons h _, e => by simp at e; subst e; exact ⟨_, _, _, rfl, rfl, rfl, h⟩
 | _, _, _, i + 1, v, .cons _ t, e => by
  obtain ⟨g, p, f, a, b, c, d⟩ := t.get (i := i) (v := v) (by simpa using e)
  exact ⟨g, p, f, a, by simpa using b, by simpa using c, d⟩
noncomputable def j6p (P : Program) (w : World) (K : PySem.W.Frag) (mg : Str → Option Value) (base : Heap) (cN : Addr) (k : Nat) (E : XK) (tf : TE) (t : TA) : TE := fun σ H Q => tf σ H fun x H1 => ∃ g p f, x = .ref g ∧ Wrt P w K mg base cN k g p f ∧ t σ H1 fun vs H2 => spW cN p f (vs ++ []) H2 Q E
theorem z1o {X : Cx} {P : Program} {w : World} {K : PySem.W.Frag} {mg : Str → Option Value} {base : Heap} {cN : Addr} {k : Nat} {E : XK} {x : Str} {p pos : Pos} {e : Expr} {es : List Expr} {tf : TE} {t : TA} (h1 : X.prog = P) (h2 : X.w = w) (h3 : X.K = K) (h4 : X.mg = mg) (h5 : X.base = base) (hr : Room k X.A)
  (hx : x1t (CXe P w) X E) (hf : PE X (.Name x p) tf) (ha : PA X (e :: es) t)
  (he : starEach (e :: es) X.env = (false, eval e X.env) :: starEach es X.env := by rfl) (hpl : (backTo pos (starEach es X.env)).any (·.1) = false := by rfl) :
  PE X (.Call (.Name x p) (e :: es) [] pos) (j6p P w K mg base cN k E tf t) := by
 subst h1 h2 h3 h4 h5
 intro pins s σ H Q I h
 obtain h' := hf pins s σ H _ I h
 refine wpAny_Call_Name_kw (thn h' fun u s0 ⟨v, H0, I0, r0, g, p, f, e0, T, q0⟩ => ?_)
 subst e0
 cases r0
 obtain ⟨k', fd, px, hk', F, hk, hb⟩ := T.ex
 have hA := ha pos pins s0 σ H0 _ I0 q0
 exact PySem.W.callWith_K (h₀ := X.base) I.ok.mod.kin hk (thn hA fun us s1 ⟨vs, H1, I1, r, q⟩ => ⟨I1.kIn, z2b F (hr.mono hk') hb .nil hx I1 r q⟩) he hpl
end Kp
namespace K1
open PySem L2 Kp
theorem z4u : bootBuiltins "abs" = some (.builtin "abs") := by decide +kernel
theorem z6u : bootBuiltins "str" = some (.type "str") := by decide +kernel
structure NoL (K : PySem.W.Frag) (mg : Str → Option Value) (cN : Addr) : Prop where
 m : mg "NoLetter" = some (.ref cN)
 x : PySem.W.excIn K cN j8r "ValueError.__new__" = true
section
variable {P : Program} {w : World} {K : PySem.W.Frag} {mg : Str → Option Value} {base : Heap}
theorem w1m : FnScope ["number"] ["number"] (q0f q6o) := fSc
theorem z5k {i : Int} (h : i.natAbs < 10 ^ 60) : i.natAbs.log2 < 1920 := by
 by_cases h0 : i.natAbs = 0
 ·rw [h0]; decide
 ·exact (Nat.log2_lt h0).mpr (Nat.lt_of_lt_of_le h (by decide +kernel))
theorem x2l {f : Addr} {fd : FuncData} {cN : Addr} (Z : NoL K mg cN) (F : Fun K "number_words" "number_words" q6o f fd) (T : Txt mg) (hab : mg "abs" = none) : FnOk P w K mg base (CXe P w) 1 f fd ["number"] (spW cN whole q2o) := by
 refine F.okE w1m q4u (fun cdv A outer s H vs Q E hr h => ?_)
 obtain ⟨B, v, d, hB, rfl, I, hp, q, qe⟩ := h
 obtain ⟨i, rfl⟩ := q0v hp
 cases I
 refine ⟨_, @q0z _ _ _ _ _ (q1w (q0s z3z (q0n z9p (by rfl) hab z4u (q1i (pv 0) q0b)) (q0j q6p q0a q0a) (q0q _)) (@q1m _ _ _ (z1q x8o (by rfl) (by rfl) Z.m Z.x (q6s q0r q0b))) q0t)
  (@q1m _ _ _ (q0k (q4o (q0c (q5a x8u (by rfl) T.str z6u (q1i (pv 0) q0b)) q0b)))), ?_⟩
 refine ⟨_, rfl, i, rfl, _, _, rfl, rfl, ⟨by decide, by decide, by decide⟩, _, _, rfl, rfl, _, rfl, q9a (fun h => ?_) (fun h => ?_)⟩
 ·have h' := of_decide_eq_true h
  have e : (10 : Int) ^ (60 : Int).toNat = ((10 ^ 60 : Nat) : Int) := by decide +kernel
  rw [e] at h'
  refine ⟨by decide, qe ?_ H (fun _ _ z => z)⟩
  show decide (i.natAbs < 10 ^ 60) = false
  rw [decide_eq_false_iff_not]
  intro z
  by_cases hn : i < 0
  ·rw [if_pos hn] at h'; omega
  ·rw [if_neg hn] at h'; omega
 ·have h' := w0q h
  have e : (10 : Int) ^ (60 : Int).toNat = ((10 ^ 60 : Nat) : Int) := by decide +kernel
  rw [e] at h'
  have hi : i.natAbs < 10 ^ 60 := by
   by_cases hn : i < 0
   ·rw [if_pos hn] at h'; omega
   ·rw [if_neg hn] at h'; omega
  exact ⟨_, rfl, i, rfl, z5k hi, q3c (by show 1 ≤ 1000; decide), fun l hl => q (decide_eq_true hi) l _ (q0h hl) hl q0e⟩
theorem j8f : FnScope ["name"] ["name"] (q0f q8u) := fSc
theorem x6d {f : Addr} {fd : FuncData} {cN : Addr} (F : Fun K "name_words" "name_words" q8u f fd) : FnOk P w K mg base (CXe P w) 1 f fd ["name"] (spW cN q2y x8q) := by
 refine F.okE j8f q4u (fun cdv A outer s H vs Q E hr h => ?_)
 obtain ⟨B, v, d, hB, rfl, I, hp, q, qe⟩ := h
 obtain ⟨x, rfl, hx⟩ := q3k hp
 cases I
 exact ⟨_, @q1m _ _ _ (q0k (q4o (q1i (pv 0) q0b))), _, rfl, q3c (by show 1 ≤ 1000; decide), fun l hl => q rfl l _ (q0h hl) hl q0e⟩
theorem w3k : FnScope ["truth"] ["truth"] (q0f q7n) := fSc
theorem x4o {f : Addr} {fd : FuncData} {cN : Addr} (F : Fun K "truth_words" "truth_words" q7n f fd) : FnOk P w K mg base (CXe P w) 1 f fd ["truth"] (spW cN q2t j4q) := by
 refine F.okE w3k q4u (fun cdv A outer s H vs Q E hr h => ?_)
 obtain ⟨B, v, d, hB, rfl, I, hp, q, qe⟩ := h
 obtain ⟨b, rfl⟩ := q9e hp
 cases I
 refine ⟨_, @q1m _ _ _ (q0k (q4o (q0c (x6t (q2l (pv 0)) q0r q0r) q0b))), _, rfl, _, rfl, ?_⟩
 cases b with
 | true => exact q1f ⟨q3c (by show 1 ≤ 1000; decide), fun l hl => q rfl l _ (q0h hl) hl q0e⟩
 | false => exact q1a ⟨q3c (by show 1 ≤ 1000; decide), fun l hl => q rfl l _ (q0h hl) hl q0e⟩
noncomputable def j2d (K : PySem.W.Frag) : Sp := fun vs H Q _ => ∃ (a : Addr) (ns : List Int) (k : Int), vs = [.ref a, .int k] ∧ SqL K H a (ns.map V.int) ∧ 0 ≤ k ∧ ∀ z, Q (.int z) H
theorem scC : FnScope ["_law_script", "_law_k"] ["_law_script", "_law_k"] (q0f j4o) := fSc
theorem j4k {f : Addr} {fd : FuncData} (F : Fun K "_law_cell_at" "_law_cell_at" j4o f fd) (T : Txt mg) : FnOk P w K mg base CX0 1 f fd ["_law_script", "_law_k"] (j2d K) := by
 refine F.ok scC (fun vs H Q E ⟨_, _, _, e, _⟩ => by subst e; rfl) (fun cdv A outer s H vs Q E hr h => ?_)
 obtain ⟨a, ns, k, rfl, hS, h0, q⟩ := h
 refine ⟨_, q1c (q1w (q0s x5t (pv 1) (q0n q0w rfl T.len PySem.boot_len (q0c (pv 0) q0b)) (q0q _)) (q0p (q0k (q0u q5j (pv 0) (pv 1) (fun _ _ => rfl)))) q0t) (q0p (q0k q0a)), ?_⟩
 refine ⟨_, rfl, _, rfl, a, _, rfl, .inl hS, k, _, rfl, rfl, _, rfl, q9a (fun hlt => ?_) (fun _ => q 0)⟩
 have hlt' : k < ((ns.map V.int).length : Int) := of_decide_eq_true hlt
 obtain ⟨j, rfl⟩ := Int.eq_ofNat_of_zero_le h0
 have hj : j < ns.length := by rw [List.length_map] at hlt'; omega
 exact ⟨_, rfl, _, rfl, a, _, _, .int ns[j], rfl, rfl, hS, q0m (by simp [hj]), q _⟩
noncomputable def q6j (K : PySem.W.Frag) : Sp := fun vs H Q _ => ∃ (a : Addr) (ns : List Int) (k : Int), vs = [.ref a, .int k] ∧ SqL K H a (ns.map V.int) ∧ 0 ≤ k ∧ k ≤ 100000 ∧ ∀ z, 0 ≤ z → z < 2147483629 → Q (.int z) H
theorem scM : FnScope ["_law_script", "_law_k", "_law_number"] ["_law_script", "_law_k"] (q0f z4q) := fSc
theorem j0i {f : Addr} {fd : FuncData} (F : Fun K "_law_mixed" "_law_mixed" z4q f fd) (CC : Cal P w K mg base "_law_cell_at" 1 ["_law_script", "_law_k"] (j2d K)) : FnOk P w K mg base CX0 2 f fd ["_law_script", "_law_k"] (q6j K) := by
 refine F.ok scM (fun vs H Q E ⟨_, _, _, e, _⟩ => by subst e; rfl) (fun cdv A outer s H vs Q E hr h => ?_)
 obtain ⟨a, ns, k, rfl, hS, h0, h1, q⟩ := h
 refine ⟨_, q1c (q1b (i := 2) scM.nd rfl (Or.inl rfl) (q0j q1n (q0j q6r (q0j q1r (q0j q1r (q0i CC hr (q0c (pv 0) (q0c (pv 1) q0b))) (q0j q6r q0a (pv 1))) q0a) q0a) q0a))
  (q0p (q0k (q0j q1n (q0j q1r (q0j q1r (q0j q6r (pv 2) (pv 2)) (q0j q6r q0a (pv 2))) (pv 1)) q0a))), ?_⟩
 refine ⟨_, rfl, _, rfl, a, ns, k, rfl, hS, h0, fun z => ?_⟩
 refine ⟨_, rfl, _, _, rfl, rfl, .inl ⟨by decide, by decide⟩, _, _, rfl, rfl, _, _, rfl, rfl, _, _, rfl, rfl, .inr ⟨by decide, by decide⟩, _, _, rfl, rfl, (by show (0 : Int) < 2147483647; decide), ?_⟩
 generalize hn : (z + 7919 * k + 1) * 48271 % 2147483647 = n
 have n0 : 0 ≤ n := by rw [← hn]; exact Int.emod_nonneg _ (by decide)
 have n1 : n < 2147483647 := by rw [← hn]; exact Int.emod_lt_of_pos _ (by decide)
 refine ⟨_, rfl, _, rfl, _, _, rfl, rfl, .inl ⟨by omega, by omega⟩, _, rfl, _, _, rfl, rfl, .inl ⟨by decide, by decide⟩, _, _, rfl, rfl, _, rfl, _, _, rfl, rfl, _, _, rfl, rfl, (by show (0 : Int) < 2147483629; decide), ?_⟩
 exact q _ (Int.emod_nonneg _ (by decide)) (Int.emod_lt_of_pos _ (by decide))
theorem q4s {α : Type} {xs : List α} {i : Int} (h0 : 0 ≤ i) (h1 : i < xs.length) : ∃ v, atI xs i = some v ∧ v ∈ xs := by
 obtain ⟨j, rfl⟩ := Int.eq_ofNat_of_zero_le h0
 have hj : j < xs.length := by omega
 exact ⟨xs[j], q0m (by simp [hj]), List.getElem_mem hj⟩
theorem q2g (x : Int) {m : Int} (h : 0 < m) : 0 ≤ x % m ∧ x % m < m := ⟨Int.emod_nonneg _ (Int.ne_of_gt h), Int.emod_lt_of_pos _ h⟩
theorem z1y (a : Array Nat) : ∀ (k : Nat) (b : Array Nat), (List.foldl (fun x y => x ++ y) b (List.replicate k a)).size = b.size + k * a.size
 | 0, b => by simp
 | k + 1, b => by
  rw [List.replicate_succ, List.foldl_cons, z1y a k]
  simp [Nat.succ_mul]
  omega
theorem z5p (z : Str) (n : Int) : (Txt.mul z n).length ≤ z.length * n.toNat := by
 unfold Txt.mul
 split
 ·exact Nat.zero_le _
 ·split
  ·rename_i h1 h2
   have : 1 ≤ n.toNat := by omega
   exact Nat.le_trans (by omega) (Nat.mul_le_mul_left z.length this)
  ·show (List.foldl (fun x y => x ++ y) #[] (List.replicate n.toNat z.cps)).size ≤ _
   rw [z1y]
   show 0 + n.toNat * z.length ≤ _
   rw [Nat.zero_add, Nat.mul_comm]
   exact Nat.le_refl _
theorem x3j (x y : Str) : (x ++ y).length = x.length + y.length := by
 show (x.cps ++ y.cps).size = _
 rw [Array.size_append]
 rfl
noncomputable def x0o : Sp := fun vs H Q _ => ∃ n, vs = [.int n] ∧ 0 ≤ n ∧ ∀ x H', x.length ≤ 16 → q0y H H' → Q (.str x) H'
theorem j5e : FnScope ["_law_number", "_law_letters", "_law_name_here", "_law_at"] ["_law_number"] (q0f z0n) := fSc
theorem z4e {f : Addr} {fd : FuncData} (F : Fun K "_law_name_by" "_law_name_by" z0n f fd) (T : Txt mg) : FnOk P w K mg base CX0 1 f fd ["_law_number"] x0o := by
 refine F.ok j5e (fun vs H Q E ⟨_, e, _⟩ => by subst e; rfl) (fun cdv A outer s H vs Q E hr h => ?_)
 obtain ⟨n, rfl, h0, q⟩ := h
 refine ⟨_, q1c (q1w (q0s q2c (q0j q1n (pv 0) q0a) q0a (q0q _)) (q0p (q0k (q0u q5j (q4o (q0c q0r (q0c q0r (q0c q0r (q0c q0r (q0c q0r (q0c q0r (q0c q0r (q0c q0r (q0c q0r q0b))))))))))
   (q0j q1n (q0j q2b (pv 0) q0a) q0a) (fun _ _ => rfl)))) q0t)
  (q1c (q1b (i := 1) j5e.nd rfl (Or.inl rfl) q0r)
  (q1c (q1b (i := 2) j5e.nd rfl (Or.inl rfl) (q0u x3v (pv 1) (q0j q1n (pv 0) q0a) (fun _ _ => rfl)))
  (q1c (z1v PassesOwn.never (q0s x5t (q0n q3n rfl T.len PySem.boot_len (q0c (pv 2) q0b)) (q0j q1r q0a (q0j q1n (q0j q2b (pv 0) q0a) q0a)) (q0q _))
   (q1c (q1b (i := 3) j5e.nd rfl (Or.inl rfl) (q0j q1r (q0j q2b (pv 0) q0a) (q0j q6r (q0j q6r q0a (q0n q3n rfl T.len PySem.boot_len (q0c (pv 2) q0b))) (q0j q1n (pv 0) q0a))))
   (q0p (q1b (i := 2) j5e.nd rfl (Or.inl rfl) (q0j q0l (pv 2) (q0u x3v (pv 1) (q0j q1n (pv 3) q0a) (fun _ _ => rfl)))))))
  (q1c (q1w (q0s q2c (q0j q1n (q0j q2b (pv 0) q0a) q0a) q0a (q0q _)) (q0p (q0k (pv 2))) q0t)
  (q1c (q1b (i := 3) j5e.nd rfl (Or.inl rfl) (q0j q1n (q0j q2b (pv 0) q0a) (q0n q3n rfl T.len PySem.boot_len (q0c (pv 2) q0b))))
  (q0p (q0k (q0j q0l (q0j q0l (q0j x5q q0r (pv 3)) (q0u x3v (pv 2) (pv 3) (fun _ _ => rfl))) (q0j x5q q0r (q0j x1v (q0j x1v (q0n q3n rfl T.len PySem.boot_len (q0c (pv 2) q0b)) q0a) (pv 3))))))))))), ?_⟩
 refine ⟨_, rfl, _, _, rfl, rfl, (by show (0 : Int) < 8; decide), rfl, _, rfl, q9a (fun _ => ?_) (fun _ => ?_)⟩
 ·
  refine ⟨by rw [sizeLine_eq]; decide, fun p hp => ⟨_, rfl, _, _, rfl, rfl, ⟨by decide, by decide⟩, _, _, rfl, rfl, (by show (0 : Int) < 9; decide), ?_⟩⟩
  obtain ⟨e0, e1⟩ := q2g (n / 8) (m := 9) (by decide)
  obtain ⟨v, hv, hm⟩ := q4s (xs := [V.str "open", V.str "wish", V.str "seats", V.str "set", V.str "add", V.str "get", V.str "none", V.str "yes", V.str "no"]) e0 (by simpa using e1)
  have hx : ∃ x : Str, v = .str x ∧ x.length ≤ 16 := by
   simp only [List.mem_cons, List.not_mem_nil, or_false] at hm
   rcases hm with rfl | rfl | rfl | rfl | rfl | rfl | rfl | rfl | rfl <;> exact ⟨_, rfl, by decide +kernel⟩
  obtain ⟨x, rfl, hl⟩ := hx
  exact ⟨p, _, _, _, rfl, rfl, SqL.of q0e, hv, q x _ hl (q0h hp)⟩
 ·
  have la : ("abcdefghijklmnopqrstuvwxyz" : Str).length = 26 := by decide +kernel
  have lb : (("abcdefghijklmnopqrstuvwxyz" : Str).cps.toList).length = 26 := by rw [Array.length_toList]; exact la
  obtain ⟨e0, e1⟩ := q2g n (m := 26) (by decide)
  obtain ⟨c, hc, _⟩ := q4s (xs := ("abcdefghijklmnopqrstuvwxyz" : Str).cps.toList) e0 (by rw [lb]; exact e1)
  refine ⟨_, rfl, _, rfl, _, _, rfl, rfl, (by show (0 : Int) < 26; decide), _, _, c, rfl, rfl, (by rw [la, sizeLine_eq]; decide), hc, ?_⟩
  refine ⟨fun m σ H' => ∃ x t, σ = [some (.int n), some (.str "abcdefghijklmnopqrstuvwxyz"), some (.str x), t] ∧ H = H' ∧ 1 ≤ x.length ∧ x.length ≤ 8 ∧ m = 8 - x.length, ⟨7, ⟨#[c]⟩, none, rfl, rfl, Nat.le_refl _, (show 1 ≤ 8 by decide), rfl⟩, ?_⟩
  rintro m σ H' ⟨x, t, rfl, rfl, l1, l8, rfl⟩
  obtain ⟨f0, f1⟩ := q2g (n / 26) (m := 8) (by decide)
  have lx : x.length ≤ sizeLine := by rw [sizeLine_eq]; omega
  refine ⟨_, rfl, x, rfl, lx, _, rfl, _, _, rfl, rfl, ⟨by decide, by decide⟩, _, _, rfl, rfl, (by show (0 : Int) < 8; decide), _, _, rfl, rfl, _, _, rfl, rfl, _, rfl, q9a (fun hlt => ?_) (fun _ => ?_)⟩
  ·have hlt' : (x.length : Int) < 1 + n / 26 % 8 := of_decide_eq_true hlt
   refine ⟨fun σ' H2 => ∃ x' t', σ' = [some (.int n), some (.str "abcdefghijklmnopqrstuvwxyz"), some (.str x'), t'] ∧ H = H2 ∧ x'.length = x.length + 1, ?_, ?_⟩
   ·rintro σ' H2 ⟨x', t', rfl, rfl, e⟩
    exact ⟨8 - x'.length, by omega, x', t', rfl, rfl, by omega, by omega, rfl⟩
   ·obtain ⟨g0, g1⟩ := q2g (n / 208 + 5 * (x.length : Int) * (n % 3)) (m := 26) (by decide)
    obtain ⟨d, hd, _⟩ := q4s (xs := ("abcdefghijklmnopqrstuvwxyz" : Str).cps.toList) g0 (by rw [lb]; exact g1)
    refine ⟨_, rfl, _, _, rfl, rfl, ⟨by decide, by decide⟩, _, rfl, x, rfl, lx, _, _, rfl, rfl, .inl ⟨by decide, by decide⟩, _, rfl, _, _, rfl, rfl, (by show (0 : Int) < 3; decide), _, _, rfl, rfl, .inl ⟨by omega, by omega⟩, _, _, rfl, rfl, ?_⟩
    refine ⟨_, rfl, _, rfl, _, rfl, _, _, rfl, rfl, (by show (0 : Int) < 26; decide), _, _, d, rfl, rfl, (by rw [la, sizeLine_eq]; decide), hd, _, _, rfl, rfl, (by show x.length + 1 ≤ sizeLine; rw [sizeLine_eq]; omega), ?_⟩
    exact ⟨_, _, rfl, rfl, by rw [x3j]; rfl⟩
  ·refine ⟨_, rfl, _, _, rfl, rfl, ⟨by decide, by decide⟩, _, _, rfl, rfl, (by show (0 : Int) < 2; decide), rfl, _, rfl, q9a (fun _ => ?_) (fun _ => ?_)⟩
   ·exact ⟨_, rfl, q x H (by omega) (q0y.refl _)⟩
   ·have lp : (0 : Int) < (x.length : Int) := by omega
    refine ⟨_, rfl, _, _, rfl, rfl, ⟨by decide, by decide⟩, _, rfl, x, rfl, lx, _, _, rfl, rfl, lp, ?_⟩
    obtain ⟨a0, a1⟩ := q2g (n / 208) lp
    obtain ⟨d, hd, _⟩ := q4s (xs := x.cps.toList) a0 (by rw [Array.length_toList]; exact a1)
    have ml := z5p "a" (n / 208 % (x.length : Int))
    have ml2 := z5p "a" ((x.length : Int) - 1 - n / 208 % (x.length : Int))
    have one : ("a" : Str).length = 1 := by decide +kernel
    rw [one] at ml ml2
    have s1 : (⟨#[d]⟩ : Str).length = 1 := rfl
    refine ⟨_, rfl, _, _, rfl, rfl, (by rw [one]; decide), (by omega), (by omega), _, rfl, _, rfl, _, _, d, rfl, rfl, lx, hd, _, _, rfl, rfl, (by rw [s1, sizeLine_eq]; omega), _, rfl, x, rfl, lx, _, _, rfl, rfl, _, rfl, _, _, rfl, rfl, _, _, rfl, rfl, (by rw [one]; decide), (by omega), (by omega), _, _, rfl, rfl, ?_, ?_⟩
    ·rw [x3j, s1, sizeLine_eq]; omega
    ·refine q _ H ?_ (q0y.refl _)
     rw [x3j, x3j, s1]; omega
end
noncomputable def j5o : Sp := fun vs H Q _ => ∃ n : Int, vs = [.int n] ∧ 0 ≤ n ∧ n.natAbs < 10 ^ 4000 ∧ Q (.str (q1p n)) H
noncomputable def z0k : Sp := fun vs H Q _ => ∃ n : Int, vs = [.int n] ∧ n.natAbs < 10 ^ 4000 ∧ Q (.str (q1p n)) H
theorem j1t : ∀ m : Nat, m < 10 → ("0123456789" : Str).cps.toList[m]? = some (48 + m) := by decide +kernel
theorem z7z : ("0123456789" : Str).length = 10 := by decide +kernel
theorem j6g {n : Nat} {x : Str} (h : x4m n = cL x) : q1p (n : Int) = x := x3z ((x0b n).trans h)
section
variable {P : Program} {w : World} {K : PySem.W.Frag} {mg : Str → Option Value} {base : Heap}
theorem j5j : FnScope ["_law_number", "_law_found"] ["_law_number"] (q0f q3t) := fSc
theorem z6c {f : Addr} {fd : FuncData} (F : Fun K "_law_figures" "_law_figures" q3t f fd) : FnOk P w K mg base CX0 1 f fd ["_law_number"] j5o := by
 refine F.ok j5j (fun vs H Q E ⟨_, e, _⟩ => by subst e; rfl) (fun cdv A outer s H vs Q E hr h => ?_)
 obtain ⟨n, rfl, h0, hb, q⟩ := h
 obtain ⟨n, rfl⟩ := Int.eq_ofNat_of_zero_le h0
 refine ⟨_, @q0z _ _ _ _ _ (q1w (q0s x5t (pv 0) q0a (q0q _)) x9c q0t)
  (@q0z _ _ _ _ _ (q1b (i := 1) j5j.nd (by rfl) (by exact Or.inl rfl) q0r)
  (@q0z _ _ _ _ _ (z1v PassesOwn.never (q0s z0l (pv 0) q0a (q0q _)) (@q0z _ _ _ _ _ (q1b (i := 1) j5j.nd (by rfl) (by exact Or.inl rfl) (q0j q0l (q0u x3v q0r (q0j q1n (pv 0) q0a) z5n) (pv 1)))
   (@q1m _ _ _ (q1b (i := 0) j5j.nd (by rfl) (by exact Or.inl rfl) (q0j q2b (pv 0) q0a)))))
  (@q1m _ _ _ (q0k (q0j q0l (q0u x3v q0r (pv 0) w0i) (pv 1)))))), ?_⟩
 have hn : (x4m n).length ≤ 4000 := (x7e n (by decide)).mpr (by simpa using hb)
 refine ⟨_, rfl, _, _, rfl, rfl, _, rfl, ?_⟩
 rw [show decide ((n : Int) < 0) = false from decide_eq_false (by omega)]
 refine q1a ⟨fun k σ H' => ∃ (m : Nat) (x : Str), σ = [some (.int (m : Int)), some (.str x)] ∧ H = H' ∧ x4m n = x4m m ++ cL x ∧ k = m, ⟨n, n, "", rfl, rfl, by rw [show cL ("" : Str) = [] from rfl, List.append_nil], rfl⟩, ?_⟩
 rintro k σ H' ⟨m, x, rfl, rfl, hd, rfl⟩
 have hxl : x.length ≤ 4000 := by
  have := congrArg List.length hd
  rw [List.length_append] at this
  have e : (cL x).length = x.length := Array.length_toList
  omega
 refine ⟨_, rfl, _, _, rfl, rfl, _, rfl, q9a (fun hlt => ?_) (fun hge => ?_)⟩
 ·have hm : 10 ≤ k := by have := of_decide_eq_true hlt; omega
  have e10 : ((k : Int) % 10) = ((k % 10 : Nat) : Int) := by omega
  refine ⟨fun σ' H' => ∃ (m : Nat) (x : Str), σ' = [some (.int (m : Int)), some (.str x)] ∧ H = H' ∧ x4m n = x4m m ++ cL x ∧ m < k, fun σ' H' ⟨m, x, a, b, c, d⟩ => ⟨m, d, m, x, a, b, c, rfl⟩, ?_⟩
  refine ⟨_, rfl, _, _, rfl, rfl, (by show (0 : Int) < 10; decide), _, _, 48 + k % 10, rfl, rfl, (by rw [z7z, sizeLine_eq]; decide), ?_, _, rfl, _, _, rfl, rfl, ?_, ?_⟩
  ·rw [e10]; exact q0m (j1t _ (Nat.mod_lt _ (by decide)))
  ·show 1 + x.length ≤ _
   rw [sizeLine_eq]; omega
  ·refine ⟨_, rfl, _, _, rfl, rfl, ⟨by decide, by decide⟩, k / 10, (⟨#[48 + k % 10]⟩ : Str) ++ x, by show [some (V.int ((k : Int) / 10)), _] = _; rw [show ((k : Int) / 10) = ((k / 10 : Nat) : Int) by omega], rfl, ?_, by omega⟩
   rw [hd, z6p hm, x0s, List.append_assoc]
   rfl
 ·have hm : k < 10 := by have := w0q hge; omega
  refine ⟨_, rfl, _, _, 48 + k, rfl, rfl, (by rw [z7z, sizeLine_eq]; decide), q0m (j1t k hm), _, rfl, _, _, rfl, rfl, ?_, ?_⟩
  ·show 1 + x.length ≤ _
   rw [sizeLine_eq]; omega
  ·have : q1p (n : Int) = (⟨#[48 + k]⟩ : Str) ++ x := j6g (by rw [hd, z9l hm, x0s]; rfl)
   rw [← this]
   exact q
noncomputable def j7a : Sp := fun vs H Q _ => ∃ n : Int, vs = [.int n] ∧ n < 0 ∧ n.natAbs < 10 ^ 4000 ∧ Q (.str (q1p n)) H
theorem j2w {f : Addr} {fd : FuncData} (F : Fun K "_law_figures" "_law_figures" q3t f fd) (hm : mg "_law_figures" = some (.ref f)) (hk : PySem.W.keepIn K (.ref f) = true) (hbi : q5i K fd ["_law_number"] []) : FnOk P w K mg base CX0 2 f fd ["_law_number"] j7a := by
 have G := z6c (P := P) (w := w) (mg := mg) (base := base) F
 refine F.ok j5j (fun vs H Q E ⟨_, e, _⟩ => by subst e; rfl) (fun cdv A outer s H vs Q E hr h => ?_)
 obtain ⟨n, rfl, hn, hb, q⟩ := h
 refine ⟨_, @q0z _ _ _ _ _ (q1w (q0s x5t (pv 0) q0a (q0q _)) (@q1m _ _ _ (q0k (q0j q0l q0r (q8y G hr (by rfl) hm hk hbi .nil x6m (q0c (x4p q9l (pv 0)) q0b))))) q0t) (@x9c _ _), ?_⟩
 refine ⟨_, rfl, _, _, rfl, rfl, _, rfl, ?_⟩
 rw [show decide (n < 0) = true from decide_eq_true hn]
 have hl := q1e (n := -n) (k := 4000) (by decide) (by rw [Int.natAbs_neg]; exact hb)
 refine q1f ⟨_, rfl, _, rfl, -n, rfl, by omega, by rw [Int.natAbs_neg]; exact hb, _, _, rfl, rfl, ?_, ?_⟩
 ·show 1 + (q1p (-n)).length ≤ _
  rw [sizeLine_eq]; omega
 ·have e : q1p n = ("-" : Str) ++ q1p (-n) := by
   refine x3z ?_
   show j0g n = cL (("-" : Str) ++ q1p (-n))
   have e2 : (-n) = ((n.natAbs : Nat) : Int) := by omega
   rw [x2c hn, x0s, e2]
   show _ = cL ("-" : Str) ++ j0g ((n.natAbs : Nat) : Int)
   rw [x0b]
   rfl
  rw [← e]
  exact q
theorem j6c {f : Addr} {fd : FuncData} (F : Fun K "_law_figures" "_law_figures" q3t f fd) (hm : mg "_law_figures" = some (.ref f)) (hk : PySem.W.keepIn K (.ref f) = true) (hbi : q5i K fd ["_law_number"] []) : FnOk P w K mg base CX0 2 f fd ["_law_number"] z0k := by
 have F1 := (z6c (P := P) (w := w) (mg := mg) (base := base) F).mono (show 1 ≤ 2 by decide)
 have F2 := j2w (P := P) (w := w) (base := base) F hm hk hbi
 refine ⟨fun vs H Q E ⟨_, e, _⟩ => by subst e; rfl, fun A outer s H args us vs Q E hr he hb hv hs => ?_⟩
 obtain ⟨n, e, hn, q⟩ := hs
 by_cases h : n < 0
 ·exact F2.run A outer s H args us vs Q E hr he hb hv ⟨n, e, h, hn, q⟩
 ·exact F1.run A outer s H args us vs Q E hr he hb hv ⟨n, e, by omega, hn, q⟩
theorem w2d : FnScope ["thing"] ["thing"] (q0f q7k) := fSc
theorem z1j {l : Int} {d : D} (h : whole d = false) : geD l d = false := by
 cases d with
 | int i => cases h
 | _ => rfl
theorem x9t {f : Addr} {fd : FuncData} (F : Fun K "is_from_one" "is_from_one" q7k f fd) (T : Txt mg) (CW : Cal P w K mg base "is_whole" 1 ["thing"] (spP whole)) : FnOk P w K mg base CX0 2 f fd ["thing"] (spP (geD 1)) := by
 refine F.ok w2d q2d (fun cdv A outer s H vs Q E hr h => ?_)
 obtain ⟨B, v, d, hB, rfl, I, k⟩ := h
 refine ⟨_, q0p (q0k (q1x (q0i CW hr (q0c (pv 0) q0b)) (q2i (q1z z3z (pv 0) q0a (q0q _))))), ?_⟩
 refine ⟨_, rfl, B, v, d, hB, rfl, I, fun H' s' => ⟨_, rfl, ?_⟩⟩
 have k0 := k H' s'
 cases e : whole d with
 | false => rw [z1j e] at k0; exact q1a k0
 | true =>
  obtain ⟨i, rfl⟩ := x2u e
  cases I
  exact q1f ⟨_, rfl, _, _, rfl, rfl, k0⟩
noncomputable def q6q (P : Program) (w : World) (K : PySem.W.Frag) (mg : Str → Option Value) (base : Heap) (kk : Nat) : Sp := fun vs H Q _ => ∃ B v d t gs ps, B ≤ 1000 ∧ vs = [v, .ref t] ∧ Is B H v d ∧ SqT K H t gs ∧ Tls P w K mg base kk gs ps ∧ gs.length ≤ 1000 ∧ ∀ H', q0y H H' → Q (.bl (x0l ps d)) H'
theorem w2h : FnScope ["thing", "tellers"] ["thing", "tellers"] (q0f z2i) := fSc
theorem SqT.same {H H' : Hp} {a : Addr} {xs : List V} (h : SqT K H a xs) (s : q0y H H') : SqT K H' a xs := by
 rcases h with h | h
 ·exact .inl (h.elim (fun e => .inl (s _ _ e)) fun ⟨o, e⟩ => .inr ⟨o, s _ _ e⟩)
 ·exact .inr h
theorem x1p {f : Addr} {fd : FuncData} {kk : Nat} (F : Fun K "fits" "fits" z2i f fd) (T : Txt mg) : FnOk P w K mg base CX0 (kk + 1) f fd ["thing", "tellers"] (q6q P w K mg base kk) := by
 refine F.ok w2h (fun vs H Q E ⟨_, _, _, _, _, _, _, e, _⟩ => by subst e; rfl) (fun cdv A outer s H vs Q E hr h => ?_)
 obtain ⟨B, v, d, t, gs, ps, hB, rfl, I, hS, hT, hg, k⟩ := h
 refine ⟨_, q1c (q1w (PW.pt (q6t (q3a (q2l (q0n q2a rfl T.isi q1s (q0c (pv 0) (q0c (q4z rfl T.tuple q2p) q0b))))) (q7t (q0s j0m (q0n q0w rfl T.len PySem.boot_len (q0c (pv 0) q0b)) (q0n q0w rfl T.len PySem.boot_len (q0c (pv 1) q0b)) (q0q _))))) (q0p (q0k q7e)) q0t)
  (q0p (q0k (q0n (x0t rfl) rfl T.all q8x (q0c (q3g (NB := ["teller", "part"]) (n := 2) (fr := []) (q5h (outer := q0f z2i) rfl (by decide +kernel) rfl) rfl
   (z1l (t1 := true) (t2 := true) rfl T.zip (q0c (pv 1) (q0c (pv 0) q0b)))
   (fun _ _ _ _ _ => x2o (K := K) (n := 2) rfl rfl (q1v (q1h (i := 0) (show (["teller", "part"] : List Str).Nodup by decide +kernel) rfl (Or.inl rfl)) (q1v (q1h (i := 1) (show (["teller", "part"] : List Str).Nodup by decide +kernel) rfl (Or.inl rfl)) q5c))) (fun _ _ _ _ _ => q2u)
   (fun _ _ _ _ _ => j0d (P := P) (w := w) (K := K) (mg := mg) (base := base) (k := kk) rfl rfl rfl rfl rfl hr x6m (pv 0) (q0c (pv 1) q0b))) q0b)))), ?_⟩
 refine ⟨_, rfl, _, _, _, _, rfl, I.ty, q5d K d, _, rfl, ?_⟩
 have hlt := hT.length
 cases d with
 | tup ds =>
  cases I with
  | @tup a xs _ ea hl r =>
  have hlen := r.length
  have k1 : ∀ H', q0y H H' → Q (.bl (q0x ps ds)) H' := k
  refine q1a ⟨_, rfl, a, xs, rfl, .inr (SqT.of ea), _, rfl, t, gs, rfl, .inr hS, rfl, _, rfl, ?_⟩
  by_cases hne : ds.length = ps.length
  ·rw [show (!decide (V.int (xs.length : Int) = V.int (gs.length : Int))) = false by rw [hlen, hne, hlt]; simp]
   refine q1a ⟨_, rfl, _, rfl, t, a, gs, xs, rfl, hS, SqT.of ea, q3d (J := Itz K true true t a) (k := 2) (n := ps.length) (fun _ => true) (fun i => .bl ((ps.getD i fun _ => true) (ds.getD i .non))) (by rw [sizeLine_eq]; omega) ?_ ?_ ?_ ?_⟩
   ·intro i H2 hi s1
    have i1 : i < gs.length := by omega
    have i2 : i < xs.length := by omega
    exact ⟨gs, xs, gs[i], xs[i], SqT.same hS s1, SqT.of (s1 _ _ ea), by simp [i1], by simp [i2]⟩
   ·intro H2 s1
    exact ⟨gs, xs, SqT.same hS s1, SqT.of (s1 _ _ ea), .inl (by omega)⟩
   ·intro i H2 tt v H3 R hi s1 ht y hR
    obtain ⟨q, x, y, rfl, hq, rfl, e1, e2⟩ := y
    have e1' := e1 _ (SqT.same hS s1)
    have e2' := e2 _ (SqT.of (s1 _ _ ea))
    obtain ⟨g, p, rfl, hp, Tg⟩ := hT.get e1'
    obtain ⟨di, hdi, Ii⟩ := r.get e2'
    have ht' : ∃ t0 t1, tt = [t0, t1] := by
     match tt, ht with
     | [t0, t1], _ => exact ⟨t0, t1, rfl⟩
    obtain ⟨t0, t1, rfl⟩ := ht'
    refine ⟨q, _, rfl, SqT.of q0e, rfl, _, _, rfl, _, _, rfl, rfl, ⟨_, rfl, g, p, rfl, Tg, _, rfl, B, y, di, hB, rfl, (Ii.same s1).same (q0h hq), fun H' s2 => ?_⟩⟩
    have hR' := hR [some (.ref g), some y] H' rfl ((q0h (o := .tup [.ref g, y]) hq).trans s2)
    have g1 : (ps.getD i fun _ => true) = p := by rw [List.getD_eq_getElem?_getD, hp]; rfl
    have g2 : ds.getD i .non = di := by rw [List.getD_eq_getElem?_getD, hdi]; rfl
    rw [g1, g2] at hR'
    exact hR'
   ·intro D H' s1 hD hd
    refine ⟨D, (List.range ps.length).map fun i => (ps.getD i fun _ => true) (ds.getD i .non), rfl, SqL.of ?_, ?_⟩
    ·rw [hd, List.filter_eq_self.mpr (fun _ _ => rfl), List.map_map]
     rfl
    ·rw [x2p hne]
     exact k1 H' s1
  ·rw [show (!decide (V.int (xs.length : Int) = V.int (gs.length : Int))) = true by rw [decide_eq_false (fun z => hne (by have := V.int.inj z; omega))]; rfl]
   have k2 := k1 H (q0y.refl _)
   rw [x3f hne] at k2
   exact q1f k2
 | non => exact q1f (q1f (k H (q0y.refl _)))
 | bl _ => exact q1f (q1f (k H (q0y.refl _)))
 | int _ => exact q1f (q1f (k H (q0y.refl _)))
 | str _ => exact q1f (q1f (k H (q0y.refl _)))
 | lst _ => exact q1f (q1f (k H (q0y.refl _)))
theorem _root_.Kp.Cal.tl {name : Str} {k kk : Nat} {px : Str} {p : D → Bool} {g : Addr} (C : Cal P w K mg base name k [px] (spP p)) (hm : mg name = some (.ref g)) (hk : k ≤ kk) : Tl P w K mg base kk g p := by
 obtain ⟨f, fd, F, m, kp, b⟩ := C.ex
 rw [hm] at m
 cases m
 exact ⟨k, fd, px, hk, F, kp, b⟩
theorem _root_.Kp.Cal.at {name : Str} {k : Nat} {px : Str} {p : D → Bool} (C : Cal P w K mg base name k [px] (spP p)) : ∃ g, mg name = some (.ref g) ∧ ∀ kk, k ≤ kk → Tl P w K mg base kk g p := by
 obtain ⟨f, fd, F, m, kp, b⟩ := id C.ex
 exact ⟨f, m, fun kk h => C.tl m h⟩
end
noncomputable def q5l (P : Program) (w : World) (K : PySem.W.Frag) (mg : Str → Option Value) (base : Heap) (cN : Addr) (kk : Nat) : Sp := fun vs H Q E => ∃ (B : Nat) (a : Addr) (xs : List V) (ds : List D) (t : Addr) (gs : List V) (ps : List (D → Bool)) (fs : List (D → List Str)), B ≤ 1000 ∧ vs = [.ref a, .ref t] ∧ H a = some (.tup xs) ∧ IsL B H xs ds ∧
 SqT K H t gs ∧ Wrs P w K mg base cN kk gs ps fs ∧ q0x ps ds = true ∧ (q2h fs ds).length ≤ 100000 ∧
 (smallL 60 ds = true → ∀ l H', q0y H H' → H l = none → H' l = some (.lst ((q2h fs ds).map V.str)) → Q (.ref l) H') ∧ (smallL 60 ds = false → ∀ H', q0y H H' → E (.ref cN) none H')
theorem x3l : ∀ {fs : List (D → List Str)} {ds : List D} {i : Nat} {f : D → List Str} {d : D}, fs[i]? = some f → ds[i]? = some d → q2h (fs.take (i + 1)) (ds.take (i + 1)) = q2h (fs.take i) (ds.take i) ++ f d
 | f' :: fs, d' :: ds, 0, f, d, hf, hd => by
  cases hf
  cases hd
  simp [q2h]
 | f' :: fs, d' :: ds, i + 1, f, d, hf, hd => by
  have := x3l (fs := fs) (ds := ds) (i := i) (f := f) (d := d) (by simpa using hf) (by simpa using hd)
  simp only [List.take_succ_cons, q2h, this, List.append_assoc]
 | [], _, i, f, d, hf, hd => by simp at hf
 | _ :: _, [], i, f, d, hf, hd => by simp at hd
theorem x5i : ∀ (fs : List (D → List Str)) (ds : List D) (i : Nat), (q2h (fs.take i) (ds.take i)).length ≤ (q2h fs ds).length
 | [], _, i => by simp [q2h]
 | _ :: _, [], i => by simp [q2h]
 | f :: fs, d :: ds, 0 => by simp [q2h]
 | f :: fs, d :: ds, i + 1 => by
  have := x5i fs ds i
  simp only [List.take_succ_cons, q2h, List.length_append]
  omega
theorem z1r : ∀ {ps : List (D → Bool)} {ds : List D} {i : Nat} {p : D → Bool} {d : D}, q0x ps ds = true → ps[i]? = some p → ds[i]? = some d → p d = true
 | p' :: ps, d' :: ds, 0, p, d, h, hp, hd => by
  cases hp
  cases hd
  rw [q0x, Bool.and_eq_true] at h
  exact h.1
 | p' :: ps, d' :: ds, i + 1, p, d, h, hp, hd => by
  rw [q0x, Bool.and_eq_true] at h
  exact z1r h.2 (by simpa using hp) (by simpa using hd)
 | [], _, i, p, d, h, hp, hd => by simp at hp
 | _ :: _, [], i, p, d, h, hp, hd => by simp at hd
theorem q1d : ∀ {ps : List (D → Bool)} {ds : List D}, q0x ps ds = true → ds.length = ps.length := fun {ps ds} h => by
 by_cases e : ds.length = ps.length
 ·exact e
 ·rw [x3f e] at h; cases h
theorem x5g {k : Nat} {ds : List D} {i : Nat} {d : D} (h : smallL k (ds.take i) = true) (hd : ds[i]? = some d) (hs : q1g k d = true) : smallL k (ds.take (i + 1)) = true := by
 rw [List.take_add_one, hd]
 exact x1c.mpr ⟨h, by rw [Option.toList_some, smallL, hs]; rfl⟩
theorem x8s {k : Nat} {ds : List D} {i : Nat} {d : D} (hd : ds[i]? = some d) (hs : q1g k d = false) : smallL k ds = false := by
 cases e : smallL k ds with
 | false => rfl
 | true =>
  have := q2w.mp e d (List.mem_of_getElem? hd)
  rw [hs] at this
  cases this
section
variable {P : Program} {w : World} {K : PySem.W.Frag} {mg : Str → Option Value} {base : Heap}
theorem j7y : FnScope ["parts", "writers", "words", "part", "writer"] ["parts", "writers"] (q0f q5e) := fSc
theorem q3p {f : Addr} {fd : FuncData} {cN : Addr} {kk : Nat} (F : Fun K "words_of_parts" "words_of_parts" q5e f fd) (T : Txt mg) : FnOk P w K mg base (CXe P w) (kk + 1) f fd ["parts", "writers"] (q5l P w K mg base cN kk) := by
 refine F.okE j7y (fun vs H Q E ⟨_, _, _, _, _, _, _, _, _, e, _⟩ => by subst e; rfl) (fun cdv A outer s H vs Q E hr h => ?_)
 obtain ⟨B, a, xs, ds, t, gs, ps, fs, hB, rfl, ha, hI, hS, hW, hF, hn, q, qe⟩ := h
 refine ⟨_, @q0z _ _ _ _ _ (q1b (i := 2) j7y.nd (by rfl) (by exact Or.inl rfl) (q4o q0b))
  (@q0z _ _ _ _ _ (x5n j1y (by rfl) (z1l (t1 := true) (t2 := true) (by rfl) T.zip (q1i (pv 0) (q1i (pv 1) q0b))) (x1s (n := 2) (by rfl) (q1v (q1h (i := 3) j7y.nd (by rfl) (by exact Or.inl rfl)) (q1v (q1h (i := 4) j7y.nd (by rfl) (by exact Or.inl rfl)) q5c)))
   (@q1m _ _ _ (x0u (x1b PySem.F.plainAttrs_list PySem.F.slot_list_extend PySem.F.type_list_extend x7r (pv 2) (q0c (z1o (P := P) (w := w) (K := K) (mg := mg) (base := base) (cN := cN) (k := kk) (by rfl) (by rfl) (by rfl) (by rfl) (by rfl) hr q9n (pv 4) (q1i (pv 3) q0b)) q0b)))))
  (@q1m _ _ _ (q0k (pv 2)))), ?_⟩
 have hlen := hI.length
 have hfl := q1d hF
 obtain ⟨w1, w2⟩ := hW.length
 refine ⟨q3c (by show 0 ≤ 1000; decide), fun l hl => ?_⟩
 have s0 := q0h (o := HO.lst []) hl
 refine ⟨_, rfl, _, rfl, a, t, xs, gs, rfl, SqT.of (s0 _ _ ha), SqT.same hS s0, j1b (K := K) (a := a) (b := t) (xs := xs) (ys := gs) (fun i σ H' => ∃ x3 x4 : Option V, σ = [some (.ref a), some (.ref t), some (.ref l), x3, x4] ∧ H' l = some (.lst ((q2h (fs.take i) (ds.take i)).map V.str)) ∧ smallL 60 (ds.take i) = true ∧ q0y H H')
  ⟨none, none, rfl, q0e, rfl, s0⟩ (fun i σ H' ⟨_, _, _, _, _, s1⟩ => ⟨SqT.of (s1 _ _ ha), SqT.same hS s1⟩) ?_ ?_⟩
 ·rintro i x y p σ H' hx hy hp ⟨x3, x4, rfl, hL, hsm, s1⟩
  have s2 := q0h (o := HO.tup [x, y]) hp
  obtain ⟨d, hd, hIs⟩ := hI.get hx
  obtain ⟨g, pp, ff, rfl, hpp, hff, hT⟩ := hW.get hy
  refine ⟨p, _, rfl, SqT.of q0e, rfl, _, _, rfl, _, _, rfl, rfl, ?_⟩
  refine ⟨_, rfl, ?_, _, rfl, g, pp, ff, rfl, hT, _, rfl, B, x, d, hB, rfl, hIs.same (s1.trans s2), z1r hF hpp hd, fun hs b H2 s3 hb hb2 => ?_, fun hs H2 s3 => qe (x8s hd hs) H2 ((s1.trans s2).trans s3)⟩
  ·exact .inl ⟨rfl, _, SqL.of (s2 _ _ hL)⟩
  ·have hL2 := s3 _ _ (s2 _ _ hL)
   have hlb : l ≠ b := fun z => by
    subst z
    rw [s2 _ _ hL] at hb
    cases hb
   have hcat := x3l hff hd
   have hpre := x5i fs ds (i + 1)
   rw [hcat, List.length_append] at hpre
   refine ⟨l, b, _, _, rfl, rfl, hL2, hb2, ?_, _, _, rfl, ?_, x5g hsm hd hs, ?_⟩
   ·rw [List.length_map, List.length_map, sizeLine_eq]; omega
   ·rw [hcat, List.map_append]; exact q0e
   ·intro c o e
    have hc : c ≠ l := fun z => by subst z; rw [hl] at e; cases e
    rw [q1q hc]
    exact ((s1.trans s2).trans s3) _ _ e
 ·rintro i σ H' g1 g2 hend ⟨x3, x4, rfl, hL, hsm, s1⟩
  have hi : i = ds.length := by omega
  subst hi
  rw [List.take_length] at hL hsm
  rw [show fs.take ds.length = fs from List.take_of_length_le (by omega)] at hL
  exact ⟨_, rfl, q hsm l H' s1 hl hL⟩
end
end K1
namespace Kp
open PySem L2 PySem.Spec PyProof.Rows PySem.NumText
noncomputable def J (ws : List Str) : Str := Str.join " " ws
theorem z9f : (" " : Str) = ⟨#[32]⟩ := by decide +kernel
theorem x4a (x : Str) : J [x] = x := rfl
theorem x1o (x y : Str) (r : List Str) : J (x :: y :: r) = x ++ " " ++ J (y :: r) := rfl
theorem x0r (a b c : Str) : a ++ b ++ c = a ++ (b ++ c) := by
 refine x3z ?_
 show cL (a ++ b ++ c) = cL (a ++ (b ++ c))
 rw [x0s, x0s, x0s, x0s, List.append_assoc]
theorem j6k (x : Str) {r : List Str} (h : r ≠ []) : J (x :: r) = x ++ " " ++ J r := by
 cases r with
 | nil => exact absurd rfl h
 | cons y r => rfl
theorem x1w : ∀ {a b : List Str}, a ≠ [] → b ≠ [] → J (a ++ b) = J a ++ " " ++ J b
 | [], _, h, _ => absurd rfl h
 | [x], b, _, hb => j6k x hb
 | x :: y :: r, b, _, hb => by
  have ih := x1w (a := y :: r) (b := b) (by simp) hb
  rw [List.cons_append, List.cons_append, x1o, x1o]
  rw [List.cons_append] at ih
  rw [ih]
  simp only [x0r]
theorem q0d (a b : Str) : (a ++ b).length = a.length + b.length := by
 show (a ++ b).cps.size = a.cps.size + b.cps.size
 rw [show (a ++ b).cps = a.cps ++ b.cps from rfl, Array.size_append]
theorem z0p {L : Nat} : ∀ {ws : List Str}, (∀ w ∈ ws, w.length ≤ L) → (J ws).length ≤ ws.length * (L + 1)
 | [], _ => Nat.zero_le _
 | [x], h => by
  have := h x (by simp)
  rw [x4a, List.length_singleton]
  omega
 | x :: y :: r, h => by
  have h1 := h x (by simp)
  have ih := z0p (ws := y :: r) fun w hw => h w (List.mem_cons_of_mem _ hw)
  rw [x1o, q0d, q0d]
  have e : (" " : Str).length = 1 := rfl
  simp only [List.length_cons, Nat.add_mul, Nat.succ_mul] at ih ⊢
  omega
theorem POk.text {n : Nat} {ds : List D} {ws : List Str} (h : POk n ds ws) (hs : smallL 4000 ds = true) : (J ws).length ≤ n * 4002 := by
 have := z0p (h.len 4000 (by decide) hs)
 exact Nat.le_trans this (Nat.mul_le_mul_right _ h.few)
theorem POk.split {n : Nat} {ds : List D} {ws : List Str} (h : POk n ds ws) (hne : ws ≠ []) : Txt.split (J ws) " " = ws := by
 unfold J
 rw [z9f]
 exact z4a hne h.free
end Kp
namespace K1
open PySem L2 Kp
noncomputable def spT (p : D → Bool) (f : D → List Str) : Sp := fun vs H Q _ => ∃ (B : Nat) (v : V) (d : D), B ≤ 200 ∧ vs = [v] ∧ Is B H v d ∧ p d = true ∧ q1g 4000 d = true ∧ ∀ H', q0y H H' → Q (.str (J (f d))) H'
theorem x1f {p : D → Bool} {f : D → List Str} {px : Str} : ∀ vs H Q E, spT p f vs H Q E → vs.length = [px].length := fun vs H Q E ⟨_, _, _, _, e, _⟩ => by subst e; rfl
theorem z9z {d : D} (h : q7z d = true) : (∃ x, d = .tup [.str "get", .str x] ∧ x4x x = true) ∨ ∃ (y x : Str) (i : Int), (y = "set" ∨ y = "add") ∧ d = .tup [.str y, .str x, .int i] ∧ x4x x = true := by
 obtain ⟨x, r, ps, rfl, e, hf⟩ := q2x h
 unfold x8y at e
 rw [List.lookup_cons] at e
 by_cases h1 : x = "set"
 ·subst h1
  cases e
  match r, q1d hf with
  | [a, b], _ =>
   simp only [q0x, Bool.and_true, Bool.and_eq_true] at hf
   obtain ⟨y, rfl, hy⟩ := q3k hf.1
   obtain ⟨i, rfl⟩ := q0v hf.2
   exact .inr ⟨_, y, i, .inl rfl, rfl, hy⟩
 ·rw [show (x == "set") = false from by rw [beq_eq_false_iff_ne]; exact h1, List.lookup_cons] at e
  by_cases h2 : x = "add"
  ·subst h2
   cases e
   match r, q1d hf with
   | [a, b], _ =>
    simp only [q0x, Bool.and_true, Bool.and_eq_true] at hf
    obtain ⟨y, rfl, hy⟩ := q3k hf.1
    obtain ⟨i, rfl⟩ := q0v hf.2
    exact .inr ⟨_, y, i, .inr rfl, rfl, hy⟩
  ·rw [show (x == "add") = false from by rw [beq_eq_false_iff_ne]; exact h2, List.lookup_cons] at e
   by_cases h3 : x = "get"
   ·subst h3
    cases e
    match r, q1d hf with
    | [a], _ =>
     simp only [q0x, Bool.and_true] at hf
     obtain ⟨y, rfl, hy⟩ := q3k hf
     exact .inl ⟨y, rfl, hy⟩
   ·rw [show (x == "get") = false from by rw [beq_eq_false_iff_ne]; exact h3] at e
    cases e
section
variable {P : Program} {w : World} {K : PySem.W.Frag} {mg : Str → Option Value} {base : Heap}
theorem j8o : FnScope ["_law_deed_here"] ["_law_deed_here"] (q0f q4p) := fSc
theorem x8x {f : Addr} {fd : FuncData} (F : Fun K "_law_deed_words" "_law_deed_words" q4p f fd) (T : Txt mg) (CF : Cal P w K mg base "_law_figures" 2 ["_law_number"] z0k) : FnOk P w K mg base CX0 3 f fd ["_law_deed_here"] (spT q7z q5z) := by
 refine F.ok j8o x1f (fun cdv A outer s H vs Q E hr h => ?_)
 obtain ⟨B, v, d, hB, rfl, I, hp, hs, q⟩ := h
 refine ⟨_, @q0z _ _ _ _ _ (q1w (q0s q2c (q0n q0w (by rfl) T.len PySem.boot_len (q1i (pv 0) q0b)) q0a (q0q _)) (@q1m _ _ _ (q0k (q0j q0l q0r (q0u q0o (pv 0) q0a q2j)))) q0t)
  (@q1m _ _ _ (q0k (q0j q0l (q0j q0l (q0j q0l (q0j q0l (q0u q0o (pv 0) q0a q2j) q0r) (q0u q0o (pv 0) q0a q2j)) q0r) (q0i CF hr (q0c (q0u q0o (pv 0) q0a q2j) q0b))))), ?_⟩
 rcases z9z hp with ⟨x, rfl, hx⟩ | ⟨y, x, i, hy, rfl, hx⟩
 ·cases I with
  | @tup a xs _ ea l r =>
  obtain ⟨w0, _, rfl, z0, rr0⟩ := IsL.un r
  obtain rfl := Is.vstr z0
  obtain ⟨w1, _, rfl, z1, rr1⟩ := IsL.un rr0
  obtain rfl := Is.vstr z1
  obtain rfl := IsL.un0 rr1
  have hl := q7m hx
  refine ⟨_, rfl, a, _, rfl, .inr (SqT.of ea), rfl, _, rfl, ?_⟩
  refine q1f ⟨_, rfl, a, _, _, .str x, rfl, rfl, SqT.of ea, q0m (j := 1) rfl, _, _, rfl, rfl, ?_, ?_⟩
  ·show 4 + x.length ≤ _
   rw [sizeLine_eq]; omega
  ·exact q H (q0y.refl _)
 ·cases I with
  | @tup a xs _ ea l r =>
  obtain ⟨w0, _, rfl, z0, rr0⟩ := IsL.un r
  obtain rfl := Is.vstr z0
  obtain ⟨w1, _, rfl, z1, rr1⟩ := IsL.un rr0
  obtain rfl := Is.vstr z1
  obtain ⟨w2, _, rfl, z2, rr2⟩ := IsL.un rr1
  obtain rfl := Is.vint z2
  obtain rfl := IsL.un0 rr2
  have hl := q7m hx
  have hi : i.natAbs < 10 ^ 4000 := by
   simp only [q1g, smallL, Bool.true_and, Bool.and_true, decide_eq_true_eq] at hs
   exact hs
  have hfl := q1e (n := i) (k := 4000) (by decide) hi
  have hyl : y.length = 3 := by rcases hy with rfl | rfl <;> rfl
  refine ⟨_, rfl, a, _, rfl, .inr (SqT.of ea), rfl, _, rfl, ?_⟩
  refine q1a ⟨_, rfl, a, _, _, .str y, rfl, rfl, SqT.of ea, q0m (j := 0) rfl, _, _, rfl, rfl, ?_, _, rfl, a, _, _, .str x, rfl, rfl, SqT.of ea, q0m (j := 1) rfl, _, _, rfl, rfl, ?_, _, _, rfl, rfl, ?_, _, rfl, a, _, _, .int i, rfl, rfl, SqT.of ea, q0m (j := 2) rfl, i, rfl, hi, _, _, rfl, rfl, ?_, ?_⟩
  ·show y.length + 1 ≤ _
   rw [sizeLine_eq]; omega
  ·rw [q0d, sizeLine_eq]
   show y.length + 1 + x.length ≤ _
   omega
  ·rw [q0d, q0d, sizeLine_eq]
   show y.length + 1 + x.length + 1 ≤ _
   omega
  ·rw [q0d, q0d, q0d, sizeLine_eq]
   show y.length + 1 + x.length + 1 + (q1p i).length ≤ _
   omega
  ·have e : q5z (.tup [.str y, .str x, .int i]) = [y, x, q1p i] := by rcases hy with rfl | rfl <;> rfl
   have q' := q H (q0y.refl _)
   rw [e, x1o, x1o, x4a] at q'
   simp only [x0r] at q' ⊢
   exact q'
end
theorem z1h : ∀ {ds : List D}, ds.all whole = true → ∃ ns : List Int, ds = ns.map D.int
 | [], _ => ⟨[], rfl⟩
 | d :: ds, h => by
  rw [List.all_cons, Bool.and_eq_true] at h
  obtain ⟨i, rfl⟩ := q0v h.1
  obtain ⟨ns, rfl⟩ := z1h h.2
  exact ⟨i :: ns, rfl⟩
theorem x2x : ∀ {d : D}, q3m d = true → ∃ ns : List Int, d = .tup (ns.map D.int) ∧ ns.length ≤ 9
 | .tup ds, h => by
  have h' : (ds.all q0g && ((decide (1 ≤ ds.length) && decide (ds.length ≤ 9)) && x0m (q4d ds))) = true := h
  rw [Bool.and_eq_true, Bool.and_eq_true, Bool.and_eq_true, decide_eq_true_eq, decide_eq_true_eq] at h'
  obtain ⟨ns, rfl⟩ := z1h (List.all_eq_true.mpr fun d hd => q1k (List.all_eq_true.mp h'.1 d hd))
  exact ⟨ns, rfl, by simpa using h'.2.1.2⟩
theorem z3h {k : Nat} {ns : List Int} (h : smallL k (ns.map D.int) = true) : ∀ n ∈ ns, n.natAbs < 10 ^ k := fun n hn => of_decide_eq_true (q2w.mp h _ (List.mem_map_of_mem hn))
theorem z2j : ∀ ns : List Int, (ns.map D.int).flatMap q2o = ns.map q1p
 | [] => rfl
 | n :: ns => by
  have := z2j ns
  rw [List.map_cons, List.flatMap_cons, this]
  rfl
theorem x0w {L n : Nat} {ws : List Str} (h : ∀ x ∈ ws, x.length ≤ L) (hl : ws.length ≤ n) (hn : n * (L + 1) ≤ 16777216) : JoinOk " " ws = true := by
 unfold JoinOk
 rw [StrLaws.joinFits (B := L) h (by
  have e1 : (" " : Str).length = 1 := rfl
  rw [e1, ← Nat.mul_add]
  exact Nat.le_trans (Nat.mul_le_mul_right _ hl) hn)]
 rfl
section
variable {P : Program} {w : World} {K : PySem.W.Frag} {mg : Str → Option Value} {base : Heap}
theorem j9r : FnScope ["_law_seats_here"] ["_law_seats_here"] (q0f q3f) := fSc
theorem x7f {f : Addr} {fd : FuncData} (F : Fun K "_law_seats_words" "_law_seats_words" q3f f fd) (T : Txt mg) (CF : Cal P w K mg base "_law_figures" 2 ["_law_number"] z0k) : FnOk P w K mg base CX0 3 f fd ["_law_seats_here"] (spT q3m q3u) := by
 refine F.ok j9r x1f (fun cdv A outer s H vs Q E hr h => ?_)
 obtain ⟨B, v, d, hB, rfl, I, hp, hs, q⟩ := h
 refine ⟨_, @q1m _ _ _ (q0k (x1b PySem.F.plainAttrs_str PySem.F.slot_str_join PySem.F.type_str_join x3t q0r (q0c (q3g (NB := ["_law_number"]) (n := 1) (fr := []) (q5h (outer := q0f q3f) (by rfl) (by decide +kernel) (by rfl)) (by rfl)
   (q7u (q0j q6a (q2r (q0c (q0n q0w (by rfl) T.len PySem.boot_len (q1i (pv 0) q0b)) q0b)) (pv 0)))
   (fun _ _ _ _ _ => q1h (i := 0) (show (["_law_number"] : List Str).Nodup by decide +kernel) (by rfl) (by exact Or.inl rfl)) (fun _ _ _ _ _ => q2u) (fun _ _ _ _ _ => q0i CF hr (q1i (pv 0) q0b))) q0b))), ?_⟩
 have hw := (I.mono hB (q0y.refl _)).wid
 obtain ⟨ns, rfl, hn⟩ := x2x hp
 cases I with
 | @tup a xs _ ea l r =>
 have hxs := x6s r
 subst hxs
 have hsm := z3h (k := 4000) hs
 refine ⟨rfl, _, rfl, a, _, rfl, .inr (SqT.of ea), q3c (by show 1 ≤ 1000; decide), fun t ht => ?_⟩
 have s1 := q0h (o := HO.tup [V.int ((ns.map V.int).length : Nat)]) ht
 refine ⟨_, rfl, t, a, _, _, rfl, rfl, q0e, s1 _ _ ea, ?_, fun p H2 hp2 s2 => ?_⟩
 ·rw [List.length_singleton, List.length_map, sizeLine_eq]; omega
 have hT : SqT K H2 p (((ns.length : Int) :: ns).map V.int) := SqT.of (by rw [hp2, List.length_map]; rfl)
 refine ⟨p, rfl, ⟨_, hT⟩, x6c (K := K) (ms := (ns.length : Int) :: ns) hT (by rw [List.length_cons]; omega) (fun _ => true) (fun n => V.str (q1p n)) ?_ ?_⟩
 ·intro i hi t' H3 R s3 ht' hR
  obtain ⟨t0, rfl⟩ := q4v ht'
  have hb : (((ns.length : Int) :: ns)[i]).natAbs < 10 ^ 4000 := by
   have hm := List.getElem_mem hi
   rcases List.mem_cons.mp hm with e | hm
   ·rw [e]
    have : (10 : Nat) ^ 1 ≤ 10 ^ 4000 := Nat.pow_le_pow_right (by decide) (by decide)
    simp only [Int.natAbs_natCast]
    omega
   ·exact hsm _ hm
  exact ⟨_, rfl, _, rfl, hb, hR [some _] H3 rfl (q0y.refl _)⟩
 ·intro D1 H3 s3 hD hd
  have hws : q3u (.tup (ns.map D.int)) = ((ns.length : Int) :: ns).map q1p := by
   show q1p ((ns.map D.int).length : Int) :: (ns.map D.int).flatMap q2o = _
   rw [z2j, List.length_map]
   rfl
  refine ⟨" ", D1, q3u (.tup (ns.map D.int)), rfl, rfl, SqL.of ?_, ?_, q H3 ((s1.trans s2).trans s3)⟩
  ·rw [hd, hws, List.filter_eq_self.mpr (fun _ _ => rfl), List.map_map]; rfl
  ·refine x0w (L := 4001) (n := 10) ?_ ?_ (by decide)
   ·exact (q6u (B := 200) (.tup (ns.map D.int)) hp hw).len 4000 (by decide) (by rw [smallL, hs]; rfl)
   ·rw [hws, List.length_map, List.length_cons]; omega
end
noncomputable def x9k (P : Program) (w : World) (K : PySem.W.Frag) (mg : Str → Option Value) (base : Heap) (cN : Addr) (kk : Nat) : Sp := fun vs H Q E => ∃ (B : Nat) (a : Addr) (xs : List V) (ds : List D) (g : Addr) (p : D → Bool) (f : D → List Str), B ≤ 1000 ∧ vs = [.ref a, .ref g] ∧ H a = some (.tup xs) ∧ xs.length ≤ 1000 ∧ IsL B H xs ds ∧
 Wrt P w K mg base cN kk g p f ∧ ds.all p = true ∧ (q6f f (.tup ds)).length ≤ 100000 ∧
 (smallL 60 ds = true → ∀ l H', q0y H H' → H l = none → H' l = some (.lst ((q6f f (.tup ds)).map V.str)) → Q (.ref l) H') ∧ (smallL 60 ds = false → ∀ H', q0y H H' → E (.ref cN) none H')
section
variable {P : Program} {w : World} {K : PySem.W.Frag} {mg : Str → Option Value} {base : Heap}
theorem w0v : FnScope ["head"] ["head"] (q0f q8r) := fSc
theorem x6y {f : Addr} {fd : FuncData} {cN : Addr} (F : Fun K "head_words" "head_words" q8r f fd) (CN : CalE P w K mg base "number_words" 1 ["number"] (spW cN whole q2o)) : FnOk P w K mg base (CXe P w) 2 f fd ["head"] (spW cN q7y j5d) := by
 refine F.okE w0v q4u (fun cdv A outer s H vs Q E hr h => ?_)
 obtain ⟨B, v, d, hB, rfl, I, hp, q, qe⟩ := h
 refine ⟨_, @q1m _ _ _ (q0k (x6t (q0s z1d (pv 0) x5b (q0q _)) (q4o (q6s q0r q0b)) (q4r CN hr q9n (q1i (pv 0) q0b)))), ?_⟩
 rcases x9e hp with rfl | ⟨h1, e⟩
 ·cases I
  exact ⟨_, rfl, rfl, _, rfl, q1f ⟨q3c (by show 1 ≤ 1000; decide), fun l hl => q rfl l _ (q0h hl) hl q0e⟩⟩
 ·rw [e] at q
  obtain ⟨i, rfl⟩ := q0v h1
  cases I
  exact ⟨_, rfl, rfl, _, rfl, q1a ⟨_, rfl, B, _, _, hB, rfl, .int i, rfl, q, qe⟩⟩
theorem j3q : FnScope ["parts", "writer", "words", "part"] ["parts", "writer"] (q0f q5y) := fSc
theorem q5b {f : Addr} {fd : FuncData} {cN : Addr} {kk : Nat} (h1 : 1 ≤ kk) (F : Fun K "counted_words" "counted_words" q5y f fd) (T : Txt mg) (CN : CalE P w K mg base "number_words" 1 ["number"] (spW cN whole q2o)) : FnOk P w K mg base (CXe P w) (kk + 1) f fd ["parts", "writer"] (x9k P w K mg base cN kk) := by
 refine F.okE j3q (fun vs H Q E ⟨_, _, _, _, _, _, _, _, e, _⟩ => by subst e; rfl) (fun cdv A outer s H vs Q E hr h => ?_)
 obtain ⟨B, a, xs, ds, g, p, ff, hB, rfl, ha, hx1, hI, hT, hF, hn, q, qe⟩ := h
 refine ⟨_, @q0z _ _ _ _ _ (q1b (i := 2) j3q.nd (by rfl) (by exact Or.inl rfl) (q4r CN (hr.mono h1) q9n (q0c (q0n q0w (by rfl) T.len PySem.boot_len (q1i (pv 0) q0b)) q0b)))
  (@q0z _ _ _ _ _ (x5n j1y (by rfl) (q7u (pv 0)) (q1h (i := 3) j3q.nd (by rfl) (by exact Or.inl rfl))
   (@q1m _ _ _ (x0u (x1b PySem.F.plainAttrs_list PySem.F.slot_list_extend PySem.F.type_list_extend x7r (pv 2) (q0c (z1o (P := P) (w := w) (K := K) (mg := mg) (base := base) (cN := cN) (k := kk) (by rfl) (by rfl) (by rfl) (by rfl) (by rfl) hr q9n (pv 1) (q1i (pv 3) q0b)) q0b)))))
  (@q1m _ _ _ (q0k (pv 2)))), ?_⟩
 have hlen := hI.length
 have hcnt : q1g 60 (.int (xs.length : Int)) = true := by
  show decide ((xs.length : Int).natAbs < 10 ^ 60) = true
  rw [decide_eq_true_eq]
  have : (1000 : Nat) < 10 ^ 60 := by decide
  simp
  omega
 refine ⟨_, rfl, a, xs, rfl, .inr (SqT.of ha), B, .int (xs.length : Nat), .int (xs.length : Nat), hB, rfl, .int _, rfl, fun _ l H1 s0 hl hL0 => ?_, fun z => absurd hcnt (by rw [z]; decide)⟩
 refine ⟨_, rfl, a, rfl, ⟨xs, SqT.of (s0 _ _ ha)⟩, x3c (K := K) (a := a) (xs := xs) (fun i σ H' => ∃ x3 : Option V, σ = [some (.ref a), some (.ref g), some (.ref l), x3] ∧ H' l = some (.lst ((q1p (ds.length : Int) :: (ds.take i).flatMap ff).map V.str)) ∧ smallL 60 (ds.take i) = true ∧ q0y H H')
  ⟨none, rfl, ?_, rfl, s0⟩ (fun i σ H' _ ⟨_, _, _, _, s1⟩ => SqT.of (s1 _ _ ha)) ?_ ?_⟩
 ·rw [List.take_zero, List.flatMap_nil, ← hlen]; exact hL0
 ·rintro i x σ H' hx ⟨x3, rfl, hL, hsm, s1⟩
  obtain ⟨d, hd, hIs⟩ := hI.get hx
  have hpd : p d = true := List.all_eq_true.mp hF d (List.mem_of_getElem? hd)
  refine ⟨_, rfl, ?_, _, rfl, g, p, ff, rfl, hT, _, rfl, B, x, d, hB, rfl, hIs.same s1, hpd, fun hs b H2 s3 hb hb2 => ?_, fun hs H2 s3 => qe (x8s hd hs) H2 (s1.trans s3)⟩
  ·exact .inl ⟨rfl, _, SqL.of hL⟩
  ·have hL2 := s3 _ _ hL
   have hcat : (ds.take (i + 1)).flatMap ff = (ds.take i).flatMap ff ++ ff d := by
    rw [List.take_add_one, hd, List.flatMap_append]
    simp
   have hpre : ((ds.take (i + 1)).flatMap ff).length ≤ (ds.flatMap ff).length := by
    have e : ds.flatMap ff = (ds.take (i + 1)).flatMap ff ++ (ds.drop (i + 1)).flatMap ff := by rw [← List.flatMap_append, List.take_append_drop]
    rw [e, List.length_append]
    omega
   have hn' : (ds.flatMap ff).length + 1 ≤ 100000 := hn
   rw [hcat, List.length_append] at hpre
   refine ⟨l, b, _, _, rfl, rfl, hL2, hb2, ?_, _, rfl, ?_, x5g hsm hd hs, ?_⟩
   ·rw [List.length_map, List.length_map, List.length_cons, sizeLine_eq]; omega
   ·rw [hcat, ← List.cons_append, List.map_append]; exact q0e
   ·intro c o e
    have hc : c ≠ l := fun z => by subst z; rw [hl] at e; cases e
    rw [q1q hc]
    exact (s1.trans s3) _ _ e
 ·rintro σ H' ⟨x3, rfl, hL, hsm, s1⟩
  rw [hlen, List.take_length] at hL hsm
  exact ⟨_, rfl, q hsm l H' s1 hl hL⟩
end
end K1
namespace Kp
open PySem L2 PyProof.Rows
noncomputable def w3a (K : PySem.W.Frag) (w : World) (td ty : TE) : TE := fun σ H Q => td σ H fun x H1 => ty σ H1 fun y H2 => ∃ a es n k v u, x = .ref a ∧ y = .str k ∧ K.lookup a = some ⟨.type "dict", none, .dict es n, #[]⟩ ∧ PySem.W.KeysLit w.params es.toList ∧
 findBy Value.isStrOf es k = some u ∧ q4y v u ∧ Q v H2
theorem z7q {X : Cx} {o i : Expr} {td ty : TE} {pos : Pos} (ho : PE X o td) (hi : PE X i ty) (hs : j8i i) : PE X (.Subscript o i pos) (w3a X.K X.w td ty) := by
 intro pins s σ H Q I h
 refine z5l PySem.F.slot_dict_getitem.lookup hs (thn (ho pins s σ H _ I h) fun u s1 ⟨x, H1, I1, rx, q1⟩ => thn (hi pins s1 σ H1 _ I1 q1) fun iv s2 ⟨y, H2, I2, ry, a, es, n, k, v, uu, ex, ey, hl, hk, hf, rv, q2⟩ => ?_)
 subst ex ey
 obtain rfl : u = Value.ref a := rx
 obtain ⟨t, rfl⟩ := ry
 have hm := PySem.W.mapOf_K (prog := X.prog) (w := X.w) I2.kIn hl hk
 exact ⟨hm.typeIs, wpAny_getItem_of (strKind_is X.prog X.w k t) hm hf ⟨v, H2, I2.tok _, rv, q2⟩⟩
end Kp
namespace K1
open PySem L2 Kp
theorem x5f {p : D → Bool} : ∀ {d : D}, x5r p d = true → ∃ ds, d = .tup ds ∧ ds.all p = true
 | .tup ds, h => ⟨ds, rfl, (Bool.and_eq_true _ _ |>.mp h).1⟩
theorem z3o : ∀ {d : D}, q3m d = true → ∃ ds, d = .tup ds ∧ ds.all whole = true
 | .tup ds, h => ⟨ds, rfl, List.all_eq_true.mpr fun d hd => q1k (List.all_eq_true.mp (Bool.and_eq_true _ _ |>.mp h).1 d hd)⟩
theorem x1r : ∀ {d : D}, q2f d = true → ∃ ds, d = .tup ds ∧ ds.all q3z = true
 | .tup ds, h => ⟨ds, rfl, (Bool.and_eq_true _ _ |>.mp h).1⟩
theorem wrd {B n : Nat} {H : Hp} {v : V} {d : D} {p : D → Bool} {f : D → List Str} (W : WOk 1000 n p f) (hB : B ≤ 1000) (I : Is B H v d) (hp : p d = true) (hn : n ≤ 100000) : (f d).length ≤ 100000 := Nat.le_trans (W d hp (I.mono hB (q0y.refl _)).wid).few hn
inductive ImpL : List (D → Bool) → List (D → Bool) → Prop
 | nil : ImpL [] []
 | cons {p q : D → Bool} {ps qs : List (D → Bool)} (h : ∀ d, p d = true → q d = true) (t : ImpL ps qs) : ImpL (p :: ps) (q :: qs)
theorem q3l : ∀ {ps qs : List (D → Bool)} {ds : List D}, ImpL ps qs → q0x ps ds = true → q0x qs ds = true
 | _, _, [], .nil, _ => rfl
 | _, _, _ :: _, .nil, h => by cases h
 | _, _, [], .cons _ _, h => by cases h
 | _, _, d :: ds, .cons h t, hf => by
  rw [q0x, Bool.and_eq_true] at hf ⊢
  exact ⟨h d hf.1, q3l t hf.2⟩
theorem x3s {d : D} (h : q3z d = true) : ∃ ds, d = .tup ds ∧ q0x [whole, x0z] ds = true := let ⟨ds, e, hf⟩ := q5x h; ⟨ds, e, q3l (.cons (fun _ => q1l) (.cons (fun _ h => h) .nil)) hf⟩
theorem x8r {d : D} (h : q3w d = true) : ∃ ds, d = .tup ds ∧ q0x [q2y, whole, whole] ds = true := let ⟨ds, e, hf⟩ := q5x h; ⟨ds, e, q3l (.cons (fun _ h => h) (.cons (fun _ => q1l) (.cons (fun _ h => h) .nil))) hf⟩
theorem z0x {d : D} (h : q8k d = true) : ∃ ds, d = .tup ds ∧ q0x [whole, whole, q3m, q4g] ds = true := by
 unfold q8k x6g at h
 rw [Bool.and_eq_true, Bool.and_eq_true] at h
 obtain ⟨ds, e, hf⟩ := q5x h.1.1
 exact ⟨ds, e, q3l (.cons (fun _ => q1l) (.cons (fun _ => q1l) (.cons (fun _ h => h) (.cons (fun _ h => h) .nil)))) hf⟩
section
variable {P : Program} {w : World} {K : PySem.W.Frag} {mg : Str → Option Value} {base : Heap}
theorem x4t : FnScope ["seats"] ["seats"] (q0f q7d) := fSc
theorem x4q {f : Addr} {fd : FuncData} {cN : Addr} {kk kw : Nat} (F : Fun K "seats_words" "seats_words" q7d f fd) (CW : CalE P w K mg base "number_words" kw ["number"] (spW cN whole q2o)) (hk : kw ≤ kk) (CC : CalE P w K mg base "counted_words" (kk + 1) ["parts", "writer"] (x9k P w K mg base cN kk)) : FnOk P w K mg base (CXe P w) (kk + 2) f fd ["seats"] (spW cN q3m q3u) := by
 refine F.okE x4t q4u (fun cdv A outer s H vs Q E hr h => ?_)
 obtain ⟨B, v, d, hB, rfl, I, hp, q, qe⟩ := h
 obtain ⟨gW, dW, GW, mW, kW, bW⟩ := CW.ex
 have hl := wrd q6u hB I hp (by decide)
 obtain ⟨ds, rfl, ha⟩ := z3o hp
 cases I with
 | @tup a xs _ ea l r =>
 exact ⟨_, @q1m _ _ _ (q0k (q4r CC hr q9n (q1i (pv 0) (q1i (q2s (by rfl) mW) q0b)))), _, rfl, B, a, xs, ds, gW, _, _, hB, rfl, ea, Nat.le_trans l hB, r, ⟨⟨kw, dW, _, hk, GW, kW, bW⟩⟩, ha, hl, q, qe⟩
theorem x1z : FnScope ["entries"] ["entries"] (q0f q5v) := fSc
theorem x1x {f : Addr} {fd : FuncData} {cN : Addr} {kk kw : Nat} (F : Fun K "entries_words" "entries_words" q5v f fd) (CW : CalE P w K mg base "entry_words" kw ["entry"] (spW cN q3z q3j)) (hk : kw ≤ kk) (CC : CalE P w K mg base "counted_words" (kk + 1) ["parts", "writer"] (x9k P w K mg base cN kk)) : FnOk P w K mg base (CXe P w) (kk + 2) f fd ["entries"] (spW cN q2f q6y) := by
 refine F.okE x1z q4u (fun cdv A outer s H vs Q E hr h => ?_)
 obtain ⟨B, v, d, hB, rfl, I, hp, q, qe⟩ := h
 obtain ⟨gW, dW, GW, mW, kW, bW⟩ := CW.ex
 have hl := wrd z8d hB I hp (by decide)
 obtain ⟨ds, rfl, ha⟩ := x1r hp
 cases I with
 | @tup a xs _ ea l r =>
 exact ⟨_, @q1m _ _ _ (q0k (q4r CC hr q9n (q1i (pv 0) (q1i (q2s (by rfl) mW) q0b)))), _, rfl, B, a, xs, ds, gW, _, _, hB, rfl, ea, Nat.le_trans l hB, r, ⟨⟨kw, dW, _, hk, GW, kW, bW⟩⟩, ha, hl, q, qe⟩
theorem x0e : FnScope ["pair"] ["pair"] (q0f q4t) := fSc
theorem x0h {f : Addr} {fd : FuncData} {cN : Addr} {kk k0 k1 : Nat} (F : Fun K "name_pair_words" "name_pair_words" q4t f fd) (C0 : CalE P w K mg base "name_words" k0 ["name"] (spW cN q2y x8q)) (h0 : k0 ≤ kk) (C1 : CalE P w K mg base "number_words" k1 ["number"] (spW cN whole q2o)) (h1 : k1 ≤ kk) (CP : CalE P w K mg base "words_of_parts" (kk + 1) ["parts", "writers"] (q5l P w K mg base cN kk)) : FnOk P w K mg base (CXe P w) (kk + 2) f fd ["pair"] (spW cN x0f q7c) := by
 refine F.okE x0e q4u (fun cdv A outer s H vs Q E hr h => ?_)
 obtain ⟨B, v, d, hB, rfl, I, hp, q, qe⟩ := h
 obtain ⟨g0, d0, G0, m0, p0, b0⟩ := C0.ex
 obtain ⟨g1, d1, G1, m1, p1, b1⟩ := C1.ex
 have hl := wrd x2h hB I hp (by decide)
 obtain ⟨ds, rfl, hf⟩ := q5x hp
 cases I with
 | @tup a xs _ ea l r =>
 refine ⟨_, @q1m _ _ _ (q0k (q4r CP hr q9n (q1i (pv 0) (j6z (q2r (q1i (q2s (by rfl) m0) (q1i (q2s (by rfl) m1) q0b))) q0b)))), _, rfl, q3c (by show 2 ≤ 1000; decide), fun t ht => ?_⟩
 have s1 := q0h (o := HO.tup [V.ref g0, V.ref g1]) ht
 refine ⟨B, a, xs, ds, t, _, _, _, hB, rfl, s1 _ _ ea, r.same s1, SqT.of q0e, (.cons ⟨⟨k0, d0, _, h0, G0, p0, b0⟩⟩ (.cons ⟨⟨k1, d1, _, h1, G1, p1, b1⟩⟩ .nil)), hf, hl, fun hs b H2 s2 hb => q hs b H2 (s1.trans s2) ?_, fun hs H2 s2 => qe hs H2 (s1.trans s2)⟩
 cases e : H b with
 | none => rfl
 | some o => rw [s1 _ _ e] at hb; cases hb
theorem q7w : FnScope ["triple"] ["triple"] (q0f q3i) := fSc
theorem q7x {f : Addr} {fd : FuncData} {cN : Addr} {kk k0 k1 k2 : Nat} (F : Fun K "caller_triple_words" "caller_triple_words" q3i f fd) (C0 : CalE P w K mg base "name_words" k0 ["name"] (spW cN q2y x8q)) (h0 : k0 ≤ kk) (C1 : CalE P w K mg base "number_words" k1 ["number"] (spW cN whole q2o)) (h1 : k1 ≤ kk) (C2 : CalE P w K mg base "number_words" k2 ["number"] (spW cN whole q2o)) (h2 : k2 ≤ kk) (CP : CalE P w K mg base "words_of_parts" (kk + 1) ["parts", "writers"] (q5l P w K mg base cN kk)) : FnOk P w K mg base (CXe P w) (kk + 2) f fd ["triple"] (spW cN q3w q5n) := by
 refine F.okE q7w q4u (fun cdv A outer s H vs Q E hr h => ?_)
 obtain ⟨B, v, d, hB, rfl, I, hp, q, qe⟩ := h
 obtain ⟨g0, d0, G0, m0, p0, b0⟩ := C0.ex
 obtain ⟨g1, d1, G1, m1, p1, b1⟩ := C1.ex
 obtain ⟨g2, d2, G2, m2, p2, b2⟩ := C2.ex
 have hl := wrd q9b hB I hp (by decide)
 obtain ⟨ds, rfl, hf⟩ := x8r hp
 cases I with
 | @tup a xs _ ea l r =>
 refine ⟨_, @q1m _ _ _ (q0k (q4r CP hr q9n (q1i (pv 0) (j6z (q2r (q1i (q2s (by rfl) m0) (q1i (q2s (by rfl) m1) (q1i (q2s (by rfl) m2) q0b)))) q0b)))), _, rfl, q3c (by show 3 ≤ 1000; decide), fun t ht => ?_⟩
 have s1 := q0h (o := HO.tup [V.ref g0, V.ref g1, V.ref g2]) ht
 refine ⟨B, a, xs, ds, t, _, _, _, hB, rfl, s1 _ _ ea, r.same s1, SqT.of q0e, (.cons ⟨⟨k0, d0, _, h0, G0, p0, b0⟩⟩ (.cons ⟨⟨k1, d1, _, h1, G1, p1, b1⟩⟩ (.cons ⟨⟨k2, d2, _, h2, G2, p2, b2⟩⟩ .nil))), hf, hl, fun hs b H2 s2 hb => q hs b H2 (s1.trans s2) ?_, fun hs H2 s2 => qe hs H2 (s1.trans s2)⟩
 cases e : H b with
 | none => rfl
 | some o => rw [s1 _ _ e] at hb; cases hb
theorem x4u : FnScope ["entry"] ["entry"] (q0f q7h) := fSc
theorem x4w {f : Addr} {fd : FuncData} {cN : Addr} {kk k0 k1 : Nat} (F : Fun K "entry_words" "entry_words" q7h f fd) (C0 : CalE P w K mg base "number_words" k0 ["number"] (spW cN whole q2o)) (h0 : k0 ≤ kk) (C1 : CalE P w K mg base "what_words" k1 ["what"] (spW cN x0z z2w)) (h1 : k1 ≤ kk) (CP : CalE P w K mg base "words_of_parts" (kk + 1) ["parts", "writers"] (q5l P w K mg base cN kk)) : FnOk P w K mg base (CXe P w) (kk + 2) f fd ["entry"] (spW cN q3z q3j) := by
 refine F.okE x4u q4u (fun cdv A outer s H vs Q E hr h => ?_)
 obtain ⟨B, v, d, hB, rfl, I, hp, q, qe⟩ := h
 obtain ⟨g0, d0, G0, m0, p0, b0⟩ := C0.ex
 obtain ⟨g1, d1, G1, m1, p1, b1⟩ := C1.ex
 have hl := wrd q9z hB I hp (by decide)
 obtain ⟨ds, rfl, hf⟩ := x3s hp
 cases I with
 | @tup a xs _ ea l r =>
 refine ⟨_, @q1m _ _ _ (q0k (q4r CP hr q9n (q1i (pv 0) (j6z (q2r (q1i (q2s (by rfl) m0) (q1i (q2s (by rfl) m1) q0b))) q0b)))), _, rfl, q3c (by show 2 ≤ 1000; decide), fun t ht => ?_⟩
 have s1 := q0h (o := HO.tup [V.ref g0, V.ref g1]) ht
 refine ⟨B, a, xs, ds, t, _, _, _, hB, rfl, s1 _ _ ea, r.same s1, SqT.of q0e, (.cons ⟨⟨k0, d0, _, h0, G0, p0, b0⟩⟩ (.cons ⟨⟨k1, d1, _, h1, G1, p1, b1⟩⟩ .nil)), hf, hl, fun hs b H2 s2 hb => q hs b H2 (s1.trans s2) ?_, fun hs H2 s2 => qe hs H2 (s1.trans s2)⟩
 cases e : H b with
 | none => rfl
 | some o => rw [s1 _ _ e] at hb; cases hb
theorem x6b : FnScope ["pack"] ["pack"] (q0f q8i) := fSc
theorem x5s {f : Addr} {fd : FuncData} {cN : Addr} {kk k0 k1 k2 k3 : Nat} (F : Fun K "pack_words" "pack_words" q8i f fd) (C0 : CalE P w K mg base "number_words" k0 ["number"] (spW cN whole q2o)) (h0 : k0 ≤ kk) (C1 : CalE P w K mg base "number_words" k1 ["number"] (spW cN whole q2o)) (h1 : k1 ≤ kk) (C2 : CalE P w K mg base "seats_words" k2 ["seats"] (spW cN q3m q3u)) (h2 : k2 ≤ kk) (C3 : CalE P w K mg base "store_words" k3 ["store"] (spW cN q4g q7v)) (h3 : k3 ≤ kk) (CP : CalE P w K mg base "words_of_parts" (kk + 1) ["parts", "writers"] (q5l P w K mg base cN kk)) : FnOk P w K mg base (CXe P w) (kk + 2) f fd ["pack"] (spW cN q8k z2s) := by
 refine F.okE x6b q4u (fun cdv A outer s H vs Q E hr h => ?_)
 obtain ⟨B, v, d, hB, rfl, I, hp, q, qe⟩ := h
 obtain ⟨g0, d0, G0, m0, p0, b0⟩ := C0.ex
 obtain ⟨g1, d1, G1, m1, p1, b1⟩ := C1.ex
 obtain ⟨g2, d2, G2, m2, p2, b2⟩ := C2.ex
 obtain ⟨g3, d3, G3, m3, p3, b3⟩ := C3.ex
 have hl := wrd (z1s (by decide)) hB I hp (by decide)
 obtain ⟨ds, rfl, hf⟩ := z0x hp
 cases I with
 | @tup a xs _ ea l r =>
 refine ⟨_, @q1m _ _ _ (q0k (q4r CP hr q9n (q1i (pv 0) (j6z (q2r (q1i (q2s (by rfl) m0) (q1i (q2s (by rfl) m1) (q1i (q2s (by rfl) m2) (q1i (q2s (by rfl) m3) q0b))))) q0b)))), _, rfl, q3c (by show 4 ≤ 1000; decide), fun t ht => ?_⟩
 have s1 := q0h (o := HO.tup [V.ref g0, V.ref g1, V.ref g2, V.ref g3]) ht
 refine ⟨B, a, xs, ds, t, _, _, _, hB, rfl, s1 _ _ ea, r.same s1, SqT.of q0e, (.cons ⟨⟨k0, d0, _, h0, G0, p0, b0⟩⟩ (.cons ⟨⟨k1, d1, _, h1, G1, p1, b1⟩⟩ (.cons ⟨⟨k2, d2, _, h2, G2, p2, b2⟩⟩ (.cons ⟨⟨k3, d3, _, h3, G3, p3, b3⟩⟩ .nil)))), hf, hl, fun hs b H2 s2 hb => q hs b H2 (s1.trans s2) ?_, fun hs H2 s2 => qe hs H2 (s1.trans s2)⟩
 cases e : H b with
 | none => rfl
 | some o => rw [s1 _ _ e] at hb; cases hb
theorem x4s : FnScope ["store"] ["store"] (q0f q7a) := fSc
theorem x2m {d : D} (h : q4g d = true) : ∃ a b, d = .tup [.tup a, .tup b] ∧ a.all x0f = true ∧ b.all q3w = true ∧ x2w (.tup a) = true ∧ q7f (.tup b) = true := by
 obtain ⟨ds, rfl, hf⟩ := q5x h
 have hl := q1d hf
 match ds, hl with
 | [x, y], _ =>
  rw [q0x, q0x, q0x, Bool.and_true, Bool.and_eq_true] at hf
  obtain ⟨a, rfl, ha⟩ := x5f hf.1
  obtain ⟨b, rfl, hb⟩ := x5f hf.2
  exact ⟨a, b, rfl, ha, hb, hf.1, hf.2⟩
theorem x4r {f : Addr} {fd : FuncData} {cN : Addr} {kk k0 k1 : Nat} (F : Fun K "store_words" "store_words" q7a f fd) (C0 : CalE P w K mg base "name_pair_words" k0 ["pair"] (spW cN x0f q7c)) (h0 : k0 ≤ kk) (C1 : CalE P w K mg base "caller_triple_words" k1 ["triple"] (spW cN q3w q5n)) (h1 : k1 ≤ kk)
  (CC : CalE P w K mg base "counted_words" (kk + 1) ["parts", "writer"] (x9k P w K mg base cN kk)) : FnOk P w K mg base (CXe P w) (kk + 2) f fd ["store"] (spW cN q4g q7v) := by
 refine F.okE x4s q4u (fun cdv A outer s H vs Q E hr h => ?_)
 obtain ⟨B, v, d, hB, rfl, I, hp, q, qe⟩ := h
 obtain ⟨g0, d0, G0, m0, p0, b0⟩ := C0.ex
 obtain ⟨g1, d1, G1, m1, p1, b1⟩ := C1.ex
 have hl := wrd (x2n (by decide)) hB I hp (by decide)
 obtain ⟨da, db, rfl, ha, hb, na, nb⟩ := x2m hp
 have hw := (I.mono hB (q0y.refl _)).wid
 cases I with
 | @tup a xs _ ea l r =>
 cases r with
 | @cons v1 _ xs1 _ i1 r =>
 cases r with
 | @cons v2 _ xs2 _ i2 r =>
 cases r
 have l1 := wrd (x0n (B := 1000) x2h (by decide)) hB i1 na (by decide)
 have l2 := wrd (x0n (B := 1000) q9b (by decide)) hB i2 nb (by decide)
 cases i1 with
 | @tup a1 ys1 _ e1 q1 r1 =>
 cases i2 with
 | @tup a2 ys2 _ e2 q2 r2 =>
 refine ⟨_, @q1m _ _ _ (q0k (q0j x8b (q4r CC hr q9n (q0c (q0u q0o (pv 0) q0a q2j) (q1i (q2s (by rfl) m0) q0b))) (q4r CC hr q9n (q0c (q0u q0o (pv 0) q0a q2j) (q1i (q2s (by rfl) m1) q0b))))), ?_⟩
 refine ⟨_, rfl, a, _, _, .ref a1, rfl, rfl, SqT.of ea, q0m (j := 0) rfl, B, a1, ys1, da, g0, _, _, hB, rfl, e1, Nat.le_trans q1 hB, r1, ⟨⟨k0, d0, _, h0, G0, p0, b0⟩⟩, ha, l1, fun hs b1' H1 s1 hb1 hL1 => ?_, fun hs H1 s1 => qe ?_ H1 s1⟩
 ·refine ⟨_, rfl, a, _, _, .ref a2, rfl, rfl, SqT.of (s1 _ _ ea), q0m (j := 1) rfl, B, a2, ys2, db, g1, _, _, hB, rfl, s1 _ _ e2, Nat.le_trans q2 hB, r2.same s1, ⟨⟨k1, d1, _, h1, G1, p1, b1⟩⟩, hb, l2, fun hs2 b2' H2 s2 hb2 hL2 => ?_, fun hs2 H2 s2 => qe ?_ H2 (s1.trans s2)⟩
  ·have hL1' := s2 _ _ hL1
   refine ⟨b1', b2', _, _, rfl, rfl, hL1', hL2, ?_, fun p hp1 => q ?_ p _ ((s1.trans s2).trans (q0h hp1)) ?_ ?_⟩
   ·rw [List.length_map, List.length_map, sizeLine_eq]; omega
   ·show (smallL 60 da && (smallL 60 db && true)) = true
    rw [hs, hs2]; rfl
   ·cases e : H p with
    | none => rfl
    | some o => rw [(s1.trans s2) _ _ e] at hp1; cases hp1
   ·rw [q0e, ← List.map_append]
    show _ = some (HO.lst ((q6f q7c (.tup da) ++ (q6f q5n (.tup db) ++ [])).map V.str))
    rw [List.append_nil]
  ·show (smallL 60 da && (smallL 60 db && true)) = false
   rw [hs2]; simp
 ·show (smallL 60 da && (smallL 60 db && true)) = false
  rw [hs]; rfl
end
theorem z9d {d : D} (h : x0z d = true) : d = .tup [.str "open"] ∨ (∃ s, d = .tup [.str "seats", s] ∧ q3m s = true) ∨ ∃ (x : Str) (n : Int) (e : D), d = .tup [.str "wish", .str x, .int n, e] ∧ x4x x = true ∧ q7z e = true := by
 obtain ⟨x, r, ps, rfl, e, hf⟩ := q2x h
 unfold x7y at e
 rw [List.lookup_cons] at e
 by_cases h1 : x = "open"
 ·subst h1
  cases e
  match r, q1d hf with
  | [], _ => exact .inl rfl
 ·rw [show (x == "open") = false from by rw [beq_eq_false_iff_ne]; exact h1, List.lookup_cons] at e
  by_cases h2 : x = "wish"
  ·subst h2
   cases e
   match r, q1d hf with
   | [a, b, c], _ =>
    simp only [q0x, Bool.and_true, Bool.and_eq_true] at hf
    obtain ⟨y, rfl, hy⟩ := q3k hf.1
    obtain ⟨i, rfl⟩ := q0v (q1l hf.2.1)
    exact .inr (.inr ⟨y, i, c, rfl, hy, hf.2.2⟩)
  ·rw [show (x == "wish") = false from by rw [beq_eq_false_iff_ne]; exact h2, List.lookup_cons] at e
   by_cases h3 : x = "seats"
   ·subst h3
    cases e
    match r, q1d hf with
    | [a], _ =>
     simp only [q0x, Bool.and_true] at hf
     exact .inr (.inl ⟨a, rfl, hf⟩)
   ·rw [show (x == "seats") = false from by rw [beq_eq_false_iff_ne]; exact h3] at e
    cases e
theorem z0v {d : D} (h : q3z d = true) : ∃ (t : Int) (wh : D), d = .tup [.int t, wh] ∧ x0z wh = true := by
 obtain ⟨ds, rfl, hf⟩ := x3s h
 match ds, q1d hf with
 | [a, b], _ =>
  simp only [q0x, Bool.and_true, Bool.and_eq_true] at hf
  obtain ⟨i, rfl⟩ := q0v hf.1
  exact ⟨i, b, rfl, hf.2⟩
theorem j7v {a ws : List Str} (ha : a ≠ []) (hw : ws ≠ []) : J (a ++ [J ws]) = J (a ++ ws) := by
 rw [x1w ha (by simp), x1w ha hw, x4a]
theorem x7l {d : D} (h : q3m d = true) : q3u d ≠ [] := by
 obtain ⟨ns, rfl, _⟩ := x2x h
 simp [q3u, q6f]
theorem z1t {d : D} (h : q7z d = true) : q5z d ≠ [] := by
 obtain ⟨x, r, ps, rfl, e, hf⟩ := q2x h
 simp [q5z, byW]
section
variable {P : Program} {w : World} {K : PySem.W.Frag} {mg : Str → Option Value} {base : Heap}
theorem j1f : FnScope ["_law_entry_here", "_law_term", "_law_what_here", "_law_words"] ["_law_entry_here"] (q0f q4k) := fSc
theorem x6h {f : Addr} {fd : FuncData} (F : Fun K "_law_entry_words" "_law_entry_words" q4k f fd) (T : Txt mg) (CF : Cal P w K mg base "_law_figures" 2 ["_law_number"] z0k) (CS : Cal P w K mg base "_law_seats_words" 3 ["_law_seats_here"] (spT q3m q3u)) (CD : Cal P w K mg base "_law_deed_words" 3 ["_law_deed_here"] (spT q7z q5z)) : FnOk P w K mg base CX0 4 f fd ["_law_entry_here"] (spT q3z q3j) := by
 refine F.ok j1f x1f (fun cdv A outer s H vs Q E hr h => ?_)
 obtain ⟨B, v, d, hB, rfl, I, hp, hs, q⟩ := h
 have r2 := hr.mono (show 2 ≤ 3 by decide)
 refine ⟨_, @q0z _ _ _ _ _ (z1f (pv 0) (x1s (n := 2) (by rfl) (q1v (q1h (i := 1) j1f.nd (by rfl) (by exact Or.inl rfl)) (q1v (q1h (i := 2) j1f.nd (by rfl) (by exact Or.inl rfl)) q5c))))
  (@q0z _ _ _ _ _ (q1b (i := 3) j1f.nd (by rfl) (by exact Or.inl rfl) (q4o (q0c (q0i CF r2 (q1i (pv 1) q0b)) (q0c (q0u q0o (pv 2) q0a q2j) q0b))))
  (@q0z _ _ _ _ _ (q1w (q0s q2c (q0u q0o (pv 2) q0a q2j) q0r (q0q _)) (@q1m _ _ _ (x0u (x1b PySem.F.plainAttrs_list PySem.F.slot_list_append PySem.F.type_list_append q8o (pv 3) (q0c (q0i CS hr (q0c (q0u q0o (pv 2) q0a q2j) q0b)) q0b)))) q0t)
  (@q0z _ _ _ _ _ (q1w (q0s q2c (q0u q0o (pv 2) q0a q2j) q0r (q0q _)) (@q0z _ _ _ _ _ (x0u (x1b PySem.F.plainAttrs_list PySem.F.slot_list_append PySem.F.type_list_append q8o (pv 3) (q0c (q0u q0o (pv 2) q0a q2j) q0b))) (@q0z _ _ _ _ _ (x0u (x1b PySem.F.plainAttrs_list PySem.F.slot_list_append PySem.F.type_list_append q8o (pv 3) (q0c (q0i CF r2 (q0c (q0u q0o (pv 2) q0a q2j) q0b)) q0b))) (@q1m _ _ _ (x0u (x1b PySem.F.plainAttrs_list PySem.F.slot_list_append PySem.F.type_list_append q8o (pv 3) (q0c (q0i CD hr (q0c (q0u q0o (pv 2) q0a q2j) q0b)) q0b)))))) q0t)
  (@q1m _ _ _ (q0k (x1b PySem.F.plainAttrs_str PySem.F.slot_str_join PySem.F.type_str_join x3t q0r (q1i (pv 3) q0b))))))), ?_⟩
 obtain ⟨t, wh, rfl, hw⟩ := z0v hp
 have hwid := (I.mono hB (q0y.refl _)).wid
 have hok := q9z (B := 200) _ hp hwid
 have hsm : t.natAbs < 10 ^ 4000 ∧ q1g 4000 wh = true := by
  have h1 : (q1g 4000 (.int t) && (q1g 4000 wh && true)) = true := hs
  rw [Bool.and_true, Bool.and_eq_true] at h1
  exact ⟨of_decide_eq_true h1.1, h1.2⟩
 cases I with
 | @tup a xs _ ea l r =>
 obtain ⟨w0, _, rfl, z0, rr0⟩ := IsL.un r
 obtain rfl := Is.vint z0
 obtain ⟨vw, _, rfl, iw, rr1⟩ := IsL.un rr0
 obtain rfl := IsL.un0 rr1
 refine ⟨_, rfl, a, _, rfl, SqT.of ea, rfl, _, _, rfl, _, _, rfl, rfl, ?_⟩
 have hft := q1e (n := t) (k := 4000) (by decide) hsm.1
 rcases z9d hw with rfl | ⟨sd, rfl, hsd⟩ | ⟨x, n, e, rfl, hx, he⟩
 ·cases iw with
  | @tup aw ws _ ew lw rw' =>
  obtain ⟨w0, _, rfl, z0, rr0⟩ := IsL.un rw'
  obtain rfl := Is.vstr z0
  obtain rfl := IsL.un0 rr0
  refine ⟨_, rfl, t, rfl, hsm.1, _, rfl, aw, _, _, .str "open", rfl, rfl, SqT.of ew, q0m (j := 0) rfl, q3c (by show 2 ≤ 1000; decide), fun l hl => ?_⟩
  have s1 := q0h (o := HO.lst [V.str (q1p t), V.str "open"]) hl
  refine ⟨_, rfl, aw, _, _, .str "open", rfl, rfl, SqT.of (s1 _ _ ew), q0m (j := 0) rfl, rfl, _, rfl, ?_⟩
  rw [(show decide (V.str ("open" : Str) = V.str ("seats" : Str)) = false from by decide +kernel)]
  refine q1a ⟨_, rfl, aw, _, _, .str "open", rfl, rfl, SqT.of (s1 _ _ ew), q0m (j := 0) rfl, rfl, _, rfl, ?_⟩
  rw [(show decide (V.str ("open" : Str) = V.str ("wish" : Str)) = false from by decide +kernel)]
  refine q1a ⟨rfl, _, rfl, " ", l, [q1p t, "open"], rfl, rfl, SqL.of q0e, x0w (L := 4001) (n := 12) (hok.len 4000 (by decide) (by rw [smallL, hs]; rfl)) hok.few (by decide), q _ s1⟩
 ·cases iw with
  | @tup aw ws _ ew lw rw' =>
  obtain ⟨w0, _, rfl, z0, rr0⟩ := IsL.un rw'
  obtain rfl := Is.vstr z0
  obtain ⟨vs, _, rfl, is, rr1⟩ := IsL.un rr0
  obtain rfl := IsL.un0 rr1
  refine ⟨_, rfl, t, rfl, hsm.1, _, rfl, aw, _, _, .str "seats", rfl, rfl, SqT.of ew, q0m (j := 0) rfl, q3c (by show 2 ≤ 1000; decide), fun l hl => ?_⟩
  have s1 := q0h (o := HO.lst [V.str (q1p t), V.str "seats"]) hl
  refine ⟨_, rfl, aw, _, _, .str "seats", rfl, rfl, SqT.of (s1 _ _ ew), q0m (j := 0) rfl, rfl, _, rfl, ?_⟩
  rw [(show decide (V.str ("seats" : Str) = V.str ("seats" : Str)) = true from by decide +kernel)]
  have hss : q1g 4000 sd = true := by
   have h1 : (q1g 4000 (.str "seats") && (q1g 4000 sd && true)) = true := hsm.2
   rw [Bool.and_true, Bool.and_eq_true] at h1
   exact h1.2
  refine q1f ⟨_, rfl, .inl ⟨rfl, _, SqL.of q0e⟩, _, rfl, aw, _, _, vs, rfl, rfl, SqT.of (s1 _ _ ew), q0m (j := 1) rfl, B, vs, sd, hB, rfl, is.same s1, hsd, hss, fun H2 s2 => ?_⟩
  have hl2 := s2 _ _ q0e
  refine ⟨l, _, _, rfl, rfl, hl2, q3c (by show 2 + 1 ≤ 1000; decide), ?_⟩
  have s3 : q0y H (upd H2 l (.lst ([V.str (q1p t), V.str "seats"] ++ [V.str (J (q3u sd))]))) := fun b o eb => by
   have hbl : b ≠ l := fun z => by subst z; rw [hl] at eb; cases eb
   rw [q1q hbl]
   exact (s1.trans s2) _ _ eb
  refine ⟨_, rfl, aw, _, _, .str "seats", rfl, rfl, SqT.of (s3 _ _ ew), q0m (j := 0) rfl, rfl, _, rfl, ?_⟩
  rw [(show decide (V.str ("seats" : Str) = V.str ("wish" : Str)) = false from by decide +kernel)]
  have hsl := (q6u (B := 200) sd hsd (is.mono hB (q0y.refl _)).wid).text (by rw [smallL, hss]; rfl)
  have hJ : J [q1p t, "seats", J (q3u sd)] = J (q3j (.tup [.int t, .tup [.str "seats", sd]])) := by
   rw [show ([q1p t, "seats", J (q3u sd)] : List Str) = [q1p t, "seats"] ++ [J (q3u sd)] from rfl, j7v (by simp) (x7l hsd)]
   congr 1
   show _ = q1p t :: (("seats" : Str) :: (q3u sd ++ [])) ++ []
   rw [List.append_nil, List.append_nil]
   rfl
  refine q1a ⟨rfl, _, rfl, " ", l, [q1p t, "seats", J (q3u sd)], rfl, rfl, SqL.of q0e, x0w (L := 50000) (n := 3) ?_ (by show 3 ≤ 3; decide) (by decide), ?_⟩
  ·intro y hy
   simp only [List.mem_cons, List.not_mem_nil, or_false] at hy
   rcases hy with rfl | rfl | rfl
   ·omega
   ·decide +kernel
   ·omega
  ·have := q _ s3
   rw [← hJ] at this
   exact this
 ·cases iw with
  | @tup aw ws _ ew lw rw' =>
  obtain ⟨w0, _, rfl, z0, rr0⟩ := IsL.un rw'
  obtain rfl := Is.vstr z0
  obtain ⟨w1, _, rfl, z1, rr1⟩ := IsL.un rr0
  obtain rfl := Is.vstr z1
  obtain ⟨w2, _, rfl, z2, rr2⟩ := IsL.un rr1
  obtain rfl := Is.vint z2
  obtain ⟨ve, _, rfl, ie, rr3⟩ := IsL.un rr2
  obtain rfl := IsL.un0 rr3
  have hss : n.natAbs < 10 ^ 4000 ∧ q1g 4000 e = true := by
   have h1 : (q1g 4000 (.str "wish") && (q1g 4000 (.str x) && (q1g 4000 (.int n) && (q1g 4000 e && true)))) = true := hsm.2
   rw [Bool.and_true, Bool.and_eq_true, Bool.and_eq_true, Bool.and_eq_true] at h1
   exact ⟨of_decide_eq_true h1.2.2.1, h1.2.2.2⟩
  have hfn := q1e (n := n) (k := 4000) (by decide) hss.1
  have hxl := q7m hx
  refine ⟨_, rfl, t, rfl, hsm.1, _, rfl, aw, _, _, .str "wish", rfl, rfl, SqT.of ew, q0m (j := 0) rfl, q3c (by show 2 ≤ 1000; decide), fun l hl => ?_⟩
  have s1 := q0h (o := HO.lst [V.str (q1p t), V.str "wish"]) hl
  refine ⟨_, rfl, aw, _, _, .str "wish", rfl, rfl, SqT.of (s1 _ _ ew), q0m (j := 0) rfl, rfl, _, rfl, ?_⟩
  rw [(show decide (V.str ("wish" : Str) = V.str ("seats" : Str)) = false from by decide +kernel)]
  refine q1a ⟨_, rfl, aw, _, _, .str "wish", rfl, rfl, SqT.of (s1 _ _ ew), q0m (j := 0) rfl, rfl, _, rfl, ?_⟩
  rw [(show decide (V.str ("wish" : Str) = V.str ("wish" : Str)) = true from by decide +kernel)]
  have off : ∀ {H2 : Hp} {o : HO}, q0y H H2 → q0y H (upd H2 l o) := fun {H2 o} s2 b u eb => by
   have hbl : b ≠ l := fun z => by subst z; rw [hl] at eb; cases eb
   rw [q1q hbl]
   exact s2 _ _ eb
  refine q1f ⟨_, rfl, .inl ⟨rfl, _, SqL.of q0e⟩, _, rfl, aw, _, _, .str x, rfl, rfl, SqT.of (s1 _ _ ew), q0m (j := 1) rfl, l, _, _, rfl, rfl, q0e, q3c (by show 2 + 1 ≤ 1000; decide), ?_⟩
  have s2 := off (o := .lst ([V.str (q1p t), V.str "wish"] ++ [V.str x])) s1
  refine ⟨_, rfl, .inl ⟨rfl, _, SqL.of q0e⟩, _, rfl, aw, _, _, .int n, rfl, rfl, SqT.of (s2 _ _ ew), q0m (j := 2) rfl, n, rfl, hss.1, l, _, _, rfl, rfl, q0e, q3c (by show 3 + 1 ≤ 1000; decide), ?_⟩
  have s3 := off (o := .lst ([V.str (q1p t), V.str "wish"] ++ [V.str x] ++ [V.str (q1p n)])) s2
  refine ⟨_, rfl, .inl ⟨rfl, _, SqL.of q0e⟩, _, rfl, aw, _, _, ve, rfl, rfl, SqT.of (s3 _ _ ew), q0m (j := 3) rfl, B, ve, e, hB, rfl, ie.same s3, he, hss.2, fun H4 s4 => ?_⟩
  have hl4 := s4 _ _ q0e
  refine ⟨l, _, _, rfl, rfl, hl4, q3c (by show 4 + 1 ≤ 1000; decide), ?_⟩
  have s5 := off (o := .lst ([V.str (q1p t), V.str "wish"] ++ [V.str x] ++ [V.str (q1p n)] ++ [V.str (J (q5z e))])) (s3.trans s4)
  have hsl := (x0a (B := 200) e he (ie.mono hB (q0y.refl _)).wid).text (by rw [smallL, hss.2]; rfl)
  have hJ : J [q1p t, "wish", x, q1p n, J (q5z e)] = J (q3j (.tup [.int t, .tup [.str "wish", .str x, .int n, e]])) := by
   rw [show ([q1p t, "wish", x, q1p n, J (q5z e)] : List Str) = [q1p t, "wish", x, q1p n] ++ [J (q5z e)] from rfl, j7v (by simp) (z1t he)]
   congr 1
   show _ = q1p t :: (("wish" : Str) :: x :: q1p n :: (q5z e ++ [])) ++ []
   rw [List.append_nil, List.append_nil]
   rfl
  refine ⟨rfl, _, rfl, " ", l, [q1p t, "wish", x, q1p n, J (q5z e)], rfl, rfl, SqL.of q0e, x0w (L := 50000) (n := 5) ?_ (by show 5 ≤ 5; decide) (by decide), ?_⟩
  ·intro y hy
   simp only [List.mem_cons, List.not_mem_nil, or_false] at hy
   rcases hy with rfl | rfl | rfl | rfl | rfl
   ·omega
   ·decide +kernel
   ·omega
   ·omega
   ·omega
  ·have := q _ s5
   rw [← hJ] at this
   exact this
end
theorem z6s {d : D} (h : x0f d = true) : ∃ (x : Str) (i : Int), d = .tup [.str x, .int i] ∧ x4x x = true := by
 obtain ⟨ds, rfl, hf⟩ := q5x h
 match ds, q1d hf with
 | [a, b], _ =>
  simp only [q0x, Bool.and_true, Bool.and_eq_true] at hf
  obtain ⟨x, rfl, hx⟩ := q3k hf.1
  obtain ⟨i, rfl⟩ := q0v hf.2
  exact ⟨x, i, rfl, hx⟩
theorem z6d {d : D} (h : q3w d = true) : ∃ (x : Str) (n i : Int), d = .tup [.str x, .int n, .int i] ∧ x4x x = true := by
 obtain ⟨ds, rfl, hf⟩ := x8r h
 match ds, q1d hf with
 | [a, b, c], _ =>
  simp only [q0x, Bool.and_true, Bool.and_eq_true] at hf
  obtain ⟨x, rfl, hx⟩ := q3k hf.1
  obtain ⟨n, rfl⟩ := q0v hf.2.1
  obtain ⟨i, rfl⟩ := q0v hf.2.2
  exact ⟨x, n, i, rfl, hx⟩
theorem j7e {ws : List Str} (h : ws ≠ []) (a b : Str) : J (ws ++ [a, b]) = J ws ++ " " ++ a ++ " " ++ b := by
 rw [x1w h (by simp), x1o, x4a]
 simp only [x0r]
theorem j1d {ws : List Str} (h : ws ≠ []) (a b c : Str) : J (ws ++ [a, b, c]) = J ws ++ " " ++ a ++ " " ++ b ++ " " ++ c := by
 rw [x1w h (by simp), x1o, x1o, x4a]
 simp only [x0r]
theorem x8l {f : D → List Str} {ds : List D} {i : Nat} {d : D} (hd : ds[i]? = some d) : (ds.take (i + 1)).flatMap f = (ds.take i).flatMap f ++ f d := by
 rw [List.take_add_one, hd, List.flatMap_append]
 simp
theorem x9a {n : Nat} {p : D → Bool} {f : D → List Str} (W : WOk 200 n p f) {ds : List D} (ha : ds.all p = true) (hw : widL 200 ds = true) (hs : smallL 4000 ds = true) (i : Nat) : (∀ w ∈ (ds.take i).flatMap f, w.length ≤ 4001) ∧ ((ds.take i).flatMap f).length ≤ ds.length * n := by
 have := x6n W (ds := ds.take i) (List.all_eq_true.mpr fun d hd => List.all_eq_true.mp ha d (List.mem_of_mem_take hd)) (x0k.mpr fun d hd => x0k.mp hw d (List.mem_of_mem_take hd))
 exact ⟨this.len 4000 (by decide) (q2w.mpr fun d hd => q2w.mp hs d (List.mem_of_mem_take hd)), Nat.le_trans this.few (Nat.mul_le_mul_right n (by rw [List.length_take]; exact Nat.min_le_right _ _))⟩
theorem z6j {n : Nat} (h : n ≤ 200) : ((n : Int)).natAbs < 10 ^ 4000 ∧ (q1p (n : Int)).length ≤ 4001 := by
 have h1 : (10 : Nat) ^ 3 ≤ 10 ^ 4000 := Nat.pow_le_pow_right (by decide) (by decide)
 have h2 : ((n : Int)).natAbs < 10 ^ 4000 := by
  simp only [Int.natAbs_natCast]
  omega
 exact ⟨h2, q1e (by decide) h2⟩
section
variable {P : Program} {w : World} {K : PySem.W.Frag} {mg : Str → Option Value} {base : Heap}
theorem x4f : FnScope ["_law_store_here", "_law_words", "_law_name_here", "_law_value", "_law_caller", "_law_number", "_law_answer"] ["_law_store_here"] (q0f q4h) := fSc
theorem x6j {f : Addr} {fd : FuncData} (F : Fun K "_law_store_words" "_law_store_words" q4h f fd) (T : Txt mg) (CF : Cal P w K mg base "_law_figures" 2 ["_law_number"] z0k) : FnOk P w K mg base CX0 3 f fd ["_law_store_here"] (spT q4g q7v) := by
 refine F.ok x4f x1f (fun cdv A outer s H vs Q E hr h => ?_)
 obtain ⟨B, v, d, hB, rfl, I, hp, hs, q⟩ := h
 refine ⟨_, @q0z _ _ _ _ _ (q1b (i := 1) x4f.nd (by rfl) (by exact Or.inl rfl) (q0i CF hr (q0c (q0n q0w (by rfl) T.len PySem.boot_len (q0c (q0u q0o (pv 0) q0a q2j) q0b)) q0b)))
  (@q0z _ _ _ _ _ (x5n PassesOwn.never (by rfl) (q7u (q0u q0o (pv 0) q0a q2j)) (x1s (n := 2) (by rfl) (q1v (q1h (i := 2) x4f.nd (by rfl) (by exact Or.inl rfl)) (q1v (q1h (i := 3) x4f.nd (by rfl) (by exact Or.inl rfl)) q5c)))
   (@q1m _ _ _ (q1b (i := 1) x4f.nd (by rfl) (by exact Or.inl rfl) (q0j q0l (q0j q0l (q0j q0l (q0j q0l (pv 1) q0r) (pv 2)) q0r) (q0i CF hr (q1i (pv 3) q0b))))))
  (@q0z _ _ _ _ _ (q1b (i := 1) x4f.nd (by rfl) (by exact Or.inl rfl) (q0j q0l (q0j q0l (pv 1) q0r) (q0i CF hr (q0c (q0n q0w (by rfl) T.len PySem.boot_len (q0c (q0u q0o (pv 0) q0a q2j) q0b)) q0b))))
  (@q0z _ _ _ _ _ (x5n PassesOwn.never (by rfl) (q7u (q0u q0o (pv 0) q0a q2j)) (x1s (n := 3) (by rfl) (q1v (q1h (i := 4) x4f.nd (by rfl) (by exact Or.inl rfl)) (q1v (q1h (i := 5) x4f.nd (by rfl) (by exact Or.inl rfl)) (q1v (q1h (i := 6) x4f.nd (by rfl) (by exact Or.inl rfl)) q5c))))
   (@q0z _ _ _ _ _ (q1b (i := 1) x4f.nd (by rfl) (by exact Or.inl rfl) (q0j q0l (q0j q0l (q0j q0l (q0j q0l (pv 1) q0r) (pv 4)) q0r) (q0i CF hr (q1i (pv 5) q0b))))
   (@q1m _ _ _ (q1b (i := 1) x4f.nd (by rfl) (by exact Or.inl rfl) (q0j q0l (q0j q0l (pv 1) q0r) (q0i CF hr (q1i (pv 6) q0b)))))))
  (@q1m _ _ _ (q0k (pv 1)))))), ?_⟩
 have hwid := (I.mono hB (q0y.refl _)).wid
 obtain ⟨da, db, rfl, ha, hb, na, nb⟩ := x2m hp
 have hsm : smallL 4000 da = true ∧ smallL 4000 db = true := by
  have h1 : (smallL 4000 da && (smallL 4000 db && true)) = true := hs
  rw [Bool.and_true, Bool.and_eq_true] at h1
  exact h1
 cases I with
 | @tup a xs _ ea l r =>
 obtain ⟨w0, _, rfl, z0, rr0⟩ := IsL.un r
 obtain ⟨a1, ys1, rfl, e1, q1, r1⟩ := Is.vtup z0
 obtain ⟨w1, _, rfl, z1, rr1⟩ := IsL.un rr0
 obtain ⟨a2, ys2, rfl, e2, q2, r2⟩ := Is.vtup z1
 obtain rfl := IsL.un0 rr1
 have l1 := r1.length
 have l2 := r2.length
 have wa := r1.wid
 have wb := r2.wid
 have wa' : widL 200 da = true := (r1.mono hB (q0y.refl _)).wid
 have wb' : widL 200 db = true := (r2.mono hB (q0y.refl _)).wid
 have ta := x9a x2h ha wa' hsm.1
 have tb := x9a q9b hb wb' hsm.2
 have ca := z6j (n := da.length) (by omega)
 have cb := z6j (n := db.length) (by omega)
 refine ⟨_, rfl, a, _, _, .ref a1, rfl, rfl, SqT.of ea, q0m (j := 0) rfl, a1, ys1, rfl, .inr (SqT.of e1), (da.length : Int), by rw [l1]; rfl, ca.1, ?_⟩
 refine ⟨_, rfl, a, _, _, .ref a1, rfl, rfl, SqT.of ea, q0m (j := 0) rfl, a1, rfl, ⟨ys1, SqT.of e1⟩, x3c (K := K) (a := a1) (xs := ys1) (fun i σ H' => ∃ x2 x3 : Option V, σ = [some (.ref a), some (.str (J (q1p (da.length : Int) :: (da.take i).flatMap q7c))), x2, x3, none, none, none] ∧ H = H')
  ⟨none, none, rfl, rfl⟩ (fun i σ H' _ ⟨_, _, _, z⟩ => z ▸ SqT.of e1) ?_ ?_⟩
 ·rintro i x σ H' hx ⟨x2, x3, rfl, rfl⟩
  obtain ⟨d, hd, hI⟩ := r1.get hx
  obtain ⟨nm, n, rfl, hnm⟩ := z6s (List.all_eq_true.mp ha d (List.mem_of_getElem? hd))
  cases hI with
  | @tup ap zs _ ep lp rp =>
  obtain ⟨w0, _, rfl, z0, rr0⟩ := IsL.un rp
  obtain rfl := Is.vstr z0
  obtain ⟨w1, _, rfl, z1, rr1⟩ := IsL.un rr0
  obtain rfl := Is.vint z1
  obtain rfl := IsL.un0 rr1
  have hn : n.natAbs < 10 ^ 4000 := by
   have h1 := q2w.mp hsm.1 _ (List.mem_of_getElem? hd)
   simp only [q1g, smallL, Bool.true_and, Bool.and_true, decide_eq_true_eq] at h1
   exact h1
  have hnl := q1e (n := n) (k := 4000) (by decide) hn
  have hml := q7m hnm
  have hJ := z0p (L := 4001) (ws := q1p (da.length : Int) :: (da.take i).flatMap q7c) (fun y hy => (List.mem_cons.mp hy).elim (fun z => z ▸ ca.2) ((ta i).1 y))
  have hcn := (ta i).2
  rw [List.length_cons] at hJ
  have hJ2 : (J (q1p (da.length : Int) :: (da.take i).flatMap q7c)).length ≤ 401 * 4002 := Nat.le_trans hJ (Nat.mul_le_mul_right _ (by omega))
  have e1' : (" " : Str).length = 1 := rfl
  refine ⟨ap, _, rfl, SqT.of ep, rfl, _, _, rfl, _, _, rfl, rfl, ?_⟩
  refine ⟨_, rfl, _, _, rfl, rfl, ?_, _, rfl, _, _, rfl, rfl, ?_, _, _, rfl, rfl, ?_, _, rfl, n, rfl, hn, _, _, rfl, rfl, ?_, ?_⟩
  ·rw [e1', sizeLine_eq]; omega
  ·rw [q0d, e1', sizeLine_eq]; omega
  ·rw [q0d, q0d, e1', sizeLine_eq]; omega
  ·rw [q0d, q0d, q0d, e1', sizeLine_eq]; omega
  ·refine ⟨some (.str nm), some (.int n), ?_, rfl⟩
   rw [x8l hd, ← List.cons_append, show q7c (.tup [.str nm, .int n]) = [nm, q1p n] from rfl, j7e (by simp)]
   rfl
 ·rintro σ H' ⟨x2, x3, rfl, rfl⟩
  rw [l1, List.take_length]
  have tA := ta da.length
  rw [List.take_length] at tA
  have hJ := z0p (L := 4001) (ws := q1p (da.length : Int) :: da.flatMap q7c) (fun y hy => (List.mem_cons.mp hy).elim (fun z => z ▸ ca.2) (tA.1 y))
  rw [List.length_cons] at hJ
  have hcA := tA.2
  have hJ2 : (J (q1p (da.length : Int) :: da.flatMap q7c)).length ≤ 401 * 4002 := Nat.le_trans hJ (Nat.mul_le_mul_right _ (by omega))
  have e1' : (" " : Str).length = 1 := rfl
  have hcb := cb.2
  refine ⟨_, rfl, _, _, rfl, rfl, ?_, _, rfl, a, _, _, .ref a2, rfl, rfl, SqT.of ea, q0m (j := 1) rfl, a2, ys2, rfl, .inr (SqT.of e2), (db.length : Int), by rw [l2]; rfl, cb.1, _, _, rfl, rfl, ?_, ?_⟩
  ·rw [e1', sizeLine_eq]; omega
  ·rw [q0d, e1', sizeLine_eq]; omega
  have base2 : J (q1p (da.length : Int) :: da.flatMap q7c) ++ " " ++ q1p (db.length : Int) = J ((q1p (da.length : Int) :: da.flatMap q7c) ++ [q1p (db.length : Int)]) := by rw [x1w (by simp) (by simp), x4a]
  refine ⟨_, rfl, a, _, _, .ref a2, rfl, rfl, SqT.of ea, q0m (j := 1) rfl, a2, rfl, ⟨ys2, SqT.of e2⟩, x3c (K := K) (a := a2) (xs := ys2) (fun i σ H' => ∃ x4 x5 x6 : Option V, σ = [some (.ref a), some (.str (J (((q1p (da.length : Int) :: da.flatMap q7c) ++ [q1p (db.length : Int)]) ++ (db.take i).flatMap q5n))), x2, x3, x4, x5, x6] ∧ H = H')
   ⟨none, none, none, ?_, rfl⟩ (fun i σ H' _ ⟨_, _, _, _, z⟩ => z ▸ SqT.of e2) ?_ ?_⟩
  ·rw [List.take_zero, List.flatMap_nil, List.append_nil, ← base2]
   rfl
  ·rintro i x σ H' hx ⟨x4, x5, x6, rfl, rfl⟩
   obtain ⟨d, hd, hI⟩ := r2.get hx
   obtain ⟨nm, n, m, rfl, hnm⟩ := z6d (List.all_eq_true.mp hb d (List.mem_of_getElem? hd))
   cases hI with
   | @tup ap zs _ ep lp rp =>
   obtain ⟨w0, _, rfl, z0, rr0⟩ := IsL.un rp
   obtain rfl := Is.vstr z0
   obtain ⟨w1, _, rfl, z1, rr1⟩ := IsL.un rr0
   obtain rfl := Is.vint z1
   obtain ⟨w2, _, rfl, z2, rr2⟩ := IsL.un rr1
   obtain rfl := Is.vint z2
   obtain rfl := IsL.un0 rr2
   have hnm2 : n.natAbs < 10 ^ 4000 ∧ m.natAbs < 10 ^ 4000 := by
    have h1 := q2w.mp hsm.2 _ (List.mem_of_getElem? hd)
    simp only [q1g, smallL, Bool.true_and, Bool.and_true, Bool.and_eq_true, decide_eq_true_eq] at h1
    exact h1
   have hnl := q1e (n := n) (k := 4000) (by decide) hnm2.1
   have hml2 := q1e (n := m) (k := 4000) (by decide) hnm2.2
   have hml := q7m hnm
   have hJ3 := z0p (L := 4001) (ws := ((q1p (da.length : Int) :: da.flatMap q7c) ++ [q1p (db.length : Int)]) ++ (db.take i).flatMap q5n) (fun y hy => by
    rcases List.mem_append.mp hy with hy | hy
    ·rcases List.mem_append.mp hy with hy | hy
     ·exact (List.mem_cons.mp hy).elim (fun z => z ▸ ca.2) (tA.1 y)
     ·exact (List.mem_singleton.mp hy) ▸ cb.2
    ·exact (tb i).1 y hy)
   have hcn := (tb i).2
   rw [List.length_append, List.length_append, List.length_cons, List.length_singleton] at hJ3
   have hJ4 : (J (((q1p (da.length : Int) :: da.flatMap q7c) ++ [q1p (db.length : Int)]) ++ (db.take i).flatMap q5n)).length ≤ 1002 * 4002 := Nat.le_trans hJ3 (Nat.mul_le_mul_right _ (by omega))
   refine ⟨ap, _, rfl, SqT.of ep, rfl, _, _, rfl, _, _, rfl, _, _, rfl, rfl, ?_⟩
   refine ⟨_, rfl, _, _, rfl, rfl, ?_, _, rfl, _, _, rfl, rfl, ?_, _, _, rfl, rfl, ?_, _, rfl, n, rfl, hnm2.1, _, _, rfl, rfl, ?_, ?_⟩
   ·rw [e1', sizeLine_eq]; omega
   ·rw [q0d, e1', sizeLine_eq]; omega
   ·rw [q0d, q0d, e1', sizeLine_eq]; omega
   ·rw [q0d, q0d, q0d, e1', sizeLine_eq]; omega
   refine ⟨_, rfl, _, _, rfl, rfl, ?_, _, rfl, m, rfl, hnm2.2, _, _, rfl, rfl, ?_, ?_⟩
   ·rw [q0d, q0d, q0d, q0d, e1', sizeLine_eq]; omega
   ·rw [q0d, q0d, q0d, q0d, q0d, e1', sizeLine_eq]; omega
   ·refine ⟨some (.str nm), some (.int n), some (.int m), ?_, rfl⟩
    rw [x8l hd, ← List.append_assoc, show q5n (.tup [.str nm, .int n, .int m]) = [nm, q1p n, q1p m] from rfl, j1d (by simp)]
    rfl
  ·rintro σ H' ⟨x4, x5, x6, rfl, rfl⟩
   refine ⟨_, rfl, ?_⟩
   rw [l2, List.take_length]
   have e : q7v (.tup [.tup da, .tup db]) = ((q1p (da.length : Int) :: da.flatMap q7c) ++ [q1p (db.length : Int)]) ++ db.flatMap q5n := by
    show (q1p (da.length : Int) :: da.flatMap q7c) ++ ((q1p (db.length : Int) :: db.flatMap q5n) ++ []) = _
    rw [List.append_nil, List.append_assoc]
    rfl
   rw [← e]
   exact q H (q0y.refl _)
end
inductive LetS : D → Prop
 | ask (x0 : Int) (x1 : Int) (x2 : Int) (x3 : Int) (x4 : Int) : LetS (.tup [.str "ask", .int x0, .int x1, .int x2, .int x3, .int x4])
 | voice (x0 : Int) (x1 : Int) (x2 : Int) (x3 : Bool) : LetS (.tup [.str "voice", .int x0, .int x1, .int x2, .bl x3])
 | hand (x0 : Int) (x1 : Int) (x2 : Int) (x3 : Int) (x4 : Int) (x5 : D) (x6 : Int) (h5 : q2f x5 = true) : LetS (.tup [.str "hand", .int x0, .int x1, .int x2, .int x3, .int x4, x5, .int x6])
 | pack (x0 : Int) (x1 : Int) (x2 : Int) (x3 : D) (h3 : q8k x3 = true) : LetS (.tup [.str "pack", .int x0, .int x1, .int x2, x3])
 | held (x0 : Int) (x1 : Int) (x2 : Int) (x3 : Bool) (x4 : Int) : LetS (.tup [.str "held", .int x0, .int x1, .int x2, .bl x3, .int x4])
 | wish (x0 : Str) (x1 : Int) (x2 : Int) (x3 : D) (h0 : x4x x0 = true) (h3 : q7z x3 = true) : LetS (.tup [.str "wish", .str x0, .int x1, .int x2, x3])
 | told (x0 : Int) (x1 : Str) (x2 : Int) (x3 : Int) (h1 : x4x x1 = true) : LetS (.tup [.str "told", .int x0, .str x1, .int x2, .int x3])
 | away (x0 : Int) (x1 : Str) (x2 : Int) (x3 : D) (h1 : x4x x1 = true) (h3 : q7y x3 = true) : LetS (.tup [.str "away", .int x0, .str x1, .int x2, x3])
theorem x3m {d : D} (h : q2n q2q d = true) : LetS d := by
 obtain ⟨x, r, ps, rfl, e, hf⟩ := q2x h
 unfold q2q at e
 rw [List.lookup_cons] at e
 by_cases g0 : x = "ask"
 ·subst g0
  cases e
  match r, q1d hf with
  | [y0, y1, y2, y3, y4], _ =>
   simp only [q0x, Bool.and_true, Bool.and_eq_true] at hf
   obtain ⟨f0, f1, f2, f3, f4⟩ := hf
   obtain ⟨i0, rfl⟩ := q0v (q1k f0)
   obtain ⟨i1, rfl⟩ := q0v (q1k f1)
   obtain ⟨i2, rfl⟩ := q0v (q1l f2)
   obtain ⟨i3, rfl⟩ := q0v (q1l f3)
   obtain ⟨i4, rfl⟩ := q0v (q1l f4)
   exact .ask i0 i1 i2 i3 i4
 ·rw [show (x == "ask") = false from by rw [beq_eq_false_iff_ne]; exact g0, List.lookup_cons] at e
  by_cases g1 : x = "voice"
  ·subst g1
   cases e
   match r, q1d hf with
   | [y0, y1, y2, y3], _ =>
    simp only [q0x, Bool.and_true, Bool.and_eq_true] at hf
    obtain ⟨f0, f1, f2, f3⟩ := hf
    obtain ⟨i0, rfl⟩ := q0v (q1k f0)
    obtain ⟨i1, rfl⟩ := q0v (q1k f1)
    obtain ⟨i2, rfl⟩ := q0v (q1l f2)
    obtain ⟨i3, rfl⟩ := q9e f3
    exact .voice i0 i1 i2 i3
  ·rw [show (x == "voice") = false from by rw [beq_eq_false_iff_ne]; exact g1, List.lookup_cons] at e
   by_cases g2 : x = "hand"
   ·subst g2
    cases e
    match r, q1d hf with
    | [y0, y1, y2, y3, y4, y5, y6], _ =>
     simp only [q0x, Bool.and_true, Bool.and_eq_true] at hf
     obtain ⟨f0, f1, f2, f3, f4, f5, f6⟩ := hf
     obtain ⟨i0, rfl⟩ := q0v (q1k f0)
     obtain ⟨i1, rfl⟩ := q0v (q1k f1)
     obtain ⟨i2, rfl⟩ := q0v (q1l f2)
     obtain ⟨i3, rfl⟩ := q0v (q1l f3)
     obtain ⟨i4, rfl⟩ := q0v (q1l f4)
     obtain ⟨i6, rfl⟩ := q0v (q1l f6)
     exact .hand i0 i1 i2 i3 i4 _ i6 f5
   ·rw [show (x == "hand") = false from by rw [beq_eq_false_iff_ne]; exact g2, List.lookup_cons] at e
    by_cases g3 : x = "pack"
    ·subst g3
     cases e
     match r, q1d hf with
     | [y0, y1, y2, y3], _ =>
      simp only [q0x, Bool.and_true, Bool.and_eq_true] at hf
      obtain ⟨f0, f1, f2, f3⟩ := hf
      obtain ⟨i0, rfl⟩ := q0v (q1k f0)
      obtain ⟨i1, rfl⟩ := q0v (q1k f1)
      obtain ⟨i2, rfl⟩ := q0v (q1l f2)
      exact .pack i0 i1 i2 _ f3
    ·rw [show (x == "pack") = false from by rw [beq_eq_false_iff_ne]; exact g3, List.lookup_cons] at e
     by_cases g4 : x = "held"
     ·subst g4
      cases e
      match r, q1d hf with
      | [y0, y1, y2, y3, y4], _ =>
       simp only [q0x, Bool.and_true, Bool.and_eq_true] at hf
       obtain ⟨f0, f1, f2, f3, f4⟩ := hf
       obtain ⟨i0, rfl⟩ := q0v (q1k f0)
       obtain ⟨i1, rfl⟩ := q0v (q1k f1)
       obtain ⟨i2, rfl⟩ := q0v (q1l f2)
       obtain ⟨i3, rfl⟩ := q9e f3
       obtain ⟨i4, rfl⟩ := q0v (q1l f4)
       exact .held i0 i1 i2 i3 i4
     ·rw [show (x == "held") = false from by rw [beq_eq_false_iff_ne]; exact g4, List.lookup_cons] at e
      by_cases g5 : x = "wish"
      ·subst g5
       cases e
       match r, q1d hf with
       | [y0, y1, y2, y3], _ =>
        simp only [q0x, Bool.and_true, Bool.and_eq_true] at hf
        obtain ⟨f0, f1, f2, f3⟩ := hf
        obtain ⟨i0, rfl, l0⟩ := q3k f0
        obtain ⟨i1, rfl⟩ := q0v (q1k f1)
        obtain ⟨i2, rfl⟩ := q0v (q1l f2)
        exact .wish i0 i1 i2 _ l0 f3
      ·rw [show (x == "wish") = false from by rw [beq_eq_false_iff_ne]; exact g5, List.lookup_cons] at e
       by_cases g6 : x = "told"
       ·subst g6
        cases e
        match r, q1d hf with
        | [y0, y1, y2, y3], _ =>
         simp only [q0x, Bool.and_true, Bool.and_eq_true] at hf
         obtain ⟨f0, f1, f2, f3⟩ := hf
         obtain ⟨i0, rfl⟩ := q0v (q1k f0)
         obtain ⟨i1, rfl, l1⟩ := q3k f1
         obtain ⟨i2, rfl⟩ := q0v (q1l f2)
         obtain ⟨i3, rfl⟩ := q0v (f3)
         exact .told i0 i1 i2 i3 l1
       ·rw [show (x == "told") = false from by rw [beq_eq_false_iff_ne]; exact g6, List.lookup_cons] at e
        by_cases g7 : x = "away"
        ·subst g7
         cases e
         match r, q1d hf with
         | [y0, y1, y2, y3], _ =>
          simp only [q0x, Bool.and_true, Bool.and_eq_true] at hf
          obtain ⟨f0, f1, f2, f3⟩ := hf
          obtain ⟨i0, rfl⟩ := q0v (q1k f0)
          obtain ⟨i1, rfl, l1⟩ := q3k f1
          obtain ⟨i2, rfl⟩ := q0v (q1l f2)
          exact .away i0 i1 i2 _ l1 f3
        ·rw [show (x == "away") = false from by rw [beq_eq_false_iff_ne]; exact g7] at e
         cases e
theorem j1g (ds : List D) (f : D → V) : (((List.range ds.length).filter fun _ => true).map fun i => f (ds.getD i .non)) = ds.map f := by
 rw [List.filter_eq_self.mpr (fun _ _ => rfl)]
 apply List.ext_getElem?
 intro i
 by_cases hi : i < ds.length
 ·simp [hi]
 ·rw [List.getElem?_eq_none (by simp; omega), List.getElem?_eq_none (by simp; omega)]
theorem j3r {K : PySem.W.Frag} {a : Addr} {B : Nat} {vs : List V} {ds : List D} {H1 : Hp} {frs : St} {g : TG} {tt : TT} {te : TE} {Q : VK} (hS : SqT K H1 a vs) (r : IsL B H1 vs ds) (hn : ds.length ≤ 1000) (f : D → V)
  (turn : ∀ (v : V) (d : D), d ∈ ds → Is B H1 v d → ∀ t H2 (R : St → Hp → Option V → Prop), q0y H1 H2 → t.length = 1 → (∀ t' H', t'.length = 1 → q0y H2 H' → R (t' ++ frs) H' (some (f d))) →
   g v (t ++ frs) H2 fun σ3 H3 => tt σ3 H3 fun b H4 => if b = true then te σ3 H4 fun v H5 => R σ3 H5 (some v) else R σ3 H4 none)
  (hq : ∀ D H', q0y H1 H' → H1 D = none → H' D = some (.lst (ds.map f)) → Q (.ref D) H') : x8p (List.replicate 1 none ++ frs) g tt te Q (Itt K a) H1 := by
 have hl := r.length
 refine q3d (J := Itt K a) (k := 1) (n := ds.length) (fun _ => true) (fun i => f (ds.getD i .non)) (by rw [sizeLine_eq]; omega) (fun i H3 hi s4 => ⟨_, vs[i]'(by omega), SqT.same' hS s4, List.getElem?_eq_getElem (by omega)⟩) (fun H3 s4 => ⟨_, SqT.same' hS s4, by omega⟩) ?_ ?_
 ·intro i H3 t v H4 R hi s4 ht y hR
  obtain ⟨rfl, hy⟩ := y
  have hv := hy _ (SqT.same' hS s4)
  obtain ⟨d, hd, I⟩ := r.get hv
  have eg : ds.getD i .non = d := by rw [List.getD_eq_getElem?_getD, hd]; rfl
  rw [eg] at hR
  exact turn v d (List.mem_of_getElem? hd) I t H4 R s4 ht hR
 ·intro D1 H3 s4 hD hd
  rw [j1g] at hd
  exact hq D1 H3 s4 hD hd
noncomputable def j7z (d : D) : Bool := q2n q2q d && (["ask", "voice", "hand", "pack", "held"] : List Str).contains (q1o d)
theorem w0x (W f0 f1 f2 f3 : Str) : W ++ " " ++ J [f0, f1, f2] ++ " " ++ f3 = J [W, f0, f1, f2, f3] := by simp only [x1o, x4a, x0r]
theorem j9n (W f0 f1 f2 f3 f4 : Str) : W ++ " " ++ J [f0, f1, f2] ++ " " ++ f3 ++ " " ++ f4 = J [W, f0, f1, f2, f3, f4] := by simp only [x1o, x4a, x0r]
theorem w2b (W f0 f1 f2 f3 f4 : Str) {s t : List Str} (hs : s ≠ []) (ht : t ≠ []) : W ++ " " ++ J [f0, f1, f2] ++ " " ++ f3 ++ " " ++ f4 ++ " " ++ J s ++ " " ++ J t = J (([W, f0, f1, f2, f3, f4] ++ s) ++ t) := by
 rw [x1w (by simp) ht, x1w (by simp) hs, j9n]
theorem w2u (W f0 f1 f2 : Str) {s : List Str} (hs : s ≠ []) : J ([W, f0, f1, f2] ++ s) = (W ++ " " ++ J [f0, f1, f2] ++ " ") ++ J s := by
 rw [x1w (by simp) hs]
 simp only [x1o, x4a, x0r]
theorem z6b {d : D} (h : q3z d = true) : q3j d ≠ [] := by
 obtain ⟨ds, rfl, hf⟩ := x3s h
 match ds, q1d hf with
 | [a, b], _ =>
  simp only [q0x, Bool.and_true, Bool.and_eq_true] at hf
  obtain ⟨t, rfl⟩ := q0v hf.1
  simp [q3j, j1q, q2h, q2o]
theorem z2q {B : Nat} {H : Hp} {v : V} {d : D} (hB : B ≤ 200) (I : Is B H v d) (h : q3z d = true) (hs : q1g 4000 d = true) : (J (q3j d)).length ≤ 100000 ∧ q3j d ≠ [] :=
 ⟨Nat.le_trans ((q9z (B := 200) d h (I.mono hB (q0y.refl _)).wid).text (by rw [smallL, hs]; rfl)) (by decide), z6b h⟩
theorem z8c {d : D} (h : q4g d = true) : q7v d ≠ [] := by
 obtain ⟨a, b, rfl, _⟩ := x2m h
 simp [q7v, j1q, q2h, q6f]
theorem z3t {d : D} (h : q8k d = true) : ∃ (p l : Int) (s t : D), d = .tup [.int p, .int l, s, t] ∧ q3m s = true ∧ q4g t = true := by
 obtain ⟨ds, rfl, hf⟩ := z0x h
 match ds, q1d hf with
 | [a, b, c, d], _ =>
  simp only [q0x, Bool.and_true, Bool.and_eq_true] at hf
  obtain ⟨p, rfl⟩ := q0v hf.1
  obtain ⟨l, rfl⟩ := q0v hf.2.1
  exact ⟨p, l, c, d, rfl, hf.2.2.1, hf.2.2.2⟩
theorem z5f {f : D → List Str} : ∀ {ds : List D} {a : List Str}, a ≠ [] → (∀ d ∈ ds, f d ≠ []) → J (a ++ ds.map fun d => J (f d)) = J (a ++ ds.flatMap f)
 | [], a, _, _ => by simp
 | d :: ds, a, ha, h => by
  have e1 : a ++ (d :: ds).map (fun d => J (f d)) = (a ++ [J (f d)]) ++ ds.map fun d => J (f d) := by simp
  have e2 : a ++ (d :: ds).flatMap f = (a ++ f d) ++ ds.flatMap f := by simp
  have hd := h d (by simp)
  have hds := fun x hx => h x (List.mem_cons_of_mem d hx)
  have i1 := z5f (ds := ds) (a := a ++ [J (f d)]) (by simp) hds
  have i2 := z5f (ds := ds) (a := a ++ f d) (by simp [ha]) hds
  rw [e1, e2, ← i2]
  cases ds with
  | nil => simp only [List.map_nil, List.append_nil]; exact j7v ha hd
  | cons x r => rw [x1w (by simp) (by simp), x1w (a := a ++ f d) (by simp [ha]) (by simp), j7v ha hd]
section
variable {P : Program} {w : World} {K : PySem.W.Frag} {mg : Str → Option Value} {base : Heap}
theorem x6e : FnScope ["_law_letter_here", "_law_words", "_law_place", "_law_last", "_law_seats_here", "_law_store_here", "_law_numbers"] ["_law_letter_here"] (q0f q2e) := fSc
noncomputable def w0z : TS := fun D σ H => ∃ (a : Addr) (W : Str) (x0 x1 x2 : Int) (vs : List V), σ = [some (.ref a), none, none, none, none, none, none] ∧ H a = some (.tup (.str W :: .int x0 :: .int x1 :: .int x2 :: vs)) ∧ W.length ≤ 8 ∧ x0.natAbs < 10 ^ 4000 ∧ x1.natAbs < 10 ^ 4000 ∧ x2.natAbs < 10 ^ 4000 ∧ x2g (.str W :: .int x0 :: .int x1 :: .int x2 :: vs) (some 1) (some 4) = [.int x0, .int x1, .int x2] ∧
 ∀ H', q0y H H' → ((W ++ " " ++ J [q1p x0, q1p x1, q1p x2]) ++ " ").length ≤ 13000 → D.nx [some (.ref a), some (.str (W ++ " " ++ J [q1p x0, q1p x1, q1p x2] ++ " ")), none, none, none, none, none] H'
theorem PS.weakB {X : Cx} {st : Stmt} {t t' : TS} (h : PS X st t) (w : ∀ D σ H, t' D σ H → t D σ H) : PS X st t' := fun pins s σ H D I q => h pins s σ H D I (w D σ H q)
theorem x3w {f : Addr} {fd : FuncData} (F : Fun K "_law_text_between" "_law_text_between" q2e f fd) (T : Txt mg) (CF : Cal P w K mg base "_law_figures" 2 ["_law_number"] z0k) (CS : Cal P w K mg base "_law_seats_words" 3 ["_law_seats_here"] (spT q3m q3u)) (CT : Cal P w K mg base "_law_store_words" 3 ["_law_store_here"] (spT q4g q7v)) (CE : Cal P w K mg base "_law_entry_words" 4 ["_law_entry_here"] (spT q3z q3j)) : FnOk P w K mg base CX0 5 f fd ["_law_letter_here"] (spT j7z q1j) := by
 refine F.ok x6e x1f (fun cdv A outer s H vs Q E hr h => ?_)
 obtain ⟨B, v, d, hB, rfl, I, hp, hs, q⟩ := h
 have r2 := hr.mono (show 2 ≤ 4 by decide)
 have r3 := hr.mono (show 3 ≤ 4 by decide)
 refine ⟨_, (@q0z _ _ _ _ _ (PS.weakB (t' := w0z) (q1b (i := 1) x6e.nd (by rfl) (by exact Or.inl rfl) (q0j q0l (q0j q0l (q0j q0l (q0u q0o (pv 0) q0a q2j) q0r) (x1b PySem.F.plainAttrs_str PySem.F.slot_str_join PySem.F.type_str_join x3t q0r (q0c (q3g (NB := ["_law_number"]) (n := 1) (fr := []) (q5h (outer := q0f q2e) (by rfl) (by decide +kernel) (by rfl)) (by rfl) (q7u (q3o q6g (pv 0) (q4f q0a) (q4f q0a))) (fun _ _ _ _ _ => q1h (i := 0) (show (["_law_number"] : List Str).Nodup by decide +kernel) (by rfl) (by exact Or.inl rfl)) (fun _ _ _ _ _ => q2u) (fun _ _ _ _ _ => q0i CF r2 (q1i (pv 0) q0b))) q0b))) q0r)) ?w1)
  (@q0z _ _ _ _ _ (q1w (q0s q2c (q0u q0o (pv 0) q0a q2j) q0r (q0q _)) (@q1m _ _ _ (q0k (q0j q0l (q0j q0l (q0j q0l (pv 1) (q0i CF r2 (q4a (q0u q0o (pv 0) q0a q2j) q0b))) q0r) (q0i CF r2 (q4a (q0u q0o (pv 0) q0a q2j) q0b))))) q0t)
  (@q0z _ _ _ _ _ (q1w (q0s q2c (q0u q0o (pv 0) q0a q2j) q0r (q0q _)) (@q1m _ _ _ (q0k (q0j q0l (pv 1) (q0u q5j (q4o (q6s q0r (q6s q0r q0b))) (q5a x7j (by rfl) T.int q9c (q4a (q0u q0o (pv 0) q0a q2j) q0b)) (fun _ _ => rfl))))) q0t)
  (@q0z _ _ _ _ _ (q1w (q0s q2c (q0u q0o (pv 0) q0a q2j) q0r (q0q _)) (@q1m _ _ _ (q0k (q0j q0l (q0j q0l (q0j q0l (pv 1) (q0u q5j (q4o (q6s q0r (q6s q0r q0b))) (q5a x7j (by rfl) T.int q9c (q4a (q0u q0o (pv 0) q0a q2j) q0b)) (fun _ _ => rfl))) q0r) (q0i CF r2 (q4a (q0u q0o (pv 0) q0a q2j) q0b))))) q0t)
  (@q0z _ _ _ _ _ (q1w (q0s q2c (q0u q0o (pv 0) q0a q2j) q0r (q0q _)) (@q0z _ _ _ _ _ (z1f (q0u q0o (pv 0) q0a q2j) (x1s (n := 4) (by rfl) (q1v (q1h (i := 2) x6e.nd (by rfl) (by exact Or.inl rfl)) (q1v (q1h (i := 3) x6e.nd (by rfl) (by exact Or.inl rfl)) (q1v (q1h (i := 4) x6e.nd (by rfl) (by exact Or.inl rfl)) (q1v (q1h (i := 5) x6e.nd (by rfl) (by exact Or.inl rfl)) q5c)))))) (@q0z _ _ _ _ _ (q1b (i := 1) x6e.nd (by rfl) (by exact Or.inl rfl) (q0j q0l (q0j q0l (q0j q0l (pv 1) (q0i CF r2 (q1i (pv 2) q0b))) q0r) (q0i CF r2 (q1i (pv 3) q0b)))) (@q1m _ _ _ (q0k (q0j q0l (q0j q0l (q0j q0l (q0j q0l (pv 1) q0r) (q0i CS r3 (q1i (pv 4) q0b))) q0r) (q0i CT r3 (q1i (pv 5) q0b))))))) q0t)
  (@q0z _ _ _ _ _ (q1b (i := 6) x6e.nd (by rfl) (by exact Or.inl rfl) (QE.h (q6b (j7t (q0u q0o (pv 0) q0a q2j) (j7t (q0u q0o (pv 0) q0a q2j) (j7t (q0u q0o (pv 0) q0a q2j) (j2h (q0n q0w (by rfl) T.len PySem.boot_len (q4a (q0u q0o (pv 0) q0a q2j) q0b)) q3e)))))))
  (@q0z _ _ _ _ _ (z0o (i := 6) x6e.nd (by rfl) (by exact Or.inl rfl) (NB := ["_law_number"]) (n := 1) (fr := []) (q5h (outer := q0f q2e) (by rfl) (by decide +kernel) (by rfl)) (by rfl) (q7u (pv 6)) (fun _ _ _ _ _ => q1h (i := 0) (show (["_law_number"] : List Str).Nodup by decide +kernel) (by rfl) (by exact Or.inl rfl)) (fun _ _ _ _ _ => q2u) (fun _ _ _ _ _ => q0i CF r2 (q1i (pv 0) q0b)))
  (@q1m _ _ _ (q0k (q0j q0l (pv 1) (x1b PySem.F.plainAttrs_str PySem.F.slot_str_join PySem.F.type_str_join x3t q0r (q6x (q0j x8b (pv 6) (q3g (NB := ["_law_entry_here"]) (n := 1) (fr := []) (q5h (outer := q0f q2e) (by rfl) (by decide +kernel) (by rfl)) (by rfl) (q7u (q0u q0o (pv 0) q0a q2j)) (fun _ _ _ _ _ => q1h (i := 0) (show (["_law_entry_here"] : List Str).Nodup by decide +kernel) (by rfl) (by exact Or.inl rfl)) (fun _ _ _ _ _ => q2u) (fun _ _ _ _ _ => q0i CE hr (q1i (pv 0) q0b)))) q0b)))))))))))), ?_⟩
 case w1 =>
  rintro D σ H ⟨a, W, x0, x1, x2, vs, rfl, ea, eW, m0, m1, m2, hsl, q⟩
  have e1' : (" " : Str).length = 1 := rfl
  have f0 := q1e (n := x0) (k := 4000) (by decide) m0
  have f1 := q1e (n := x1) (k := 4000) (by decide) m1
  have f2 := q1e (n := x2) (k := 4000) (by decide) m2
  have h3 : ∀ y ∈ [q1p x0, q1p x1, q1p x2], y.length ≤ 4001 := by
   intro y hy
   simp only [List.mem_cons, List.not_mem_nil, or_false] at hy
   rcases hy with rfl | rfl | rfl <;> assumption
  have hJ3 := z0p h3
  have hJ3' : (J [q1p x0, q1p x1, q1p x2]).length ≤ 3 * 4002 := hJ3
  refine ⟨_, rfl, a, _, _, .str W, rfl, rfl, SqT.of ea, q0m (j := 0) rfl, _, _, rfl, rfl, ?_, rfl, _, rfl, _, rfl, _, rfl, a, _, rfl, ea, fun p1 H1 hp1 s1 => ?_⟩
  ·rw [e1', sizeLine_eq]; omega
  rw [hsl] at hp1
  have hT1 : SqT K H1 p1 ([x0, x1, x2].map V.int) := SqT.of hp1
  refine ⟨p1, rfl, ⟨_, hT1⟩, x6c (K := K) (ms := [x0, x1, x2]) hT1 (by show 3 ≤ 1000; decide) (fun _ => true) (fun n => V.str (q1p n)) ?_ ?_⟩
  ·intro i hi t' H3 R s3 ht' hR
   obtain ⟨t0, rfl⟩ := q4v ht'
   have hb : (([x0, x1, x2] : List Int)[i]).natAbs < 10 ^ 4000 := by
    have hm := List.getElem_mem hi
    simp only [List.mem_cons, List.not_mem_nil, or_false] at hm
    rcases hm with e | e | e <;> rw [e] <;> assumption
   exact ⟨_, rfl, _, rfl, hb, hR [some _] H3 rfl (q0y.refl _)⟩
  intro D1 H2 s2' hD hd
  have s2 := s1.trans s2'
  refine ⟨" ", D1, [q1p x0, q1p x1, q1p x2], rfl, rfl, SqL.of hd, x0w (L := 4001) (n := 3) h3 (by show 3 ≤ 3; decide) (by decide), _, _, rfl, rfl, ?_, _, _, rfl, rfl, ?_, ?_⟩
  ·rw [q0d, e1', sizeLine_eq]
   show _ + 1 + (J [q1p x0, q1p x1, q1p x2]).length ≤ _
   omega
  ·rw [q0d, q0d, e1', sizeLine_eq]
   show _ + 1 + (J [q1p x0, q1p x1, q1p x2]).length + 1 ≤ _
   omega
  have hW0 : ((W ++ " " ++ J [q1p x0, q1p x1, q1p x2]) ++ " ").length ≤ 13000 := by
   rw [q0d, q0d, q0d, e1']
   omega
  exact q H2 s2 hW0
 have hb : q2n q2q d = true := (Bool.and_eq_true _ _ |>.mp hp).1
 have hwid := (I.mono hB (q0y.refl _)).wid
 have hok := x1h (B := 200) (by decide) d hb hwid
 cases x3m hb with
 | ask x0 x1 x2 x3 x4 =>
  cases I with
  | @tup a xs _ ea l r =>
  obtain ⟨w0, _, rfl, z0, rr0⟩ := IsL.un r
  obtain rfl := Is.vstr z0
  obtain ⟨w1, _, rfl, z1, rr1⟩ := IsL.un rr0
  obtain rfl := Is.vint z1
  obtain ⟨w2, _, rfl, z2, rr2⟩ := IsL.un rr1
  obtain rfl := Is.vint z2
  obtain ⟨w3, _, rfl, z3, rr3⟩ := IsL.un rr2
  obtain rfl := Is.vint z3
  obtain ⟨w4, _, rfl, z4, rr4⟩ := IsL.un rr3
  obtain rfl := Is.vint z4
  obtain ⟨w5, _, rfl, z5, rr5⟩ := IsL.un rr4
  obtain rfl := Is.vint z5
  obtain rfl := IsL.un0 rr5
  simp only [q1g, smallL, Bool.true_and, Bool.and_true, Bool.and_eq_true, decide_eq_true_eq] at hs
  obtain ⟨m0, m1, m2, m3, m4⟩ := hs
  have e1' : (" " : Str).length = 1 := rfl
  refine ⟨a, "ask", x0, x1, x2, _, rfl, ea, by decide +kernel, m0, m1, m2, by rfl, fun H2 s2 hW0 => ?_⟩
  refine ⟨_, rfl, a, _, _, .str "ask", rfl, rfl, SqT.of (s2 _ _ ea), q0m (j := 0) rfl, rfl, _, rfl, ?_⟩
  rw [(show decide (V.str ("ask" : Str) = V.str ("ask" : Str)) = true from by decide +kernel)]
  have f3 := q1e (n := x3) (k := 4000) (by decide) m3
  have f4 := q1e (n := x4) (k := 4000) (by decide) m4
  refine q1f ⟨_, rfl, _, rfl, a, _, _, .int x3, rfl, rfl, SqT.of (s2 _ _ ea), q0m (j := 4) rfl, x3, rfl, m3, _, _, rfl, rfl, ?_, _, _, rfl, rfl, ?_, _, rfl, a, _, _, .int x4, rfl, rfl, SqT.of (s2 _ _ ea), q0m (j := 5) rfl, x4, rfl, m4, _, _, rfl, rfl, ?_, ?_⟩
  ·refine Nat.le_trans (Nat.add_le_add hW0 f3) ?_
   rw [sizeLine_eq]; decide
  ·rw [q0d, e1']
   refine Nat.le_trans (Nat.add_le_add_right (Nat.add_le_add hW0 f3) 1) ?_
   rw [sizeLine_eq]; decide
  ·rw [q0d, q0d, e1']
   refine Nat.le_trans (Nat.add_le_add (Nat.add_le_add_right (Nat.add_le_add hW0 f3) 1) f4) ?_
   rw [sizeLine_eq]; decide
  ·have q' := q H2 s2
   rw [show q1j (.tup [.str "ask", .int x0, .int x1, .int x2, .int x3, .int x4]) = [("ask" : Str), q1p x0, q1p x1, q1p x2, q1p x3, q1p x4] from rfl] at q'
   rw [← j9n] at q'
   exact q'
 | voice x0 x1 x2 x3 =>
  cases I with
  | @tup a xs _ ea l r =>
  obtain ⟨w0, _, rfl, z0, rr0⟩ := IsL.un r
  obtain rfl := Is.vstr z0
  obtain ⟨w1, _, rfl, z1, rr1⟩ := IsL.un rr0
  obtain rfl := Is.vint z1
  obtain ⟨w2, _, rfl, z2, rr2⟩ := IsL.un rr1
  obtain rfl := Is.vint z2
  obtain ⟨w3, _, rfl, z3, rr3⟩ := IsL.un rr2
  obtain rfl := Is.vint z3
  obtain ⟨w4, _, rfl, z4, rr4⟩ := IsL.un rr3
  obtain rfl := Is.vbl z4
  obtain rfl := IsL.un0 rr4
  simp only [q1g, smallL, Bool.true_and, Bool.and_true, Bool.and_eq_true, decide_eq_true_eq] at hs
  obtain ⟨m0, m1, m2⟩ := hs
  have e1' : (" " : Str).length = 1 := rfl
  refine ⟨a, "voice", x0, x1, x2, _, rfl, ea, by decide +kernel, m0, m1, m2, by rfl, fun H2 s2 hW0 => ?_⟩
  refine ⟨_, rfl, a, _, _, .str "voice", rfl, rfl, SqT.of (s2 _ _ ea), q0m (j := 0) rfl, rfl, _, rfl, ?_⟩
  rw [(show decide (V.str ("voice" : Str) = V.str ("ask" : Str)) = false from by decide +kernel)]
  refine q1a ⟨_, rfl, a, _, _, .str "voice", rfl, rfl, SqT.of (s2 _ _ ea), q0m (j := 0) rfl, rfl, _, rfl, ?_⟩
  rw [(show decide (V.str ("voice" : Str) = V.str ("voice" : Str)) = true from by decide +kernel)]
  refine q1f ⟨_, rfl, q3c (by show 2 ≤ 1000; decide), fun py hpy => ?_⟩
  have s3 := q0h (o := HO.lst [V.str "no", V.str "yes"]) hpy
  have s23 := s2.trans s3
  have hyn : atI [V.str "no", V.str "yes"] (if x3 then 1 else 0) = some (V.str (if x3 then "yes" else "no")) := by cases x3 <;> rfl
  have lyn : ((if x3 then "yes" else "no" : Str)).length ≤ 3 := by cases x3 <;> decide +kernel
  refine ⟨_, rfl, a, _, _, .bl x3, rfl, rfl, SqT.of (s23 _ _ ea), q0m (j := 4) rfl, .inr ⟨x3, rfl, py, _, _, _, rfl, rfl, SqL.of q0e, hyn, _, _, rfl, rfl, ?_, ?_⟩⟩
  ·refine Nat.le_trans (Nat.add_le_add hW0 lyn) ?_
   rw [sizeLine_eq]; decide
  ·have q' := q _ s23
   rw [show q1j (.tup [.str "voice", .int x0, .int x1, .int x2, .bl x3]) = [("voice" : Str), q1p x0, q1p x1, q1p x2, if x3 then "yes" else "no"] from rfl] at q'
   rw [← w0x] at q'
   exact q'
 | held x0 x1 x2 x3 x4 =>
  cases I with
  | @tup a xs _ ea l r =>
  obtain ⟨w0, _, rfl, z0, rr0⟩ := IsL.un r
  obtain rfl := Is.vstr z0
  obtain ⟨w1, _, rfl, z1, rr1⟩ := IsL.un rr0
  obtain rfl := Is.vint z1
  obtain ⟨w2, _, rfl, z2, rr2⟩ := IsL.un rr1
  obtain rfl := Is.vint z2
  obtain ⟨w3, _, rfl, z3, rr3⟩ := IsL.un rr2
  obtain rfl := Is.vint z3
  obtain ⟨w4, _, rfl, z4, rr4⟩ := IsL.un rr3
  obtain rfl := Is.vbl z4
  obtain ⟨w5, _, rfl, z5, rr5⟩ := IsL.un rr4
  obtain rfl := Is.vint z5
  obtain rfl := IsL.un0 rr5
  simp only [q1g, smallL, Bool.true_and, Bool.and_true, Bool.and_eq_true, decide_eq_true_eq] at hs
  obtain ⟨m0, m1, m2, m4⟩ := hs
  have e1' : (" " : Str).length = 1 := rfl
  refine ⟨a, "held", x0, x1, x2, _, rfl, ea, by decide +kernel, m0, m1, m2, by rfl, fun H2 s2 hW0 => ?_⟩
  refine ⟨_, rfl, a, _, _, .str "held", rfl, rfl, SqT.of (s2 _ _ ea), q0m (j := 0) rfl, rfl, _, rfl, ?_⟩
  rw [(show decide (V.str ("held" : Str) = V.str ("ask" : Str)) = false from by decide +kernel)]
  refine q1a ⟨_, rfl, a, _, _, .str "held", rfl, rfl, SqT.of (s2 _ _ ea), q0m (j := 0) rfl, rfl, _, rfl, ?_⟩
  rw [(show decide (V.str ("held" : Str) = V.str ("voice" : Str)) = false from by decide +kernel)]
  refine q1a ⟨_, rfl, a, _, _, .str "held", rfl, rfl, SqT.of (s2 _ _ ea), q0m (j := 0) rfl, rfl, _, rfl, ?_⟩
  rw [(show decide (V.str ("held" : Str) = V.str ("held" : Str)) = true from by decide +kernel)]
  have f4 := q1e (n := x4) (k := 4000) (by decide) m4
  refine q1f ⟨_, rfl, q3c (by show 2 ≤ 1000; decide), fun py hpy => ?_⟩
  have s3 := q0h (o := HO.lst [V.str "no", V.str "yes"]) hpy
  have s23 := s2.trans s3
  have hyn : atI [V.str "no", V.str "yes"] (if x3 then 1 else 0) = some (V.str (if x3 then "yes" else "no")) := by cases x3 <;> rfl
  have lyn : ((if x3 then "yes" else "no" : Str)).length ≤ 3 := by cases x3 <;> decide +kernel
  refine ⟨_, rfl, a, _, _, .bl x3, rfl, rfl, SqT.of (s23 _ _ ea), q0m (j := 4) rfl, .inr ⟨x3, rfl, py, _, _, _, rfl, rfl, SqL.of q0e, hyn, _, _, rfl, rfl, ?_, _, _, rfl, rfl, ?_, _, rfl, a, _, _, .int x4, rfl, rfl, SqT.of (s23 _ _ ea), q0m (j := 5) rfl, x4, rfl, m4, _, _, rfl, rfl, ?_, ?_⟩⟩
  ·refine Nat.le_trans (Nat.add_le_add hW0 lyn) ?_
   rw [sizeLine_eq]; decide
  ·rw [q0d, e1']
   refine Nat.le_trans (Nat.add_le_add_right (Nat.add_le_add hW0 lyn) 1) ?_
   rw [sizeLine_eq]; decide
  ·rw [q0d, q0d, e1']
   refine Nat.le_trans (Nat.add_le_add (Nat.add_le_add_right (Nat.add_le_add hW0 lyn) 1) f4) ?_
   rw [sizeLine_eq]; decide
  ·have q' := q _ s23
   rw [show q1j (.tup [.str "held", .int x0, .int x1, .int x2, .bl x3, .int x4]) = [("held" : Str), q1p x0, q1p x1, q1p x2, if x3 then "yes" else "no", q1p x4] from rfl] at q'
   rw [← j9n] at q'
   exact q'
 | pack x0 x1 x2 x3 hpk =>
  cases I with
  | @tup a xs _ ea l r =>
  obtain ⟨w0, _, rfl, z0, rr0⟩ := IsL.un r
  obtain rfl := Is.vstr z0
  obtain ⟨w1, _, rfl, z1, rr1⟩ := IsL.un rr0
  obtain rfl := Is.vint z1
  obtain ⟨w2, _, rfl, z2, rr2⟩ := IsL.un rr1
  obtain rfl := Is.vint z2
  obtain ⟨w3, _, rfl, z3, rr3⟩ := IsL.un rr2
  obtain rfl := Is.vint z3
  obtain ⟨vk, _, rfl, ik, rr4⟩ := IsL.un rr3
  obtain rfl := IsL.un0 rr4
  simp only [q1g, smallL, Bool.true_and, Bool.and_true, Bool.and_eq_true, decide_eq_true_eq] at hs
  obtain ⟨m0, m1, m2, m3⟩ := hs
  have e1' : (" " : Str).length = 1 := rfl
  refine ⟨a, "pack", x0, x1, x2, _, rfl, ea, by decide +kernel, m0, m1, m2, by rfl, fun H2 s2 hW0 => ?_⟩
  obtain ⟨pp, ll, sd, st, rfl, hsd, hst⟩ := z3t hpk
  clear hpk
  simp only [q1g, smallL, Bool.true_and, Bool.and_true, Bool.and_eq_true, decide_eq_true_eq] at m3
  obtain ⟨m3, m4, m5, m6⟩ := m3
  cases ik with
  | @tup ak ks _ ek lk rk =>
  obtain ⟨w0, _, rfl, z0, rr0⟩ := IsL.un rk
  obtain rfl := Is.vint z0
  obtain ⟨w1, _, rfl, z1, rr1⟩ := IsL.un rr0
  obtain rfl := Is.vint z1
  obtain ⟨vsd, _, rfl, isd, rr2⟩ := IsL.un rr1
  obtain ⟨vst, _, rfl, ist, rr3⟩ := IsL.un rr2
  obtain rfl := IsL.un0 rr3
  refine ⟨_, rfl, a, _, _, .str "pack", rfl, rfl, SqT.of (s2 _ _ ea), q0m (j := 0) rfl, rfl, _, rfl, ?_⟩
  rw [(show decide (V.str ("pack" : Str) = V.str ("ask" : Str)) = false from by decide +kernel)]
  refine q1a ⟨_, rfl, a, _, _, .str "pack", rfl, rfl, SqT.of (s2 _ _ ea), q0m (j := 0) rfl, rfl, _, rfl, ?_⟩
  rw [(show decide (V.str ("pack" : Str) = V.str ("voice" : Str)) = false from by decide +kernel)]
  refine q1a ⟨_, rfl, a, _, _, .str "pack", rfl, rfl, SqT.of (s2 _ _ ea), q0m (j := 0) rfl, rfl, _, rfl, ?_⟩
  rw [(show decide (V.str ("pack" : Str) = V.str ("held" : Str)) = false from by decide +kernel)]
  refine q1a ⟨_, rfl, a, _, _, .str "pack", rfl, rfl, SqT.of (s2 _ _ ea), q0m (j := 0) rfl, rfl, _, rfl, ?_⟩
  rw [(show decide (V.str ("pack" : Str) = V.str ("pack" : Str)) = true from by decide +kernel)]
  have f3 := q1e (n := pp) (k := 4000) (by decide) m3
  have f4 := q1e (n := ll) (k := 4000) (by decide) m4
  have gs := (q6u (B := 200) sd hsd (isd.mono hB (q0y.refl _)).wid).text (by rw [smallL, m5]; rfl)
  have gt := (x2n (B := 200) (by decide) st hst (ist.mono hB (q0y.refl _)).wid).text (by rw [smallL, m6]; rfl)
  have hW1 : ((((("pack" : Str) ++ " " ++ J [q1p x0, q1p x1, q1p x2]) ++ " ") ++ q1p pp ++ " ") ++ q1p ll).length ≤ 22000 := by
   rw [q0d, q0d, q0d, e1']
   exact Nat.le_trans (Nat.add_le_add (Nat.add_le_add_right (Nat.add_le_add hW0 f3) 1) f4) (by decide)
  refine q1f ⟨_, rfl, a, _, _, .ref ak, rfl, rfl, SqT.of (s2 _ _ ea), q0m (j := 4) rfl, ak, _, rfl, SqT.of (s2 _ _ ek), rfl, _, _, rfl, _, _, rfl, _, _, rfl, _, _, rfl, rfl, ?_⟩
  refine ⟨_, rfl, _, rfl, pp, rfl, m3, _, _, rfl, rfl, ?_, _, _, rfl, rfl, ?_, _, rfl, ll, rfl, m4, _, _, rfl, rfl, ?_, ?_⟩
  ·exact Nat.le_trans (Nat.add_le_add hW0 f3) (by rw [sizeLine_eq]; decide)
  ·rw [q0d, e1']
   exact Nat.le_trans (Nat.add_le_add_right (Nat.add_le_add hW0 f3) 1) (by rw [sizeLine_eq]; decide)
  ·rw [q0d, q0d, e1']
   exact Nat.le_trans (Nat.add_le_add (Nat.add_le_add_right (Nat.add_le_add hW0 f3) 1) f4) (by rw [sizeLine_eq]; decide)
  refine ⟨_, rfl, _, _, rfl, rfl, ?_, _, rfl, B, vsd, sd, hB, rfl, isd.same s2, hsd, m5, fun H3 s3 => ⟨_, _, rfl, rfl, ?_, _, _, rfl, rfl, ?_, _, rfl, B, vst, st, hB, rfl, ist.same (s2.trans s3), hst, m6, fun H4 s4 => ⟨_, _, rfl, rfl, ?_, ?_⟩⟩⟩
  ·rw [e1']
   exact Nat.le_trans (Nat.add_le_add_right hW1 1) (by rw [sizeLine_eq]; decide)
  ·rw [q0d, e1']
   exact Nat.le_trans (Nat.add_le_add (Nat.add_le_add_right hW1 1) gs) (by rw [sizeLine_eq]; decide)
  ·rw [q0d, q0d, e1']
   exact Nat.le_trans (Nat.add_le_add_right (Nat.add_le_add (Nat.add_le_add_right hW1 1) gs) 1) (by rw [sizeLine_eq]; decide)
  ·rw [q0d, q0d, q0d, e1']
   exact Nat.le_trans (Nat.add_le_add (Nat.add_le_add_right (Nat.add_le_add (Nat.add_le_add_right hW1 1) gs) 1) gt) (by rw [sizeLine_eq]; decide)
  ·have q' := q H4 ((s2.trans s3).trans s4)
   have ew : q1j (.tup [.str "pack", .int x0, .int x1, .int x2, .tup [.int pp, .int ll, sd, st]]) = ([("pack" : Str), q1p x0, q1p x1, q1p x2, q1p pp, q1p ll] ++ q3u sd) ++ q7v st := by
    show ("pack" : Str) :: q1p x0 :: q1p x1 :: q1p x2 :: ((q1p pp :: q1p ll :: (q3u sd ++ (q7v st ++ []))) ++ []) = _
    simp only [List.append_nil, List.append_assoc, List.cons_append, List.nil_append]
   rw [ew, ← w2b _ _ _ _ _ _ (x7l hsd) (z8c hst)] at q'
   exact q'
 | hand x0 x1 x2 x3 x4 x5 x6 h5 =>
  cases I with
  | @tup a xs _ ea l r =>
  cases r with | cons i0 r =>
  cases r with | cons i1 r =>
  cases r with | cons i2 r =>
  cases r with | cons i3 r =>
  cases r with | cons i4 r =>
  cases r with | cons i5 r =>
  cases r with | cons i6 r =>
  cases r with | cons i7 r =>
  cases r
  cases i0
  cases i1
  cases i2
  cases i3
  cases i4
  cases i5
  cases i7
  have ie := i6
  clear i6
  simp only [q1g, smallL, Bool.true_and, Bool.and_true, Bool.and_eq_true, decide_eq_true_eq] at hs
  obtain ⟨m0, m1, m2, m3, m4, m5, m6⟩ := hs
  have e1' : (" " : Str).length = 1 := rfl
  refine ⟨a, "hand", x0, x1, x2, _, rfl, ea, by decide +kernel, m0, m1, m2, by rfl, fun H2 s2 hW0 => ?_⟩
  obtain ⟨es, rfl, hes⟩ := x1r h5
  have hel : es.length ≤ 5 := of_decide_eq_true (Bool.and_eq_true _ _ |>.mp h5).2
  clear h5
  cases ie with
  | @tup av ys _ ev lv rv =>
  have hyl : ys.length = es.length := rv.length
  refine ⟨_, rfl, a, _, _, .str "hand", rfl, rfl, SqT.of (s2 _ _ ea), q0m (j := 0) rfl, rfl, _, rfl, ?_⟩
  rw [(show decide (V.str ("hand" : Str) = V.str ("ask" : Str)) = false from by decide +kernel)]
  refine q1a ⟨_, rfl, a, _, _, .str "hand", rfl, rfl, SqT.of (s2 _ _ ea), q0m (j := 0) rfl, rfl, _, rfl, ?_⟩
  rw [(show decide (V.str ("hand" : Str) = V.str ("voice" : Str)) = false from by decide +kernel)]
  refine q1a ⟨_, rfl, a, _, _, .str "hand", rfl, rfl, SqT.of (s2 _ _ ea), q0m (j := 0) rfl, rfl, _, rfl, ?_⟩
  rw [(show decide (V.str ("hand" : Str) = V.str ("held" : Str)) = false from by decide +kernel)]
  refine q1a ⟨_, rfl, a, _, _, .str "hand", rfl, rfl, SqT.of (s2 _ _ ea), q0m (j := 0) rfl, rfl, _, rfl, ?_⟩
  rw [(show decide (V.str ("hand" : Str) = V.str ("pack" : Str)) = false from by decide +kernel)]
  refine q1a ⟨_, rfl, a, _, _, .int x3, rfl, rfl, SqT.of (s2 _ _ ea), q0m (j := 4) rfl, _, rfl, a, _, _, .int x4, rfl, rfl, SqT.of (s2 _ _ ea), q0m (j := 5) rfl, _, rfl, a, _, _, .int x6, rfl, rfl, SqT.of (s2 _ _ ea), q0m (j := 7) rfl, _, rfl, a, _, _, .ref av, rfl, rfl, SqT.of (s2 _ _ ea), q0m (j := 6) rfl, av, _, rfl, .inr (SqT.of (s2 _ _ ev)), q3c (by show 4 ≤ 1000; decide), fun p2 hp2 => ?_⟩
  have s3 := q0h (o := HO.tup [V.int x3, V.int x4, V.int x6, V.int (ys.length : Nat)]) hp2
  have s23 := s2.trans s3
  have hlen4 : ((ys.length : Int)).natAbs < 10 ^ 4000 := by
   have h5' : (10 : Nat) ^ 1 ≤ 10 ^ 4000 := Nat.pow_le_pow_right (by decide) (by decide)
   rw [Int.natAbs_natCast]
   exact Nat.lt_of_lt_of_le (by omega) h5'
  have hT2 : SqT K (upd H2 p2 (HO.tup [V.int x3, V.int x4, V.int x6, V.int (ys.length : Nat)])) p2 ([x3, x4, x6, (ys.length : Int)].map V.int) := SqT.of q0e
  refine ⟨_, rfl, p2, rfl, ⟨_, hT2⟩, x6c (K := K) (ms := [x3, x4, x6, (ys.length : Int)]) hT2 (by show 4 ≤ 1000; decide) (fun _ => true) (fun n => V.str (q1p n)) ?_ ?_⟩
  ·intro i hi t' H3 R s3 ht' hR
   obtain ⟨t0, rfl⟩ := q4v ht'
   have hb : (([x3, x4, x6, (ys.length : Int)] : List Int)[i]).natAbs < 10 ^ 4000 := by
    have hm := List.getElem_mem hi
    simp only [List.mem_cons, List.not_mem_nil, or_false] at hm
    rcases hm with e | e | e | e <;> rw [e] <;> assumption
   exact ⟨_, rfl, _, rfl, hb, hR [some _] H3 rfl (q0y.refl _)⟩
  intro D2 H4 s4 hD2 hd2
  have sA := s23.trans s4
  have hTv : SqT K H4 av ys := SqT.of (sA _ _ ev)
  have hsm := q2w.mp (show smallL 4000 es = true from m5)
  refine ⟨_, rfl, rfl, _, rfl, _, rfl, a, _, _, .ref av, rfl, rfl, SqT.of (sA _ _ ea), q0m (j := 6) rfl, av, rfl, ⟨_, hTv⟩, j3r (K := K) hTv (rv.same sA) (by omega) (fun d => V.str (J (q3j d))) ?_ ?_⟩
  ·intro v d hd' I' t' H5 R s5 ht' hR
   obtain ⟨t0, rfl⟩ := q4v ht'
   exact ⟨_, rfl, B, v, d, hB, rfl, I'.same s5, List.all_eq_true.mp hes d hd', hsm d hd', fun H6 s6 => hR [some _] H6 rfl s6⟩
  intro D3 H5 s5 hD3 hd3
  have sB := sA.trans s5
  have hx : ∀ d ∈ es, (J (q3j d)).length ≤ 100000 ∧ q3j d ≠ [] := by
   intro d hd'
   obtain ⟨i, hi⟩ := List.getElem?_of_mem hd'
   have hiy : i < ys.length := by
    have := (List.getElem?_eq_some_iff.mp hi).1
    omega
   obtain ⟨d2, hd2', I2⟩ := rv.get (List.getElem?_eq_getElem hiy)
   rw [hi] at hd2'
   cases hd2'
   exact z2q hB I2 (List.all_eq_true.mp hes d hd') (hsm d hd')
  have hJw : ∀ y ∈ ([x3, x4, x6, (ys.length : Int)].map q1p) ++ es.map (fun d => J (q3j d)), y.length ≤ 100000 := by
   intro y hy
   rcases List.mem_append.mp hy with hy | hy
   ·obtain ⟨n, hn, rfl⟩ := List.mem_map.mp hy
    refine Nat.le_trans (q1e (n := n) (k := 4000) (by decide) ?_) (by decide)
    simp only [List.mem_cons, List.not_mem_nil, or_false] at hn
    rcases hn with e | e | e | e <;> rw [e] <;> assumption
   ·obtain ⟨d, hd', rfl⟩ := List.mem_map.mp hy
    exact (hx d hd').1
  have hJl : (([x3, x4, x6, (ys.length : Int)].map q1p) ++ es.map (fun d => J (q3j d))).length ≤ 9 := by
   rw [List.length_append, List.length_map, List.length_map]
   show 4 + es.length ≤ 9
   omega
  refine ⟨D2, D3, [x3, x4, x6, (ys.length : Int)].map fun n => V.str (q1p n), es.map fun d => V.str (J (q3j d)), rfl, rfl, (s5 _ _ hd2).trans (by rw [List.filter_eq_self.mpr (fun _ _ => rfl)]), hd3, q3c (by rw [List.length_map, List.length_map]; show 4 + es.length ≤ 1000; omega), fun p6 hp6 => ?_⟩
  have s6 := q0h (H := H5) (p := p6) (o := HO.lst (([x3, x4, x6, (ys.length : Int)].map fun n => V.str (q1p n)) ++ es.map fun d => V.str (J (q3j d)))) hp6
  refine ⟨" ", p6, ([x3, x4, x6, (ys.length : Int)].map q1p) ++ es.map (fun d => J (q3j d)), rfl, rfl, SqL.of (q0e.trans (by rw [List.map_append, List.map_map, List.map_map]; rfl)), x0w (L := 100000) (n := 9) hJw hJl (by decide), _, _, rfl, rfl, ?_, ?_⟩
  ·refine Nat.le_trans (Nat.add_le_add hW0 (Nat.le_trans (z0p hJw) (Nat.mul_le_mul_right _ hJl))) ?_
   rw [sizeLine_eq]; decide
  ·have q' := q _ (sB.trans s6)
   have ew : q1j (.tup [.str "hand", .int x0, .int x1, .int x2, .int x3, .int x4, .tup es, .int x6]) = [("hand" : Str), q1p x0, q1p x1, q1p x2] ++ (([x3, x4, x6, (ys.length : Int)].map q1p) ++ es.flatMap q3j) := by
    show ("hand" : Str) :: q1p x0 :: q1p x1 :: q1p x2 :: q1p x3 :: q1p x4 :: q1p x6 :: ((q1p (es.length : Int) :: es.flatMap q3j) ++ []) = _
    rw [List.append_nil, hyl]
    rfl
   rw [ew, w2u _ _ _ _ (by simp), ← z5f (by simp) (fun d hd' => (hx d hd').2)] at q'
   exact q'
 | wish x0 x1 x2 x3 h0 h3 =>
  have hp2 : (["ask", "voice", "hand", "pack", "held"] : List Str).contains ("wish" : Str) = true := (Bool.and_eq_true _ _ |>.mp hp).2
  exact absurd hp2 (by decide +kernel)
 | told x0 x1 x2 x3 h1 =>
  have hp2 : (["ask", "voice", "hand", "pack", "held"] : List Str).contains ("told" : Str) = true := (Bool.and_eq_true _ _ |>.mp hp).2
  exact absurd hp2 (by decide +kernel)
 | away x0 x1 x2 x3 h1 h3 =>
  have hp2 : (["ask", "voice", "hand", "pack", "held"] : List Str).contains ("away" : Str) = true := (Bool.and_eq_true _ _ |>.mp hp).2
  exact absurd hp2 (by decide +kernel)
noncomputable def x0i : Sp := fun vs H Q _ => ∃ B v d l, B ≤ 1000 ∧ vs = [v, .int l] ∧ Is B H v d ∧ ∀ H', q0y H H' → Q (.bl (geD l d)) H'
theorem scF : FnScope ["_law_thing", "_law_least"] ["_law_thing", "_law_least"] (q0f j4w) := fSc
theorem j2v {f : Addr} {fd : FuncData} (F : Fun K "_law_from" "_law_from" j4w f fd) (T : Txt mg) : FnOk P w K mg base CX0 1 f fd ["_law_thing", "_law_least"] x0i := by
 refine F.ok scF (fun vs H Q E ⟨_, _, _, _, _, e, _⟩ => by subst e; rfl) (fun cdv A outer s H vs Q E hr h => ?_)
 obtain ⟨B, v, d, l, hB, rfl, I, k⟩ := h
 refine ⟨_, q0p (q0k (q1x (q0n q2a rfl T.isi q1s (q0c (pv 0) (q0c (q4z rfl T.int q9c) q0b)))
  (q1x (z0y (q0n q2a rfl T.isi q1s (q0c (pv 0) (q0c (q4z rfl T.bool q6c) q0b)))) (q2i (q1z z3z (pv 0) (pv 1) (q0q _)))))), ?_⟩
 refine ⟨_, rfl, _, _, _, _, rfl, I.ty, q8w K d, _, rfl, ?_⟩
 have k0 := k H (q0y.refl _)
 cases d with
 | int i =>
  refine q1f ⟨_, rfl, _, _, _, _, rfl, I.ty, q5r K _, _, rfl, _, rfl, q1f ?_⟩
  cases I
  exact ⟨_, rfl, _, rfl, _, _, rfl, rfl, k0⟩
 | bl b => exact q1f ⟨_, rfl, _, _, _, _, rfl, I.ty, q5r K _, _, rfl, _, rfl, q1a k0⟩
 | non => exact q1a k0
 | str _ => exact q1a k0
 | tup _ => exact q1a k0
 | lst _ => exact q1a k0
theorem w1a : FnScope ["_law_thing"] ["_law_thing"] (q0f z1i) := fSc
theorem z2t (l : Array Nat) (p : Nat → Bool) : (((List.range l.size).filter fun i => p (l.getD i 0)).map fun i => V.str ⟨#[l.getD i 0]⟩) = (l.toList.filter p).map fun c => V.str ⟨#[c]⟩ := by
 have e : l.toList = (List.range l.size).map fun i => l.getD i 0 := by
  apply List.ext_getElem?
  intro i
  by_cases hi : i < l.size
  ·simp [hi]
  ·rw [List.getElem?_eq_none (by simpa using hi), List.getElem?_eq_none (by simpa using hi)]
 conv => rhs; rw [e]
 rw [List.filter_map, List.map_map]
 rfl
theorem j0s (xs : List V) : z8s xs [] = xs.isEmpty := by cases xs <;> rfl
theorem z2z (l : List Nat) : (l.map fun c => V.str ⟨#[c]⟩).all x4h = true := by
 rw [List.all_eq_true]
 intro x hx
 obtain ⟨c, _, rfl⟩ := List.mem_map.mp hx
 rfl
theorem j0j {f : Addr} {fd : FuncData} (F : Fun K "_law_name" "_law_name" z1i f fd) (T : Txt mg) : FnOk P w K mg base CX0 1 f fd ["_law_thing"] (spP q1y) := by
 refine F.ok w1a q2d (fun cdv A outer s H vs Q E hr h => ?_)
 obtain ⟨B, v, d, hB, rfl, I, k⟩ := h
 refine ⟨_, q1c (q1w (PW.pt (q6t (q3a (q2l (q0n q2a rfl T.isi q1s (q0c (pv 0) (q0c (q4z rfl T.str x0p) q0b))))) (q6t (q0s q2c (pv 0) q0r (q0q _)) (q7t (q0s z0l (q0n q3n rfl T.len PySem.boot_len (q0c (pv 0) q0b)) q0a (q0q _)))))) (q0p (q0k q7e)) q0t)
  (q0p (q0k (q1z (j1n hr.units0) (q3g (NB := ["_law_sign"]) (n := 1) (fr := []) (q5h (outer := q0f z1i) rfl (by decide +kernel) rfl) rfl (j1z (pv 0))
   (fun _ _ _ _ _ => q1h (i := 0) (show (["_law_sign"] : List Str).Nodup by decide +kernel) rfl (Or.inl rfl)) (fun _ _ _ _ _ => x2f (q0s x5t (z7l (K := K) rfl PySem.F.plainAttrs_str PySem.F.slot_str_find PySem.F.type_str_find j3z q0r (q0c (pv 0) q0b)) q0a (q0q _))) (fun _ _ _ _ _ => pv 0)) (q4o q0b) (q0q _)))), ?_⟩
 refine ⟨_, rfl, _, _, _, _, rfl, I.ty, x3a K d, _, rfl, ?_⟩
 cases d with
 | str x =>
  cases I with
  | str _ hx =>
  have k1 : ∀ H', q0y H H' → Q (.bl (if x = "" ∨ 8 < x.length then false else (x.cps.toList.filter fun c => !q9i c).isEmpty)) H' := k
  refine q1a ⟨_, rfl, rfl, _, rfl, ?_⟩
  by_cases hE : x = ""
  ·have k2 := k1 H (q0y.refl _)
   rw [if_pos (.inl hE)] at k2
   rw [decide_eq_true (show V.str x = V.str "" by rw [hE])]
   exact q1f (q1f k2)
  ·rw [decide_eq_false (show ¬ V.str x = V.str "" from fun z => hE (V.str.inj z))]
   refine q1a ⟨_, rfl, x, rfl, j1v hx hB, _, _, rfl, rfl, _, rfl, ?_⟩
   by_cases h8 : 8 < x.length
   ·have k2 := k1 H (q0y.refl _)
    rw [if_pos (.inr h8)] at k2
    rw [decide_eq_true (show (8 : Int) < (x.length : Int) by omega)]
    exact q1f k2
   ·rw [decide_eq_false (show ¬ (8 : Int) < (x.length : Int) by omega)]
    refine q1a ⟨_, rfl, x, rfl, q3d (J := Its x) (k := 1) (n := x.cps.size) (fun i => !q9i (x.cps.getD i 0)) (fun i => .str ⟨#[x.cps.getD i 0]⟩) (show x.cps.size < sizeLine by rw [sizeLine_eq]; have : x.cps.size = x.length := rfl; omega) (fun i H hi _ => hi) (fun H _ => rfl) ?_ ?_⟩
    ·intro i H2 t v H3 R hi s1 ht y hR
     obtain ⟨rfl, c, hc, rfl⟩ := y
     have ht' : ∃ t0, t = [t0] := by
      match t, ht with
      | [t0], _ => exact ⟨t0, rfl⟩
     obtain ⟨t0, rfl⟩ := ht'
     have ec : x.cps.getD i 0 = c := by rw [Array.getD_eq_getD_getElem?, hc]; rfl
     have hR' := hR [some (.str ⟨#[c]⟩)] H3 rfl (q0y.refl _)
     rw [ec] at hR'
     refine ⟨rfl, _, rfl, abc, _, rfl, rfl, _, _, rfl, rfl, _, rfl, ?_⟩
     cases hl : q9i c with
     | true =>
      rw [decide_eq_false (fun z => by have := (z2k c).mp z; rw [hl] at this; cases this)]
      rw [hl] at hR'
      exact q1a hR'
     | false =>
      rw [decide_eq_true ((z2k c).mpr hl)]
      rw [hl] at hR'
      exact q1f ⟨_, rfl, hR'⟩
    ·intro D H' s1 hD hd
     rw [z2t x.cps (fun c => !q9i c)] at hd
     refine ⟨by simp [sizeLine_eq], fun p hp => ⟨D, p, _, [], rfl, rfl, SqL.of (q0h hp _ _ hd), SqL.of q0e, z2z _, rfl, ?_⟩⟩
     have k2 := k1 _ (s1.trans (q0h (o := .lst []) hp))
     rw [if_neg (by rintro (z | z); exact hE z; exact h8 z)] at k2
     rw [j0s, List.isEmpty_map]
     exact k2
 | non => exact q1f (q1f (k H (q0y.refl _)))
 | bl _ => exact q1f (q1f (k H (q0y.refl _)))
 | int _ => exact q1f (q1f (k H (q0y.refl _)))
 | tup _ => exact q1f (q1f (k H (q0y.refl _)))
 | lst _ => exact q1f (q1f (k H (q0y.refl _)))
theorem j7w : FnScope ["_law_thing", "_law_least", "_law_one"] ["_law_thing"] (q0f x9j) := fSc
theorem j6a {l : Int} {d : D} {r : List D} (h : geD l d = false) : goL (d :: r) l = false := by
 cases d with
 | int i =>
  have h' : decide (l ≤ i) = false := h
  show ((decide (l ≤ i) && decide (i ≤ 8)) && goL r (i + 1)) = false
  rw [h']; rfl
 | _ => rfl
theorem z5h {f : Addr} {fd : FuncData} (F : Fun K "_law_seats" "_law_seats" x9j f fd) (T : Txt mg) (CF : Cal P w K mg base "_law_from" 1 ["_law_thing", "_law_least"] x0i) : FnOk P w K mg base CX0 2 f fd ["_law_thing"] (spP q3y) := by
 refine F.ok j7w q2d (fun cdv A outer s H vs Q E hr h => ?_)
 obtain ⟨B, v, d, hB, rfl, I, k⟩ := h
 refine ⟨_, q1c (q1w (PW.pt (q6t (q3a (q2l (q0n q2a rfl T.isi q1s (q0c (pv 0) (q0c (q4z rfl T.tuple q2p) q0b))))) (q7t (q0s q2c (q0n q0w rfl T.len PySem.boot_len (q0c (pv 0) q0b)) q0a (q0q _))))) (q0p (q0k q7e)) q0t)
  (q1c (q1b (i := 1) j7w.nd rfl (Or.inl rfl) q0a)
  (q1c (x5n PassesOwn.never rfl (q7u (pv 0)) (q1h (i := 2) j7w.nd rfl (Or.inl rfl))
   (q1c (q1w (PW.pt (q6t (q3a (q2l (q0i CF hr (q0c (pv 2) (q0c (pv 1) q0b))))) (q7t (q0s z0l (pv 2) q0a (q0q _))))) (q0p (q0k q7e)) q0t)
   (q0p (q1b (i := 1) j7w.nd rfl (Or.inl rfl) (q0j q1r (pv 2) q0a)))))
  (q0p (q0k q7e)))), ?_⟩
 refine ⟨_, rfl, _, _, _, _, rfl, I.ty, q5d K d, _, rfl, ?_⟩
 cases d with
 | tup ds =>
  cases I with
  | @tup a xs _ ea hl r =>
  have hlen := r.length
  have k1 : ∀ H', q0y H H' → Q (.bl (if ds.length = 0 then false else goL ds 0)) H' := k
  refine q1a ⟨_, rfl, a, xs, rfl, .inr (SqT.of ea), rfl, _, rfl, ?_⟩
  by_cases h0 : ds.length = 0
  ·have k2 := k1 H (q0y.refl _)
   rw [if_pos h0] at k2
   rw [decide_eq_true (show V.int (xs.length : Int) = V.int 0 by rw [hlen, h0]; rfl)]
   exact q1f k2
  ·rw [decide_eq_false (show ¬ V.int (xs.length : Int) = V.int 0 from fun z => h0 (by have := V.int.inj z; omega))]
   have k2 : ∀ H', q0y H H' → Q (.bl (goL ds 0)) H' := fun H' s' => by
    have := k1 H' s'
    rw [if_neg h0] at this
    exact this
   refine q1a ⟨_, rfl, a, rfl, ⟨xs, SqT.of ea⟩, x3c (K := K) (a := a) (xs := xs) (fun i σ H' => ∃ l t, σ = [some (.ref a), some (.int l), t] ∧ q0y H H' ∧ goL (ds.drop i) l = goL ds 0)
    ⟨0, none, rfl, q0y.refl _, rfl⟩ (fun i σ H' _ ⟨_, _, _, s', _⟩ => SqT.of (s' _ _ ea)) ?_ ?_⟩
   ·rintro i x σ H' hx ⟨l, t, rfl, s', e⟩
    obtain ⟨d, hd, Id⟩ := r.get hx
    have hi : i < ds.length := (List.getElem?_eq_some_iff.mp hd).1
    have edr : ds.drop i = d :: ds.drop (i + 1) := by
     rw [List.drop_eq_getElem_cons hi, (List.getElem?_eq_some_iff.mp hd).2]
    rw [edr] at e
    refine ⟨_, rfl, _, rfl, B, x, d, l, hB, rfl, Id.same s', fun H2 s2 => ⟨_, rfl, ?_⟩⟩
    cases hg : geD l d with
    | false =>
     rw [j6a hg] at e
     have k3 := k2 H2 (s'.trans s2)
     rw [← e] at k3
     exact q1f (q1f k3)
    | true =>
     obtain ⟨j, rfl⟩ : ∃ j, d = .int j := by
      cases d with
      | int j => exact ⟨j, rfl⟩
      | _ => cases hg
     cases Id
     have hj : l ≤ j := of_decide_eq_true hg
     have e' : ((decide (l ≤ j) && decide (j ≤ 8)) && goL (ds.drop (i + 1)) (j + 1)) = goL ds 0 := e
     rw [decide_eq_true hj] at e'
     refine q1a ⟨_, rfl, _, _, rfl, rfl, _, rfl, ?_⟩
     by_cases h8 : j ≤ 8
     ·rw [decide_eq_true h8] at e'
      rw [decide_eq_false (show ¬ (8 : Int) < j by omega)]
      exact q1a ⟨_, rfl, _, _, rfl, rfl, _, _, rfl, s'.trans s2, e'⟩
     ·rw [decide_eq_false h8] at e'
      rw [decide_eq_true (show (8 : Int) < j by omega)]
      have k3 := k2 H2 (s'.trans s2)
      rw [← e'] at k3
      exact q1f k3
   ·rintro σ H' ⟨l, t, rfl, s', e⟩
    rw [hlen, List.drop_length] at e
    have k3 := k2 H' s'
    rw [← e] at k3
    exact k3
 | non => exact q1f (q1f (k H (q0y.refl _)))
 | bl _ => exact q1f (q1f (k H (q0y.refl _)))
 | int _ => exact q1f (q1f (k H (q0y.refl _)))
 | str _ => exact q1f (q1f (k H (q0y.refl _)))
 | lst _ => exact q1f (q1f (k H (q0y.refl _)))
theorem _root_.Kp.IsL.at {B : Nat} {H : Hp} : ∀ {vs ds} {i : Nat} {d : D}, IsL B H vs ds → ds[i]? = some d → ∃ v, atI vs (i : Int) = some v ∧ Is B H v d := by
 intro vs ds i d r h
 have hi : i < ds.length := (List.getElem?_eq_some_iff.mp h).1
 have hi' : i < vs.length := by rw [r.length]; exact hi
 obtain ⟨d', h', I⟩ := r.get (i := i) (v := vs[i]) (by simp [hi'])
 rw [h] at h'
 cases h'
 exact ⟨vs[i], q0m (by simp [hi']), I⟩
theorem x6z {B : Nat} {H : Hp} {vs : List V} {ds : List D} (r : IsL B H vs ds) (n : Nat) : decide (V.int (vs.length : Int) = V.int (n : Int)) = decide (ds.length = n) := by
 rw [r.length, Bool.eq_iff_iff]
 simp only [decide_eq_true_eq]
 constructor
 ·intro h; have := V.int.inj h; omega
 ·intro h; rw [h]
theorem w3j : FnScope ["_law_thing"] ["_law_thing"] (q0f x1q) := fSc
theorem j6s {f : Addr} {fd : FuncData} (F : Fun K "_law_any" "_law_any" x1q f fd) (T : Txt mg) : FnOk P w K mg base CX0 1 f fd ["_law_thing"] (spP whole) := by
 refine F.ok w3j q2d (fun cdv A outer s H vs Q E hr h => ?_)
 obtain ⟨B, v, d, hB, rfl, I, k⟩ := h
 refine ⟨_, q0p (q0k (q1x (q0n q2a rfl T.isi q1s (q0c (pv 0) (q0c (q4z rfl T.int q9c) q0b)))
  (q2i (z0y (q0n q2a rfl T.isi q1s (q0c (pv 0) (q0c (q4z rfl T.bool q6c) q0b))))))), ?_⟩
 refine ⟨_, rfl, _, _, _, _, rfl, I.ty, q8w K d, _, rfl, ?_⟩
 have k0 := k H (q0y.refl _)
 unfold whole at k0
 cases e : isInt d with
 | false => rw [e] at k0; exact q1a k0
 | true =>
  rw [e] at k0
  exact q1f ⟨_, rfl, _, _, _, _, rfl, I.ty, q5r K d, _, rfl, k0⟩
noncomputable def x1u (n : Int) : D → Bool
 | .tup ds => decide ((ds.length : Int) = n)
 | _ => false
noncomputable def x4k : Sp := fun vs H Q _ => ∃ B v d n, B ≤ 1000 ∧ vs = [v, .int n] ∧ Is B H v d ∧ Q (.bl (x1u n d)) H
theorem w2p : FnScope ["_law_thing", "_law_size"] ["_law_thing", "_law_size"] (q0f q8f) := fSc
theorem j0f {f : Addr} {fd : FuncData} (F : Fun K "_law_sized" "_law_sized" q8f f fd) (T : Txt mg) : FnOk P w K mg base CX0 1 f fd ["_law_thing", "_law_size"] x4k := by
 refine F.ok w2p (fun vs H Q E ⟨_, _, _, _, _, e, _⟩ => by subst e; rfl) (fun cdv A outer s H vs Q E hr h => ?_)
 obtain ⟨B, v, d, n, hB, rfl, I, k⟩ := h
 refine ⟨_, q0p (q0k (q1x (q0n q2a rfl T.isi q1s (q0c (pv 0) (q0c (q4z rfl T.tuple q2p) q0b))) (q2i (q1z q2c (q0n q0w rfl T.len PySem.boot_len (q0c (pv 0) q0b)) (pv 1) (q0q _))))), ?_⟩
 refine ⟨_, rfl, _, _, _, _, rfl, I.ty, q5d K d, _, rfl, ?_⟩
 cases d with
 | tup ds =>
  cases I with
  | @tup a xs _ ea hl r =>
  have e : decide (V.int (xs.length : Int) = V.int n) = decide ((ds.length : Int) = n) := by
   rw [r.length, Bool.eq_iff_iff]
   simp only [decide_eq_true_eq]
   exact ⟨fun h => V.int.inj h, fun h => by rw [h]⟩
  have k' : Q (.bl (decide ((ds.length : Int) = n))) H := k
  rw [← e] at k'
  exact q1f ⟨_, rfl, a, xs, rfl, .inr (SqT.of ea), _, rfl, rfl, k'⟩
 | non => exact q1a k
 | bl _ => exact q1a k
 | int _ => exact q1a k
 | str _ => exact q1a k
 | lst _ => exact q1a k
noncomputable def q9j : Sp := fun vs H Q _ => ∃ B v d, B ≤ 1000 ∧ vs = [v] ∧ Is B H v d ∧ Q (.str (q1o d)) H
theorem w1j : FnScope ["thing"] ["thing"] (q0f q8b) := fSc
theorem x5c {d : D} {r : List D} (h : z6k d = false) : q1o (.tup (d :: r)) = "" := by
 cases d with
 | str x => cases h
 | _ => rfl
theorem x7x {d : D} (h : z6k d = true) : ∃ x, d = .str x := by
 cases d with
 | str x => exact ⟨x, rfl⟩
 | _ => cases h
theorem x6u {f : Addr} {fd : FuncData} (F : Fun K "first_word" "first_word" q8b f fd) (T : Txt mg) : FnOk P w K mg base CX0 1 f fd ["thing"] q9j := by
 refine F.ok w1j (fun vs H Q E ⟨_, _, _, _, e, _⟩ => by subst e; rfl) (fun cdv A outer s H vs Q E hr h => ?_)
 obtain ⟨B, v, d, hB, rfl, I, k⟩ := h
 refine ⟨_, q1c (q1w (PW.pt (x4g (q2l (q0n q2a rfl T.isi q1s (q0c (pv 0) (q0c (q4z rfl T.tuple q2p) q0b)))) (x4g (q0s z3z (q0n q0w rfl T.len PySem.boot_len (q0c (pv 0) q0b)) q0a (q0q _)) (x4j (q2l (q0n q2a rfl T.isi q1s (q0c (q0u q0o (pv 0) q0a (fun _ _ => rfl)) (q0c (q4z rfl T.str x0p) q0b)))))))) (q0p (q0k (q0u q0o (pv 0) q0a (fun _ _ => rfl)))) q0t)
  (q0p (q0k q0r)), ?_⟩
 refine ⟨_, rfl, _, _, _, _, rfl, I.ty, q5d K d, _, rfl, ?_⟩
 cases d with
 | tup ds =>
  cases I with
  | @tup a xs _ ea hl r =>
  refine q1f ⟨_, rfl, a, xs, rfl, .inr (SqT.of ea), _, _, rfl, rfl, _, rfl, ?_⟩
  cases r with
  | nil => exact q1a (q1a k)
  | @cons x d0 xs0 ds0 Ix It =>
   rw [decide_eq_true (show (1 : Int) ≤ (((x :: xs0).length : Nat) : Int) by simp; omega)]
   refine q1f ⟨_, rfl, a, _, 0, x, rfl, rfl, SqT.of ea, q0m (j := 0) rfl, _, _, _, _, rfl, Ix.ty, x3a K d0, _, rfl, ?_⟩
   cases hs : z6k d0 with
   | false =>
    rw [x5c hs] at k
    exact q1a k
   | true =>
    obtain ⟨y, rfl⟩ := x7x hs
    cases Ix
    exact q1f ⟨_, rfl, a, _, 0, _, rfl, rfl, SqT.of ea, q0m (j := 0) rfl, k⟩
 | non => exact q1a (q1a k)
 | bl _ => exact q1a (q1a k)
 | int _ => exact q1a (q1a k)
 | str _ => exact q1a (q1a k)
 | lst _ => exact q1a (q1a k)
noncomputable def z0d (P : Program) (w : World) (K : PySem.W.Frag) (mg : Str → Option Value) (base : Heap) (kk : Nat) : Sp := fun vs H Q _ => ∃ B v d tv, B ≤ 1000 ∧ vs = [v, tv] ∧ Is B H v d ∧
 ((tv = .non ∧ Q (.bl false) H) ∨ ∃ t gs ps d0 ds, tv = .ref t ∧ d = .tup (d0 :: ds) ∧ SqT K H t gs ∧ Tls P w K mg base kk gs ps ∧ gs.length ≤ 1000 ∧ ∀ H', q0y H H' → Q (.bl (q0x ps ds)) H')
theorem w2j : FnScope ["thing", "tellers"] ["thing", "tellers"] (q0f q4j) := fSc
theorem x6v (x : V) (xs : List V) : x2g (x :: xs) (some 1) none = xs := by
 unfold x2g
 have e1 : HT.sIx (x :: xs).length 0 (some 1) = 1 := by
  have := HT.sIx_nat (x :: xs).length 0 1
  rw [show ((1 : Nat) : Int) = 1 from rfl] at this
  rw [this, List.length_cons]
  omega
 rw [e1, HT.sIx_none, List.take_of_length_le (by simp)]
 rfl
theorem z4o {f : Addr} {fd : FuncData} {kk : Nat} (F : Fun K "fits_behind_word" "fits_behind_word" q4j f fd) (T : Txt mg) (CF : Cal P w K mg base "fits" (kk + 1) ["thing", "tellers"] (q6q P w K mg base kk)) :
  FnOk P w K mg base CX0 (kk + 2) f fd ["thing", "tellers"] (z0d P w K mg base kk) := by
 refine F.ok w2j (fun vs H Q E ⟨_, _, _, _, _, e, _⟩ => by subst e; rfl) (fun cdv A outer s H vs Q E hr h => ?_)
 obtain ⟨B, v, d, tv, hB, rfl, I, hw⟩ := h
 refine ⟨_, q0p (q0k (q1x (q1z j3t (pv 1) x5b (q0q _)) (q2i (q0i CF hr (q0c (q3o z5o (pv 0) (q4f q0a) q5k) (q0c (pv 1) q0b)))))), ?_⟩
 rcases hw with ⟨rfl, k⟩ | ⟨t, gs, ps, d0, ds, rfl, rfl, hS, hT, hg, k⟩
 ·exact ⟨_, rfl, rfl, _, rfl, q1a k⟩
 ·cases I with
  | @tup a xs _ ea hl r =>
  cases r with
  | @cons x _ xs0 _ Ix It =>
  refine ⟨_, rfl, rfl, _, rfl, q1f ⟨_, rfl, 1, rfl, a, _, rfl, SqT.of ea, fun z => ?_, fun p hp => ?_⟩⟩
  ·have z1 := z.1
   have e := HT.sIx_nat (x :: xs0).length 0 1
   rw [show ((1 : Nat) : Int) = 1 from rfl] at e
   rw [e, List.length_cons] at z1
   omega
  ·rw [x6v]
   have s1 := q0h (o := HO.tup xs0) hp
   exact ⟨_, rfl, B, .ref p, .tup ds, t, gs, ps, hB, rfl, .tup q0e (by simp at hl; omega) (It.same s1), SqT.same hS s1, hT, hg, fun H' s2 => k H' (s1.trans s2)⟩
theorem w2y : FnScope ["_law_thing"] ["_law_thing"] (q0f q9u) := fSc
theorem j2s {f : Addr} {fd : FuncData} (F : Fun K "_law_kind" "_law_kind" q9u f fd) (T : Txt mg) : FnOk P w K mg base CX0 1 f fd ["_law_thing"] q9j := by
 refine F.ok w2y (fun vs H Q E ⟨_, _, _, _, e, _⟩ => by subst e; rfl) (fun cdv A outer s H vs Q E hr h => ?_)
 obtain ⟨B, v, d, hB, rfl, I, k⟩ := h
 refine ⟨_, q1c (q1w (PW.pt (x4g (q2l (q0n q2a rfl T.isi q1s (q0c (pv 0) (q0c (q4z rfl T.tuple q2p) q0b)))) (x4g (q0s z0l (q0n q0w rfl T.len PySem.boot_len (q0c (pv 0) q0b)) q0a (q0q _)) (x4j (q2l (q0n q2a rfl T.isi q1s (q0c (q0u q0o (pv 0) q0a (fun _ _ => rfl)) (q0c (q4z rfl T.str x0p) q0b)))))))) (q0p (q0k (q0u q0o (pv 0) q0a (fun _ _ => rfl)))) q0t)
  (q0p (q0k q0r)), ?_⟩
 refine ⟨_, rfl, _, _, _, _, rfl, I.ty, q5d K d, _, rfl, ?_⟩
 cases d with
 | tup ds =>
  cases I with
  | @tup a xs _ ea hl r =>
  refine q1f ⟨_, rfl, a, xs, rfl, .inr (SqT.of ea), _, _, rfl, rfl, _, rfl, ?_⟩
  cases r with
  | nil => exact q1a (q1a k)
  | @cons x d0 xs0 ds0 Ix It =>
   rw [decide_eq_true (show (0 : Int) < (((x :: xs0).length : Nat) : Int) by simp)]
   refine q1f ⟨_, rfl, a, _, 0, x, rfl, rfl, SqT.of ea, q0m (j := 0) rfl, _, _, _, _, rfl, Ix.ty, x3a K d0, _, rfl, ?_⟩
   cases hs : z6k d0 with
   | false =>
    rw [x5c hs] at k
    exact q1a k
   | true =>
    obtain ⟨y, rfl⟩ := x7x hs
    cases Ix
    exact q1f ⟨_, rfl, a, _, 0, _, rfl, rfl, SqT.of ea, q0m (j := 0) rfl, k⟩
 | non => exact q1a (q1a k)
 | bl _ => exact q1a (q1a k)
 | int _ => exact q1a (q1a k)
 | str _ => exact q1a (q1a k)
 | lst _ => exact q1a (q1a k)
theorem w1y : FnScope ["_law_thing"] ["_law_thing"] (q0f q9p) := fSc
theorem j0t {f : Addr} {fd : FuncData} (F : Fun K "_law_deed" "_law_deed" q9p f fd) (T : Txt mg) (CK : Cal P w K mg base "_law_kind" 1 ["_law_thing"] q9j) (CN : Cal P w K mg base "_law_name" 1 ["_law_thing"] (spP q1y)) (CA : Cal P w K mg base "_law_any" 1 ["_law_thing"] (spP whole)) :
  FnOk P w K mg base CX0 2 f fd ["_law_thing"] (spP q5q) := by
 refine F.ok w1y q2d (fun cdv A outer s H vs Q E hr h => ?_)
 obtain ⟨B, v, d, hB, rfl, I, k⟩ := h
 refine ⟨_, q1c (q1w (q0s q2c (q0i CK hr (q1i (pv 0) q0b)) q0r (q0q _))
   (q0p (q0k (q1x (q1z q2c (q0n q0w rfl T.len PySem.boot_len (q1i (pv 0) q0b)) q0a (q0q _)) (q2i (q0i CN hr (q4a (q0u q0o (pv 0) q0a q2j) q0b)))))) q0t)
  (q0p (q0k (q1x (q1z x9b (q0i CK hr (q1i (pv 0) q0b)) (QE.h (q6b (q2k (q2k q3e)))) rfl) (q1x (q1z q2c (q0n q0w rfl T.len PySem.boot_len (q1i (pv 0) q0b)) q0a (q0q _))
   (q1x (q0i CN hr (q4a (q0u q0o (pv 0) q0a q2j) q0b)) (q2i (q0i CA hr (q4a (q0u q0o (pv 0) q0a q2j) q0b)))))))), ?_⟩
 refine ⟨_, rfl, B, v, d, hB, rfl, I, rfl, _, rfl, ?_⟩
 by_cases hg : q1o d = "get"
 ·rw [decide_eq_true (show V.str (q1o d) = V.str "get" by rw [hg])]
  obtain ⟨r, rfl⟩ := q4x hg (by decide +kernel)
  cases I with
  | @tup a xs _ ea hl rr =>
  refine q1f ⟨_, rfl, a, xs, rfl, .inr (SqT.of ea), rfl, _, rfl, ?_⟩
  have e := x6z rr 2
  show if decide (V.int (xs.length : Int) = V.int ((2 : Nat) : Int)) = true then _ else _
  have kr : ∀ H', q0y H H' → Q (.bl (one q1y r)) H' := fun H' s' => by
   have := k H' s'
   rw [z4x] at this
   exact this
  rw [e]
  clear k hg e
  match r, kr, rr with
  | [], kr, rr => exact q1a (kr H (q0y.refl _))
  | [y], kr, rr =>
   obtain ⟨v1, e1, I1⟩ := rr.at (i := 1) rfl
   exact q1f ⟨_, rfl, a, xs, 1, v1, rfl, rfl, SqT.of ea, e1, B, v1, y, hB, rfl, I1, kr⟩
  | y :: y2 :: t, kr, rr =>
   rw [decide_eq_false (show ¬ (D.str "get" :: y :: y2 :: t).length = 2 by simp)]
   exact q1a (kr H (q0y.refl _))
 ·rw [decide_eq_false (show ¬ V.str (q1o d) = V.str "get" from fun z => hg (V.str.inj z))]
  refine q1a ⟨_, rfl, B, v, d, hB, rfl, I, q3c (by show 2 ≤ 1000; decide), fun p hp => ⟨p, _, rfl, .inr (SqT.of q0e), rfl, rfl, _, rfl, ?_⟩⟩
  have s1 := q0h (o := HO.tup [V.str "set", V.str "add"]) hp
  have ein : inV (V.str (q1o d)) [V.str "set", V.str "add"] = decide (q1o d = "set" ∨ q1o d = "add") := by
   show (decide (("set" : Str) = q1o d) || (decide (("add" : Str) = q1o d) || false)) = _
   rw [Bool.eq_iff_iff]
   simp only [Bool.or_eq_true, decide_eq_true_eq, Bool.false_eq_true, or_false]
   exact ⟨fun h => h.imp Eq.symm Eq.symm, fun h => h.imp Eq.symm Eq.symm⟩
  show if inV (V.str (q1o d)) [V.str "set", V.str "add"] = true then _ else _
  rw [ein]
  by_cases hs : q1o d = "set" ∨ q1o d = "add"
  ·rw [decide_eq_true hs]
   obtain ⟨r, e⟩ := q4x (d := d) rfl (fun z => by rw [z] at hs; rcases hs with z | z <;> exact absurd z (by decide +kernel))
   generalize q1o d = x at hs hg e
   subst e
   cases I with
   | @tup a xs _ ea hl rr =>
   refine q1f ⟨_, rfl, a, xs, rfl, .inr (SqT.of (s1 _ _ ea)), rfl, _, rfl, ?_⟩
   have e := x6z rr 3
   show if decide (V.int (xs.length : Int) = V.int ((3 : Nat) : Int)) = true then _ else _
   have kr : ∀ H', q0y H H' → Q (.bl (two q1y whole r)) H' := fun H' s' => by
    have := k H' s'
    rw [show q5q (.tup (.str x :: r)) = two q1y whole r from (if_neg hg).trans (if_pos hs)] at this
    exact this
   rw [e]
   clear k ein e
   match r, kr, rr with
   | [], kr, rr => exact q1a (kr _ s1)
   | [y], kr, rr => exact q1a (kr _ s1)
   | [y, y2], kr, rr =>
    obtain ⟨v1, e1, I1⟩ := rr.at (i := 1) rfl
    obtain ⟨v2, e2, I2⟩ := rr.at (i := 2) rfl
    refine q1f ⟨_, rfl, a, xs, 1, v1, rfl, rfl, SqT.of (s1 _ _ ea), e1, B, v1, y, hB, rfl, I1.same s1, fun H' s' => ⟨_, rfl, ?_⟩⟩
    have k1 : ∀ H'', q0y H' H'' → Q (.bl (q1y y && whole y2)) H'' := fun H'' s'' => kr H'' (s1.trans (s'.trans s''))
    cases hn : q1y y with
    | false =>
     rw [hn] at k1
     exact q1a (k1 H' (q0y.refl _))
    | true =>
     rw [hn] at k1
     exact q1f ⟨_, rfl, a, xs, 2, v2, rfl, rfl, SqT.of (s' _ _ (s1 _ _ ea)), e2, B, v2, y2, hB, rfl, (I2.same s1).same s', k1⟩
   | y :: y2 :: y3 :: t, kr, rr =>
    rw [decide_eq_false (show ¬ (D.str x :: y :: y2 :: y3 :: t).length = 3 by simp)]
    exact q1a (kr _ s1)
  ·rw [decide_eq_false hs]
   have k0 := k _ s1
   have e : q5q d = false := by
    unfold q5q
    split
    ·rename_i x r
     exact (if_neg hg).trans (if_neg hs)
    ·rfl
   rw [e] at k0
   exact q1a k0
noncomputable def tWL (x : Str) (n : Nat) : TT := fun σ H Q => ∃ B v d, B ≤ 1000 ∧ σ[0]? = some (some v) ∧ Is B H v d ∧ Q (decide (q1o d = x ∧ z4h d = n)) H
noncomputable abbrev w2v (K : PySem.W.Frag) : List V → Hp → VK → Prop := fun xs H Q => ∃ p ys, xs = [.ref p] ∧ (SqL K H p ys ∨ SqT K H p ys) ∧ Q (.int ys.length) H
theorem j5q {X : Cx} {a b : Expr} {pos : Pos} {x : Str} {n : Nat} {E : XK} (hx : x ≠ "") (h1 : PT X a (j3h (tOp rEq (j1l q9j [] E (q5o (j7u 0) j7p)) (tC (.str x))))) (h2 : PT X b (j3h (tOp rEq (tCB (w2v X.K) (q5o (j7u 0) j7p)) (tC (.int n))))) :
  PT X (.BoolOp .And [a, b] pos) (tWL x n) := by
 refine PT.weak (x4g h1 (x4j h2)).pt ?_
 rintro σ H Q ⟨B, v, d, hB, e0, I, q⟩
 refine ⟨v, e0, B, v, d, hB, rfl, I, rfl, _, rfl, ?_⟩
 by_cases hw : q1o d = x
 ·rw [decide_eq_true (show V.str (q1o d) = V.str x by rw [hw])]
  obtain ⟨r, rfl⟩ := q4x hw hx
  cases I with
  | @tup a xs _ ea hl rr =>
  refine q1f ⟨_, e0, a, xs, rfl, .inr (SqT.of ea), rfl, _, rfl, ?_⟩
  have e : decide (V.int (xs.length : Int) = V.int (n : Int)) = decide (q1o (.tup (.str x :: r)) = x ∧ z4h (.tup (.str x :: r)) = n) := by
   rw [x6z rr n, Bool.eq_iff_iff]
   simp only [decide_eq_true_eq]
   exact ⟨fun h => ⟨rfl, h⟩, fun h => h.2⟩
  rw [e]
  exact q
 ·rw [decide_eq_false (show ¬ V.str (q1o d) = V.str x from fun z => hw (V.str.inj z))]
  rw [decide_eq_false (fun z => hw z.1)] at q
  exact q1a q
theorem w1t : FnScope ["_law_thing"] ["_law_thing"] (q0f q9r) := fSc
theorem j0e {f : Addr} {fd : FuncData} (F : Fun K "_law_what" "_law_what" q9r f fd) (T : Txt mg) (CK : Cal P w K mg base "_law_kind" 1 ["_law_thing"] q9j) (CN : Cal P w K mg base "_law_name" 1 ["_law_thing"] (spP q1y)) (CF : Cal P w K mg base "_law_from" 1 ["_law_thing", "_law_least"] x0i)
  (CD : Cal P w K mg base "_law_deed" 2 ["_law_thing"] (spP q5q)) (CS : Cal P w K mg base "_law_seats" 2 ["_law_thing"] (spP q3y)) : FnOk P w K mg base CX0 3 f fd ["_law_thing"] (spP x4y) := by
 refine F.ok w1t q2d (fun cdv A outer s H vs Q E hr h => ?_)
 obtain ⟨B, v, d, hB, rfl, I, k⟩ := h
 have r1 := hr.mono (show 1 ≤ 2 by decide)
 refine ⟨_, q1c (q1w (j5q (n := 4) (by decide +kernel) (q0s q2c (q0i CK r1 (q1i (pv 0) q0b)) q0r (q0q _)) (q0s q2c (q0n q0w rfl T.len PySem.boot_len (q1i (pv 0) q0b)) q0a (q0q _)))
   (q0p (q0k (q1x (q0i CN r1 (q4a (q0u q0o (pv 0) q0a q2j) q0b)) (q1x (q0i CF r1 (q4a (q0u q0o (pv 0) q0a q2j) (q6s q0a q0b))) (q2i (q0i CD hr (q4a (q0u q0o (pv 0) q0a q2j) q0b))))))) q0t)
  (q1c (q1w (j5q (n := 2) (by decide +kernel) (q0s q2c (q0i CK r1 (q1i (pv 0) q0b)) q0r (q0q _)) (q0s q2c (q0n q0w rfl T.len PySem.boot_len (q1i (pv 0) q0b)) q0a (q0q _)))
   (q0p (q0k (q0i CS hr (q4a (q0u q0o (pv 0) q0a q2j) q0b)))) q0t)
  (q0p (q0k (q1x (q1z q2c (q0i CK r1 (q1i (pv 0) q0b)) q0r (q0q _)) (q2i (q1z q2c (q0n q0w rfl T.len PySem.boot_len (q1i (pv 0) q0b)) q0a (q0q _))))))), ?_⟩
 rw [← z9s] at k
 refine ⟨B, v, d, hB, rfl, I, q9a (fun c => ?_) (fun c => ?_)⟩
 ·have c' := of_decide_eq_true c
  have kc : ∀ H', q0y H H' → Q (.bl (x0q q1y (geD 1) q5q (j1h d))) H' := fun H' s' => by
   have := k H' s'
   rw [show z0r d = _ from if_pos c'] at this
   exact this
  obtain ⟨r, rfl⟩ := q4x c'.1 (by decide +kernel)
  have hr3 : r.length + 1 = 4 := c'.2
  clear k c
  match r, hr3, kc, I with
  | [y1, y2, y3], _, kc, I =>
  cases I with
  | @tup a xs _ ea hl rr =>
  obtain ⟨v1, e1, I1⟩ := rr.at (i := 1) rfl
  obtain ⟨v2, e2, I2⟩ := rr.at (i := 2) rfl
  obtain ⟨v3, e3, I3⟩ := rr.at (i := 3) rfl
  have kd : ∀ H', q0y H H' → Q (.bl (q1y y1 && (geD 1 y2 && q5q y3))) H' := kc
  refine ⟨_, rfl, a, xs, 1, v1, rfl, rfl, SqT.of ea, e1, B, v1, y1, hB, rfl, I1, fun H1 s1 => ⟨_, rfl, ?_⟩⟩
  cases hn : q1y y1 with
  | false => rw [hn] at kd; exact q1a (kd _ s1)
  | true =>
   rw [hn] at kd
   refine q1f ⟨_, rfl, a, xs, 2, v2, rfl, rfl, SqT.of (s1 _ _ ea), e2, B, v2, y2, 1, hB, rfl, I2.same s1, fun H2 s2 => ⟨_, rfl, ?_⟩⟩
   cases hf : geD 1 y2 with
   | false => rw [hf] at kd; exact q1a (kd _ (s1.trans s2))
   | true =>
    rw [hf] at kd
    exact q1f ⟨_, rfl, a, xs, 3, v3, rfl, rfl, SqT.of (s2 _ _ (s1 _ _ ea)), e3, B, v3, y3, hB, rfl, (I3.same s1).same s2, fun H3 s3 => kd _ ((s1.trans s2).trans s3)⟩
 have c1 : ¬ (q1o d = "wish" ∧ z4h d = 4) := fun z => c (decide_eq_true z)
 refine ⟨B, v, d, hB, rfl, I, q9a (fun c2 => ?_) (fun c2 => ?_)⟩
 ·have c' := of_decide_eq_true c2
  have kc : ∀ H', q0y H H' → Q (.bl (one q3y (j1h d))) H' := fun H' s' => by
   have := k H' s'
   rw [show z0r d = _ from (if_neg c1).trans (if_pos c')] at this
   exact this
  obtain ⟨r, rfl⟩ := q4x c'.1 (by decide +kernel)
  have hr3 : r.length + 1 = 2 := c'.2
  clear k c c2 c1
  match r, hr3, kc, I with
  | [y1], _, kc, I =>
  cases I with
  | @tup a xs _ ea hl rr =>
  obtain ⟨v1, e1, I1⟩ := rr.at (i := 1) rfl
  exact ⟨_, rfl, a, xs, 1, v1, rfl, rfl, SqT.of ea, e1, B, v1, y1, hB, rfl, I1, kc⟩
 have c2' : ¬ (q1o d = "seats" ∧ z4h d = 2) := fun z => c2 (decide_eq_true z)
 have k0 := k H (q0y.refl _)
 rw [show z0r d = decide (q1o d = "open" ∧ z4h d = 1) from (if_neg c1).trans (if_neg c2')] at k0
 refine ⟨_, rfl, B, v, d, hB, rfl, I, rfl, _, rfl, ?_⟩
 by_cases hw : q1o d = "open"
 ·rw [decide_eq_true (show V.str (q1o d) = V.str "open" by rw [hw])]
  obtain ⟨r, rfl⟩ := q4x hw (by decide +kernel)
  cases I with
  | @tup a xs _ ea hl rr =>
  have e : decide (V.int (xs.length : Int) = V.int ((1 : Nat) : Int)) = decide (q1o (.tup (.str "open" :: r)) = "open" ∧ z4h (.tup (.str "open" :: r)) = 1) := by
   rw [x6z rr 1, Bool.eq_iff_iff]
   simp only [decide_eq_true_eq]
   exact ⟨fun h => ⟨rfl, h⟩, fun h => h.2⟩
  rw [← e] at k0
  exact q1f ⟨_, rfl, a, xs, rfl, .inr (SqT.of ea), rfl, k0⟩
 ·rw [decide_eq_false (show ¬ V.str (q1o d) = V.str "open" from fun z => hw (V.str.inj z))]
  rw [decide_eq_false (fun z => hw z.1)] at k0
  exact q1a k0
theorem w1g : FnScope ["_law_thing"] ["_law_thing"] (q0f q8m) := fSc
theorem z4z {f : Addr} {fd : FuncData} (F : Fun K "_law_entry" "_law_entry" q8m f fd) (CZ : Cal P w K mg base "_law_sized" 1 ["_law_thing", "_law_size"] x4k) (CF : Cal P w K mg base "_law_from" 1 ["_law_thing", "_law_least"] x0i)
  (CW : Cal P w K mg base "_law_what" 3 ["_law_thing"] (spP x4y)) : FnOk P w K mg base CX0 4 f fd ["_law_thing"] (spP q4n) := by
 refine F.ok w1g q2d (fun cdv A outer s H vs Q E hr h => ?_)
 obtain ⟨B, v, d, hB, rfl, I, k⟩ := h
 have r1 := hr.mono (show 1 ≤ 3 by decide)
 refine ⟨_, q0p (q0k (q1x (q0i CZ r1 (q1i (pv 0) (q6s q0a q0b))) (q1x (q0i CF r1 (q4a (q0u q0o (pv 0) q0a q2j) (q6s q0a q0b))) (q2i (q0i CW hr (q4a (q0u q0o (pv 0) q0a q2j) q0b)))))), ?_⟩
 refine ⟨_, rfl, B, v, d, 2, hB, rfl, I, _, rfl, ?_⟩
 cases hz : x1u 2 d with
 | false =>
  have e : q4n d = false := by
   unfold q4n
   split
   ·cases hz
   ·rfl
  have k0 := k H (q0y.refl _)
  rw [e] at k0
  exact q1a k0
 | true =>
  obtain ⟨y0, y1, rfl⟩ : ∃ y0 y1, d = .tup [y0, y1] := by
   cases d with
   | tup ds =>
    have h2 : (ds.length : Int) = 2 := of_decide_eq_true hz
    match ds, h2 with
    | [y0, y1], _ => exact ⟨y0, y1, rfl⟩
    | [], h => simp at h
    | [_], h => simp at h
    | _ :: _ :: _ :: _, h => simp at h; omega
   | _ => cases hz
  cases I with
  | @tup a xs _ ea hl rr =>
  obtain ⟨v0, e0, I0⟩ := rr.at (i := 0) rfl
  obtain ⟨v1, e1, I1⟩ := rr.at (i := 1) rfl
  have kd : ∀ H', q0y H H' → Q (.bl (geD 1 y0 && x4y y1)) H' := k
  refine q1f ⟨_, rfl, a, xs, 0, v0, rfl, rfl, SqT.of ea, e0, B, v0, y0, 1, hB, rfl, I0, fun H1 s1 => ⟨_, rfl, ?_⟩⟩
  cases hf : geD 1 y0 with
  | false => rw [hf] at kd; exact q1a (kd _ s1)
  | true =>
   rw [hf] at kd
   exact q1f ⟨_, rfl, a, xs, 1, v1, rfl, rfl, SqT.of (s1 _ _ ea), e1, B, v1, y1, hB, rfl, I1.same s1, fun H3 s3 => kd _ (s1.trans s3)⟩
end
theorem _root_.Kp.ix_tupK {X : Cx} {K : PySem.W.Frag} (hK : X.K = K) : IxR X (w0l K) := by subst hK; exact q0o
theorem w0p {α : Type} (x : α) (xs : List α) : atI (x :: xs) 0 = some x := q0m (j := 0) rfl
theorem w2a {α : Type} (x y : α) (xs : List α) : atI (x :: y :: xs) 1 = some y := q0m (j := 1) rfl
section
variable {P : Program} {w : World} {K : PySem.W.Frag} {mg : Str → Option Value} {base : Heap}
theorem w1s : FnScope ["thing"] ["thing"] (q0f q5m) := fSc
theorem x4v {f : Addr} {fd : FuncData} (F : Fun K "is_from_nought" "is_from_nought" q5m f fd) (T : Txt mg) (CW : Cal P w K mg base "is_whole" 1 ["thing"] (spP whole)) : FnOk P w K mg base CX0 2 f fd ["thing"] (spP (geD 0)) := by
 refine F.ok w1s q2d (fun cdv A outer s H vs Q E hr h => ?_)
 obtain ⟨B, v, d, hB, rfl, I, k⟩ := h
 refine ⟨_, q0p (q0k (q1x (q0i CW hr (q0c (pv 0) q0b)) (q2i (q1z z3z (pv 0) q0a (q0q _))))), ?_⟩
 refine ⟨_, rfl, B, v, d, hB, rfl, I, fun H' s' => ⟨_, rfl, ?_⟩⟩
 have k0 := k H' s'
 cases e : whole d with
 | false => rw [z1j e] at k0; exact q1a k0
 | true =>
  obtain ⟨i, rfl⟩ := x2u e
  cases I
  exact q1f ⟨_, rfl, _, _, rfl, rfl, k0⟩
noncomputable def z4t : Sp := fun vs H Q _ => ∃ (a : Addr) (ws : List Str), vs = [.ref a] ∧ H a = some (.lst (ws.map V.str)) ∧ ws.length ≤ 1000 ∧ ∀ H', q0y H H' → Q (.bl (x3g ws)) H'
theorem z6o (xs : List V) : x2g xs (some 1) none = xs.tail := by
 unfold x2g
 have e1 : HT.sIx xs.length 0 (some 1) = min 1 xs.length := by
  have := HT.sIx_nat xs.length 0 1
  rw [show ((1 : Nat) : Int) = 1 from rfl] at this
  rw [this]
 rw [e1, HT.sIx_none]
 cases xs with
 | nil => rfl
 | cons a r =>
  rw [show min 1 (a :: r).length = 1 by simp, List.take_of_length_le (by simp)]
  rfl
theorem x2t : ∀ ws : List Str, ((List.range (ws.length - 1)).map fun i => ltS (ws.getD i "") (ws.getD (i + 1) "")).all id = x3g ws
 | [] => rfl
 | [_] => rfl
 | a :: b :: r => by
  have ih := x2t (b :: r)
  rw [x3g, ← ih]
  show ((List.range (r.length + 1)).map _).all id = _
  rw [List.range_succ_eq_map, List.map_cons, List.all_cons, List.map_map]
  rfl
theorem z4b {f : Addr} {fd : FuncData} (F : Fun K "is_rising" "is_rising" x1m f fd) (T : Txt mg) : FnOk P w K mg base CX0 1 f fd ["parts"] z4t := by
 refine F.ok w0r (fun vs H Q E ⟨_, _, e, _⟩ => by subst e; rfl) (fun cdv A outer s H vs Q E hr h => ?_)
 obtain ⟨a, ws, rfl, ha, h2, k⟩ := h
 refine ⟨_, q0p (q0k (q0n (x0t rfl) rfl T.all q8x (q0c (q3g (NB := ["part", "later"]) (n := 2) (fr := []) (q5h (outer := q0f x1m) rfl (by decide +kernel) rfl) rfl
   (z1l (t1 := false) (t2 := false) rfl T.zip (q0c (pv 0) (q0c (q3o j3m (pv 0) (q4f q0a) q5k) q0b)))
   (fun _ _ _ _ _ => x2o (K := K) (n := 2) rfl rfl (q1v (q1h (i := 0) (show (["part", "later"] : List Str).Nodup by decide +kernel) rfl (Or.inl rfl)) (q1v (q1h (i := 1) (show (["part", "later"] : List Str).Nodup by decide +kernel) rfl (Or.inl rfl)) q5c))) (fun _ _ _ _ _ => q2u) (fun _ _ _ _ _ => q1z z5m (pv 0) (pv 1) (q0q _))) q0b))), ?_⟩
 refine ⟨_, rfl, _, rfl, 1, rfl, a, ws.map V.str, rfl, SqL.of ha, fun p hp => ?_⟩
 rw [z6o, ← List.map_tail]
 have sp : q0y H (upd H p (.lst (ws.tail.map V.str))) := q0h hp
 refine ⟨a, p, ws.map V.str, ws.tail.map V.str, rfl, SqL.of (sp _ _ ha), SqL.of q0e, q3d (J := Itz K false false a p) (k := 2) (n := ws.length - 1) (fun _ => true) (fun i => .bl (ltS (ws.getD i "") (ws.getD (i + 1) ""))) (by rw [sizeLine_eq]; omega) ?_ ?_ ?_ ?_⟩
 ·intro i H2 hi s1
  have i1 : i < ws.length := by omega
  have i2 : i < ws.tail.length := by rw [List.length_tail]; omega
  exact ⟨ws.map V.str, ws.tail.map V.str, .str ws[i], .str ws.tail[i], SqL.of (s1 _ _ (sp _ _ ha)), SqL.of (s1 _ _ q0e), by simp [i1], by rw [List.getElem?_map, List.getElem?_eq_getElem i2]; rfl⟩
 ·intro H2 s1
  exact ⟨ws.map V.str, ws.tail.map V.str, SqL.of (s1 _ _ (sp _ _ ha)), SqL.of (s1 _ _ q0e), .inr (by simp)⟩
 ·intro i H2 t v H3 R hi s1 ht y hR
  obtain ⟨q, x, y, rfl, hq, rfl, e1, e2⟩ := y
  have i1 : i < ws.length := by omega
  have i2 : i + 1 < ws.length := by omega
  have e1' := e1 _ (SqL.of (s1 _ _ (sp _ _ ha)))
  have e2' := e2 _ (SqL.of (s1 _ _ q0e))
  rw [List.getElem?_map, List.getElem?_eq_getElem i1] at e1'
  rw [List.getElem?_map, List.getElem?_tail, List.getElem?_eq_getElem i2] at e2'
  cases e1'
  cases e2'
  have ht' : ∃ t0 t1, t = [t0, t1] := by
   match t, ht with
   | [t0, t1], _ => exact ⟨t0, t1, rfl⟩
  obtain ⟨t0, t1, rfl⟩ := ht'
  refine ⟨q, _, rfl, SqT.of q0e, rfl, _, _, rfl, _, _, rfl, rfl, ⟨_, rfl, _, rfl, _, _, rfl, rfl, ?_⟩⟩
  have hR' := hR [some (.str ws[i]), some (.str ws[i + 1])] _ rfl (q0h (o := .tup [.str ws[i], .str ws[i + 1]]) hq)
  have g1 : ws.getD i "" = ws[i] := by simp [i1]
  have g2 : ws.getD (i + 1) "" = ws[i + 1] := by simp [i2]
  rw [g1, g2] at hR'
  exact hR'
 ·intro D H' s1 hD hd
  refine ⟨D, (List.range (ws.length - 1)).map fun i => ltS (ws.getD i "") (ws.getD (i + 1) ""), rfl, SqL.of ?_, ?_⟩
  ·rw [hd, List.filter_eq_self.mpr (fun _ _ => rfl), List.map_map]
   rfl
  ·rw [x2t]
   exact k H' (sp.trans s1)
theorem w2s : FnScope ["thing"] ["thing"] (q0f q6h) := fSc
theorem j4e {f : Addr} {fd : FuncData} {kk k1 k2 : Nat} (F : Fun K "is_name_pair" "is_name_pair" q6h f fd) (C1 : Cal P w K mg base "is_name" k1 ["thing"] (spP q2y)) (C2 : Cal P w K mg base "is_whole" k2 ["thing"] (spP whole)) (h1 : k1 ≤ kk) (h2 : k2 ≤ kk)
  (CF : Cal P w K mg base "fits" (kk + 1) ["thing", "tellers"] (q6q P w K mg base kk)) : FnOk P w K mg base CX0 (kk + 2) f fd ["thing"] (spP x0f) := by
 refine F.ok w2s q2d (fun cdv A outer s H vs Q E hr h => ?_)
 obtain ⟨B, v, d, hB, rfl, I, k⟩ := h
 obtain ⟨g1, m1, t1⟩ := C1.at
 obtain ⟨g2, m2, t2⟩ := C2.at
 refine ⟨_, q0p (q0k (q0i CF hr (q0c (pv 0) (q0c (q2r (q0c (q2s rfl m1) (q0c (q2s rfl m2) q0b))) q0b)))), ?_⟩
 exact ⟨_, rfl, q3c (by show 2 ≤ 1000; decide), fun p hp => ⟨B, v, d, p, _, [q2y, whole], hB, rfl, I.same (q0h hp), SqT.of q0e, .cons (t1 kk h1) (.cons (t2 kk h2) .nil), (by show 2 ≤ 1000; decide), fun H' s' => k H' ((q0h hp).trans s')⟩⟩
theorem w2z : FnScope ["thing"] ["thing"] (q0f q4e) := fSc
theorem z7v {f : Addr} {fd : FuncData} {kk k1 k2 k3 : Nat} (F : Fun K "is_caller_triple" "is_caller_triple" q4e f fd) (C1 : Cal P w K mg base "is_name" k1 ["thing"] (spP q2y)) (C2 : Cal P w K mg base "is_from_one" k2 ["thing"] (spP (geD 1))) (C3 : Cal P w K mg base "is_whole" k3 ["thing"] (spP whole)) (h1 : k1 ≤ kk) (h2 : k2 ≤ kk) (h3 : k3 ≤ kk)
  (CF : Cal P w K mg base "fits" (kk + 1) ["thing", "tellers"] (q6q P w K mg base kk)) : FnOk P w K mg base CX0 (kk + 2) f fd ["thing"] (spP q3w) := by
 refine F.ok w2z q2d (fun cdv A outer s H vs Q E hr h => ?_)
 obtain ⟨B, v, d, hB, rfl, I, k⟩ := h
 obtain ⟨g1, m1, t1⟩ := C1.at
 obtain ⟨g2, m2, t2⟩ := C2.at
 obtain ⟨g3, m3, t3⟩ := C3.at
 refine ⟨_, q0p (q0k (q0i CF hr (q0c (pv 0) (q0c (q2r (q0c (q2s rfl m1) (q0c (q2s rfl m2) (q0c (q2s rfl m3) q0b)))) q0b)))), ?_⟩
 exact ⟨_, rfl, q3c (by show 3 ≤ 1000; decide), fun p hp => ⟨B, v, d, p, _, [q2y, geD 1, whole], hB, rfl, I.same (q0h hp), SqT.of q0e, .cons (t1 kk h1) (.cons (t2 kk h2) (.cons (t3 kk h3) .nil)), (by show 3 ≤ 1000; decide), fun H' s' => k H' ((q0h hp).trans s')⟩⟩
noncomputable def x9r (f : Addr) (p : D → Bool) : Sp := fun vs H Q _ => ∃ B v d, B ≤ 1000 ∧ vs = [v, .ref f] ∧ Is B H v d ∧ ∀ H', q0y H H' → Q (.bl (x5r p d)) H'
theorem w1n : FnScope ["thing", "teller"] ["thing", "teller"] (q0f q3v) := fSc
theorem z3q (l : List D) (f : D → Str) : ((List.range l.length).map fun i => f (l.getD i .non)) = l.map f := by
 apply List.ext_getElem?
 intro i
 by_cases hi : i < l.length
 ·simp [hi]
 ·rw [List.getElem?_eq_none (by simpa using hi), List.getElem?_eq_none (by simpa using hi)]
theorem z2d {f g : Addr} {fd : FuncData} {p : D → Bool} {kk : Nat} (F : Fun K "is_by_alphabet" "is_by_alphabet" q3v f fd) (hp : ∀ d, p d = true → ∃ x r, d = .tup (.str x :: r))
  (CR : Cal P w K mg base "is_row_of" (kk + 1) ["thing", "teller"] (z9i g p)) (CI : Cal P w K mg base "is_rising" 1 ["parts"] z4t) : FnOk P w K mg base CX0 (kk + 2) f fd ["thing", "teller"] (x9r g p) := by
 refine F.ok w1n (fun vs H Q E ⟨_, _, _, _, e, _⟩ => by subst e; rfl) (fun cdv A outer s H vs Q E hr h => ?_)
 obtain ⟨B, v, d, hB, rfl, I, k⟩ := h
 refine ⟨_, q0p (q0k (q1x (q0i CR hr (q0c (pv 0) (q0c (pv 1) q0b))) (q2i (q0i CI (hr.mono (by omega)) (q0c (q3g (NB := ["part"]) (n := 1) (fr := []) (q5h (outer := q0f q3v) rfl (by decide +kernel) rfl) rfl (q7u (pv 0))
   (fun _ _ _ _ _ => q1h (i := 0) (show (["part"] : List Str).Nodup by decide +kernel) rfl (Or.inl rfl)) (fun _ _ _ _ _ => q2u) (fun _ _ _ _ _ => q0u (ix_tupK (K := K) rfl) (pv 0) q0a (fun _ _ => rfl))) q0b))))), ?_⟩
 refine ⟨_, rfl, _, rfl, B, v, d, hB, rfl, I, fun H1 s1 => ⟨_, rfl, ?_⟩⟩
 cases d with
 | tup ds =>
  have k1 : ∀ H', q0y H H' → Q (.bl (ds.all p && x3g (ds.map q1o))) H' := k
  show if ds.all p = true then _ else _
  cases hall : ds.all p with
  | false => rw [hall] at k1; exact q1a (k1 H1 s1)
  | true =>
   rw [hall] at k1
   cases I with
   | @tup a xs _ ea hl r =>
   have ea1 := s1 _ _ ea
   have hlen := r.length
   refine q1f ⟨_, rfl, a, rfl, ⟨xs, SqT.of ea1⟩, q3d (J := Itt K a) (k := 1) (n := xs.length) (fun _ => true) (fun i => .str (q1o (ds.getD i .non))) (show xs.length < sizeLine by rw [sizeLine_eq]; omega)
    (fun i H2 hi s2 => ⟨xs, xs[i], SqT.of (s2 _ _ ea1), by simp [hi]⟩) (fun H2 s2 => ⟨xs, SqT.of (s2 _ _ ea1), Nat.le_refl _⟩) ?_ ?_⟩
   ·intro i H2 t v H3 R hi s2 ht y hR
    obtain ⟨rfl, hy⟩ := y
    have hv := hy xs (SqT.of (s2 _ _ ea1))
    obtain ⟨di, hdi, Ii⟩ := r.get hv
    have ht' : ∃ t0, t = [t0] := by
     match t, ht with
     | [t0], _ => exact ⟨t0, rfl⟩
    obtain ⟨t0, rfl⟩ := ht'
    obtain ⟨x, rr, rfl⟩ := hp di (List.all_eq_true.mp hall di (List.mem_of_getElem? hdi))
    have Ii2 := (Ii.same s1).same s2
    cases Ii2 with
    | @tup b ys _ eb hl2 r2 =>
    cases r2 with
    | cons h0 h1 =>
    cases h0
    have hR' := hR [some (.ref b)] H3 rfl (q0y.refl _)
    have ed : ds.getD i .non = .tup (.str x :: rr) := by rw [List.getD_eq_getElem?_getD, hdi]; rfl
    rw [ed] at hR'
    exact ⟨_, rfl, b, _, 0, _, rfl, rfl, SqT.of eb, w0p _ _, hR'⟩
   ·intro D H' s2 hD hd
    refine ⟨D, ds.map q1o, rfl, ?_, by rw [List.length_map]; omega, fun H3 s3 => k1 H3 ((s1.trans s2).trans s3)⟩
    rw [hd, List.filter_eq_self.mpr (fun _ _ => rfl), ← z3q ds q1o, List.map_map, hlen]
    rfl
 | non => exact q1a (k H1 s1)
 | bl _ => exact q1a (k H1 s1)
 | int _ => exact q1a (k H1 s1)
 | str _ => exact q1a (k H1 s1)
 | lst _ => exact q1a (k H1 s1)
theorem w1w : FnScope ["thing"] ["thing"] (q0f x1g) := fSc
theorem z9e {f : Addr} {fd : FuncData} {kk : Nat} (F : Fun K "is_names" "is_names" x1g f fd) (CP : Cal P w K mg base "is_name_pair" kk ["thing"] (spP x0f))
  (CA : ∀ g gd, FnOk P w K mg base CX0 kk g gd ["thing"] (spP x0f) → PySem.W.keepIn K (.ref g) = true → q5i K gd ["thing"] [] → Cal P w K mg base "is_by_alphabet" (kk + 2) ["thing", "teller"] (x9r g x0f)) : FnOk P w K mg base CX0 (kk + 3) f fd ["thing"] (spP x2w) := by
 refine F.ok w1w q2d (fun cdv A outer s H vs Q E hr h => ?_)
 obtain ⟨B, v, d, hB, rfl, I, k⟩ := h
 obtain ⟨g, gd, G, m, kp, b⟩ := CP.ex
 obtain ⟨gA, dA, GA, mA, kA, bA⟩ := (CA g gd G kp b).ex
 exact ⟨_, q0p (q0k (q8y GA hr rfl mA kA bA .nil x6m (q0c (pv 0) (q0c (q2s rfl m) q0b)))), _, rfl, B, v, d, hB, rfl, I, k⟩
theorem w3g : FnScope ["thing"] ["thing"] (q0f q8n) := fSc
theorem z3x {f : Addr} {fd : FuncData} {kk : Nat} (F : Fun K "is_callers" "is_callers" q8n f fd) (CP : Cal P w K mg base "is_caller_triple" kk ["thing"] (spP q3w))
  (CA : ∀ g gd, FnOk P w K mg base CX0 kk g gd ["thing"] (spP q3w) → PySem.W.keepIn K (.ref g) = true → q5i K gd ["thing"] [] → Cal P w K mg base "is_by_alphabet" (kk + 2) ["thing", "teller"] (x9r g q3w)) : FnOk P w K mg base CX0 (kk + 3) f fd ["thing"] (spP q7f) := by
 refine F.ok w3g q2d (fun cdv A outer s H vs Q E hr h => ?_)
 obtain ⟨B, v, d, hB, rfl, I, k⟩ := h
 obtain ⟨g, gd, G, m, kp, b⟩ := CP.ex
 obtain ⟨gA, dA, GA, mA, kA, bA⟩ := (CA g gd G kp b).ex
 exact ⟨_, q0p (q0k (q8y GA hr rfl mA kA bA .nil x6m (q0c (pv 0) (q0c (q2s rfl m) q0b)))), _, rfl, B, v, d, hB, rfl, I, k⟩
theorem w1q : FnScope ["thing"] ["thing"] (q0f x1d) := fSc
theorem j1j {f : Addr} {fd : FuncData} {kk k1 k2 : Nat} (F : Fun K "is_store" "is_store" x1d f fd) (C1 : Cal P w K mg base "is_names" k1 ["thing"] (spP x2w)) (C2 : Cal P w K mg base "is_callers" k2 ["thing"] (spP q7f)) (h1 : k1 ≤ kk) (h2 : k2 ≤ kk)
  (CF : Cal P w K mg base "fits" (kk + 1) ["thing", "tellers"] (q6q P w K mg base kk)) : FnOk P w K mg base CX0 (kk + 2) f fd ["thing"] (spP q4g) := by
 refine F.ok w1q q2d (fun cdv A outer s H vs Q E hr h => ?_)
 obtain ⟨B, v, d, hB, rfl, I, k⟩ := h
 obtain ⟨g1, m1, t1⟩ := C1.at
 obtain ⟨g2, m2, t2⟩ := C2.at
 refine ⟨_, q0p (q0k (q0i CF hr (q0c (pv 0) (q0c (q2r (q0c (q2s rfl m1) (q0c (q2s rfl m2) q0b))) q0b)))), ?_⟩
 exact ⟨_, rfl, q3c (by show 2 ≤ 1000; decide), fun p hp => ⟨B, v, d, p, _, [x2w, q7f], hB, rfl, I.same (q0h hp), SqT.of q0e, .cons (t1 kk h1) (.cons (t2 kk h2) .nil), (by show 2 ≤ 1000; decide), fun H' s' => k H' ((q0h hp).trans s')⟩⟩
noncomputable def j3i : Sp := fun vs H Q _ => ∃ a b : Int, vs = [.int a, .int b] ∧ Q (.bl (decide (decide (a = 0) = decide (b = 0)))) H
theorem w2f : FnScope ["place", "last"] ["place", "last"] (q0f x6x) := fSc
theorem x2k (a b : Int) : decide (V.int a = V.int b) = decide (a = b) := by
 rw [Bool.eq_iff_iff]; simp only [decide_eq_true_eq]
 exact ⟨fun h => V.int.inj h, fun h => by rw [h]⟩
theorem z2f (a b : Bool) : decide (V.bl a = V.bl b) = decide (a = b) := by
 rw [Bool.eq_iff_iff]; simp only [decide_eq_true_eq]
 exact ⟨fun h => V.bl.inj h, fun h => by rw [h]⟩
theorem j6o {f : Addr} {fd : FuncData} (F : Fun K "is_end" "is_end" x6x f fd) : FnOk P w K mg base CX0 1 f fd ["place", "last"] j3i := by
 refine F.ok w2f (fun vs H Q E ⟨_, _, e, _⟩ => by subst e; rfl) (fun cdv A outer s H vs Q E hr h => ?_)
 obtain ⟨a, b, rfl, k⟩ := h
 refine ⟨_, q0p (q0k (q1z q2c (q1z q2c (pv 0) q0a (q0q _)) (q1z q2c (pv 1) q0a (q0q _)) (q0q _))), ?_⟩
 refine ⟨_, rfl, rfl, _, rfl, rfl, rfl, ?_⟩
 show Q (.bl (decide (V.bl (decide (V.int a = V.int 0)) = V.bl (decide (V.int b = V.int 0))))) H
 rw [z2f, x2k, x2k]
 exact k
theorem w2l : FnScope ["thing"] ["thing"] (q0f x3b) := fSc
theorem z4p {p q r s : D → Bool} {d : D} (h : x0l [p, q, r, s] d = true) : ∃ a b c e, d = .tup [a, b, c, e] ∧ p a = true ∧ q b = true := by
 cases d with
 | tup ds =>
  have h' : q0x [p, q, r, s] ds = true := h
  match ds, h' with
  | [a, b, c, e], h' =>
   simp only [q0x, Bool.and_eq_true] at h'
   exact ⟨a, b, c, e, rfl, h'.1, h'.2.1⟩
  | [], h' => cases h'
  | [_], h' => simp [q0x] at h'
  | [_, _], h' => simp [q0x] at h'
  | [_, _, _], h' => simp [q0x] at h'
  | _ :: _ :: _ :: _ :: _ :: _, h' => simp [q0x] at h'
 | _ => cases h
theorem ge_int {l : Int} {d : D} (h : geD l d = true) : ∃ i, d = .int i := by
 cases d with
 | int i => exact ⟨i, rfl⟩
 | _ => cases h
theorem j3j {f : Addr} {fd : FuncData} {kk k1 k3 k4 : Nat} (F : Fun K "is_pack" "is_pack" x3b f fd) (C1 : Cal P w K mg base "is_from_nought" k1 ["thing"] (spP (geD 0))) (C3 : Cal P w K mg base "is_seats" k3 ["thing"] (spP q3m)) (C4 : Cal P w K mg base "is_store" k4 ["thing"] (spP q4g)) (h1 : k1 ≤ kk) (h3 : k3 ≤ kk) (h4 : k4 ≤ kk)
  (CF : Cal P w K mg base "fits" (kk + 1) ["thing", "tellers"] (q6q P w K mg base kk)) (CE : Cal P w K mg base "is_end" 1 ["place", "last"] j3i) : FnOk P w K mg base CX0 (kk + 2) f fd ["thing"] (spP x6g) := by
 refine F.ok w2l q2d (fun cdv A outer s H vs Q E hr h => ?_)
 obtain ⟨B, v, d, hB, rfl, I, k⟩ := h
 obtain ⟨g1, m1, t1⟩ := C1.at
 obtain ⟨g3, m3, t3⟩ := C3.at
 obtain ⟨g4, m4, t4⟩ := C4.at
 refine ⟨_, q0p (q0k (q1x (q0i CF hr (q0c (pv 0) (q0c (q2r (q0c (q2s rfl m1) (q0c (q2s rfl m1) (q0c (q2s rfl m3) (q0c (q2s rfl m4) q0b))))) q0b)))
  (q2i (q0i CE (hr.mono (by omega)) (q0c (q0u q0o (pv 0) q0a (fun _ _ => rfl)) (q0c (q0u q0o (pv 0) q0a (fun _ _ => rfl)) q0b)))))), ?_⟩
 refine ⟨_, rfl, q3c (by show 4 ≤ 1000; decide), fun p hp => ⟨B, v, d, p, _, [geD 0, geD 0, q3m, q4g], hB, rfl, I.same (q0h hp), SqT.of q0e, .cons (t1 kk h1) (.cons (t1 kk h1) (.cons (t3 kk h3) (.cons (t4 kk h4) .nil))), (by show 4 ≤ 1000; decide), fun H' s' => ⟨_, rfl, ?_⟩⟩⟩
 have k0 := k H' ((q0h hp).trans s')
 unfold x6g at k0
 cases hf : x0l [geD 0, geD 0, q3m, q4g] d with
 | false => rw [hf] at k0; exact q1a k0
 | true =>
  rw [hf] at k0
  obtain ⟨a, b, c, e, rfl, ha, hb⟩ := z4p hf
  obtain ⟨i, rfl⟩ := ge_int ha
  obtain ⟨j, rfl⟩ := ge_int hb
  have I2 := (I.same (q0h (o := HO.tup [V.ref g1, V.ref g1, V.ref g3, V.ref g4]) hp)).same s'
  cases I2 with
  | @tup b0 ys _ eb hl r =>
  cases r with
  | cons i0 r =>
  cases r with
  | cons i1 r =>
  cases i0
  cases i1
  exact q1f ⟨_, rfl, b0, _, 0, _, rfl, rfl, SqT.of eb, w0p _ _, _, rfl, b0, _, 1, _, rfl, rfl, SqT.of eb, w2a _ _ _, i, j, rfl, k0⟩
end
end K1
namespace Kp
open PySem
noncomputable def q7g (m : Nat) : D → Bool
 | .tup ds => decide (ds.length = m) && ((q1y (ds.getD 0 .non) && whole (ds.getD (m - 1) .non)) && (!decide (m = 3) || geD 1 (ds.getD 1 .non)))
 | _ => false
theorem z7k : q7g 2 = x5v := funext fun d => by
 cases d with
 | tup ds =>
  show _ = q0x [q1y, whole] ds
  rw [z4g]
  match ds with
  | [] => rfl
  | [_] => rfl
  | [a, b] => simp [q7g, two]
  | _ :: _ :: _ :: _ => simp [q7g, two]
 | _ => rfl
theorem x9y : q7g 3 = q7l := funext fun d => by
 cases d with
 | tup ds =>
  show _ = q0x [q1y, geD 1, whole] ds
  rw [j4y]
  match ds with
  | [] => rfl
  | [_] => rfl
  | [_, _] => rfl
  | [a, b, c] =>
   show (true && ((q1y a && whole c) && (false || geD 1 b))) = (q1y a && (geD 1 b && whole c))
   cases q1y a <;> cases whole c <;> cases geD 1 b <;> rfl
  | _ :: _ :: _ :: _ :: _ => simp [q7g, x0q]
 | _ => rfl
end Kp
namespace K1
open PySem L2 Kp
section
variable {P : Program} {w : World} {K : PySem.W.Frag} {mg : Str → Option Value} {base : Heap}
theorem x5u {d : D} (h : q1y d = true) : ∃ x, d = .str x := by
 cases d with
 | str x => exact ⟨x, rfl⟩
 | _ => cases h
theorem j0w (d : D) (h : x0f d = true) : ∃ x r, d = .tup (.str x :: r) := by
 rw [z6g] at h
 obtain ⟨x, y, rfl, hx, _⟩ := x7p h
 obtain ⟨z, rfl⟩ := x5u hx
 exact ⟨z, [y], rfl⟩
theorem z2u (d : D) (h : q3w d = true) : ∃ x r, d = .tup (.str x :: r) := by
 rw [x8w] at h
 obtain ⟨x, y, y2, rfl, hx, _⟩ := x3p h
 obtain ⟨z, rfl⟩ := x5u hx
 exact ⟨z, [y, y2], rfl⟩
noncomputable def z5a : Sp := fun vs H Q _ => ∃ B v d m, B ≤ 1000 ∧ vs = [v, .int ((m : Nat) : Int)] ∧ (m = 2 ∨ m = 3) ∧ Is B H v d ∧ ∀ H', q0y H H' → Q (.bl (q8s (q7g m) d)) H'
theorem j7o : FnScope ["_law_thing", "_law_size", "_law_ahead", "_law_part"] ["_law_thing", "_law_size"] (q0f q8l) := fSc
theorem z9h {f : Addr} {fd : FuncData} (F : Fun K "_law_rises" "_law_rises" q8l f fd) (T : Txt mg) (CF : Cal P w K mg base "_law_from" 1 ["_law_thing", "_law_least"] x0i) (CA : Cal P w K mg base "_law_any" 1 ["_law_thing"] (spP whole))
  (CZ : Cal P w K mg base "_law_sized" 1 ["_law_thing", "_law_size"] x4k) (CN : Cal P w K mg base "_law_name" 1 ["_law_thing"] (spP q1y)) : FnOk P w K mg base CX0 2 f fd ["_law_thing", "_law_size"] z5a := by
 refine F.ok j7o (fun vs H Q E ⟨_, _, _, _, _, e, _⟩ => by subst e; rfl) (fun cdv A outer s H vs Q E hr h => ?_)
 obtain ⟨B, v, d, m, hB, rfl, hm, I, k⟩ := h
 refine ⟨_, @q0z _ _ _ _ _ (q1w (q3a (q2l (q0n q2a (by rfl) T.isi q1s (q1i (pv 0) (q1i (q4z (by rfl) T.tuple q2p) q0b))))) (@q1m _ _ _ (q0k q7e)) q0t)
  (@q0z _ _ _ _ _ (q1b (i := 2) j7o.nd (by rfl) (by exact Or.inl rfl) q0r)
  (@q0z _ _ _ _ _ (x5n PassesOwn.never (by rfl) (q7u (pv 0)) (q1h (i := 3) j7o.nd (by rfl) (by exact Or.inl rfl))
   (@q0z _ _ _ _ _ (q1w (PW.pt (q6t (q3a (q2l (q0i CZ hr (q1i (pv 3) (q1i (pv 1) q0b)))))
    (q6t (q3a (q2l (q0i CN hr (q4a (q0u q0o (pv 3) q0a q2j) q0b))))
    (q6t (q0s x3x (q0u q0o (pv 3) q0a q2j) (pv 2) (q0q _))
    (q7t (q3a (q2l (q0i CA hr (q4a (q0u q0o (pv 3) (q0j x1v (pv 1) q0a) z5n) q0b))))))))) (@q1m _ _ _ (q0k q7e)) q0t)
   (@q0z _ _ _ _ _ (q1w (PW.pt (x4g (q0s q2c (pv 1) q0a (q0q _)) (x4j (q3a (q2l (q0i CF hr (q4a (q0u q0o (pv 3) q0a q2j) (q6s q0a q0b)))))))) (@q1m _ _ _ (q0k q7e)) q0t)
   (@q1m _ _ _ (q1b (i := 2) j7o.nd (by rfl) (by exact Or.inl rfl) (q0u q0o (pv 3) q0a q2j))))))
  (@q1m _ _ _ (q0k q7e)))), ?_⟩
 refine ⟨_, rfl, _, _, _, _, rfl, I.ty, q5d K d, _, rfl, ?_⟩
 cases d with
 | tup ds =>
  cases I with
  | @tup a xs _ ea hl r =>
  have hlen := r.length
  have k2 : ∀ H', q0y H H' → Q (.bl (goR (q7g m) ds "")) H' := k
  refine q1a ⟨_, rfl, a, rfl, ⟨xs, SqT.of ea⟩, x3c (K := K) (a := a) (xs := xs) (fun i σ H' => ∃ l t, σ = [some (.ref a), some (.int (m : Int)), some (.str l), t] ∧ q0y H H' ∧ goR (q7g m) (ds.drop i) l = goR (q7g m) ds "")
   ⟨"", none, rfl, q0y.refl _, rfl⟩ (fun i σ H' _ ⟨_, _, _, s', _⟩ => SqT.of (s' _ _ ea)) ?_ ?_⟩
  ·rintro i x σ H' hx ⟨l, t, rfl, s', e⟩
   obtain ⟨d, hd, Id⟩ := r.get hx
   have hi : i < ds.length := (List.getElem?_eq_some_iff.mp hd).1
   have edr : ds.drop i = d :: ds.drop (i + 1) := by
    rw [List.drop_eq_getElem_cons hi, (List.getElem?_eq_some_iff.mp hd).2]
   rw [edr] at e
   have e0 : ((q7g m d && ltS l (q1o d)) && goR (q7g m) (ds.drop (i + 1)) (q1o d)) = goR (q7g m) ds "" := e
   have no : ∀ {H2 : Hp}, q0y H' H2 → ((q7g m d && ltS l (q1o d)) = false) → Q (.bl false) H2 := fun {H2} s2 z => by
    have k3 := k2 H2 (s'.trans s2)
    rw [← e0, z] at k3
    exact k3
   have Id' := Id.same s'
   refine ⟨_, rfl, _, rfl, B, x, d, (m : Int), hB, rfl, Id', _, rfl, ?_⟩
   cases hz : x1u (m : Int) d with
   | false =>
    refine q1f (q1f (no (q0y.refl _) ?_))
    have : q7g m d = false := by
     cases d with
     | tup ds' =>
      have z : decide ((ds'.length : Int) = (m : Int)) = false := hz
      have z' : ¬ ds'.length = m := fun h => by rw [h] at z; simp at z
      show (decide (ds'.length = m) && _) = false
      rw [decide_eq_false z']; rfl
     | _ => rfl
    rw [this]; rfl
   | true =>
    obtain ⟨ds', rfl⟩ : ∃ ds', d = .tup ds' := by
     cases d with
     | tup ds' => exact ⟨ds', rfl⟩
     | _ => cases hz
    have hn : ds'.length = m := by
     have z : decide ((ds'.length : Int) = (m : Int)) = true := hz
     have := of_decide_eq_true z
     omega
    have ep : q7g m (.tup ds') = ((q1y (ds'.getD 0 .non) && whole (ds'.getD (m - 1) .non)) && (!decide (m = 3) || geD 1 (ds'.getD 1 .non))) := by
     show (decide (ds'.length = m) && _) = _
     rw [decide_eq_true hn]; rfl
    have at' : ∀ j, j < m → ds'[j]? = some (ds'.getD j .non) := fun j hj => by
     have : j < ds'.length := by omega
     simp [this]
    cases Id' with
    | @tup a' xs' _ ea' hl' r' =>
    obtain ⟨v0, e1, I0⟩ := r'.at (i := 0) (at' 0 (by omega))
    obtain ⟨v1, e2, I1⟩ := r'.at (i := 1) (at' 1 (by omega))
    obtain ⟨vl, e3, Il⟩ := r'.at (i := m - 1) (at' (m - 1) (by omega))
    rw [show ((m - 1 : Nat) : Int) = (m : Int) - 1 by omega] at e3
    refine q1a ⟨_, rfl, a', xs', 0, v0, rfl, rfl, SqT.of ea', e1, B, v0, _, hB, rfl, I0, fun H2 s2 => ⟨_, rfl, ?_⟩⟩
    cases hnm : q1y (ds'.getD 0 .non) with
    | false =>
     refine q1f (q1f (no s2 ?_))
     rw [ep, hnm]; rfl
    | true =>
     obtain ⟨x0, hx0⟩ := x5u hnm
     have hw : q1o (.tup ds') = x0 := by
      match ds', hn, hx0 with
      | [], hn, hx0 => exfalso; simp at hn; omega
      | y0 :: yr, hn, hx0 =>
       have : y0 = .str x0 := hx0
       rw [this]; rfl
     rw [hx0] at I0
     cases I0
     refine q1a ⟨_, rfl, a', xs', 0, _, rfl, rfl, SqT.of (s2 _ _ ea'), e1, _, rfl, x0, l, rfl, rfl, _, rfl, ?_⟩
     show if (!ltS l x0) = true then _ else _
     cases hlt : ltS l x0 with
     | false =>
      refine q1f (q1f (no s2 ?_))
      rw [hw, hlt, Bool.and_false]
     | true =>
      refine q1a ⟨_, rfl, _, rfl, _, _, rfl, rfl, a', xs', (m : Int) - 1, vl, rfl, rfl, SqT.of (s2 _ _ ea'), e3, B, vl, _, hB, rfl, Il.same s2, fun H3 s3 => ⟨_, rfl, ?_⟩⟩
      cases hwl : whole (ds'.getD (m - 1) .non) with
      | false =>
       refine q1f (no (s2.trans s3) ?_)
       rw [ep, hnm, hwl]; rfl
      | true =>
       refine q1a ⟨_, rfl, rfl, _, rfl, ?_⟩
       have fin : ∀ {H4 : Hp}, q0y H' H4 → q7g m (.tup ds') = true → goR (q7g m) (ds.drop (i + 1)) x0 = goR (q7g m) ds "" := fun {H4} _ z => by
        rw [← e0, z, hw, hlt]; rfl
       by_cases h3 : m = 3
       ·rw [decide_eq_true (show V.int (m : Int) = V.int 3 by rw [h3]; rfl)]
        refine q1f ⟨_, rfl, a', xs', 1, v1, rfl, rfl, SqT.of (s3 _ _ (s2 _ _ ea')), e2, B, v1, _, 1, hB, rfl, (I1.same s2).same s3, fun H4 s4 => ⟨_, rfl, ?_⟩⟩
        cases hg : geD 1 (ds'.getD 1 .non) with
        | false =>
         refine q1f (no ((s2.trans s3).trans s4) ?_)
         rw [ep, hnm, hwl, hg, decide_eq_true h3]; rfl
        | true =>
         refine q1a ⟨_, rfl, a', xs', 0, _, rfl, rfl, SqT.of (s4 _ _ (s3 _ _ (s2 _ _ ea'))), e1, x0, _, rfl, s'.trans ((s2.trans s3).trans s4), fin ((s2.trans s3).trans s4) ?_⟩
         rw [ep, hnm, hwl, hg, Bool.or_true]; rfl
       ·rw [decide_eq_false (show ¬ V.int (m : Int) = V.int 3 from fun z => h3 (by have := V.int.inj z; omega))]
        refine q1a (q1a ⟨_, rfl, a', xs', 0, _, rfl, rfl, SqT.of (s3 _ _ (s2 _ _ ea')), e1, x0, _, rfl, s'.trans (s2.trans s3), fin (s2.trans s3) ?_⟩)
        rw [ep, hnm, hwl, decide_eq_false h3]; rfl
  ·rintro σ H' ⟨l, t, rfl, s', e⟩
   rw [hlen, List.drop_length] at e
   have k3 := k2 H' s'
   rw [← e] at k3
   exact k3
 | non => exact q1f (k H (q0y.refl _))
 | bl _ => exact q1f (k H (q0y.refl _))
 | int _ => exact q1f (k H (q0y.refl _))
 | str _ => exact q1f (k H (q0y.refl _))
 | lst _ => exact q1f (k H (q0y.refl _))
theorem x7o {m : Nat} {d : D} (h : x1u (m : Int) d = true) : ∃ ds, d = .tup ds ∧ ds.length = m := by
 cases d with
 | tup ds =>
  have z : decide ((ds.length : Int) = (m : Int)) = true := h
  have := of_decide_eq_true z
  exact ⟨ds, rfl, by omega⟩
 | _ => cases h
theorem j0v {d : D} (h : x1u 2 d = false) : q7s d = false := by
 cases d with
 | tup ds =>
  match ds, h with
  | [], _ => rfl
  | [_], _ => rfl
  | [a, b], h => cases h
  | _ :: _ :: _ :: _, _ => rfl
 | _ => rfl
theorem j4n {d : D} (h : x1u 4 d = false) : q8c d = false := by
 cases d with
 | tup ds =>
  match ds, h with
  | [], _ => rfl
  | [_], _ => rfl
  | [_, _], _ => rfl
  | [_, _, _], _ => rfl
  | [_, _, _, _], h => cases h
  | _ :: _ :: _ :: _ :: _ :: _, _ => rfl
 | _ => rfl
theorem j9t : FnScope ["_law_thing"] ["_law_thing"] (q0f q8z) := fSc
theorem z6y {f : Addr} {fd : FuncData} (F : Fun K "_law_store" "_law_store" q8z f fd) (CZ : Cal P w K mg base "_law_sized" 1 ["_law_thing", "_law_size"] x4k) (CR : Cal P w K mg base "_law_rises" 2 ["_law_thing", "_law_size"] z5a) : FnOk P w K mg base CX0 3 f fd ["_law_thing"] (spP q7s) := by
 refine F.ok j9t q2d (fun cdv A outer s H vs Q E hr h => ?_)
 obtain ⟨B, v, d, hB, rfl, I, k⟩ := h
 have r1 := hr.mono (show 1 ≤ 2 by decide)
 refine ⟨_, q0p (q0k (q1x (q0i CZ r1 (q1i (pv 0) (q6s q0a q0b))) (q1x (q0i CR hr (q4a (q0u q0o (pv 0) q0a q2j) (q6s q0a q0b))) (q2i (q0i CR hr (q4a (q0u q0o (pv 0) q0a q2j) (q6s q0a q0b))))))), ?_⟩
 refine ⟨_, rfl, B, v, d, 2, hB, rfl, I, _, rfl, ?_⟩
 cases hz : x1u 2 d with
 | false =>
  have k0 := k H (q0y.refl _)
  rw [j0v hz] at k0
  exact q1a k0
 | true =>
  obtain ⟨ds, rfl, hn⟩ := x7o (m := 2) hz
  match ds, hn, k, I with
  | [y0, y1], _, k, I =>
  have k1 : ∀ H', q0y H H' → Q (.bl (q8s x5v y0 && q8s q7l y1)) H' := k
  cases I with
  | @tup a xs _ ea hl r =>
  obtain ⟨v0, e0, I0⟩ := r.at (i := 0) rfl
  obtain ⟨v1, e1, I1⟩ := r.at (i := 1) rfl
  rw [← z7k, ← x9y] at k1
  refine q1f ⟨_, rfl, a, xs, 0, v0, rfl, rfl, SqT.of ea, e0, B, v0, y0, 2, hB, rfl, .inl rfl, I0, fun H1 s1 => ⟨_, rfl, ?_⟩⟩
  cases hr0 : q8s (q7g 2) y0 with
  | false => rw [hr0] at k1; exact q1a (k1 _ s1)
  | true =>
   rw [hr0] at k1
   exact q1f ⟨_, rfl, a, xs, 1, v1, rfl, rfl, SqT.of (s1 _ _ ea), e1, B, v1, y1, 3, hB, rfl, .inr rfl, I1.same s1, fun H2 s2 => k1 _ (s1.trans s2)⟩
noncomputable def x9x : Sp := fun vs H Q _ => ∃ B u v a b, B ≤ 1000 ∧ vs = [u, v] ∧ Is B H u a ∧ Is B H v b ∧ ∀ H', q0y H H' → Q (.bl (q3r a b)) H'
theorem w0u : FnScope ["_law_place", "_law_last"] ["_law_place", "_law_last"] (q0f q8t) := fSc
theorem z4k {f : Addr} {fd : FuncData} (F : Fun K "_law_stand" "_law_stand" q8t f fd) (CF : Cal P w K mg base "_law_from" 1 ["_law_thing", "_law_least"] x0i) : FnOk P w K mg base CX0 2 f fd ["_law_place", "_law_last"] x9x := by
 refine F.ok w0u (fun vs H Q E ⟨_, _, _, _, _, _, e, _⟩ => by subst e; rfl) (fun cdv A outer s H vs Q E hr h => ?_)
 obtain ⟨B, u, v, a, b, hB, rfl, Iu, Iv, k⟩ := h
 refine ⟨_, @q0z _ _ _ _ _ (q1w (PW.pt (q6t (q3a (q2l (q0i CF hr (q1i (pv 0) (q6s q0a q0b))))) (q7t (q3a (q2l (q0i CF hr (q1i (pv 1) (q6s q0a q0b)))))))) (@q1m _ _ _ (q0k q7e)) q0t)
  (@q1m _ _ _ (q0k (z8t (q1x (q1z q2c (pv 0) q0a (q0q _)) (q2i (q1z q2c (pv 1) q0a (q0q _)))) (q2i (q1x (q1z z0l (pv 0) q0a (q0q _)) (q2i (q1z z0l (pv 1) q0a (q0q _)))))))), ?_⟩
 refine ⟨_, rfl, B, u, a, 0, hB, rfl, Iu, fun H1 s1 => ⟨_, rfl, ?_⟩⟩
 cases ha : geD 0 a with
 | false =>
  have k0 := k _ s1
  unfold q3r at k0
  rw [ha] at k0
  exact q1f (q1f k0)
 | true =>
  refine q1a ⟨_, rfl, B, v, b, 0, hB, rfl, Iv.same s1, fun H2 s2 => ⟨_, rfl, ?_⟩⟩
  have k0 := k _ (s1.trans s2)
  unfold q3r at k0
  rw [ha] at k0
  cases hb : geD 0 b with
  | false =>
   rw [hb] at k0
   exact q1f k0
  | true =>
   rw [hb] at k0
   obtain ⟨i, rfl⟩ : ∃ i, a = .int i := by
    cases a with
    | int i => exact ⟨i, rfl⟩
    | _ => cases ha
   obtain ⟨j, rfl⟩ : ∃ j, b = .int j := by
    cases b with
    | int j => exact ⟨j, rfl⟩
    | _ => cases hb
   cases Iu
   cases Iv
   have k1 : Q (.bl ((decide (i = 0) && decide (j = 0)) || (decide (0 < i) && decide (0 < j)))) H2 := k0
   have ei : ∀ i : Int, decide (V.int i = V.int 0) = decide (i = 0) := fun i => by
    rw [Bool.eq_iff_iff]; simp only [decide_eq_true_eq]; exact ⟨fun h => V.int.inj h, fun h => by rw [h]⟩
   refine q1a ⟨_, rfl, rfl, _, rfl, ?_⟩
   rw [ei]
   cases h1 : decide (i = 0) with
   | true =>
    rw [h1] at k1
    refine q1f ⟨_, rfl, rfl, _, rfl, ?_⟩
    rw [ei]
    cases h2 : decide (j = 0) with
    | true => rw [h2] at k1; exact q1f k1
    | false =>
     rw [h2] at k1
     have hi : i = 0 := of_decide_eq_true h1
     refine q1a ⟨_, rfl, _, _, rfl, rfl, _, rfl, ?_⟩
     have k2 : Q (.bl (decide (0 < i) && decide (0 < j))) H2 := k1
     rw [decide_eq_false (show ¬ (0 : Int) < i by omega)] at k2 ⊢
     exact q1a k2
   | false =>
    rw [h1] at k1
    refine q1a ⟨_, rfl, ?_⟩
    refine q1a ⟨_, rfl, _, _, rfl, rfl, _, rfl, ?_⟩
    have k2 : Q (.bl (decide (0 < i) && decide (0 < j))) H2 := k1
    cases h3 : decide (0 < i) with
    | false => rw [h3] at k2; exact q1a k2
    | true => rw [h3] at k2; exact q1f ⟨_, rfl, _, _, rfl, rfl, k2⟩
theorem j9y : FnScope ["_law_thing"] ["_law_thing"] (q0f q9w) := fSc
theorem z8z {f : Addr} {fd : FuncData} (F : Fun K "_law_pack" "_law_pack" q9w f fd) (CZ : Cal P w K mg base "_law_sized" 1 ["_law_thing", "_law_size"] x4k) (CD : Cal P w K mg base "_law_stand" 2 ["_law_place", "_law_last"] x9x)
  (CS : Cal P w K mg base "_law_seats" 2 ["_law_thing"] (spP q3y)) (CT : Cal P w K mg base "_law_store" 3 ["_law_thing"] (spP q7s)) : FnOk P w K mg base CX0 4 f fd ["_law_thing"] (spP q8c) := by
 refine F.ok j9y q2d (fun cdv A outer s H vs Q E hr h => ?_)
 obtain ⟨B, v, d, hB, rfl, I, k⟩ := h
 have r1 := hr.mono (show 1 ≤ 3 by decide)
 have r2 := hr.mono (show 2 ≤ 3 by decide)
 refine ⟨_, q0p (q0k (q1x (q0i CZ r1 (q1i (pv 0) (q6s q0a q0b))) (q1x (q0i CD r2 (q4a (q0u q0o (pv 0) q0a q2j) (q4a (q0u q0o (pv 0) q0a q2j) q0b)))
  (q1x (q0i CS r2 (q4a (q0u q0o (pv 0) q0a q2j) q0b)) (q2i (q0i CT hr (q4a (q0u q0o (pv 0) q0a q2j) q0b))))))), ?_⟩
 refine ⟨_, rfl, B, v, d, 4, hB, rfl, I, _, rfl, ?_⟩
 cases hz : x1u 4 d with
 | false =>
  have k0 := k H (q0y.refl _)
  rw [j4n hz] at k0
  exact q1a k0
 | true =>
  obtain ⟨ds, rfl, hn⟩ := x7o (m := 4) hz
  match ds, hn, k, I with
  | [y0, y1, y2, y3], _, k, I =>
  have k1 : ∀ H', q0y H H' → Q (.bl (q3r y0 y1 && (q3y y2 && q7s y3))) H' := k
  cases I with
  | @tup a xs _ ea hl r =>
  obtain ⟨v0, e0, I0⟩ := r.at (i := 0) rfl
  obtain ⟨v1, e1, I1⟩ := r.at (i := 1) rfl
  obtain ⟨v2, e2, I2⟩ := r.at (i := 2) rfl
  obtain ⟨v3, e3, I3⟩ := r.at (i := 3) rfl
  refine q1f ⟨_, rfl, a, xs, 0, v0, rfl, rfl, SqT.of ea, e0, _, rfl, a, xs, 1, v1, rfl, rfl, SqT.of ea, e1, B, v0, v1, y0, y1, hB, rfl, I0, I1, fun H1 s1 => ⟨_, rfl, ?_⟩⟩
  cases h0 : q3r y0 y1 with
  | false => rw [h0] at k1; exact q1a (k1 _ s1)
  | true =>
   rw [h0] at k1
   refine q1f ⟨_, rfl, a, xs, 2, v2, rfl, rfl, SqT.of (s1 _ _ ea), e2, B, v2, y2, hB, rfl, I2.same s1, fun H2 s2 => ⟨_, rfl, ?_⟩⟩
   cases h1 : q3y y2 with
   | false => rw [h1] at k1; exact q1a (k1 _ (s1.trans s2))
   | true =>
    rw [h1] at k1
    exact q1f ⟨_, rfl, a, xs, 3, v3, rfl, rfl, SqT.of (s2 _ _ (s1 _ _ ea)), e3, B, v3, y3, hB, rfl, (I3.same s1).same s2, fun H3 s3 => k1 _ ((s1.trans s2).trans s3)⟩
theorem q9x {tb : List (Str × List (D → Bool))} {d : D} {ps : List (D → Bool)} (h : tb.lookup (q1o d) = some ps) (h0 : tb.lookup ("" : Str) = none) : ∃ x r, d = .tup (.str x :: r) ∧ q2n tb d = q0x ps r := by
 obtain ⟨r, e⟩ := q4x (d := d) rfl (fun z => by rw [z, h0] at h; cases h)
 generalize q1o d = x at e h
 subst e
 refine ⟨_, r, rfl, ?_⟩
 show (match tb.lookup x with | some ps => q0x ps r | none => false) = _
 rw [h]
theorem x1l {tb : List (Str × List (D → Bool))} {x : Str} {ps : List (D → Bool)} (h : tb.lookup x = some ps) : (x, ps) ∈ tb := L2.q6w h
structure TabOk (P : Program) (w : World) (K : PySem.W.Frag) (mg : Str → Option Value) (base : Heap) (name : Str) (kk : Nat) (tb : List (Str × List (D → Bool))) : Prop where
 ex : ∃ a es n, mg name = some (.ref a) ∧ K.lookup a = some ⟨.type "dict", none, .dict es n, #[]⟩ ∧ (a == sysModules) = false ∧ Tbl P w K mg base kk es.toList tb
 no : tb.lookup ("" : Str) = none
 few : ∀ q ∈ tb, q.2.length ≤ 1000
theorem q9s (es : Array DictEntry) (x : Str) : findBy Value.isStrOf es x = ((es.toList.find? fun e => Value.isStrOf x e.key).map (·.val)) := by
 unfold findBy
 rw [← Array.find?_toList]
theorem w3i : FnScope ["thing"] ["thing"] (q0f x2s) := fSc
theorem j3n {f : Addr} {fd : FuncData} {kk : Nat} {tb : List (Str × List (D → Bool))} (F : Fun K "is_deed" "is_deed" x2s f fd) (TB : TabOk P w K mg base "DEED_TELLERS" kk tb)
  (CW : Cal P w K mg base "first_word" 1 ["thing"] q9j) (CB : Cal P w K mg base "fits_behind_word" (kk + 2) ["thing", "tellers"] (z0d P w K mg base kk)) : FnOk P w K mg base CX0 (kk + 3) f fd ["thing"] (spP (q2n tb)) := by
 refine F.ok w3i q2d (fun cdv A outer s H vs Q E hr h => ?_)
 obtain ⟨B, v, d, hB, rfl, I, k⟩ := h
 obtain ⟨aD, es, n, mD, lD, hsys, hT⟩ := TB.ex
 refine ⟨_, q0p (q0k (q0i CB hr (q0c (pv 0) (q0c (x9s (q2s rfl mD) (q0c (q0i CW (hr.mono (by omega)) (q0c (pv 0) q0b)) q0b)) q0b)))), ?_⟩
 obtain ⟨vv, rel, hv⟩ := hT.find (x := q1o d)
 rw [← q9s] at rel
 refine ⟨_, rfl, aD, es, n, rfl, lD, hT.keys, hsys, _, rfl, B, v, d, hB, rfl, I, _, vv, rfl, rel, B, v, d, vv, hB, rfl, I, ?_⟩
 rcases hv with ⟨hn, rfl⟩ | ⟨ps, t, gs, hs, rfl, hq, ht⟩
 ·have k0 := k H (q0y.refl _)
  rw [q9t hn] at k0
  exact .inl ⟨rfl, k0⟩
 ·obtain ⟨x, r, rfl, e⟩ := q9x hs TB.no
  refine .inr ⟨t, gs, ps, _, r, rfl, rfl, hq H, ht, ?_, fun H' s' => ?_⟩
  ·rw [ht.length]; exact TB.few _ (x1l hs)
  ·have k0 := k H' s'
   rw [e] at k0
   exact k0
theorem w3b : FnScope ["thing"] ["thing"] (q0f x2y) := fSc
theorem j2u {f : Addr} {fd : FuncData} {kk : Nat} {tb : List (Str × List (D → Bool))} (F : Fun K "is_what" "is_what" x2y f fd) (TB : TabOk P w K mg base "WHAT_TELLERS" kk tb)
  (CW : Cal P w K mg base "first_word" 1 ["thing"] q9j) (CB : Cal P w K mg base "fits_behind_word" (kk + 2) ["thing", "tellers"] (z0d P w K mg base kk)) : FnOk P w K mg base CX0 (kk + 3) f fd ["thing"] (spP (q2n tb)) := by
 refine F.ok w3b q2d (fun cdv A outer s H vs Q E hr h => ?_)
 obtain ⟨B, v, d, hB, rfl, I, k⟩ := h
 obtain ⟨aD, es, n, mD, lD, hsys, hT⟩ := TB.ex
 refine ⟨_, q0p (q0k (q0i CB hr (q0c (pv 0) (q0c (x9s (q2s rfl mD) (q0c (q0i CW (hr.mono (by omega)) (q0c (pv 0) q0b)) q0b)) q0b)))), ?_⟩
 obtain ⟨vv, rel, hv⟩ := hT.find (x := q1o d)
 rw [← q9s] at rel
 refine ⟨_, rfl, aD, es, n, rfl, lD, hT.keys, hsys, _, rfl, B, v, d, hB, rfl, I, _, vv, rfl, rel, B, v, d, vv, hB, rfl, I, ?_⟩
 rcases hv with ⟨hn, rfl⟩ | ⟨ps, t, gs, hs, rfl, hq, ht⟩
 ·have k0 := k H (q0y.refl _)
  rw [q9t hn] at k0
  exact .inl ⟨rfl, k0⟩
 ·obtain ⟨x, r, rfl, e⟩ := q9x hs TB.no
  refine .inr ⟨t, gs, ps, _, r, rfl, rfl, hq H, ht, ?_, fun H' s' => ?_⟩
  ·rw [ht.length]; exact TB.few _ (x1l hs)
  ·have k0 := k H' s'
   rw [e] at k0
   exact k0
theorem w2g : FnScope ["thing"] ["thing"] (q0f x1i) := fSc
theorem j1c {f : Addr} {fd : FuncData} {kk k1 k2 : Nat} (F : Fun K "is_entry" "is_entry" x1i f fd) (C1 : Cal P w K mg base "is_from_one" k1 ["thing"] (spP (geD 1))) (C2 : Cal P w K mg base "is_what" k2 ["thing"] (spP x0z)) (h1 : k1 ≤ kk) (h2 : k2 ≤ kk)
  (CF : Cal P w K mg base "fits" (kk + 1) ["thing", "tellers"] (q6q P w K mg base kk)) : FnOk P w K mg base CX0 (kk + 2) f fd ["thing"] (spP q3z) := by
 refine F.ok w2g q2d (fun cdv A outer s H vs Q E hr h => ?_)
 obtain ⟨B, v, d, hB, rfl, I, k⟩ := h
 obtain ⟨g1, m1, t1⟩ := C1.at
 obtain ⟨g2, m2, t2⟩ := C2.at
 refine ⟨_, q0p (q0k (q0i CF hr (q0c (pv 0) (q0c (q2r (q0c (q2s rfl m1) (q0c (q2s rfl m2) q0b))) q0b)))), ?_⟩
 refine ⟨_, rfl, (by show 2 ≤ sizeLine; rw [sizeLine_eq]; decide), fun p hp => ⟨B, v, d, p, _, [geD 1, x0z], hB, rfl, I.same (q0h hp), SqT.of q0e, .cons (t1 kk h1) (.cons (t2 kk h2) .nil), (by show 2 ≤ 1000; decide), fun H' s' => k H' ((q0h hp).trans s')⟩⟩
theorem w1e : FnScope ["thing"] ["thing"] (q0f x1n) := fSc
theorem x6o (d : D) : z6i d = q2t d := by cases d <;> rfl
theorem z8u {f : Addr} {fd : FuncData} (F : Fun K "is_truth" "is_truth" x1n f fd) (T : Txt mg) : FnOk P w K mg base CX0 1 f fd ["thing"] (spP q2t) := by
 refine F.ok w1e q2d (fun cdv A outer s H vs Q E hr h => ?_)
 obtain ⟨B, v, d, hB, rfl, I, k⟩ := h
 refine ⟨_, q0p (q0k (q0n q2a rfl T.isi q1s (q1i (pv 0) (q1i (q4z rfl T.bool q6c) q0b)))), ?_⟩
 have k0 := k H (q0y.refl _)
 rw [← x6o] at k0
 exact ⟨_, rfl, _, _, _, _, rfl, I.ty, q5r K d, k0⟩
theorem w2n : FnScope ["thing"] ["thing"] (q0f x4l) := fSc
theorem j4z {f : Addr} {fd : FuncData} (F : Fun K "is_head" "is_head" x4l f fd) (CK : Cal P w K mg base "is_keeper" 2 ["thing"] (spP q0g)) : FnOk P w K mg base CX0 3 f fd ["thing"] (spP q7y) := by
 refine F.ok w2n q2d (fun cdv A outer s H vs Q E hr h => ?_)
 obtain ⟨B, v, d, hB, rfl, I, k⟩ := h
 refine ⟨_, q0p (q0k (z8t (q1z z1d (pv 0) x5b (q0q _)) (q2i (q0i CK hr (q1i (pv 0) q0b))))), ?_⟩
 refine ⟨_, rfl, rfl, _, rfl, ?_⟩
 have go : ∀ (d : D), d ≠ .non → Is B H v d → (∀ H', q0y H H' → Q (.bl (q7y d)) H') → decide (v = V.non) = false ∧ ∀ H', q0y H H' → Q (.bl (q0g d)) H' := fun d hd I k => by
  cases I with
  | non => exact absurd rfl hd
  | _ => exact ⟨rfl, k⟩
 by_cases hd : d = .non
 ·subst hd
  cases I
  exact q1f (k H (q0y.refl _))
 ·obtain ⟨e, k'⟩ := go d hd I k
  rw [e]
  exact q1a ⟨_, rfl, B, v, d, hB, rfl, I, k'⟩
theorem j8g (p : D → Bool) (d : D) : j9d p d = j9w p d := by cases d <;> rfl
theorem w1f : FnScope ["thing"] ["thing"] (q0f q8v) := fSc
theorem z3s {f : Addr} {fd : FuncData} {kk : Nat} (F : Fun K "is_entries" "is_entries" q8v f fd) (T : Txt mg) (CE : Cal P w K mg base "is_entry" kk ["thing"] (spP q3z))
  (CR : ∀ g gd, FnOk P w K mg base CX0 kk g gd ["thing"] (spP q3z) → PySem.W.keepIn K (.ref g) = true → q5i K gd ["thing"] [] → Cal P w K mg base "is_row_of" (kk + 1) ["thing", "teller"] (z9i g q3z)) : FnOk P w K mg base CX0 (kk + 2) f fd ["thing"] (spP q2f) := by
 refine F.ok w1f q2d (fun cdv A outer s H vs Q E hr h => ?_)
 obtain ⟨B, v, d, hB, rfl, I, k⟩ := h
 obtain ⟨g, gd, G, m, kp, b⟩ := CE.ex
 obtain ⟨gR, dR, GR, mR, kR, bR⟩ := (CR g gd G kp b).ex
 refine ⟨_, q0p (q0k (q1x (q8y GR hr rfl mR kR bR .nil x6m (q1i (pv 0) (q1i (q2s rfl m) q0b))) (q2i (q1z z0e (q0n q0w rfl T.len PySem.boot_len (q1i (pv 0) q0b)) q0a (q0q _))))), ?_⟩
 refine ⟨_, rfl, B, v, d, hB, rfl, I, fun H1 s1 => ⟨_, rfl, ?_⟩⟩
 have k0 := k H1 s1
 unfold q2f at k0
 rw [← j8g] at k0
 cases hr0 : j9d q3z d with
 | false => rw [hr0] at k0; exact q1a k0
 | true =>
  rw [hr0] at k0
  obtain ⟨ds, rfl⟩ : ∃ ds, d = .tup ds := by
   cases d with
   | tup ds => exact ⟨ds, rfl⟩
   | _ => cases hr0
  cases I with
  | @tup a xs _ ea hl r =>
  refine q1f ⟨_, rfl, a, xs, rfl, .inr (SqT.of (s1 _ _ ea)), _, _, rfl, rfl, ?_⟩
  have e : decide ((xs.length : Int) ≤ 5) = decide (z4h (.tup ds) ≤ 5) := by
   rw [r.length, Bool.eq_iff_iff]; simp only [decide_eq_true_eq]; show (ds.length : Int) ≤ 5 ↔ ds.length ≤ 5; omega
  show Q (.bl (decide ((xs.length : Int) ≤ 5))) H1
  rw [e]
  exact k0
theorem w1l : FnScope ["thing"] ["thing"] (q0f q4q) := fSc
theorem j2m {f : Addr} {fd : FuncData} {kk : Nat} (F : Fun K "is_pack_to_send" "is_pack_to_send" q4q f fd) (CP : Cal P w K mg base "is_pack" kk ["thing"] (spP x6g)) : FnOk P w K mg base CX0 (kk + 1) f fd ["thing"] (spP q8k) := by
 refine F.ok w1l q2d (fun cdv A outer s H vs Q E hr h => ?_)
 obtain ⟨B, v, d, hB, rfl, I, k⟩ := h
 refine ⟨_, q0p (q0k (q1x (q0i CP hr (q1i (pv 0) q0b)) (q2i (q1z z3z (q0u q0o (pv 0) q0a q2j) q0a (q0q _))))), ?_⟩
 refine ⟨_, rfl, B, v, d, hB, rfl, I, fun H1 s1 => ⟨_, rfl, ?_⟩⟩
 have k0 := k H1 s1
 unfold q8k at k0
 cases hp : x6g d with
 | false => rw [hp] at k0; exact q1a k0
 | true =>
  rw [hp] at k0
  obtain ⟨i, r, rfl, hi⟩ := x6k ((z7s d).symm.trans hp)
  cases I with
  | @tup a xs _ ea hl rr =>
  obtain ⟨v0, e0, I0⟩ := rr.at (i := 0) rfl
  cases I0
  exact q1f ⟨_, rfl, a, xs, 0, _, rfl, rfl, SqT.of (s1 _ _ ea), e0, _, _, rfl, rfl, k0⟩
theorem w0n : FnScope ["thing", "word"] ["thing"] (q0f q9v) := fSc
theorem x8e {d : D} (h : q2n q2q d = true) : ∃ x a b r, d = .tup (.str x :: a :: b :: r) ∧ (q0g a = true ∨ q2y a = true) ∧ (q0g b = true ∨ q2y b = true) ∧
  (x = "ask" ∨ x = "hand" → ∃ c i j r', r = c :: D.int i :: D.int j :: r') := by
 unfold q2n at h
 split at h
 ·rename_i x r
  unfold q2q at h
  simp only [List.lookup_cons, List.lookup_nil] at h
  have ne : ∀ {s t : Str}, s ≠ t → (s == t) = false := fun h => by simp [h]
  have yes : ∀ s : Str, (s == s) = true := fun s => by simp
  by_cases h1 : x = "ask"
  ·subst h1
   rw [yes] at h
   have h' : q0x [q0g, q0g, geD 1, geD 0, geD 0] r = true := h
   rw [z9n] at h'
   match r, h' with
   | [a, b, t, p, l], h' =>
    simp only [Bool.and_eq_true] at h'
    obtain ⟨i, rfl⟩ := ge_int h'.2.2.2.1
    obtain ⟨j, rfl⟩ := ge_int h'.2.2.2.2
    exact ⟨_, a, b, _, rfl, .inl h'.1, .inl h'.2.1, fun _ => ⟨t, i, j, [], rfl⟩⟩
  rw [ne h1] at h
  by_cases h3 : x = "hand"
  ·subst h3
   rw [ne (show ("hand" : Str) ≠ "voice" by decide +kernel), yes] at h
   have h' : q0x [q0g, q0g, geD 1, geD 0, geD 0, q2f, geD 0] r = true := h
   rw [j4f] at h'
   match r, h' with
   | [a, b, t, p, l, e, m], h' =>
    simp only [Bool.and_eq_true] at h'
    obtain ⟨i, rfl⟩ := ge_int h'.2.2.2.1
    obtain ⟨j, rfl⟩ := ge_int h'.2.2.2.2.1
    exact ⟨_, a, b, _, rfl, .inl h'.1, .inl h'.2.1, fun _ => ⟨t, i, j, _, rfl⟩⟩
  rw [ne h3] at h
  have hx : ∀ r' : List D, x = "ask" ∨ x = "hand" → ∃ c i j r'', r' = c :: D.int i :: D.int j :: r'' := fun (_ : List D) z => by rcases z with z | z; exact absurd z h1; exact absurd z h3
  have four : ∀ {p q s t : D → Bool} {r : List D}, q0x [p, q, s, t] r = true → ∃ a b c d, r = [a, b, c, d] ∧ p a = true ∧ q b = true := fun {p q s t r} h => by
   rw [z3a] at h
   match r, h with
   | [a, b, c, d], h =>
    simp only [Bool.and_eq_true] at h
    exact ⟨a, b, c, d, rfl, h.1, h.2.1⟩
  by_cases h2 : x = "voice"
  ·subst h2
   rw [yes] at h
   obtain ⟨a, b, c, d, rfl, ha, hb⟩ := four h
   exact ⟨_, a, b, _, rfl, .inl ha, .inl hb, hx _⟩
  rw [ne h2] at h
  by_cases h4 : x = "pack"
  ·subst h4
   rw [yes] at h
   obtain ⟨a, b, c, d, rfl, ha, hb⟩ := four h
   exact ⟨_, a, b, _, rfl, .inl ha, .inl hb, hx _⟩
  rw [ne h4] at h
  by_cases h5 : x = "held"
  ·subst h5
   rw [yes] at h
   have h' : q0x [q0g, q0g, geD 1, q2t, geD 0] r = true := h
   rw [z9n] at h'
   match r, h' with
   | [a, b, t, p, l], h' =>
    simp only [Bool.and_eq_true] at h'
    exact ⟨_, a, b, _, rfl, .inl h'.1, .inl h'.2.1, hx _⟩
  rw [ne h5] at h
  by_cases h6 : x = "wish"
  ·subst h6
   rw [yes] at h
   obtain ⟨a, b, c, d, rfl, ha, hb⟩ := four h
   exact ⟨_, a, b, _, rfl, .inr ha, .inl hb, hx _⟩
  rw [ne h6] at h
  by_cases h7 : x = "told"
  ·subst h7
   rw [yes] at h
   obtain ⟨a, b, c, d, rfl, ha, hb⟩ := four h
   exact ⟨_, a, b, _, rfl, .inl ha, .inr hb, hx _⟩
  rw [ne h7] at h
  by_cases h8 : x = "away"
  ·subst h8
   rw [yes] at h
   obtain ⟨a, b, c, d, rfl, ha, hb⟩ := four h
   exact ⟨_, a, b, _, rfl, .inl ha, .inr hb, hx _⟩
  rw [ne h8] at h
  cases h
 ·cases h
theorem j2g {B : Nat} {H : Hp} {v : V} {d : D} (I : Is B H v d) (h : q0g d = true ∨ q2y d = true) : (∃ i, d = .int i ∧ v = .int i) ∨ ∃ x, d = .str x ∧ v = .str x := by
 cases I with
 | int i => exact .inl ⟨i, rfl, rfl⟩
 | str x _ => exact .inr ⟨x, rfl, rfl⟩
 | _ => rcases h with h | h <;> cases h
theorem z1g {B : Nat} {H : Hp} {v u : V} {a b : D} (Ia : Is B H v a) (Ib : Is B H u b) (ha : q0g a = true ∨ q2y a = true) (hb : q0g b = true ∨ q2y b = true) : j8p v u = true ∧ decide (v = u) = q2z a b := by
 rcases j2g Ia ha with ⟨i, rfl, rfl⟩ | ⟨x, rfl, rfl⟩ <;> rcases j2g Ib hb with ⟨j, rfl, rfl⟩ | ⟨y, rfl, rfl⟩
 ·refine ⟨rfl, ?_⟩
  show decide (V.int i = V.int j) = decide (i = j)
  rw [Bool.eq_iff_iff]; simp only [decide_eq_true_eq]; exact ⟨fun h => V.int.inj h, fun h => by rw [h]⟩
 ·exact ⟨rfl, decide_eq_false (fun z => by cases z)⟩
 ·exact ⟨rfl, decide_eq_false (fun z => by cases z)⟩
 ·refine ⟨rfl, ?_⟩
  show decide (V.str x = V.str y) = decide (x = y)
  rw [Bool.eq_iff_iff]; simp only [decide_eq_true_eq]; exact ⟨fun h => V.str.inj h, fun h => by rw [h]⟩
theorem j6n (x y z : Str) : inV (V.str x) [V.str y, V.str z] = decide (x = y ∨ x = z) := by
 show (decide ((y : Str) = x) || (decide ((z : Str) = x) || false)) = _
 rw [Bool.eq_iff_iff]
 simp only [Bool.or_eq_true, decide_eq_true_eq, Bool.false_eq_true, or_false]
 exact ⟨fun h => h.imp Eq.symm Eq.symm, fun h => h.imp Eq.symm Eq.symm⟩
theorem z7e {f : Addr} {fd : FuncData} {kk : Nat} (F : Fun K "is_letter" "is_letter" q9v f fd) (TB : TabOk P w K mg base "LETTER_TELLERS" kk q2q)
  (CW : Cal P w K mg base "first_word" 1 ["thing"] q9j) (CB : Cal P w K mg base "fits_behind_word" (kk + 2) ["thing", "tellers"] (z0d P w K mg base kk)) (CE : Cal P w K mg base "is_end" 1 ["place", "last"] j3i) : FnOk P w K mg base CX0 (kk + 3) f fd ["thing"] (spP q3s) := by
 refine F.ok w0n q2d (fun cdv A outer s H vs Q E hr h => ?_)
 obtain ⟨B, v, d, hB, rfl, I, k⟩ := h
 obtain ⟨aD, es, n, mD, lD, hsys, hT⟩ := TB.ex
 have r1 := hr.mono (show 1 ≤ kk + 2 by omega)
 refine ⟨_, @q0z _ _ _ _ _ (q1b (i := 1) w0n.nd (by rfl) (by exact Or.inl rfl) (q0i CW r1 (q1i (pv 0) q0b)))
  (@q0z _ _ _ _ _ (q1w (q3a (q2l (q0i CB hr (q1i (pv 0) (q7o (x9s (q2s (by rfl) mD) (q1i (pv 1) q0b)) q0b))))) (@q1m _ _ _ (q0k q7e)) q0t)
  (@q0z _ _ _ _ _ (q1w (q0s q2c (q0u q0o (pv 0) q0a q2j) (q0u q0o (pv 0) q0a q2j) (q0q _)) (@q1m _ _ _ (q0k q7e)) q0t)
  (@q1m _ _ _ (q0k (z8t (q1z q8e (pv 1) (QE.h (q6b (q2k (q2k q3e)))) rfl) (q2i (q0i CE r1 (q4a (q0u q0o (pv 0) q0a q2j) (q4a (q0u q0o (pv 0) q0a q2j) q0b))))))))), ?_⟩
 obtain ⟨vv, rel, hv⟩ := hT.find (x := q1o d)
 rw [← q9s] at rel
 refine ⟨_, rfl, B, v, d, hB, rfl, I, _, rfl, aD, es, n, rfl, lD, hT.keys, hsys, _, rfl, _, vv, rfl, rel, B, v, d, vv, hB, rfl, I, ?_⟩
 rcases hv with ⟨hn, rfl⟩ | ⟨ps, t, gs, hs, rfl, hq, ht⟩
 ·have k0 := k H (q0y.refl _)
  unfold q3s at k0
  rw [q9t hn] at k0
  exact .inl ⟨rfl, _, rfl, q1f k0⟩
 ·obtain ⟨x0, r0, ed, e⟩ := q9x hs TB.no
  refine .inr ⟨t, gs, ps, .str x0, r0, rfl, ed, hq H, ht, ?_, fun H' s' => ⟨_, rfl, ?_⟩⟩
  ·rw [ht.length]; exact TB.few _ (x1l hs)
  ·have k0 := k H' s'
   unfold q3s at k0
   rw [← e]
   cases hf : q2n q2q d with
   | false => rw [hf] at k0; exact q1f k0
   | true =>
    rw [hf] at k0
    obtain ⟨x, a, b, r, rfl, ha, hb, hends⟩ := x8e hf
    have I' := I.same s'
    cases I' with
    | @tup p xs _ ep hl rr =>
    obtain ⟨v1, e1, I1⟩ := rr.at (i := 1) rfl
    obtain ⟨v2, e2, I2⟩ := rr.at (i := 2) rfl
    obtain ⟨sc, sd⟩ := z1g I1 I2 ha hb
    have k1 : Q (.bl (!q2z a b && z3j (.tup (.str x :: a :: b :: r)))) H' := k0
    refine q1a ⟨_, rfl, p, xs, 1, v1, rfl, rfl, SqT.of ep, e1, _, rfl, p, xs, 2, v2, rfl, rfl, SqT.of ep, e2, sc, _, rfl, ?_⟩
    rw [sd]
    cases hsm : q2z a b with
    | true => rw [hsm] at k1; exact q1f k1
    | false =>
     rw [hsm] at k1
     refine q1a ⟨_, rfl, q3c (by show 2 ≤ 1000; decide), fun q hq => ⟨q, _, rfl, .inr (SqT.of q0e), rfl, rfl, _, rfl, ?_⟩⟩
     have s2 := q0h (o := HO.tup [V.str "ask", V.str "hand"]) hq
     have k2 := k _ (s'.trans s2)
     have k3 : Q (.bl (z3j (.tup (.str x :: a :: b :: r)))) (upd H' q (.tup [V.str "ask", V.str "hand"])) := by
      unfold q3s at k2
      rw [hf] at k2
      have k4 : Q (.bl (!q2z a b && z3j (.tup (.str x :: a :: b :: r)))) (upd H' q (.tup [V.str "ask", V.str "hand"])) := k2
      rw [hsm] at k4
      exact k4
     show if (!inV (V.str x) [V.str "ask", V.str "hand"]) = true then _ else _
     rw [j6n]
     by_cases hx : x = "ask" ∨ x = "hand"
     ·rw [decide_eq_true hx]
      obtain ⟨c, i, j, r', rfl⟩ := hends hx
      obtain ⟨v4, e4, I4⟩ := rr.at (i := 4) rfl
      obtain ⟨v5, e5, I5⟩ := rr.at (i := 5) rfl
      cases I4
      cases I5
      have k5 : Q (.bl (if x = "ask" ∨ x = "hand" then z8i (.tup (.int i :: .int j :: r')) else true)) (upd H' q (.tup [V.str "ask", V.str "hand"])) := k3
      rw [if_pos hx] at k5
      exact q1a ⟨_, rfl, p, xs, 4, _, rfl, rfl, SqT.of (s2 _ _ ep), e4, _, rfl, p, xs, 5, _, rfl, rfl, SqT.of (s2 _ _ ep), e5, i, j, rfl, k5⟩
     ·rw [decide_eq_false hx]
      have k5 : z3j (.tup (.str x :: a :: b :: r)) = true := by
       match r with
       | [] => rfl
       | [_] => rfl
       | [_, _] => rfl
       | _ :: u :: w :: t =>
        show (if x = "ask" ∨ x = "hand" then z8i (.tup (u :: w :: t)) else true) = true
        rw [if_neg hx]
      rw [k5] at k3
      exact q1f k3
end
end K1
namespace Kp
open PySem
theorem z2c (r : List D) : q4i "ask" r = (match r with | [a, b, t, p, l] => q9k a b t && q3r p l | _ => false) := by unfold q4i; rw [if_pos rfl]; all_goals rfl
theorem x5k (r : List D) : q4i "voice" r = (match r with | [a, b, t, v] => q9k a b t && q2t v | _ => false) := by unfold q4i; rw [if_neg (by decide +kernel), if_pos rfl]; all_goals rfl
theorem x8g (r : List D) : q4i "hand" r = (match r with | [a, b, t, p, l, e, m] => q9k a b t && (q3r p l && (q6d e && geD 0 m)) | _ => false) := by unfold q4i; rw [if_neg (by decide +kernel), if_neg (by decide +kernel), if_pos rfl]; all_goals rfl
theorem x7m (r : List D) : q4i "pack" r = (match r with | [a, b, t, k] => q9k a b t && (q8c k && nzD k) | _ => false) := by unfold q4i; rw [if_neg (by decide +kernel), if_neg (by decide +kernel), if_neg (by decide +kernel), if_pos rfl]; all_goals rfl
theorem x8k (r : List D) : q4i "held" r = (match r with | [a, b, t, v, m] => q9k a b t && (q2t v && geD 0 m) | _ => false) := by unfold q4i; rw [if_neg (by decide +kernel), if_neg (by decide +kernel), if_neg (by decide +kernel), if_neg (by decide +kernel), if_pos rfl]; all_goals rfl
theorem x3e (r : List D) : q4i "wish" r = (match r with | [n, k, c, d] => geD 1 c && (q1y n && (q0g k && q5q d)) | _ => false) := by unfold q4i; rw [if_neg (by decide +kernel), if_neg (by decide +kernel), if_neg (by decide +kernel), if_neg (by decide +kernel), if_neg (by decide +kernel), if_pos rfl]; all_goals rfl
theorem x4d (r : List D) : q4i "told" r = (match r with | [k, n, c, v] => geD 1 c && ((q0g k && q1y n) && whole v) | _ => false) := by unfold q4i; rw [if_neg (by decide +kernel), if_neg (by decide +kernel), if_neg (by decide +kernel), if_neg (by decide +kernel), if_neg (by decide +kernel), if_neg (by decide +kernel), if_pos rfl]; all_goals rfl
theorem x2r (r : List D) : q4i "away" r = (match r with | [k, n, c, h] => geD 1 c && ((q0g k && q1y n) && q7y h) | _ => false) := by unfold q4i; rw [if_neg (by decide +kernel), if_neg (by decide +kernel), if_neg (by decide +kernel), if_neg (by decide +kernel), if_neg (by decide +kernel), if_neg (by decide +kernel), if_neg (by decide +kernel), if_pos rfl]; all_goals rfl
theorem j3a {x : Str} (r : List D) (h1 : x ≠ "ask") (h2 : x ≠ "voice") (h3 : x ≠ "hand") (h4 : x ≠ "pack") (h5 : x ≠ "held") (h6 : x ≠ "wish") (h7 : x ≠ "told") (h8 : x ≠ "away") : q4i x r = false := by
 unfold q4i; rw [if_neg h1, if_neg h2, if_neg h3, if_neg h4, if_neg h5, if_neg h6, if_neg h7, if_neg h8]
noncomputable def okB (n : Nat) (r : List D) : Bool := decide (r.length + 1 = n) && (match r with | a :: b :: _ => (q0g a && q0g b) && !q2z a b | _ => false)
theorem j2p {n : Nat} {r : List D} (h : ¬ r.length + 1 = n) : okB n r = false := by unfold okB; rw [decide_eq_false h]; rfl
theorem j2k {n : Nat} {a b : D} {r : List D} (h : (a :: b :: r).length + 1 = n) : okB n (a :: b :: r) = ((q0g a && q0g b) && !q2z a b) := by unfold okB; rw [decide_eq_true h]; rfl
end Kp
namespace K1
open PySem L2 Kp
theorem PS.weak {X : Cx} {st : Stmt} {t t' : TS} (h : PS X st t) (w : ∀ D σ H, t' D σ H → t D σ H) : PS X st t' := fun pins s σ H D I q => h pins s σ H D I (w D σ H q)
section
variable {P : Program} {w : World} {K : PySem.W.Frag} {mg : Str → Option Value} {base : Heap}
theorem w1d : FnScope ["_law_thing"] ["_law_thing"] (q0f q7p) := fSc
theorem z2v {f : Addr} {fd : FuncData} (F : Fun K "_law_keeper" "_law_keeper" q7p f fd) (CF : Cal P w K mg base "_law_from" 1 ["_law_thing", "_law_least"] x0i) : FnOk P w K mg base CX0 2 f fd ["_law_thing"] (spP q0g) := by
 refine F.ok w1d q2d (fun cdv A outer s H vs Q E hr h => ?_)
 obtain ⟨B, v, d, hB, rfl, I, k⟩ := h
 refine ⟨_, q0p (q0k (q1x (q0i CF hr (q1i (pv 0) (q6s q0a q0b))) (q2i (q1z x5t (pv 0) q0a (q0q _))))), ?_⟩
 refine ⟨_, rfl, B, v, d, 0, hB, rfl, I, fun H1 s1 => ⟨_, rfl, ?_⟩⟩
 have k0 := k H1 s1
 cases hg : geD 0 d with
 | false =>
  have e : q0g d = false := by
   cases d with
   | int i =>
    have hg' : decide (0 ≤ i) = false := hg
    show (decide (0 ≤ i) && decide (i ≤ 8)) = false
    rw [hg']; rfl
   | _ => rfl
  rw [e] at k0
  exact q1a k0
 | true =>
  obtain ⟨i, rfl⟩ := ge_int hg
  cases I
  have hg' : decide (0 ≤ i) = true := hg
  have k1 : Q (.bl (decide (0 ≤ i) && decide (i ≤ 8))) H1 := k0
  rw [hg'] at k1
  refine q1f ⟨_, rfl, _, _, rfl, rfl, ?_⟩
  show Q (.bl (decide (i < 9))) H1
  have e : decide (i < 9) = (true && decide (i ≤ 8)) := by
   rw [Bool.true_and, Bool.eq_iff_iff]; simp only [decide_eq_true_eq]; omega
  rw [e]
  exact k1
noncomputable def j5s (x : Str) : Prop := x = "ask" ∨ x = "voice" ∨ x = "hand" ∨ x = "pack" ∨ x = "held"
noncomputable def j7h : Sp := fun vs H Q _ => ∃ B v x r, B ≤ 1000 ∧ vs = [v] ∧ j5s x ∧ Is B H v (.tup (.str x :: r)) ∧ ∀ H', q0y H H' → Q (.bl (q4i x r)) H'
theorem j9j : FnScope ["_law_thing", "_law_kind_here", "_law_sizes"] ["_law_thing"] (q0f q4w) := fSc
noncomputable def tBt : TS := fun D σ H => ∃ B v x r n p, σ = [some v, some (.str x), some (.ref p)] ∧ B ≤ 1000 ∧ Is B H v (.tup (.str x :: r)) ∧ j2f H p (.str x) (some (.int ((n : Nat) : Int))) ∧ 4 ≤ n ∧
 ∀ H', q0y H H' → if okB n r = true then D.nx σ H' else D.rt (.bl false) H'
theorem z2o {f : Addr} {fd : FuncData} (F : Fun K "_law_between" "_law_between" q4w f fd) (T : Txt mg) (CK : Cal P w K mg base "_law_kind" 1 ["_law_thing"] q9j) (CF : Cal P w K mg base "_law_from" 1 ["_law_thing", "_law_least"] x0i) (CR : Cal P w K mg base "_law_keeper" 2 ["_law_thing"] (spP q0g))
  (CS : Cal P w K mg base "_law_stand" 2 ["_law_place", "_law_last"] x9x) (CP : Cal P w K mg base "_law_pack" 4 ["_law_thing"] (spP q8c)) (CE : Cal P w K mg base "_law_entry" 4 ["_law_thing"] (spP q4n)) : FnOk P w K mg base CX0 5 f fd ["_law_thing"] j7h := by
 refine F.ok j9j (fun vs H Q E ⟨_, _, _, _, _, e, _⟩ => by subst e; rfl) (fun cdv A outer s H vs Q E hr h => ?_)
 obtain ⟨B, v, x, r, hB, rfl, hx, I, k⟩ := h
 have r1 := hr.mono (show 1 ≤ 4 by decide)
 have r2 := hr.mono (show 2 ≤ 4 by decide)
 refine ⟨_, @q0z _ _ _ _ _ (q1b (i := 1) j9j.nd (by rfl) (by exact Or.inl rfl) (q0i CK r1 (q1i (pv 0) q0b)))
  (@q0z _ _ _ _ _ (q1b (i := 2) j9j.nd (by rfl) (by exact Or.inl rfl) (j3l (x0d q0r q0a (x0d q0r q0a (x0d q0r q0a (x0d q0r q0a (x0d q0r q0a j2q))))) (by rfl) (by rfl) (by simp) (by decide)))
  (@q0z _ _ _ _ _ (PS.weak (t' := tBt) (q1w (PW.pt (q6t (q0s j0m (q0n q0w (by rfl) T.len PySem.boot_len (q1i (pv 0) q0b)) (j4s (j9o hr) (pv 2) (pv 1) (fun _ _ => rfl)) (q0q _))
    (q6t (q3a (q2l (q0i CR r2 (q4a (q0u q0o (pv 0) q0a q2j) q0b)))) (q6t (q3a (q2l (q0i CR r2 (q4a (q0u q0o (pv 0) q0a q2j) q0b))))
    (q7t (q0s q2c (q0u q0o (pv 0) q0a q2j) (q0u q0o (pv 0) q0a q2j) (q0q _))))))) (@q1m _ _ _ (q0k q7e)) q0t) ?w1)
  (@q0z _ _ _ _ _ (q1w (q3a (q2l (q0i CF r1 (q4a (q0u q0o (pv 0) q0a q2j) (q6s q0a q0b))))) (@q1m _ _ _ (q0k q7e)) q0t)
  (@q0z _ _ _ _ _ (q1w (q0s q2c (pv 1) q0r (q0q _)) (@q1m _ _ _ (q0k (q0i CS r2 (q4a (q0u q0o (pv 0) q0a q2j) (q4a (q0u q0o (pv 0) q0a q2j) q0b))))) q0t)
  (@q0z _ _ _ _ _ (q1w (q0s q2c (pv 1) q0r (q0q _)) (@q1m _ _ _ (q0k (q0n q2a (by rfl) T.isi q1s (q4a (q0u q0o (pv 0) q0a q2j) (q1i (q4z (by rfl) T.bool q6c) q0b))))) q0t)
  (@q0z _ _ _ _ _ (q1w (q0s q2c (pv 1) q0r (q0q _)) (@q1m _ _ _ (q0k (q1x (q0n q2a (by rfl) T.isi q1s (q4a (q0u q0o (pv 0) q0a q2j) (q1i (q4z (by rfl) T.bool q6c) q0b))) (q2i (q0i CF r1 (q4a (q0u q0o (pv 0) q0a q2j) (q6s q0a q0b))))))) q0t)
  (@q0z _ _ _ _ _ (q1w (q0s q2c (pv 1) q0r (q0q _)) (@q1m _ _ _ (q0k (q1x (q0i CP hr (q4a (q0u q0o (pv 0) q0a q2j) q0b)) (q2i (q1z j0m (q0u q0o (q0u q0o (pv 0) q0a q2j) q0a q2j) q0a (q0q _)))))) q0t)
  (@q0z _ _ _ _ _ (q1w (PW.pt (q6t (q3a (q2l (q0i CS r2 (q4a (q0u q0o (pv 0) q0a q2j) (q4a (q0u q0o (pv 0) q0a q2j) q0b)))))
    (q6t (q3a (q2l (q0n q2a (by rfl) T.isi q1s (q4a (q0u q0o (pv 0) q0a q2j) (q1i (q4z (by rfl) T.tuple q2p) q0b))))) (q7t (q0s z0l (q0n q0w (by rfl) T.len PySem.boot_len (q4a (q0u q0o (pv 0) q0a q2j) q0b)) q0a (q0q _)))))) (@q1m _ _ _ (q0k q7e)) q0t)
  (@q1m _ _ _ (q0k (q1x (q1z (j6d hr.units0) (q3g (NB := ["_law_one"]) (n := 1) (fr := []) (q5h (outer := q0f q4w) (by rfl) (by decide +kernel) (by rfl)) (by rfl) (q7u (q0u q0o (pv 0) q0a q2j))
    (fun _ _ _ _ _ => q1h (i := 0) (show (["_law_one"] : List Str).Nodup by decide +kernel) (by rfl) (by exact Or.inl rfl)) (fun _ _ _ _ _ => x2f (q3a (q2l (q0i CE hr (q1i (pv 0) q0b))))) (fun _ _ _ _ _ => pv 0)) (q4o q0b) (q0q _))
   (q2i (q0i CF r1 (q4a (q0u q0o (pv 0) q0a q2j) (q6s q0a q0b))))))))))))))), ?_⟩
 case w1 =>
  rintro D σ H ⟨B, v, x, r, n, p, rfl, hB, I, g, hn, q⟩
  have I0 := I
  cases I with
  | @tup a xs _ ea hl rr =>
  have hlen := rr.length
  refine ⟨_, rfl, a, xs, rfl, .inr (SqT.of ea), _, rfl, _, rfl, p, _, rfl, g, rfl, _, rfl, ?_⟩
  by_cases hL : r.length + 1 = n
  ·rw [show (!decide (V.int (xs.length : Int) = V.int (n : Int))) = false by rw [hlen, ← hL]; simp]
   match r, hL, rr, q with
   | [], hL, _, _ => exact absurd hL (by simp; omega)
   | [_], hL, _, _ => exact absurd hL (by simp; omega)
   | a1 :: b1 :: r', hL, rr, q =>
   rw [j2k hL] at q
   obtain ⟨v1, e1, I1⟩ := rr.at (i := 1) rfl
   obtain ⟨v2, e2, I2⟩ := rr.at (i := 2) rfl
   refine q1a ⟨_, rfl, a, xs, 1, v1, rfl, rfl, SqT.of ea, e1, B, v1, a1, hB, rfl, I1, fun H1 s1 => ⟨_, rfl, ?_⟩⟩
   cases h1 : q0g a1 with
   | false =>
    have q1 := q H1 s1
    rw [h1] at q1
    exact q1f (q1f q1)
   | true =>
    refine q1a ⟨_, rfl, a, xs, 2, v2, rfl, rfl, SqT.of (s1 _ _ ea), e2, B, v2, b1, hB, rfl, I2.same s1, fun H2 s2 => ⟨_, rfl, ?_⟩⟩
    have q2 := q H2 (s1.trans s2)
    rw [h1] at q2
    cases h2 : q0g b1 with
    | false =>
     rw [h2] at q2
     exact q1f (q1f q2)
    | true =>
     rw [h2] at q2
     obtain ⟨sc, sd⟩ := z1g (I1.same (s1.trans s2)) (I2.same (s1.trans s2)) (.inl h1) (.inl h2)
     refine q1a ⟨_, rfl, a, xs, 1, v1, rfl, rfl, SqT.of (s2 _ _ (s1 _ _ ea)), e1, _, rfl, a, xs, 2, v2, rfl, rfl, SqT.of (s2 _ _ (s1 _ _ ea)), e2, sc, _, rfl, ?_⟩
     rw [sd]
     cases h3 : q2z a1 b1 with
     | true => rw [h3] at q2; exact q1f q2
     | false => rw [h3] at q2; exact q1a q2
  ·rw [show (!decide (V.int (xs.length : Int) = V.int (n : Int))) = true by rw [decide_eq_false (fun z => hL (by have := V.int.inj z; rw [hlen] at this; simp at this; omega))]; rfl]
   have q0 := q H (q0y.refl _)
   rw [j2p hL] at q0
   exact q1f (q1f q0)
 refine ⟨_, rfl, B, v, _, hB, rfl, I, fun p hp => ⟨q0e, [(Sum.inr "ask", V.int 6), (Sum.inr "voice", V.int 5), (Sum.inr "hand", V.int 8), (Sum.inr "pack", V.int 5), (Sum.inr "held", V.int 6)], rfl, by decide, ?_⟩⟩
 rw [j2n]
 have sd := q0h (o := HO.dK (q8h [] [(Sum.inr "ask", V.int 6), (Sum.inr "voice", V.int 5), (Sum.inr "hand", V.int 8), (Sum.inr "pack", V.int 5), (Sum.inr "held", V.int 6)])) hp
 have dg : ∀ {x : Str} {n : Nat}, z3u (q8h [] [((Sum.inr "ask" : Key), V.int 6), (Sum.inr "voice", V.int 5), (Sum.inr "hand", V.int 8), (Sum.inr "pack", V.int 5), (Sum.inr "held", V.int 6)]) (Sum.inr x) = some (.int (n : Int)) → j2f (upd H p (.dK (q8h [] [(Sum.inr "ask", V.int 6), (Sum.inr "voice", V.int 5), (Sum.inr "hand", V.int 8), (Sum.inr "pack", V.int 5), (Sum.inr "held", V.int 6)]))) p (.str x) (some (.int (n : Int))) := fun {x n} e => by
  rw [← e]; exact j2f.k (k := Sum.inr x) q0e
 generalize hH1 : upd H p (.dK (q8h [] [((Sum.inr "ask" : Key), V.int 6), (Sum.inr "voice", V.int 5), (Sum.inr "hand", V.int 8), (Sum.inr "pack", V.int 5), (Sum.inr "held", V.int 6)])) = H1 at sd dg ⊢
 have yes : ∀ {s t : Str}, s = t → decide (V.str s = V.str t) = true := fun h => by rw [h]; simp
 have nos : ∀ {s t : Str}, s ≠ t → decide (V.str s = V.str t) = false := fun h => decide_eq_false fun z => h (V.str.inj z)
 have btw : ∀ (a b t : D), q0g a = true → q0g b = true → q2z a b = false → q9k a b t = geD 1 t := fun a b t h1 h2 h3 => by unfold q9k; rw [h1, h2, h3]; rfl
 rcases hx with rfl | rfl | rfl | rfl | rfl
 ·refine ⟨B, v, "ask", r, 6, p, rfl, hB, I.same sd, dg (q6v (by decide +kernel)), by decide, fun H2 s2 => q9a (fun c => ?_) (fun c => ?_)⟩
  ·match r, c, I, k with
   | [a, b, t, p1, l1], c, I, k =>
    have c' : ((q0g a && q0g b) && !q2z a b) = true := c
    simp only [Bool.and_eq_true, Bool.not_eq_true'] at c'
    have kk : ∀ H', q0y H H' → Q (.bl (geD 1 t && q3r p1 l1)) H' := fun H' s' => by
     have := k H' s'
     rw [z2c] at this
     rw [← btw a b t c'.1.1 c'.1.2 c'.2]
     exact this
    have I2 := I.same (sd.trans s2)
    cases I2 with
    | @tup q xs _ ea hl rr =>
    obtain ⟨v3, e3, I3⟩ := rr.at (i := 3) rfl
    obtain ⟨v4, e4, I4⟩ := rr.at (i := 4) rfl
    obtain ⟨v5, e5, I5⟩ := rr.at (i := 5) rfl
    refine ⟨_, rfl, q, xs, 3, v3, rfl, rfl, SqT.of ea, e3, B, v3, t, 1, hB, rfl, I3, fun H3 s3 => ⟨_, rfl, ?_⟩⟩
    cases hg : geD 1 t with
    | false =>
     have k3 := kk H3 ((sd.trans s2).trans s3)
     rw [hg] at k3
     exact q1f k3
    | true =>
     rw [hg] at kk
     refine q1a ⟨V.str "ask", rfl, rfl, _, rfl, ?_⟩
     rw [yes rfl]
     exact q1f ⟨_, rfl, q, xs, 4, v4, rfl, rfl, SqT.of (s3 _ _ ea), e4, _, rfl, q, xs, 5, v5, rfl, rfl, SqT.of (s3 _ _ ea), e5, B, v4, v5, p1, l1, hB, rfl, I4.same s3, I5.same s3, fun H4 s4 => kk H4 (((sd.trans s2).trans s3).trans s4)⟩
  ·have k2 := k H2 (sd.trans s2)
   have e : q4i "ask" r = false := by
    rw [z2c]
    match r, c with
    | [a, b, t, p1, l1], c =>
     show (q9k a b t && q3r p1 l1) = false
     have c' : ¬ ((q0g a && q0g b) && !q2z a b) = true := c
     have c2 : ((q0g a && q0g b) && !q2z a b) = false := by
      cases h : ((q0g a && q0g b) && !q2z a b) with
      | false => rfl
      | true => exact absurd h c'
     unfold q9k; rw [c2]; rfl
    | [], _ => rfl
    | [_], _ => rfl
    | [_, _], _ => rfl
    | [_, _, _], _ => rfl
    | [_, _, _, _], _ => rfl
    | _ :: _ :: _ :: _ :: _ :: _ :: _, _ => rfl
   rw [e] at k2
   exact k2
 ·refine ⟨B, v, "voice", r, 5, p, rfl, hB, I.same sd, dg (q6v (by decide +kernel)), by decide, fun H2 s2 => q9a (fun c => ?_) (fun c => ?_)⟩
  ·match r, c, I, k with
   | [a, b, t, e1], c, I, k =>
    have c' : ((q0g a && q0g b) && !q2z a b) = true := c
    simp only [Bool.and_eq_true, Bool.not_eq_true'] at c'
    have kk : ∀ H', q0y H H' → Q (.bl (geD 1 t && q2t e1)) H' := fun H' s' => by
     have := k H' s'
     rw [x5k] at this
     rw [← btw a b t c'.1.1 c'.1.2 c'.2]
     exact this
    have I2 := I.same (sd.trans s2)
    cases I2 with
    | @tup q xs _ ea hl rr =>
    obtain ⟨v3, e3, I3⟩ := rr.at (i := 3) rfl
    obtain ⟨v4, e4, I4⟩ := rr.at (i := 4) rfl
    refine ⟨_, rfl, q, xs, 3, v3, rfl, rfl, SqT.of ea, e3, B, v3, t, 1, hB, rfl, I3, fun H3 s3 => ⟨_, rfl, ?_⟩⟩
    cases hg : geD 1 t with
    | false =>
     have k3 := kk H3 ((sd.trans s2).trans s3)
     rw [hg] at k3
     exact q1f k3
    | true =>
     rw [hg] at kk
     refine q1a ⟨V.str "voice", rfl, rfl, _, rfl, ?_⟩
     rw [nos (by decide +kernel)]
     refine q1a ?_
     refine ⟨V.str "voice", rfl, rfl, _, rfl, ?_⟩
     rw [yes rfl]
     have k4 := kk H3 ((sd.trans s2).trans s3)
     rw [← x6o] at k4
     exact q1f ⟨_, rfl, q, xs, 4, v4, rfl, rfl, SqT.of (s3 _ _ ea), e4, _, _, _, _, rfl, (I4.same s3).ty, q5r K e1, k4⟩
  ·have k2 := k H2 (sd.trans s2)
   have e : q4i "voice" r = false := by
    rw [x5k]
    match r, c with
    | [a, b, t, e1], c =>
     show (q9k a b t && q2t e1) = false
     have c' : ¬ ((q0g a && q0g b) && !q2z a b) = true := c
     have c2 : ((q0g a && q0g b) && !q2z a b) = false := by
      cases h : ((q0g a && q0g b) && !q2z a b) with
      | false => rfl
      | true => exact absurd h c'
     unfold q9k; rw [c2]; rfl
    | [], _ => rfl
    | [_], _ => rfl
    | [_, _], _ => rfl
    | [_, _, _], _ => rfl
    | _ :: _ :: _ :: _ :: _ :: _, _ => rfl
   rw [e] at k2
   exact k2
 ·refine ⟨B, v, "hand", r, 8, p, rfl, hB, I.same sd, dg (q6v (by decide +kernel)), by decide, fun H2 s2 => q9a (fun c => ?_) (fun c => ?_)⟩
  ·match r, c, I, k with
   | [a, b, t, p1, l1, e1, m1], c, I, k =>
    have c' : ((q0g a && q0g b) && !q2z a b) = true := c
    simp only [Bool.and_eq_true, Bool.not_eq_true'] at c'
    have kk : ∀ H', q0y H H' → Q (.bl (geD 1 t && (q3r p1 l1 && (q6d e1 && geD 0 m1)))) H' := fun H' s' => by
     have := k H' s'
     rw [x8g] at this
     rw [← btw a b t c'.1.1 c'.1.2 c'.2]
     exact this
    have I2 := I.same (sd.trans s2)
    cases I2 with
    | @tup q xs _ ea hl rr =>
    obtain ⟨v3, e3, I3⟩ := rr.at (i := 3) rfl
    obtain ⟨v4, e4, I4⟩ := rr.at (i := 4) rfl
    obtain ⟨v5, e5, I5⟩ := rr.at (i := 5) rfl
    obtain ⟨v6, e6, I6⟩ := rr.at (i := 6) rfl
    obtain ⟨v7, e7, I7⟩ := rr.at (i := 7) rfl
    refine ⟨_, rfl, q, xs, 3, v3, rfl, rfl, SqT.of ea, e3, B, v3, t, 1, hB, rfl, I3, fun H3 s3 => ⟨_, rfl, ?_⟩⟩
    cases hg : geD 1 t with
    | false =>
     have k3 := kk H3 ((sd.trans s2).trans s3)
     rw [hg] at k3
     exact q1f k3
    | true =>
     rw [hg] at kk
     refine q1a ⟨V.str "hand", rfl, rfl, _, rfl, ?_⟩
     rw [nos (by decide +kernel)]
     refine q1a ?_
     refine ⟨V.str "hand", rfl, rfl, _, rfl, ?_⟩
     rw [nos (by decide +kernel)]
     refine q1a ?_
     refine ⟨V.str "hand", rfl, rfl, _, rfl, ?_⟩
     rw [nos (by decide +kernel)]
     refine q1a ?_
     refine ⟨V.str "hand", rfl, rfl, _, rfl, ?_⟩
     rw [nos (by decide +kernel)]
     refine q1a ?_
     refine ⟨_, rfl, q, xs, 4, v4, rfl, rfl, SqT.of (s3 _ _ ea), e4, _, rfl, q, xs, 5, v5, rfl, rfl, SqT.of (s3 _ _ ea), e5, B, v4, v5, p1, l1, hB, rfl, I4.same s3, I5.same s3, fun H4 s4 => ⟨_, rfl, ?_⟩⟩
     have s34 := s3.trans s4
     have s04 := (sd.trans s2).trans s34
     cases hb : q3r p1 l1 with
     | false =>
      rw [hb] at kk
      exact q1f (q1f (kk H4 s04))
     | true =>
      rw [hb] at kk
      have kf : ∀ {H' : Hp}, q0y H4 H' → q6d e1 = false → Q (.bl false) H' := fun {H'} s' z => by
       have := kk H' (s04.trans s')
       rw [z] at this
       exact this
      refine q1a ⟨_, rfl, q, xs, 6, v6, rfl, rfl, SqT.of (s34 _ _ ea), e6, _, _, _, _, rfl, (I6.same s34).ty, q5d K e1, _, rfl, ?_⟩
      have I6' := I6.same s34
      cases e1 with
      | tup ds =>
       cases I6' with
       | @tup q6 xs6 _ ea6 hl6 rr6 =>
       have l6 := rr6.length
       refine q1a ⟨_, rfl, q, xs, 6, _, rfl, rfl, SqT.of (s34 _ _ ea), e6, q6, xs6, rfl, .inr (SqT.of ea6), _, _, rfl, rfl, _, rfl, ?_⟩
       by_cases h5 : ds.length ≤ 5
       ·rw [decide_eq_false (show ¬ (5 : Int) < (xs6.length : Int) by omega)]
        have en : q6d (.tup ds) = ds.all q4n := by
         show (decide (ds.length ≤ 5) && ds.all q4n) = _
         rw [decide_eq_true h5, Bool.true_and]
        rw [en] at kk
        refine q1a ⟨_, rfl, q, xs, 6, _, rfl, rfl, SqT.of (s34 _ _ ea), e6, q6, rfl, ⟨xs6, SqT.of ea6⟩, q3d (J := Itt K q6) (k := 1) (n := xs6.length) (fun i => !q4n (ds.getD i .non)) (fun i => xs6.getD i .non) (show xs6.length < sizeLine by rw [sizeLine_eq]; omega)
         (fun i H2 hi s1 => ⟨xs6, xs6[i], SqT.of (s1 _ _ ea6), by simp [hi]⟩) (fun H2 s1 => ⟨xs6, SqT.of (s1 _ _ ea6), Nat.le_refl _⟩) ?_ ?_⟩
        ·intro i H2 t v H3 R hi s1 ht y hR
         obtain ⟨rfl, hy⟩ := y
         have hv := hy xs6 (SqT.of (s1 _ _ ea6))
         obtain ⟨di, hdi, Ii⟩ := rr6.get hv
         obtain ⟨t0, rfl⟩ := q4v ht
         have ed : ds.getD i .non = di := by rw [List.getD_eq_getElem?_getD, hdi]; rfl
         have ev : xs6.getD i .non = v := by rw [List.getD_eq_getElem?_getD, hv]; rfl
         refine ⟨_, rfl, B, v, di, hB, rfl, Ii.same s1, fun H' s2 => ⟨_, rfl, ?_⟩⟩
         have hR' := hR [some v] H' rfl s2
         rw [ed, ev] at hR'
         cases he : q4n di with
         | true => rw [he] at hR'; exact q1a hR'
         | false => rw [he] at hR'; exact q1f ⟨_, rfl, hR'⟩
        ·intro D1 H' s1 hD hd
         refine ⟨by simp [sizeLine_eq], fun p7 h7 => ⟨D1, p7, _, rfl, rfl, SqL.of (q0h h7 _ _ hd), SqL.of q0e, _, rfl, ?_⟩⟩
         have s7 := s1.trans (q0h (o := HO.lst []) h7)
         have eal : ((((List.range xs6.length).filter fun i => !q4n (ds.getD i .non)).map fun i => xs6.getD i .non).isEmpty) = ds.all q4n := by
          rw [List.isEmpty_map, ← x5m ds q4n, l6, Bool.eq_iff_iff]
          simp [List.isEmpty_iff, List.filter_eq_nil_iff]
         rw [eal]
         cases hal : ds.all q4n with
         | false => rw [hal] at kk; exact q1a (kk _ (s04.trans s7))
         | true =>
          rw [hal] at kk
          exact q1f ⟨_, rfl, q, xs, 7, v7, rfl, rfl, SqT.of (s7 _ _ (s34 _ _ ea)), e7, B, v7, m1, 0, hB, rfl, (I7.same s34).same s7, fun H8 s8 => kk H8 ((s04.trans s7).trans s8)⟩
       ·rw [decide_eq_true (show (5 : Int) < (xs6.length : Int) by omega)]
        refine q1f (kf (q0y.refl _) ?_)
        show (decide (ds.length ≤ 5) && _) = false
        rw [decide_eq_false h5]; rfl
      | non => exact q1f (q1f (kf (q0y.refl _) rfl))
      | bl _ => exact q1f (q1f (kf (q0y.refl _) rfl))
      | int _ => exact q1f (q1f (kf (q0y.refl _) rfl))
      | str _ => exact q1f (q1f (kf (q0y.refl _) rfl))
      | lst _ => exact q1f (q1f (kf (q0y.refl _) rfl))
  ·have k2 := k H2 (sd.trans s2)
   have e : q4i "hand" r = false := by
    rw [x8g]
    match r, c with
    | [a, b, t, p1, l1, e1, m1], c =>
     show (q9k a b t && (q3r p1 l1 && (q6d e1 && geD 0 m1))) = false
     have c' : ¬ ((q0g a && q0g b) && !q2z a b) = true := c
     have c2 : ((q0g a && q0g b) && !q2z a b) = false := by
      cases h : ((q0g a && q0g b) && !q2z a b) with
      | false => rfl
      | true => exact absurd h c'
     unfold q9k; rw [c2]; rfl
    | [], _ => rfl
    | [_], _ => rfl
    | [_, _], _ => rfl
    | [_, _, _], _ => rfl
    | [_, _, _, _], _ => rfl
    | [_, _, _, _, _], _ => rfl
    | [_, _, _, _, _, _], _ => rfl
    | _ :: _ :: _ :: _ :: _ :: _ :: _ :: _ :: _, _ => rfl
   rw [e] at k2
   exact k2
 ·refine ⟨B, v, "pack", r, 5, p, rfl, hB, I.same sd, dg (q6v (by decide +kernel)), by decide, fun H2 s2 => q9a (fun c => ?_) (fun c => ?_)⟩
  ·match r, c, I, k with
   | [a, b, t, e1], c, I, k =>
    have c' : ((q0g a && q0g b) && !q2z a b) = true := c
    simp only [Bool.and_eq_true, Bool.not_eq_true'] at c'
    have kk : ∀ H', q0y H H' → Q (.bl (geD 1 t && (q8c e1 && nzD e1))) H' := fun H' s' => by
     have := k H' s'
     rw [x7m] at this
     rw [← btw a b t c'.1.1 c'.1.2 c'.2]
     exact this
    have I2 := I.same (sd.trans s2)
    cases I2 with
    | @tup q xs _ ea hl rr =>
    obtain ⟨v3, e3, I3⟩ := rr.at (i := 3) rfl
    obtain ⟨v4, e4, I4⟩ := rr.at (i := 4) rfl
    refine ⟨_, rfl, q, xs, 3, v3, rfl, rfl, SqT.of ea, e3, B, v3, t, 1, hB, rfl, I3, fun H3 s3 => ⟨_, rfl, ?_⟩⟩
    cases hg : geD 1 t with
    | false =>
     have k3 := kk H3 ((sd.trans s2).trans s3)
     rw [hg] at k3
     exact q1f k3
    | true =>
     rw [hg] at kk
     refine q1a ⟨V.str "pack", rfl, rfl, _, rfl, ?_⟩
     rw [nos (by decide +kernel)]
     refine q1a ?_
     refine ⟨V.str "pack", rfl, rfl, _, rfl, ?_⟩
     rw [nos (by decide +kernel)]
     refine q1a ?_
     refine ⟨V.str "pack", rfl, rfl, _, rfl, ?_⟩
     rw [nos (by decide +kernel)]
     refine q1a ?_
     refine ⟨V.str "pack", rfl, rfl, _, rfl, ?_⟩
     rw [yes rfl]
     refine q1f ⟨_, rfl, q, xs, 4, v4, rfl, rfl, SqT.of (s3 _ _ ea), e4, B, v4, e1, hB, rfl, I4.same s3, fun H4 s4 => ⟨_, rfl, ?_⟩⟩
     cases hb : q8c e1 with
     | false =>
      rw [hb] at kk
      exact q1a (kk H4 (((sd.trans s2).trans s3).trans s4))
     | true =>
      rw [hb] at kk
      obtain ⟨i0, r0, rfl, hi0⟩ := x6k hb
      have I4' := (I4.same s3).same s4
      cases I4' with
      | @tup q4 xs4 _ ea4 hl4 rr4 =>
      obtain ⟨v0, e0, I0⟩ := rr4.at (i := 0) rfl
      cases I0
      refine q1f ⟨_, rfl, q, xs, 4, _, rfl, rfl, SqT.of (s4 _ _ (s3 _ _ ea)), e4, q4, xs4, 0, _, rfl, rfl, SqT.of ea4, e0, rfl, ?_⟩
      have k4 : Q (.bl (!decide (i0 = 0))) H4 := kk H4 (((sd.trans s2).trans s3).trans s4)
      have ed : decide (V.int i0 = V.int 0) = decide (i0 = 0) := by rw [Bool.eq_iff_iff]; simp only [decide_eq_true_eq]; exact ⟨fun h => V.int.inj h, fun h => by rw [h]⟩
      rw [ed]
      exact k4
  ·have k2 := k H2 (sd.trans s2)
   have e : q4i "pack" r = false := by
    rw [x7m]
    match r, c with
    | [a, b, t, e1], c =>
     show (q9k a b t && (q8c e1 && nzD e1)) = false
     have c' : ¬ ((q0g a && q0g b) && !q2z a b) = true := c
     have c2 : ((q0g a && q0g b) && !q2z a b) = false := by
      cases h : ((q0g a && q0g b) && !q2z a b) with
      | false => rfl
      | true => exact absurd h c'
     unfold q9k; rw [c2]; rfl
    | [], _ => rfl
    | [_], _ => rfl
    | [_, _], _ => rfl
    | [_, _, _], _ => rfl
    | _ :: _ :: _ :: _ :: _ :: _, _ => rfl
   rw [e] at k2
   exact k2
 ·refine ⟨B, v, "held", r, 6, p, rfl, hB, I.same sd, dg (q6v (by decide +kernel)), by decide, fun H2 s2 => q9a (fun c => ?_) (fun c => ?_)⟩
  ·match r, c, I, k with
   | [a, b, t, e1, m1], c, I, k =>
    have c' : ((q0g a && q0g b) && !q2z a b) = true := c
    simp only [Bool.and_eq_true, Bool.not_eq_true'] at c'
    have kk : ∀ H', q0y H H' → Q (.bl (geD 1 t && (q2t e1 && geD 0 m1))) H' := fun H' s' => by
     have := k H' s'
     rw [x8k] at this
     rw [← btw a b t c'.1.1 c'.1.2 c'.2]
     exact this
    have I2 := I.same (sd.trans s2)
    cases I2 with
    | @tup q xs _ ea hl rr =>
    obtain ⟨v3, e3, I3⟩ := rr.at (i := 3) rfl
    obtain ⟨v4, e4, I4⟩ := rr.at (i := 4) rfl
    obtain ⟨v5, e5, I5⟩ := rr.at (i := 5) rfl
    refine ⟨_, rfl, q, xs, 3, v3, rfl, rfl, SqT.of ea, e3, B, v3, t, 1, hB, rfl, I3, fun H3 s3 => ⟨_, rfl, ?_⟩⟩
    cases hg : geD 1 t with
    | false =>
     have k3 := kk H3 ((sd.trans s2).trans s3)
     rw [hg] at k3
     exact q1f k3
    | true =>
     rw [hg] at kk
     refine q1a ⟨V.str "held", rfl, rfl, _, rfl, ?_⟩
     rw [nos (by decide +kernel)]
     refine q1a ?_
     refine ⟨V.str "held", rfl, rfl, _, rfl, ?_⟩
     rw [nos (by decide +kernel)]
     refine q1a ?_
     refine ⟨V.str "held", rfl, rfl, _, rfl, ?_⟩
     rw [yes rfl]
     refine q1f ⟨_, rfl, q, xs, 4, v4, rfl, rfl, SqT.of (s3 _ _ ea), e4, _, _, _, _, rfl, (I4.same s3).ty, q5r K e1, _, rfl, ?_⟩
     rw [x6o]
     cases hb : q2t e1 with
     | false =>
      rw [hb] at kk
      exact q1a (kk H3 ((sd.trans s2).trans s3))
     | true =>
      rw [hb] at kk
      exact q1f ⟨_, rfl, q, xs, 5, v5, rfl, rfl, SqT.of (s3 _ _ ea), e5, B, v5, m1, 0, hB, rfl, I5.same s3, fun H4 s4 => kk H4 (((sd.trans s2).trans s3).trans s4)⟩
  ·have k2 := k H2 (sd.trans s2)
   have e : q4i "held" r = false := by
    rw [x8k]
    match r, c with
    | [a, b, t, e1, m1], c =>
     show (q9k a b t && (q2t e1 && geD 0 m1)) = false
     have c' : ¬ ((q0g a && q0g b) && !q2z a b) = true := c
     have c2 : ((q0g a && q0g b) && !q2z a b) = false := by
      cases h : ((q0g a && q0g b) && !q2z a b) with
      | false => rfl
      | true => exact absurd h c'
     unfold q9k; rw [c2]; rfl
    | [], _ => rfl
    | [_], _ => rfl
    | [_, _], _ => rfl
    | [_, _, _], _ => rfl
    | [_, _, _, _], _ => rfl
    | _ :: _ :: _ :: _ :: _ :: _ :: _, _ => rfl
   rw [e] at k2
   exact k2
theorem x1j (x : Str) : ∀ l : List Str, inV (V.str x) (l.map V.str) = decide (x ∈ l)
 | [] => rfl
 | y :: l => by
  show (decide ((y : Str) = x) || inV (V.str x) (l.map V.str)) = _
  rw [x1j x l, Bool.eq_iff_iff]
  simp only [Bool.or_eq_true, decide_eq_true_eq, List.mem_cons]
  exact ⟨fun h => h.imp Eq.symm id, fun h => h.imp Eq.symm id⟩
theorem w0j : FnScope ["_law_thing", "_law_kind_here"] ["_law_thing"] (q0f q7q) := fSc
theorem z2m {f : Addr} {fd : FuncData} (F : Fun K "_law_letter" "_law_letter" q7q f fd) (T : Txt mg) (CK : Cal P w K mg base "_law_kind" 1 ["_law_thing"] q9j) (CB : Cal P w K mg base "_law_between" 5 ["_law_thing"] j7h) (CF : Cal P w K mg base "_law_from" 1 ["_law_thing", "_law_least"] x0i) (CR : Cal P w K mg base "_law_keeper" 2 ["_law_thing"] (spP q0g))
  (CN : Cal P w K mg base "_law_name" 1 ["_law_thing"] (spP q1y)) (CA : Cal P w K mg base "_law_any" 1 ["_law_thing"] (spP whole)) (CD : Cal P w K mg base "_law_deed" 2 ["_law_thing"] (spP q5q)) : FnOk P w K mg base CX0 6 f fd ["_law_thing"] (spP q7j) := by
 refine F.ok w0j q2d (fun cdv A outer s H vs Q E hr h => ?_)
 obtain ⟨B, v, d, hB, rfl, I, k⟩ := h
 have r1 := hr.mono (show 1 ≤ 5 by decide)
 have r2 := hr.mono (show 2 ≤ 5 by decide)
 refine ⟨_, @q0z _ _ _ _ _ (q1b (i := 1) w0j.nd (by rfl) (by exact Or.inl rfl) (q0i CK r1 (q1i (pv 0) q0b)))
  (@q0z _ _ _ _ _ (q1w (q0s x9b (pv 1) (QE.h (q6b (q2k (q2k (q2k (q2k (q2k q3e))))))) rfl) (@q1m _ _ _ (q0k (q0i CB hr (q1i (pv 0) q0b)))) q0t)
  (@q0z _ _ _ _ _ (q1w (PW.pt (q6t (q0s q8e (pv 1) (QE.h (q6b (q2k (q2k (q2k q3e))))) rfl) (q6t (q0s j0m (q0n q0w (by rfl) T.len PySem.boot_len (q1i (pv 0) q0b)) q0a (q0q _)) (q7t (q3a (q2l (q0i CF r1 (q4a (q0u q0o (pv 0) q0a q2j) (q6s q0a q0b))))))))) (@q1m _ _ _ (q0k q7e)) q0t)
  (@q0z _ _ _ _ _ (q1w (q0s q2c (pv 1) q0r (q0q _)) (@q1m _ _ _ (q0k (q1x (q0i CN r1 (q4a (q0u q0o (pv 0) q0a q2j) q0b)) (q1x (q0i CR r2 (q4a (q0u q0o (pv 0) q0a q2j) q0b)) (q2i (q0i CD r2 (q4a (q0u q0o (pv 0) q0a q2j) q0b))))))) q0t)
  (@q0z _ _ _ _ _ (q1w (PW.pt (q6t (q3a (q2l (q0i CR r2 (q4a (q0u q0o (pv 0) q0a q2j) q0b)))) (q7t (q3a (q2l (q0i CN r1 (q4a (q0u q0o (pv 0) q0a q2j) q0b))))))) (@q1m _ _ _ (q0k q7e)) q0t)
  (@q0z _ _ _ _ _ (q1w (q0s q2c (pv 1) q0r (q0q _)) (@q1m _ _ _ (q0k (q0i CA r1 (q4a (q0u q0o (pv 0) q0a q2j) q0b)))) q0t)
  (@q1m _ _ _ (q0k (z8t (q1z z1d (q0u q0o (pv 0) q0a q2j) x5b (q0q _)) (q2i (q0i CR r2 (q4a (q0u q0o (pv 0) q0a q2j) q0b))))))))))), ?_⟩
 refine ⟨_, rfl, B, v, d, hB, rfl, I, _, rfl, q3c (by show 5 ≤ 1000; decide), fun p hp => ⟨p, _, rfl, .inr (SqT.of q0e), rfl, rfl, _, rfl, ?_⟩⟩
 have s1 := q0h (o := HO.tup ((["ask", "voice", "hand", "pack", "held"] : List Str).map V.str)) hp
 show if inV (V.str (q1o d)) ((["ask", "voice", "hand", "pack", "held"] : List Str).map V.str) = true then _ else _
 rw [x1j]
 by_cases h5 : q1o d ∈ (["ask", "voice", "hand", "pack", "held"] : List Str)
 ·rw [decide_eq_true h5]
  have f5 : j5s (q1o d) := by
   simp only [List.mem_cons, List.not_mem_nil, or_false] at h5
   exact h5
  obtain ⟨r, e⟩ := q4x (d := d) rfl (fun z => by rw [z] at f5; rcases f5 with z | z | z | z | z <;> exact absurd z (by decide +kernel))
  generalize q1o d = x at f5 e
  subst e
  exact q1f ⟨_, rfl, B, v, x, r, hB, rfl, f5, I.same s1, fun H' s' => k H' (s1.trans s')⟩
 ·rw [decide_eq_false h5]
  refine q1a ⟨_, rfl, q3c (by show 3 ≤ 1000; decide), fun p2 hp2 => ⟨p2, _, rfl, .inr (SqT.of q0e), rfl, rfl, _, rfl, ?_⟩⟩
  have s2 := s1.trans (q0h (o := HO.tup ((["wish", "told", "away"] : List Str).map V.str)) hp2)
  show if (!inV (V.str (q1o d)) ((["wish", "told", "away"] : List Str).map V.str)) = true then _ else _
  rw [x1j]
  have n5 : ¬ q1o d = "ask" ∧ ¬ q1o d = "voice" ∧ ¬ q1o d = "hand" ∧ ¬ q1o d = "pack" ∧ ¬ q1o d = "held" := by
   simp only [List.mem_cons, List.not_mem_nil, or_false, not_or] at h5
   exact h5
  by_cases h3 : q1o d ∈ (["wish", "told", "away"] : List Str)
  ·rw [decide_eq_true h3]
   have f3 : q1o d = "wish" ∨ q1o d = "told" ∨ q1o d = "away" := by
    simp only [List.mem_cons, List.not_mem_nil, or_false] at h3
    exact h3
   obtain ⟨r, e⟩ := q4x (d := d) rfl (fun z => by rw [z] at f3; rcases f3 with z | z | z <;> exact absurd z (by decide +kernel))
   generalize q1o d = x at f3 e
   subst e
   have kr : ∀ H', q0y H H' → Q (.bl (q4i x r)) H' := k
   have I2 := I.same s2
   cases I2 with
   | @tup q xs _ ea hl rr =>
   have hlen := rr.length
   refine q1a ⟨_, rfl, q, xs, rfl, .inr (SqT.of ea), rfl, _, rfl, ?_⟩
   by_cases h4 : r.length = 4
   ·rw [show (!decide (V.int (xs.length : Int) = V.int 5)) = false by rw [hlen, List.length_cons, h4]; rfl]
    match r, h4, rr, kr with
    | [a, b, c, e], _, rr, kr =>
    obtain ⟨v1, e1, I1⟩ := rr.at (i := 1) rfl
    obtain ⟨v2, e2, I2⟩ := rr.at (i := 2) rfl
    obtain ⟨v3, e3, I3⟩ := rr.at (i := 3) rfl
    obtain ⟨v4, e4, I4⟩ := rr.at (i := 4) rfl
    have yes : ∀ {s t : Str}, s = t → decide (V.str s = V.str t) = true := fun h => by rw [h]; simp
    have nos : ∀ {s t : Str}, s ≠ t → decide (V.str s = V.str t) = false := fun h => decide_eq_false fun z => h (V.str.inj z)
    refine q1a ⟨_, rfl, q, xs, 3, v3, rfl, rfl, SqT.of ea, e3, B, v3, c, 1, hB, rfl, I3, fun H3 s3 => ⟨_, rfl, ?_⟩⟩
    have s03 := s2.trans s3
    cases hg : geD 1 c with
    | false =>
     have e0 : q4i x [a, b, c, e] = false := by
      rcases f3 with rfl | rfl | rfl
      ·rw [x3e]; show (geD 1 c && _) = false; rw [hg]; rfl
      ·rw [x4d]; show (geD 1 c && _) = false; rw [hg]; rfl
      ·rw [x2r]; show (geD 1 c && _) = false; rw [hg]; rfl
     have k3 := kr H3 s03
     rw [e0] at k3
     exact q1f k3
    | true =>
     refine q1a ⟨_, rfl, rfl, _, rfl, ?_⟩
     by_cases hw : x = "wish"
     ·subst hw
      rw [yes rfl]
      have kw : ∀ H', q0y H H' → Q (.bl (q1y a && (q0g b && q5q e))) H' := fun H' s' => by
       have := kr H' s'
       rw [x3e] at this
       have t2 : Q (.bl (geD 1 c && (q1y a && (q0g b && q5q e)))) H' := this
       rw [hg] at t2
       exact t2
      refine q1f ⟨_, rfl, q, xs, 1, v1, rfl, rfl, SqT.of (s3 _ _ ea), e1, B, v1, a, hB, rfl, I1.same s3, fun H4 s4 => ⟨_, rfl, ?_⟩⟩
      cases hn : q1y a with
      | false => rw [hn] at kw; exact q1a (kw _ (s03.trans s4))
      | true =>
       rw [hn] at kw
       refine q1f ⟨_, rfl, q, xs, 2, v2, rfl, rfl, SqT.of (s4 _ _ (s3 _ _ ea)), e2, B, v2, b, hB, rfl, (I2.same s3).same s4, fun H5 s5 => ⟨_, rfl, ?_⟩⟩
       cases hk : q0g b with
       | false => rw [hk] at kw; exact q1a (kw _ ((s03.trans s4).trans s5))
       | true =>
        rw [hk] at kw
        exact q1f ⟨_, rfl, q, xs, 4, v4, rfl, rfl, SqT.of (s5 _ _ (s4 _ _ (s3 _ _ ea))), e4, B, v4, e, hB, rfl, ((I4.same s3).same s4).same s5, fun H6 s6 => kw _ (((s03.trans s4).trans s5).trans s6)⟩
     ·rw [nos hw]
      have kt : ∀ H', q0y H H' → Q (.bl ((q0g a && q1y b) && (if x = "told" then whole e else q7y e))) H' := fun H' s' => by
       have := kr H' s'
       rcases f3 with rfl | rfl | rfl
       ·exact absurd rfl hw
       ·rw [x4d] at this
        have t2 : Q (.bl (geD 1 c && ((q0g a && q1y b) && whole e))) H' := this
        rw [hg] at t2
        rw [if_pos rfl]
        exact t2
       ·rw [x2r] at this
        have t2 : Q (.bl (geD 1 c && ((q0g a && q1y b) && q7y e))) H' := this
        rw [hg] at t2
        rw [if_neg (by decide +kernel)]
        exact t2
      refine q1a ⟨_, rfl, q, xs, 1, v1, rfl, rfl, SqT.of (s3 _ _ ea), e1, B, v1, a, hB, rfl, I1.same s3, fun H4 s4 => ⟨_, rfl, ?_⟩⟩
      cases hk : q0g a with
      | false => rw [hk] at kt; exact q1f (q1f (kt _ (s03.trans s4)))
      | true =>
       rw [hk] at kt
       refine q1a ⟨_, rfl, q, xs, 2, v2, rfl, rfl, SqT.of (s4 _ _ (s3 _ _ ea)), e2, B, v2, b, hB, rfl, (I2.same s3).same s4, fun H5 s5 => ⟨_, rfl, ?_⟩⟩
       have s05 := (s03.trans s4).trans s5
       have ea5 := s5 _ _ (s4 _ _ (s3 _ _ ea))
       have I5 := ((I4.same s3).same s4).same s5
       cases hn : q1y b with
       | false => rw [hn] at kt; exact q1f (kt _ s05)
       | true =>
        rw [hn] at kt
        refine q1a ⟨_, rfl, rfl, _, rfl, ?_⟩
        by_cases ht : x = "told"
        ·subst ht
         rw [yes rfl]
         refine q1f ⟨_, rfl, q, xs, 4, v4, rfl, rfl, SqT.of ea5, e4, B, v4, e, hB, rfl, I5, fun H6 s6 => ?_⟩
         have := kt _ (s05.trans s6)
         rw [if_pos rfl] at this
         exact this
        ·rw [nos ht]
         rw [if_neg ht] at kt
         refine q1a ⟨_, rfl, q, xs, 4, v4, rfl, rfl, SqT.of ea5, e4, rfl, _, rfl, ?_⟩
         by_cases hd : e = .non
         ·subst hd
          cases I5
          exact q1f (kt _ s05)
         ·have go : decide (v4 = V.non) = false ∧ q7y e = q0g e := by
           cases I5 with
           | non => exact absurd rfl hd
           | _ => exact ⟨rfl, rfl⟩
          rw [go.1]
          refine q1a ⟨_, rfl, q, xs, 4, v4, rfl, rfl, SqT.of ea5, e4, B, v4, e, hB, rfl, I5, fun H6 s6 => ?_⟩
          have := kt _ (s05.trans s6)
          rw [go.2] at this
          exact this
   ·rw [show (!decide (V.int (xs.length : Int) = V.int 5)) = true by rw [hlen, List.length_cons, decide_eq_false (fun z => h4 (by have := V.int.inj z; omega))]; rfl]
    have e0 : q4i x r = false := by
     rcases f3 with rfl | rfl | rfl
     ·rw [x3e]
      match r, h4 with
      | [], _ => rfl
      | [_], _ => rfl
      | [_, _], _ => rfl
      | [_, _, _], _ => rfl
      | [_, _, _, _], h => exact absurd rfl h
      | _ :: _ :: _ :: _ :: _ :: _, _ => rfl
     ·rw [x4d]
      match r, h4 with
      | [], _ => rfl
      | [_], _ => rfl
      | [_, _], _ => rfl
      | [_, _, _], _ => rfl
      | [_, _, _, _], h => exact absurd rfl h
      | _ :: _ :: _ :: _ :: _ :: _, _ => rfl
     ·rw [x2r]
      match r, h4 with
      | [], _ => rfl
      | [_], _ => rfl
      | [_, _], _ => rfl
      | [_, _, _], _ => rfl
      | [_, _, _, _], h => exact absurd rfl h
      | _ :: _ :: _ :: _ :: _ :: _, _ => rfl
    have k3 := kr _ s2
    rw [e0] at k3
    exact q1f (q1f k3)
  ·rw [decide_eq_false h3]
   have n3 : ¬ q1o d = "wish" ∧ ¬ q1o d = "told" ∧ ¬ q1o d = "away" := by
    simp only [List.mem_cons, List.not_mem_nil, or_false, not_or] at h3
    exact h3
   have e0 : q7j d = false := by
    unfold q7j
    split
    ·rename_i x r
     exact j3a r n5.1 n5.2.1 n5.2.2.1 n5.2.2.2.1 n5.2.2.2.2 n3.1 n3.2.1 n3.2.2
    ·rfl
   have k3 := k _ s2
   rw [e0] at k3
   exact q1f (q1f k3)
end
theorem j0h {B : Nat} {H : Hp} {v : V} {W : Str} {ds : List D} (I : Is B H v (.tup (.str W :: ds))) : ∃ a xs, v = .ref a ∧ H a = some (.tup (.str W :: xs)) := by
 cases I with
 | tup e l r => cases r with | cons h t => cases h; exact ⟨_, _, rfl, e⟩
theorem w1c {x0 : Str} {x1 x2 : Int} {x3 : D} (h : q5z x3 ≠ []) : J (q1j (.tup [.str "wish", .str x0, .int x1, .int x2, x3])) = "wish " ++ x0 ++ " " ++ (q1p x1 ++ " " ++ q1p x2) ++ " " ++ J (q5z x3) := by
 have e : q1j (.tup [.str "wish", .str x0, .int x1, .int x2, x3]) = [("wish" : Str), x0, q1p x1, q1p x2] ++ q5z x3 := by
  show ("wish" : Str) :: x0 :: q1p x1 :: q1p x2 :: (q5z x3 ++ []) = _
  rw [List.append_nil]
  rfl
 have e2 : ("wish " : Str) = "wish" ++ " " := by decide +kernel
 rw [e, x1w (by simp) h, e2]
 simp only [x1o, x4a, x0r]
theorem j2j (W f0 f1 f2 f3 : Str) : J [W, f0, f1, f2, f3] = W ++ " " ++ f0 ++ " " ++ f1 ++ " " ++ f2 ++ " " ++ f3 := by simp only [x1o, x4a, x0r]
section
variable {P : Program} {w : World} {K : PySem.W.Frag} {mg : Str → Option Value} {base : Heap}
theorem z8w : FnScope ["_law_letter_here", "_law_numbers", "_law_words"] ["_law_letter_here"] (q0f q6n) := fSc
theorem z3m {f : Addr} {fd : FuncData} (F : Fun K "_law_text_of" "_law_text_of" q6n f fd) (CF : Cal P w K mg base "_law_figures" 2 ["_law_number"] z0k) (CD : Cal P w K mg base "_law_deed_words" 3 ["_law_deed_here"] (spT q7z q5z)) (CB : Cal P w K mg base "_law_text_between" 5 ["_law_letter_here"] (spT j7z q1j)) : FnOk P w K mg base CX0 6 f fd ["_law_letter_here"] (spT (q2n q2q) q1j) := by
 refine F.ok z8w x1f (fun cdv A outer s H vs Q E hr h => ?_)
 obtain ⟨B, v, d, hB, rfl, I, hp, hs, q⟩ := h
 have r2 := hr.mono (show 2 ≤ 5 by decide)
 have r3 := hr.mono (show 3 ≤ 5 by decide)
 refine ⟨_, (@q0z _ _ _ _ _ (q1w (q0s q2c (q0u q0o (pv 0) q0a q2j) q0r (q0q _)) (@q0z _ _ _ _ _ (q1b (i := 1) z8w.nd (by rfl) (by exact Or.inl rfl) (q0j q0l (q0j q0l (q0i CF r2 (q4a (q0u q0o (pv 0) q0a q2j) q0b)) q0r) (q0i CF r2 (q4a (q0u q0o (pv 0) q0a q2j) q0b)))) (@q1m _ _ _ (q0k (q0j q0l (q0j q0l (q0j q0l (q0j q0l (q0j q0l q0r (q0u q0o (pv 0) q0a q2j)) q0r) (pv 1)) q0r) (q0i CD r3 (q4a (q0u q0o (pv 0) q0a q2j) q0b)))))) q0t)
  (@q0z _ _ _ _ _ (q1w (q0s q8e (q0u q0o (pv 0) q0a q2j) (QE.h (q6b (q2k (q2k q3e)))) rfl) (@q1m _ _ _ (q0k (q0i CB hr (q1i (pv 0) q0b)))) q0t)
  (@q0z _ _ _ _ _ (q1b (i := 2) z8w.nd (by rfl) (by exact Or.inl rfl) (q0j q0l (q0j q0l (q0j q0l (q0j q0l (q0j q0l (q0u q0o (pv 0) q0a q2j) q0r) (q0i CF r2 (q4a (q0u q0o (pv 0) q0a q2j) q0b))) q0r) (q0u q0o (pv 0) q0a q2j)) q0r))
  (@q0z _ _ _ _ _ (q1b (i := 2) z8w.nd (by rfl) (by exact Or.inl rfl) (q0j q0l (q0j q0l (pv 2) (q0i CF r2 (q4a (q0u q0o (pv 0) q0a q2j) q0b))) q0r))
  (@q0z _ _ _ _ _ (q1w (q0s z1d (q0u q0o (pv 0) q0a q2j) x5b (q0q _)) (@q1m _ _ _ (q0k (q0j q0l (pv 2) q0r))) q0t)
  (@q1m _ _ _ (q0k (q0j q0l (pv 2) (q0i CF r2 (q4a (q0u q0o (pv 0) q0a q2j) q0b)))))))))), ?_⟩
 have hb : q2n q2q d = true := hp
 have hwid := (I.mono hB (q0y.refl _)).wid
 have e1' : (" " : Str).length = 1 := rfl
 have e4' : ("none" : Str).length = 4 := rfl
 have e5' : ("wish " : Str).length = 5 := rfl
 by_cases hf : (["ask", "voice", "hand", "pack", "held"] : List Str).contains (q1o d) = true
 ·have hbt : j7z d = true := by unfold j7z; rw [hb, hf]; rfl
  obtain ⟨x, r, ps, rfl, e, _⟩ := q2x hb
  obtain ⟨a, xs, rfl, ea⟩ := j0h I
  have hx : x ∈ (["ask", "voice", "hand", "pack", "held"] : List Str) := List.contains_iff_mem.mp hf
  have n1 : decide (V.str x = V.str ("wish" : Str)) = false := by
   simp only [List.mem_cons, List.not_mem_nil, or_false] at hx
   rcases hx with rfl | rfl | rfl | rfl | rfl <;> decide +kernel
  have n2 : ¬ x ∈ (["told", "away"] : List Str) := by
   simp only [List.mem_cons, List.not_mem_nil, or_false] at hx
   rcases hx with rfl | rfl | rfl | rfl | rfl <;> decide +kernel
  refine ⟨_, rfl, a, _, _, .str x, rfl, rfl, SqT.of ea, q0m (j := 0) rfl, rfl, _, rfl, ?_⟩
  rw [n1]
  refine q1a ⟨_, rfl, a, _, _, .str x, rfl, rfl, SqT.of ea, q0m (j := 0) rfl, q3c (by show 2 ≤ 1000; decide), fun p hp' => ⟨p, _, rfl, .inr (SqT.of q0e), rfl, rfl, _, rfl, ?_⟩⟩
  have s1 := q0h (o := HO.tup ((["told", "away"] : List Str).map V.str)) hp'
  show if (!inV (V.str x) ((["told", "away"] : List Str).map V.str)) = true then _ else _
  rw [x1j, decide_eq_false n2]
  exact q1f ⟨_, rfl, B, _, _, hB, rfl, I.same s1, hbt, hs, fun H' s' => q H' (s1.trans s')⟩
 cases x3m hb with
 | ask x0 x1 x2 x3 x4 => exact absurd (show (["ask", "voice", "hand", "pack", "held"] : List Str).contains ("ask" : Str) = true from by decide +kernel) hf
 | voice x0 x1 x2 x3 => exact absurd (show (["ask", "voice", "hand", "pack", "held"] : List Str).contains ("voice" : Str) = true from by decide +kernel) hf
 | hand x0 x1 x2 x3 x4 x5 x6 h5 => exact absurd (show (["ask", "voice", "hand", "pack", "held"] : List Str).contains ("hand" : Str) = true from by decide +kernel) hf
 | pack x0 x1 x2 x3 h3 => exact absurd (show (["ask", "voice", "hand", "pack", "held"] : List Str).contains ("pack" : Str) = true from by decide +kernel) hf
 | held x0 x1 x2 x3 x4 => exact absurd (show (["ask", "voice", "hand", "pack", "held"] : List Str).contains ("held" : Str) = true from by decide +kernel) hf
 | wish x0 x1 x2 x3 h0 h3 =>
  cases I with
  | @tup a xs _ ea l r =>
  obtain ⟨w0, _, rfl, z0, rr0⟩ := IsL.un r
  obtain rfl := Is.vstr z0
  obtain ⟨w1, _, rfl, z1, rr1⟩ := IsL.un rr0
  obtain rfl := Is.vstr z1
  obtain ⟨w2, _, rfl, z2, rr2⟩ := IsL.un rr1
  obtain rfl := Is.vint z2
  obtain ⟨w3, _, rfl, z3, rr3⟩ := IsL.un rr2
  obtain rfl := Is.vint z3
  obtain ⟨ve, _, rfl, ie, rr4⟩ := IsL.un rr3
  obtain rfl := IsL.un0 rr4
  simp only [q1g, smallL, Bool.true_and, Bool.and_true, Bool.and_eq_true, decide_eq_true_eq] at hs
  have f1 := q1e (n := x1) (k := 4000) (by decide) hs.1
  have f2 := q1e (n := x2) (k := 4000) (by decide) hs.2.1
  have hxl := q7m h0
  have fd := (x0a (B := 200) x3 h3 (ie.mono hB (q0y.refl _)).wid).text (by rw [smallL, hs.2.2]; rfl)
  refine ⟨_, rfl, a, _, _, .str "wish", rfl, rfl, SqT.of ea, q0m (j := 0) rfl, rfl, _, rfl, ?_⟩
  rw [(show decide (V.str ("wish" : Str) = V.str ("wish" : Str)) = true from by decide +kernel)]
  refine q1f ⟨_, rfl, a, _, _, .int x1, rfl, rfl, SqT.of ea, q0m (j := 2) rfl, x1, rfl, hs.1, _, _, rfl, rfl, ?_, _, rfl, a, _, _, .int x2, rfl, rfl, SqT.of ea, q0m (j := 3) rfl, x2, rfl, hs.2.1, _, _, rfl, rfl, ?_, ?_⟩
  ·simp only [q0d, e1', e4', e5']
   rw [sizeLine_eq]
   clear hs
   omega
  ·simp only [q0d, e1', e4', e5']
   rw [sizeLine_eq]
   clear hs
   omega
  refine ⟨_, rfl, a, _, _, .str x0, rfl, rfl, SqT.of ea, q0m (j := 1) rfl, _, _, rfl, rfl, ?_, _, _, rfl, rfl, ?_, _, rfl, _, _, rfl, rfl, ?_, _, _, rfl, rfl, ?_, _, rfl, a, _, _, ve, rfl, rfl, SqT.of ea, q0m (j := 4) rfl, B, ve, x3, hB, rfl, ie, h3, hs.2.2, fun H' s' => ⟨_, _, rfl, rfl, ?_, ?_⟩⟩
  ·simp only [q0d, e1', e4', e5']
   rw [sizeLine_eq]
   clear hs
   omega
  ·simp only [q0d, e1', e4', e5']
   rw [sizeLine_eq]
   clear hs
   omega
  ·simp only [q0d, e1', e4', e5']
   rw [sizeLine_eq]
   clear hs
   omega
  ·simp only [q0d, e1', e4', e5']
   rw [sizeLine_eq]
   clear hs
   omega
  ·simp only [q0d, e1', e4', e5']
   rw [sizeLine_eq]
   clear hs
   omega
  ·have q' := q H' s'
   rw [w1c (z1t h3)] at q'
   exact q'
 | told x0 x1 x2 x3 h1 =>
  cases I with
  | @tup a xs _ ea l r =>
  obtain ⟨w0, _, rfl, z0, rr0⟩ := IsL.un r
  obtain rfl := Is.vstr z0
  obtain ⟨w1, _, rfl, z1, rr1⟩ := IsL.un rr0
  obtain rfl := Is.vint z1
  obtain ⟨w2, _, rfl, z2, rr2⟩ := IsL.un rr1
  obtain rfl := Is.vstr z2
  obtain ⟨w3, _, rfl, z3, rr3⟩ := IsL.un rr2
  obtain rfl := Is.vint z3
  obtain ⟨v3, _, rfl, i3, rr4⟩ := IsL.un rr3
  obtain rfl := IsL.un0 rr4
  simp only [q1g, smallL, Bool.true_and, Bool.and_true, Bool.and_eq_true, decide_eq_true_eq] at hs
  have f0 := q1e (n := x0) (k := 4000) (by decide) hs.1
  have f2 := q1e (n := x2) (k := 4000) (by decide) hs.2.1
  have hxl := q7m h1
  refine ⟨_, rfl, a, _, _, .str "told", rfl, rfl, SqT.of ea, q0m (j := 0) rfl, rfl, _, rfl, ?_⟩
  rw [(show decide (V.str ("told" : Str) = V.str ("wish" : Str)) = false from by decide +kernel)]
  refine q1a ⟨_, rfl, a, _, _, .str "told", rfl, rfl, SqT.of ea, q0m (j := 0) rfl, q3c (by show 2 ≤ 1000; decide), fun p hp' => ⟨p, _, rfl, .inr (SqT.of q0e), rfl, rfl, _, rfl, ?_⟩⟩
  have s1 := q0h (o := HO.tup ((["told", "away"] : List Str).map V.str)) hp'
  show if (!inV (V.str ("told" : Str)) ((["told", "away"] : List Str).map V.str)) = true then _ else _
  rw [x1j, show decide (("told" : Str) ∈ (["told", "away"] : List Str)) = true from by decide +kernel]
  have eW : ("told" : Str).length = 4 := by decide +kernel
  refine q1a ⟨_, rfl, a, _, _, .str "told", rfl, rfl, SqT.of (s1 _ _ ea), q0m (j := 0) rfl, _, _, rfl, rfl, ?_, _, rfl, a, _, _, .int x0, rfl, rfl, SqT.of (s1 _ _ ea), q0m (j := 1) rfl, x0, rfl, hs.1, _, _, rfl, rfl, ?_, _, _, rfl, rfl, ?_, _, rfl, a, _, _, .str x1, rfl, rfl, SqT.of (s1 _ _ ea), q0m (j := 2) rfl, _, _, rfl, rfl, ?_, _, _, rfl, rfl, ?_, ?_⟩
  ·simp only [q0d, e1', e4', e5']
   rw [sizeLine_eq]
   clear hs
   omega
  ·simp only [q0d, e1', e4', e5']
   rw [sizeLine_eq]
   clear hs
   omega
  ·simp only [q0d, e1', e4', e5']
   rw [sizeLine_eq]
   clear hs
   omega
  ·simp only [q0d, e1', e4', e5']
   rw [sizeLine_eq]
   clear hs
   omega
  ·simp only [q0d, e1', e4', e5']
   rw [sizeLine_eq]
   clear hs
   omega
  refine ⟨_, rfl, _, rfl, a, _, _, .int x2, rfl, rfl, SqT.of (s1 _ _ ea), q0m (j := 3) rfl, x2, rfl, hs.2.1, _, _, rfl, rfl, ?_, _, _, rfl, rfl, ?_, ?_⟩
  ·simp only [q0d, e1', e4', e5']
   rw [sizeLine_eq]
   clear hs
   omega
  ·simp only [q0d, e1', e4', e5']
   rw [sizeLine_eq]
   clear hs
   omega
  cases i3
  have f3 := q1e (n := x3) (k := 4000) (by decide) hs.2.2
  refine ⟨_, rfl, a, _, _, .int x3, rfl, rfl, SqT.of (s1 _ _ ea), q0m (j := 4) rfl, rfl, _, rfl, q1a ⟨_, rfl, _, rfl, a, _, _, .int x3, rfl, rfl, SqT.of (s1 _ _ ea), q0m (j := 4) rfl, x3, rfl, hs.2.2, _, _, rfl, rfl, ?_, ?_⟩⟩
  ·simp only [q0d, e1', e4', e5']
   rw [sizeLine_eq]
   clear hs
   omega
  ·have q' := q _ s1
   rw [show q1j (.tup [.str "told", .int x0, .str x1, .int x2, .int x3]) = [("told" : Str), q1p x0, x1, q1p x2, q1p x3] from rfl, j2j] at q'
   exact q'
 | away x0 x1 x2 x3 h1 h3 =>
  have hx3 : x3 = .non ∨ ∃ i, x3 = .int i := by
   cases x3 with
   | non => exact .inl rfl
   | int i => exact .inr ⟨i, rfl⟩
   | _ => cases h3
  cases I with
  | @tup a xs _ ea l r =>
  obtain ⟨w0, _, rfl, z0, rr0⟩ := IsL.un r
  obtain rfl := Is.vstr z0
  obtain ⟨w1, _, rfl, z1, rr1⟩ := IsL.un rr0
  obtain rfl := Is.vint z1
  obtain ⟨w2, _, rfl, z2, rr2⟩ := IsL.un rr1
  obtain rfl := Is.vstr z2
  obtain ⟨w3, _, rfl, z3, rr3⟩ := IsL.un rr2
  obtain rfl := Is.vint z3
  obtain ⟨v3, _, rfl, i3, rr4⟩ := IsL.un rr3
  obtain rfl := IsL.un0 rr4
  simp only [q1g, smallL, Bool.true_and, Bool.and_true, Bool.and_eq_true, decide_eq_true_eq] at hs
  have f0 := q1e (n := x0) (k := 4000) (by decide) hs.1
  have f2 := q1e (n := x2) (k := 4000) (by decide) hs.2.1
  have hxl := q7m h1
  refine ⟨_, rfl, a, _, _, .str "away", rfl, rfl, SqT.of ea, q0m (j := 0) rfl, rfl, _, rfl, ?_⟩
  rw [(show decide (V.str ("away" : Str) = V.str ("wish" : Str)) = false from by decide +kernel)]
  refine q1a ⟨_, rfl, a, _, _, .str "away", rfl, rfl, SqT.of ea, q0m (j := 0) rfl, q3c (by show 2 ≤ 1000; decide), fun p hp' => ⟨p, _, rfl, .inr (SqT.of q0e), rfl, rfl, _, rfl, ?_⟩⟩
  have s1 := q0h (o := HO.tup ((["told", "away"] : List Str).map V.str)) hp'
  show if (!inV (V.str ("away" : Str)) ((["told", "away"] : List Str).map V.str)) = true then _ else _
  rw [x1j, show decide (("away" : Str) ∈ (["told", "away"] : List Str)) = true from by decide +kernel]
  have eW : ("away" : Str).length = 4 := by decide +kernel
  refine q1a ⟨_, rfl, a, _, _, .str "away", rfl, rfl, SqT.of (s1 _ _ ea), q0m (j := 0) rfl, _, _, rfl, rfl, ?_, _, rfl, a, _, _, .int x0, rfl, rfl, SqT.of (s1 _ _ ea), q0m (j := 1) rfl, x0, rfl, hs.1, _, _, rfl, rfl, ?_, _, _, rfl, rfl, ?_, _, rfl, a, _, _, .str x1, rfl, rfl, SqT.of (s1 _ _ ea), q0m (j := 2) rfl, _, _, rfl, rfl, ?_, _, _, rfl, rfl, ?_, ?_⟩
  ·simp only [q0d, e1', e4', e5']
   rw [sizeLine_eq]
   clear hs
   omega
  ·simp only [q0d, e1', e4', e5']
   rw [sizeLine_eq]
   clear hs
   omega
  ·simp only [q0d, e1', e4', e5']
   rw [sizeLine_eq]
   clear hs
   omega
  ·simp only [q0d, e1', e4', e5']
   rw [sizeLine_eq]
   clear hs
   omega
  ·simp only [q0d, e1', e4', e5']
   rw [sizeLine_eq]
   clear hs
   omega
  refine ⟨_, rfl, _, rfl, a, _, _, .int x2, rfl, rfl, SqT.of (s1 _ _ ea), q0m (j := 3) rfl, x2, rfl, hs.2.1, _, _, rfl, rfl, ?_, _, _, rfl, rfl, ?_, ?_⟩
  ·simp only [q0d, e1', e4', e5']
   rw [sizeLine_eq]
   clear hs
   omega
  ·simp only [q0d, e1', e4', e5']
   rw [sizeLine_eq]
   clear hs
   omega
  rcases hx3 with rfl | ⟨i, rfl⟩
  ·cases i3
   refine ⟨_, rfl, a, _, _, .non, rfl, rfl, SqT.of (s1 _ _ ea), q0m (j := 4) rfl, rfl, _, rfl, q1f ⟨_, rfl, _, _, rfl, rfl, ?_, ?_⟩⟩
   ·simp only [q0d, e1', e4', e5']
    rw [sizeLine_eq]
    clear hs
    omega
   ·have q' := q _ s1
    rw [show q1j (.tup [.str "away", .int x0, .str x1, .int x2, .non]) = [("away" : Str), q1p x0, x1, q1p x2, ("none" : Str)] from rfl, j2j] at q'
    exact q'
  ·simp only [q1g, decide_eq_true_eq] at hs
   cases i3
   have f3 := q1e (n := i) (k := 4000) (by decide) hs.2.2
   refine ⟨_, rfl, a, _, _, .int i, rfl, rfl, SqT.of (s1 _ _ ea), q0m (j := 4) rfl, rfl, _, rfl, q1a ⟨_, rfl, _, rfl, a, _, _, .int i, rfl, rfl, SqT.of (s1 _ _ ea), q0m (j := 4) rfl, i, rfl, hs.2.2, _, _, rfl, rfl, ?_, ?_⟩⟩
   ·simp only [q0d, e1', e4', e5']
    rw [sizeLine_eq]
    clear hs
    omega
   ·have q' := q _ s1
    rw [show q1j (.tup [.str "away", .int x0, .str x1, .int x2, .int i]) = [("away" : Str), q1p x0, x1, q1p x2, q1p i] from rfl, j2j] at q'
    exact q'
end
structure WTab (P : Program) (w : World) (K : PySem.W.Frag) (mg : Str → Option Value) (base : Heap) (cN : Addr) (name : Str) (kk : Nat) (tp : List (Str × List (D → Bool))) (tw : List (Str × List (D → List Str))) : Prop where
 ex : ∃ a es n, mg name = some (.ref a) ∧ K.lookup a = some ⟨.type "dict", none, .dict es n, #[]⟩ ∧ PySem.W.KeysLit w.params es.toList ∧
  ∀ x ps, tp.lookup x = some ps → ∃ fs t gs, tw.lookup x = some fs ∧ findBy Value.isStrOf es x = some (.ref t) ∧ (∀ H, SqT K H t gs) ∧ Wrs P w K mg base cN kk gs ps fs
section
variable {P : Program} {w : World} {K : PySem.W.Frag} {mg : Str → Option Value} {base : Heap}
theorem x7d : FnScope ["deed"] ["deed"] (q0f q8g) := fSc
theorem x6w {f : Addr} {fd : FuncData} {cN : Addr} {kk : Nat} (F : Fun K "deed_words" "deed_words" q8g f fd) (TB : WTab P w K mg base cN "DEED_WRITERS" kk (x8y q2y) x7k) (CP : CalE P w K mg base "words_of_parts" (kk + 1) ["parts", "writers"] (q5l P w K mg base cN kk)) : FnOk P w K mg base (CXe P w) (kk + 2) f fd ["deed"] (spW cN q7z q5z) := by
 refine F.okE x7d q4u (fun cdv A outer s H vs Q E hr h => ?_)
 obtain ⟨B, v, d, hB, rfl, I, hp, q, qe⟩ := h
 obtain ⟨aD, es, n, mD, lD, hK, hT⟩ := TB.ex
 have hl := wrd x0a hB I hp (by decide)
 obtain ⟨x, r, ps, rfl, e, hf⟩ := q2x hp
 obtain ⟨fs, t, gs, ew, ef, hS, hW⟩ := hT x ps e
 cases I with
 | @tup a xs _ ea l ri =>
 cases ri with
 | @cons v1 _ xs1 _ i1 ri =>
 cases i1
 refine ⟨_, @q1m _ _ _ (q0k (q0j x8b (q4o (q0c (q0u q0o (pv 0) q0a q2j) q0b)) (q4r CP hr q9n (q0c (q3o q6g (pv 0) (q4f q0a) q5k) (q0c (z7q (q2s (by rfl) mD) (q0u q0o (pv 0) q0a q2j) (fun _ _ => rfl)) q0b))))), ?_⟩
 refine ⟨_, rfl, a, _, _, .str x, rfl, rfl, SqT.of ea, q0m (j := 0) rfl, q3c (by show 1 ≤ 1000; decide), fun b hb => ?_⟩
 have s1 := q0h (o := HO.lst [V.str x]) hb
 refine ⟨_, rfl, _, rfl, a, _, rfl, s1 _ _ ea, fun p H2 hp2 s2 => ?_⟩
 have s12 := s1.trans s2
 rw [show x2g (V.str x :: xs1) (some 1) none = xs1 from q8d (V.str x :: xs1) 1] at hp2
 refine ⟨_, rfl, a, _, _, .str x, rfl, rfl, SqT.of (s12 _ _ ea), q0m (j := 0) rfl, aD, es, n, x, .ref t, _, rfl, rfl, lD, hK, ef, rfl, ?_⟩
 have hlw : (q5z (.tup (.str x :: r))).length = (q2h fs r).length + 1 := by
  show (x :: q2h ((x7k.lookup x).getD []) r).length = _
  rw [ew]; rfl
 refine ⟨B, p, xs1, r, t, gs, ps, fs, hB, rfl, hp2, ri.same s12, hS _, hW, hf, by omega, fun hs c H3 s3 hc hL => ?_, fun hs H3 s3 => qe hs H3 (s12.trans s3)⟩
 have s123 := s12.trans s3
 have hb3 := s3 _ _ (s2 _ _ q0e)
 refine ⟨b, c, _, _, rfl, rfl, hb3, hL, ?_, fun u hu => q hs u _ (s123.trans (q0h hu)) ?_ ?_⟩
 ·rw [List.length_map, sizeLine_eq]; simp; omega
 ·cases e : H u with
  | none => rfl
  | some o => rw [s123 _ _ e] at hu; cases hu
 ·rw [q0e]
  show _ = some (HO.lst ((x :: q2h ((x7k.lookup x).getD []) r).map V.str))
  rw [ew]; rfl
theorem x5z : FnScope ["what"] ["what"] (q0f q8j) := fSc
theorem x6i {f : Addr} {fd : FuncData} {cN : Addr} {kk : Nat} (F : Fun K "what_words" "what_words" q8j f fd) (TB : WTab P w K mg base cN "WHAT_WRITERS" kk x7y x9f) (CP : CalE P w K mg base "words_of_parts" (kk + 1) ["parts", "writers"] (q5l P w K mg base cN kk)) : FnOk P w K mg base (CXe P w) (kk + 2) f fd ["what"] (spW cN x0z z2w) := by
 refine F.okE x5z q4u (fun cdv A outer s H vs Q E hr h => ?_)
 obtain ⟨B, v, d, hB, rfl, I, hp, q, qe⟩ := h
 obtain ⟨aD, es, n, mD, lD, hK, hT⟩ := TB.ex
 have hl := wrd z1n hB I hp (by decide)
 obtain ⟨x, r, ps, rfl, e, hf⟩ := q2x hp
 obtain ⟨fs, t, gs, ew, ef, hS, hW⟩ := hT x ps e
 cases I with
 | @tup a xs _ ea l ri =>
 cases ri with
 | @cons v1 _ xs1 _ i1 ri =>
 cases i1
 refine ⟨_, @q1m _ _ _ (q0k (q0j x8b (q4o (q0c (q0u q0o (pv 0) q0a q2j) q0b)) (q4r CP hr q9n (q0c (q3o q6g (pv 0) (q4f q0a) q5k) (q0c (z7q (q2s (by rfl) mD) (q0u q0o (pv 0) q0a q2j) (fun _ _ => rfl)) q0b))))), ?_⟩
 refine ⟨_, rfl, a, _, _, .str x, rfl, rfl, SqT.of ea, q0m (j := 0) rfl, q3c (by show 1 ≤ 1000; decide), fun b hb => ?_⟩
 have s1 := q0h (o := HO.lst [V.str x]) hb
 refine ⟨_, rfl, _, rfl, a, _, rfl, s1 _ _ ea, fun p H2 hp2 s2 => ?_⟩
 have s12 := s1.trans s2
 rw [show x2g (V.str x :: xs1) (some 1) none = xs1 from q8d (V.str x :: xs1) 1] at hp2
 refine ⟨_, rfl, a, _, _, .str x, rfl, rfl, SqT.of (s12 _ _ ea), q0m (j := 0) rfl, aD, es, n, x, .ref t, _, rfl, rfl, lD, hK, ef, rfl, ?_⟩
 have hlw : (z2w (.tup (.str x :: r))).length = (q2h fs r).length + 1 := by
  show (x :: q2h ((x9f.lookup x).getD []) r).length = _
  rw [ew]; rfl
 refine ⟨B, p, xs1, r, t, gs, ps, fs, hB, rfl, hp2, ri.same s12, hS _, hW, hf, by omega, fun hs c H3 s3 hc hL => ?_, fun hs H3 s3 => qe hs H3 (s12.trans s3)⟩
 have s123 := s12.trans s3
 have hb3 := s3 _ _ (s2 _ _ q0e)
 refine ⟨b, c, _, _, rfl, rfl, hb3, hL, ?_, fun u hu => q hs u _ (s123.trans (q0h hu)) ?_ ?_⟩
 ·rw [List.length_map, sizeLine_eq]; simp; omega
 ·cases e : H u with
  | none => rfl
  | some o => rw [s123 _ _ e] at hu; cases hu
 ·rw [q0e]
  show _ = some (HO.lst ((x :: q2h ((x9f.lookup x).getD []) r).map V.str))
  rw [ew]; rfl
end
noncomputable def z4n : Sp := fun vs H Q _ => ∃ (a : Addr) (x1 x2 x3 x4 x5 x6 x7 : V), vs = [.ref a] ∧ H a = some (.tup [x1, x2, x3, x4, x5, x6, x7]) ∧ ∀ p H', H' p = some (.tup [x1, x2, x3, x4, x5, x7, x6]) → q0y H H' → Q (.ref p) H'
noncomputable def x2z (cN : Addr) : Sp := fun vs H Q E => ∃ (B : Nat) (v : V) (d : D), B ≤ 1000 ∧ vs = [v] ∧ Is B H v d ∧ (q3s d = true → q1g 60 d = true → ∀ H', q0y H H' → Q (.str (Str.join " " (q1j d))) H') ∧
 ((q3s d = false ∨ q1g 60 d = false) → ∀ H', q0y H H' → E (.ref cN) none H')
section
variable {P : Program} {w : World} {K : PySem.W.Frag} {mg : Str → Option Value} {base : Heap}
theorem w2o : FnScope ["parts"] ["parts"] (q0f q4c) := fSc
theorem z0f {f : Addr} {fd : FuncData} (F : Fun K "last_two_changed" "last_two_changed" q4c f fd) : FnOk P w K mg base CX0 1 f fd ["parts"] z4n := by
 refine F.ok w2o (fun vs H Q E ⟨_, _, _, _, _, _, _, _, e, _⟩ => by subst e; rfl) (fun cdv A outer s H vs Q E hr h => ?_)
 obtain ⟨a, x1, x2, x3, x4, x5, x6, x7, rfl, ha, q⟩ := h
 refine ⟨_, @q1m _ _ _ (q0k (q0j q6a (q3o q6g (pv 0) q5k (q4f (x4p q9l q0a))) (q2r (q0c (q0u q0o (pv 0) (x4p q9l q0a) w0s) (q0c (q0u q0o (pv 0) (x4p q9l q0a) w0s) q0b))))), ?_⟩
 refine ⟨_, rfl, _, rfl, _, rfl, a, _, rfl, ha, fun b H1 hb s1 => ?_⟩
 have e1 : x2g [x1, x2, x3, x4, x5, x6, x7] none (some (-2)) = [x1, x2, x3, x4, x5] := rfl
 replace hb : H1 b = some (.tup [x1, x2, x3, x4, x5]) := hb
 refine ⟨_, rfl, _, rfl, a, _, _, x7, rfl, rfl, SqT.of (s1 _ _ ha), by rfl, _, rfl, _, rfl, a, _, _, x6, rfl, rfl, SqT.of (s1 _ _ ha), by rfl, q3c (by show 2 ≤ 1000; decide), fun c hc => ?_⟩
 have s2 := q0h (o := HO.tup [x7, x6]) hc
 exact ⟨b, c, _, _, rfl, rfl, s2 _ _ hb, q0e, q3c (by show 7 ≤ 1000; decide), fun p H3 hp s3 => q p H3 hp ((s1.trans s2).trans s3)⟩
theorem j9p : FnScope ["letter", "word", "parts"] ["letter"] (q0f x4e) := fSc
theorem z4c {f : Addr} {fd : FuncData} {cN : Addr} {kk : Nat} (h1 : 1 ≤ kk) (Z : NoL K mg cN) (F : Fun K "written" "written" x4e f fd) (CI : Cal P w K mg base "is_letter" (kk + 1) ["thing"] (spP q3s)) (CL : Cal P w K mg base "last_two_changed" 1 ["parts"] z4n)
  (TB : ∀ H : Hp, ∃ a es n, mg "LETTER_WRITERS" = some (.ref a) ∧ K.lookup a = some ⟨.type "dict", none, .dict es n, #[]⟩ ∧ PySem.W.KeysLit w.params es.toList ∧
   ∀ x r, q2n q2q (.tup (.str x :: r)) = true → ∃ fs t gs ps, q9g.lookup x = some fs ∧ findBy Value.isStrOf es x = some (.ref t) ∧ (∀ H, SqT K H t gs) ∧ Wrs P w K mg base cN kk gs ps fs ∧ q0x ps (if x = "hand" then x1y r else r) = true)
  (CP : CalE P w K mg base "words_of_parts" (kk + 1) ["parts", "writers"] (q5l P w K mg base cN kk)) : FnOk P w K mg base (CXe P w) (kk + 2) f fd ["letter"] (x2z cN) := by
 refine F.okE j9p (fun vs H Q E ⟨_, _, _, _, e, _⟩ => by subst e; rfl) (fun cdv A outer s H vs Q E hr h => ?_)
 obtain ⟨B, v, d, hB, rfl, I, q, qe⟩ := h
 obtain ⟨aD, es, n, mD, lD, hK, hT⟩ := TB H
 refine ⟨_, @q0z _ _ _ _ _ (q1w (q3a (q2l (q0i CI hr (q1i (pv 0) q0b)))) (@q1m _ _ _ (z1q x8o (by rfl) (by rfl) Z.m Z.x (q6s q0r q0b))) q0t)
  (@q0z _ _ _ _ _ (q1b (i := 1) j9p.nd (by rfl) (by exact Or.inl rfl) (q0u q0o (pv 0) q0a q2j))
  (@q0z _ _ _ _ _ (q1b (i := 2) j9p.nd (by rfl) (by exact Or.inl rfl) (x6t (q0s q2c (pv 1) q0r (q0q _)) (q0i CL (hr.mono (by omega)) (q0c (q3o q6g (pv 0) (q4f q0a) q5k) q0b)) (q3o q6g (pv 0) (q4f q0a) q5k)))
  (@q1m _ _ _ (q0k (x1b PySem.F.plainAttrs_str PySem.F.slot_str_join PySem.F.type_str_join x3t q0r (q0c (q0j x8b (q4o (q1i (pv 1) q0b)) (q4r CP hr q9n (q1i (pv 2) (q0c (z7q (q2s (by rfl) mD) (pv 1) (fun _ _ => rfl)) q0b)))) q0b)))))), ?_⟩
 refine ⟨_, rfl, B, v, d, hB, rfl, I, fun H1 s1 => ⟨_, rfl, ?_⟩⟩
 cases hp : q3s d with
 | false => exact q1f ⟨by decide, qe (.inl hp) H1 s1⟩
 | true =>
  have hb : q2n q2q d = true := by
   unfold q3s at hp
   rw [Bool.and_eq_true] at hp
   exact hp.1
  have hok := x1h (B := 1000) (by decide) d hb (I.mono hB (q0y.refl _)).wid
  obtain ⟨x, r, ps0, rfl, e, hf0⟩ := q2x hb
  obtain ⟨fs, t, gs, ps, ew, ef, hS, hW, hf⟩ := hT x r hb
  cases I with
  | @tup a xs _ ea l ri =>
  cases ri with
  | @cons v1 _ xs1 _ i1 ri =>
  cases i1
  refine q1a ⟨_, rfl, a, _, _, .str x, rfl, rfl, SqT.of (s1 _ _ ea), q0m (j := 0) rfl, ?_⟩
  have hws : q1j (.tup (.str x :: r)) = x :: q2h fs (if x = "hand" then x1y r else r) := by
   show x :: q2h ((q9g.lookup x).getD []) (if x = "hand" then x1y r else r) = _
   rw [ew]; rfl
  have hlw : (q2h fs (if x = "hand" then x1y r else r)).length + 1 ≤ 5070 := by
   have := hok.few
   rw [hws, List.length_cons] at this
   omega
  have hj : q1g 60 (.tup (.str x :: r)) = true → JoinOk " " (q1j (.tup (.str x :: r))) = true := by
   intro hs
   have hle := hok.len 60 (Nat.le_refl _) (by rw [smallL, hs]; rfl)
   have hfew := hok.few
   unfold JoinOk
   rw [StrLaws.joinFits (B := 61) hle (by
    have e1 : (" " : Str).length = 1 := rfl
    rw [e1]
    omega)]
   rfl
  refine ⟨_, rfl, rfl, _, rfl, ?_⟩
  by_cases hx : x = "hand"
  ·subst hx
   rw [if_pos rfl] at hf hlw hws
   have e2 : ps0 = [q0g, q0g, geD 1, geD 0, geD 0, q2f, geD 0] := (Option.some.inj e).symm
   subst e2
   obtain ⟨d1, d2, d3, d4, d5, d6, d7, rfl, g1', g2', g3', g4', g5', g6', g7'⟩ := x7c hf0
   have hsm : ∀ k, smallL k (x1y [d1, d2, d3, d4, d5, d6, d7]) = smallL k [d1, d2, d3, d4, d5, d6, d7] := fun k => by
    show smallL k [d1, d2, d3, d4, d5, d7, d6] = _
    simp only [smallL, Bool.and_true]
    rw [Bool.and_comm (q1g k d7)]
   have hsf : smallL 60 (x1y [d1, d2, d3, d4, d5, d6, d7]) = false → q1g 60 (.tup (.str "hand" :: [d1, d2, d3, d4, d5, d6, d7])) = false := fun z => by rw [hsm] at z; exact z
   have hsf' : smallL 60 (x1y [d1, d2, d3, d4, d5, d6, d7]) = true → q1g 60 (.tup (.str "hand" :: [d1, d2, d3, d4, d5, d6, d7])) = true := fun z => by rw [hsm] at z; exact z
   obtain ⟨y1, _, rfl, z1, rr0⟩ := IsL.un ri
   obtain ⟨y2, _, rfl, z2, rr1⟩ := IsL.un rr0
   obtain ⟨y3, _, rfl, z3, rr2⟩ := IsL.un rr1
   obtain ⟨y4, _, rfl, z4, rr3⟩ := IsL.un rr2
   obtain ⟨y5, _, rfl, z5, rr4⟩ := IsL.un rr3
   obtain ⟨y6, _, rfl, z6, rr5⟩ := IsL.un rr4
   obtain ⟨y7, _, rfl, z7, rr6⟩ := IsL.un rr5
   obtain rfl := IsL.un0 rr6
   refine q1f ⟨_, rfl, _, rfl, a, _, rfl, s1 _ _ ea, fun p1 H2 hp1 s2 => ?_⟩
   replace hp1 : H2 p1 = some (.tup [y1, y2, y3, y4, y5, y6, y7]) := hp1
   refine ⟨p1, y1, y2, y3, y4, y5, y6, y7, rfl, hp1, fun p H4 hp4 s4' => ?_⟩
   have s124 := (s1.trans s2).trans s4'
   have hI4 : IsL B H4 [y1, y2, y3, y4, y5, y7, y6] (x1y [d1, d2, d3, d4, d5, d6, d7]) := .cons (z1.same s124) (.cons (z2.same s124) (.cons (z3.same s124) (.cons (z4.same s124) (.cons (z5.same s124) (.cons (z7.same s124) (.cons (z6.same s124) .nil))))))
   refine ⟨rfl, _, rfl, q3c (by show 1 ≤ 1000; decide), fun b hb => ?_⟩
   have s3 := q0h (o := HO.lst [V.str "hand"]) hb
   have s13 := (s124).trans s3
   refine ⟨_, rfl, _, rfl, aD, es, n, _, .ref t, _, rfl, rfl, lD, hK, ef, rfl, B, p, _, _, t, gs, ps, fs, hB, rfl, s3 _ _ hp4, (hI4).same s3, hS _, hW, hf, by omega, fun hs c H3 s4 hc hL => ?_, fun hs H3 s4 => qe (.inr (hsf hs)) H3 (s13.trans s4)⟩
   have s134 := s13.trans s4
   have hb3 := s4 _ _ q0e
   refine ⟨b, c, _, _, rfl, rfl, hb3, hL, ?_, fun u hu => ?_⟩
   ·rw [List.length_map, sizeLine_eq]; simp; omega
   ·refine ⟨" ", u, q1j (.tup (.str "hand" :: [d1, d2, d3, d4, d5, d6, d7])), rfl, rfl, SqL.of ?_, hj (hsf' hs), q hp (hsf' hs) _ (s134.trans (q0h hu))⟩
    rw [q0e, hws]; rfl
  ·rw [if_neg hx] at hf hlw hws
   have hsf : smallL 60 r = false → q1g 60 (.tup (.str x :: r)) = false := fun z => z
   have hsf' : smallL 60 r = true → q1g 60 (.tup (.str x :: r)) = true := fun z => z
   rw [show decide (V.str x = V.str "hand") = false from decide_eq_false fun z => hx (V.str.inj z)]
   refine q1a ⟨_, rfl, _, rfl, a, _, rfl, s1 _ _ ea, fun p H2 hp2 s2 => ?_⟩
   rw [show x2g (V.str x :: xs1) (some 1) none = xs1 from q8d (V.str x :: xs1) 1] at hp2
   have s12 := s1.trans s2
   have hI2 := ri.same s12
   refine ⟨rfl, _, rfl, q3c (by show 1 ≤ 1000; decide), fun b hb => ?_⟩
   have s3 := q0h (o := HO.lst [V.str x]) hb
   have s13 := (s12).trans s3
   refine ⟨_, rfl, _, rfl, aD, es, n, x, .ref t, _, rfl, rfl, lD, hK, ef, rfl, B, p, _, _, t, gs, ps, fs, hB, rfl, s3 _ _ hp2, (hI2).same s3, hS _, hW, hf, by omega, fun hs c H3 s4 hc hL => ?_, fun hs H3 s4 => qe (.inr (hsf hs)) H3 (s13.trans s4)⟩
   have s134 := s13.trans s4
   have hb3 := s4 _ _ q0e
   refine ⟨b, c, _, _, rfl, rfl, hb3, hL, ?_, fun u hu => ?_⟩
   ·rw [List.length_map, sizeLine_eq]; simp; omega
   ·refine ⟨" ", u, q1j (.tup (.str x :: r)), rfl, rfl, SqL.of ?_, hj (hsf' hs), q hp (hsf' hs) _ (s134.trans (q0h hu))⟩
    rw [q0e, hws]; rfl
end
structure ExcG (K : PySem.W.Frag) (mg : Str → Option Value) (cN cL cK cP cR cS : Addr) : Prop where
 mN : mg "NoLetter" = some (.ref cN)
 mL : mg "LogError" = some (.ref cL)
 mK : mg "NoKeeper" = some (.ref cK)
 mP : mg "NoPlace" = some (.ref cP)
 mR : mg "NoRoom" = some (.ref cR)
 mS : mg "NoSchedule" = some (.ref cS)
 mV : mg "ValueError" = none
 ex : PySem.W.exmOne K (.ref cN) (.ref cN) = some true
 ek : ExcK K cN
 ci : (PySem.W.clsIn K cN).isSome = true
 k1 : PySem.W.kitOne K (.ref cN) (.ref cL) = some true
 k2 : PySem.W.kitOne K (.ref cN) (.type "ValueError") = some true
 k3 : PySem.W.kitAny K (.ref cN) ([cK, cP, cR, cS].map Value.ref) = some false
mutual
theorem x3h {k k' : Nat} (h : k ≤ k') : ∀ d : D, q1g k d = true → q1g k' d = true
 | .int i, e => decide_eq_true (Nat.lt_of_lt_of_le (of_decide_eq_true e) (Nat.pow_le_pow_right (by decide) h))
 | .non, _ => rfl
 | .bl _, _ => rfl
 | .str _, _ => rfl
 | .tup ds, e => smallL_up h ds e
 | .lst ds, e => smallL_up h ds e
theorem smallL_up {k k' : Nat} (h : k ≤ k') : ∀ ds : List D, smallL k ds = true → smallL k' ds = true
 | [], _ => rfl
 | d :: ds, e => by
  rw [smallL, Bool.and_eq_true] at e ⊢
  exact ⟨x3h h d e.1, smallL_up h ds e.2⟩
end
theorem j5a (ws : List Str) (f : Str → V) : (((List.range ws.length).filter fun _ => true).map fun i => f (ws.getD i "")) = ws.map f := by
 rw [List.filter_eq_self.mpr (fun _ _ => rfl)]
 apply List.ext_getElem?
 intro i
 by_cases hi : i < ws.length
 ·simp [hi]
 ·rw [List.getElem?_eq_none (by simp; omega), List.getElem?_eq_none (by simp; omega)]
theorem x5j {d : D} (h : q2n q2q d = true) : q1j d ≠ [] := by
 cases x3m h <;> simp [q1j, byW]
theorem z7j {d : D} {ws : List Str} {n : Nat} {m : Int} (h : POk n [d] ws) (hm : m ∈ ws.map fun x => ((Txt.lstripChars x "-").length : Int)) (hall : ∀ y ∈ ws.map fun x => ((Txt.lstripChars x "-").length : Int), y ≤ m) : decide (m < 61) = q1g 60 d := by
 have e : (m < 61) ↔ smallL 60 [d] = true := by
  rw [← h.fit]
  constructor
  ·intro hl x hx
   have := hall _ (List.mem_map_of_mem hx)
   show (Txt.lstripChars x "-").length < 61
   omega
  ·intro hs
   obtain ⟨x, hx, rfl⟩ := List.mem_map.mp hm
   have : (Txt.lstripChars x "-").length < 61 := hs x hx
   omega
 rw [Bool.eq_iff_iff, decide_eq_true_eq, e]
 show (q1g 60 d && true) = true ↔ _
 rw [Bool.and_true]
theorem z5b : bootBuiltins "max" = some (.builtin "max") := by decide +kernel
theorem x0x {X : Cx} {K' : PySem.W.Frag} (h : X.K = K') : q9h X (.builtin "isinstance") (j5h K') := h ▸ z7n
section
variable {P : Program} {w : World} {K : PySem.W.Frag} {mg : Str → Option Value} {base : Heap}
noncomputable def j1w : Sp := fun vs H Q _ => ∃ (v : V) (d : D), vs = [v] ∧ Is 200 H v d ∧ q1g 3900 d = true ∧ ∀ H', q0y H H' → Q (.bl true) H'
noncomputable def j8w : TS := fun D σ H => ∃ v d, σ = [some v, some (.bl (q7j d)), none, none] ∧ Is 200 H v d ∧ q1g 3900 d = true ∧ ∀ H', q0y H H' → D.nx [some v, some (.bl (q3s d && q1g 60 d)), none, none] H'
theorem PS.weak5 {X : Cx} {st : Stmt} {t t' : TS} (h : PS X st t) (w : ∀ D σ H, t' D σ H → t D σ H) : PS X st t' := fun pins s σ H D I q => h pins s σ H D I (w D σ H q)
theorem z8q : FnScope ["_law_thing", "_law_good", "_law_found", "e"] ["_law_thing"] (q0f q6z) := fSc
theorem j3k {f : Addr} {fd : FuncData} {kk : Nat} (hk : 6 ≤ kk) {cN cL cK cP cR cS : Addr} (Z : ExcG K mg cN cL cK cP cR cS) (F : Fun K "_law_told" "_law_told" q6z f fd) (T : Txt mg) (hmx : mg "max" = none) (CL : Cal P w K mg base "_law_letter" 6 ["_law_thing"] (spP q7j)) (CX : Cal P w K mg base "_law_text_of" 6 ["_law_letter_here"] (spT (q2n q2q) q1j)) (CW : CalE P w K mg base "written" kk ["letter"] (x2z cN)) :
  FnOk P w K mg base CX0 (kk + 1) f fd ["_law_thing"] j1w := by
 refine F.ok z8q (fun vs H Q E ⟨_, _, e, _⟩ => by subst e; rfl) (fun cdv A outer s H vs Q E hr h => ?_)
 obtain ⟨v, d, rfl, I, hs, q⟩ := h
 obtain ⟨gW, dW, GW, mW, kW, bW⟩ := CW.ex
 have r6 := hr.mono hk
 refine ⟨_, @q0z _ _ _ _ _ (q1b (i := 1) z8q.nd (by rfl) (by exact Or.inl rfl) (q0i CL r6 (q1i (pv 0) q0b)))
  (@q0z _ _ _ _ _ (PS.weak5 (t' := j8w) (q1w (q2l (pv 1)) (@q1m _ _ _ (q1b (i := 1) z8q.nd (by rfl) (by exact Or.inl rfl) (q1z x5t (q0n (z5i (by rfl)) (by rfl) hmx z5b (q0c (q3g (NB := ["_law_word"]) (n := 1) (fr := []) (q5h (outer := q0f q6z) (by rfl) (by decide +kernel) (by rfl)) (by rfl)
    (z6z (x1b PySem.F.plainAttrs_str PySem.F.slot_str_split PySem.F.type_str_split z9k (q0i CX r6 (q1i (pv 0) q0b)) (q6s q0r q0b))) (fun _ _ _ _ _ => q1h (i := 0) (show (["_law_word"] : List Str).Nodup by decide +kernel) (by rfl) (by exact Or.inl rfl)) (fun _ _ _ _ _ => q2u)
    (fun _ _ _ _ _ => q0n q3n (by rfl) T.len PySem.boot_len (q7o (z7l (K := K) (by rfl) PySem.F.plainAttrs_str PySem.F.slot_str_lstrip PySem.F.type_str_lstrip z5g (pv 0) (q6s q0r q0b)) q0b))) q0b)) q0a (q0q _)))) q0t) ?w1)
  (@q0z _ _ _ _ _ (x9v (i := 2) (j := 3) (by rfl) (by rfl) GW hr (by rfl) mW kW bW (fun _ => q1i (pv 0) q0b) z8q.nd (by rfl) (by exact Or.inl rfl) (by rfl) Z.mN (by rfl) (by rfl) (fun _ => @q0z _ _ _ _ _ (q1w (PW.pt (q6t (q2l (pv 1)) (q6t (q3a (q2l (q0n (x0x (K' := K) (by rfl)) (by rfl) T.isi q1s (q1i (pv 3) (q1i (q2s (by rfl) Z.mL) q0b))))) (q7t (q3a (q2l (q0n (x0x (K' := K) (by rfl)) (by rfl) T.isi q1s (q1i (pv 3) (q1i (q4z (by rfl) Z.mV j2z) q0b))))))))) (@q1m _ _ _ (q0k q7e)) q0t)
    (@q1m _ _ _ (q0k (z0y (q0n (x0x (K' := K) (by rfl)) (by rfl) T.isi q1s (q1i (pv 3) (q0c (QE.h (q6b (z4y (q2s (by rfl) Z.mK) (z4y (q2s (by rfl) Z.mP) (z4y (q2s (by rfl) Z.mR) (z4y (q2s (by rfl) Z.mS) q3e)))))) q0b))))))))
  (@q1m _ _ _ (q0k (q1x (pv 1) (q1x (q0n q2a (by rfl) T.isi q1s (q1i (pv 2) (q1i (q4z (by rfl) T.str x0p) q0b))) (q2i (q1z q2c (pv 2) (q0i CX r6 (q1i (pv 0) q0b)) (q0q _))))))))), ?_⟩
 case w1 =>
  rintro D σ H ⟨v, d, rfl, I, hs, q⟩
  refine ⟨_, rfl, _, rfl, ?_⟩
  cases hl : q7j d with
  | false =>
   have q0 := q H (q0y.refl _)
   rw [show (q3s d && q1g 60 d) = q7j d by rw [x4b, hl]; rfl, hl] at q0
   exact q1a q0
  | true =>
   have hb : q2n q2q d = true := by
    rw [← x4b] at hl
    exact (Bool.and_eq_true _ _ |>.mp hl).1
   have ok := x1h (B := 200) (by decide) d hb I.wid
   have hs4 : q1g 4000 d = true := x3h (by decide) d hs
   have hlen := ok.text (by rw [smallL, hs4]; rfl)
   refine q1f ⟨_, rfl, 200, v, d, by decide, rfl, I, hb, hs4, fun H1 s1 => ⟨rfl, J (q1j d), " ", rfl, rfl, by decide +kernel, ?_, fun l hl' => ?_⟩⟩
   ·exact Nat.le_trans (Nat.add_le_add_right hlen 1) (by rw [sizeLine_eq]; decide)
   have s2 := q0h (o := HO.lst ((Txt.split (J (q1j d)) " ").map V.str)) hl'
   have esp : Txt.split (J (q1j d)) " " = q1j d := ok.split (x5j hb)
   have hS : ∀ H', q0y (upd H1 l (HO.lst ((Txt.split (J (q1j d)) " ").map V.str))) H' → SqL K H' l ((q1j d).map V.str) := fun H' s' => SqL.of (by have := s' _ _ q0e; rw [esp] at this; exact this)
   refine ⟨l, rfl, ⟨_, hS _ (q0y.refl _)⟩, q3d (n := (q1j d).length) (k := 1) (fun _ => true) (fun i => V.int ((Txt.lstripChars ((q1j d).getD i "") "-").length : Int)) (by rw [sizeLine_eq]; have := ok.few; omega) (fun i H3 hi s4 => ⟨_, .str ((q1j d).getD i ""), hS H3 s4, by simp [hi]⟩) (fun H3 s4 => ⟨_, hS H3 s4, by simp⟩) ?_ ?_⟩
   ·intro i H3 t x H4 R hi s4 ht y hR
    obtain ⟨rfl, hy⟩ := y
    obtain ⟨t0, rfl⟩ := q4v ht
    have hx := hy _ (hS _ s4)
    rw [List.getElem?_map, List.getElem?_eq_getElem hi] at hx
    cases hx
    have eg : (q1j d).getD i "" = (q1j d)[i] := by simp [hi]
    have hxl : ((q1j d)[i]).length ≤ 4001 := ok.len 4000 (by decide) (by rw [smallL, hs4]; rfl) _ (List.getElem_mem hi)
    rw [eg] at hR
    refine ⟨_, rfl, rfl, _, _, rfl, rfl, by rw [sizeLine_eq]; omega, _, rfl, ?_, hR [some _] _ rfl (q0y.refl _)⟩
    have := x9g ((q1j d)[i])
    rw [sizeLine_eq]; omega
   ·intro D1 H3 s4 hD hd
    rw [j5a (q1j d) (fun x => V.int ((Txt.lstripChars x "-").length : Int))] at hd
    refine ⟨D1, (q1j d).map fun x => ((Txt.lstripChars x "-").length : Int), rfl, SqL.of (by rw [hd, List.map_map]; rfl), ?_, fun m hm hall => ⟨_, _, rfl, rfl, ?_⟩⟩
    ·intro z
     exact x5j hb (List.map_eq_nil_iff.mp z)
    ·have q1 := q H3 ((s1.trans s2).trans s4)
     rw [← z7j ok hm hall, show q3s d = true by rw [x4b, hl], Bool.true_and] at q1
     exact q1
 refine ⟨_, rfl, 200, v, d, by decide, rfl, I, fun H1 s1 => ?_⟩
 refine ⟨v, d, rfl, I.same s1, hs, fun H2 s2 => ?_⟩
 have I2 := I.same (s1.trans s2)
 refine ⟨_, rfl, 200, v, d, by decide, rfl, I2, fun hl h60 H3 s3 => ?_, fun hbad H3 s3 => ⟨Z.ex, fun a ha => ?_⟩⟩
 ·have e1 : (q3s d && q1g 60 d) = true := by rw [hl, h60]; rfl
  have hb : q2n q2q d = true := (Bool.and_eq_true _ _ |>.mp hl).1
  have hs4 : q1g 4000 d = true := x3h (by decide) d hs
  refine ⟨_, rfl, _, rfl, ?_⟩
  rw [e1]
  refine q1f ⟨_, rfl, _, _, _, _, rfl, Is.ty (B := (J (q1j d)).length) (.str _ (Nat.le_refl _)), x3a K (.str (J (q1j d))), _, rfl, q1f ⟨_, rfl, _, rfl, 200, v, d, by decide, rfl, I2.same s3, hb, hs4, fun H4 s4 => ⟨rfl, ?_⟩⟩⟩
  rw [decide_eq_true (show V.str (Str.join " " (q1j d)) = V.str (J (q1j d)) from rfl)]
  exact q H4 (((s1.trans s2).trans s3).trans s4)
 ·have e1 : (q3s d && q1g 60 d) = false := by rcases hbad with h | h <;> rw [h] <;> simp
  have sa := q0h (o := z0h a (.ref cN)) ha
  have hca : upd H3 a (z0h a (.ref cN)) a = some (z0h a (.ref cN)) := q0e
  refine ⟨_, rfl, _, rfl, ?_⟩
  rw [e1]
  refine q1a ⟨_, rfl, a, cN, true, hca, Z.ek, Z.ci, .inl ⟨cL, rfl, Z.k1⟩, _, rfl, q1a ⟨_, rfl, a, cN, true, hca, Z.ek, Z.ci, .inr (.inl ⟨_, rfl, Z.k2⟩), _, rfl, q1a ?_⟩⟩
  refine ⟨_, rfl, q3c (by show 4 ≤ 1000; decide), fun tp htp => ?_⟩
  have sb := q0h (o := HO.tup [V.ref cK, V.ref cP, V.ref cR, V.ref cS]) htp
  exact ⟨a, cN, false, sb _ _ hca, Z.ek, Z.ci, .inr (.inr ⟨tp, [cK, cP, cR, cS], rfl, q0e, Z.k3⟩), _, rfl, q _ (((s1.trans s2).trans s3).trans (sa.trans sb))⟩
end
end K1
namespace Kp
open PySem L2
noncomputable def Sml (i : Int) : Prop := i.natAbs < 10 ^ 3900
theorem Sml.of60 {i : Int} (h : i.natAbs < 10 ^ 60) : Sml i := Nat.lt_of_lt_of_le h (Nat.pow_le_pow_right (by decide) (by decide))
theorem Sml.of70 {i : Int} (h : i.natAbs < 10 ^ 70) : Sml i := Nat.lt_of_lt_of_le h (Nat.pow_le_pow_right (by decide) (by decide))
theorem Sml.low {i : Int} (h0 : -100000 < i) (h1 : i < 100000) : Sml i := Sml.of60 (Nat.lt_of_lt_of_le (show i.natAbs < 100000 by omega) (by decide))
theorem Sml.neg {i : Int} (h : Sml i) : Sml (-i) := by unfold Sml; rw [Int.natAbs_neg]; exact h
theorem Sml.cap {i : Int} (h : Sml i) : Sml (if i > 1 then i else 1) := by
 split
 ·exact h
 ·exact Sml.low (by decide) (by decide)
noncomputable def j5c (v : V) : Prop := v = .non ∨ (∃ b, v = .bl b) ∨ (∃ i, v = .int i ∧ Sml i) ∨ ∃ x : Str, v = .str x ∧ x.length ≤ 200
noncomputable def ThD : Nat → Hp → V → Prop
 | 0, _, v => j5c v
 | n + 1, H, v => j5c v ∨ ∃ a vs, v = .ref a ∧ H a = some (.tup vs) ∧ vs.length ≤ 200 ∧ ∀ u ∈ vs, ThD n H u
noncomputable def q9f (n : Nat) (H : Hp) (vs : List V) : Prop := ∀ u ∈ vs, ThD n H u
theorem ThD.leaf {n : Nat} {H : Hp} {v : V} (h : j5c v) : ThD n H v := by cases n with
 | zero => exact h
 | succ n => exact .inl h
theorem ThD.non {n : Nat} {H : Hp} : ThD n H .non := .leaf (.inl rfl)
theorem ThD.bl {n : Nat} {H : Hp} (b : Bool) : ThD n H (.bl b) := .leaf (.inr (.inl ⟨b, rfl⟩))
theorem ThD.int {n : Nat} {H : Hp} {i : Int} (h : Sml i) : ThD n H (.int i) := .leaf (.inr (.inr (.inl ⟨i, rfl, h⟩)))
theorem ThD.str {n : Nat} {H : Hp} {x : Str} (h : x.length ≤ 200) : ThD n H (.str x) := .leaf (.inr (.inr (.inr ⟨x, rfl, h⟩)))
theorem ThD.tup {n : Nat} {H : Hp} {a : Addr} {vs : List V} (e : H a = some (.tup vs)) (l : vs.length ≤ 200) (r : q9f n H vs) : ThD (n + 1) H (.ref a) := .inr ⟨a, vs, rfl, e, l, r⟩
theorem ThD.up : ∀ {n : Nat} {H : Hp} {v : V}, ThD n H v → ThD (n + 1) H v
 | 0, _, _, h => .inl h
 | _ + 1, _, _, .inl h => .inl h
 | _ + 1, _, _, .inr ⟨a, vs, e, h, l, r⟩ => .inr ⟨a, vs, e, h, l, fun u hu => ThD.up (r u hu)⟩
theorem ThD.le {n m : Nat} {H : Hp} {v : V} (h : ThD n H v) (hm : n ≤ m) : ThD m H v := by
 induction hm with
 | refl => exact h
 | step _ ih => exact ih.up
theorem ThD.sameT : ∀ {n : Nat} {H H' : Hp} {v : V}, ThD n H v → x8i H H' → ThD n H' v
 | 0, _, _, _, h, _ => h
 | _ + 1, _, _, _, .inl h, _ => .inl h
 | _ + 1, _, _, _, .inr ⟨a, vs, e, h, l, r⟩, s => .inr ⟨a, vs, e, s _ _ h, l, fun u hu => ThD.sameT (r u hu) s⟩
theorem ThD.monoT {n : Nat} (H H' : Hp) (v : V) (s : x8i H H') (h : ThD n H v) : ThD n H' v := h.sameT s
theorem ThD.same {n : Nat} {H H' : Hp} {v : V} (h : ThD n H v) (s : q0y H H') : ThD n H' v := h.sameT (z9v s)
theorem q9f.same {n : Nat} {H H' : Hp} {vs : List V} (h : q9f n H vs) (s : q0y H H') : q9f n H' vs := fun u hu => (h u hu).same s
theorem q9f.nil {n : Nat} {H : Hp} : q9f n H [] := fun _ h => by cases h
theorem q9f.cons {n : Nat} {H : Hp} {v : V} {vs : List V} (h : ThD n H v) (t : q9f n H vs) : q9f n H (v :: vs) := fun u hu => by
 rcases List.mem_cons.mp hu with rfl | hu
 ·exact h
 ·exact t u hu
theorem q9f.append {n : Nat} {H : Hp} {vs us : List V} (h : q9f n H vs) (t : q9f n H us) : q9f n H (vs ++ us) := fun u hu => by
 rcases List.mem_append.mp hu with hu | hu
 ·exact h u hu
 ·exact t u hu
theorem q9f.ints {n : Nat} {H : Hp} {ms : List Int} (h : ∀ m ∈ ms, Sml m) : q9f n H (ms.map V.int) := fun u hu => by
 obtain ⟨m, hm, rfl⟩ := List.mem_map.mp hu
 exact .int (h m hm)
end Kp
namespace K1
open PySem L2 Kp
theorem z1w {H : Hp} : ∀ {vs : List V}, (∀ u ∈ vs, ∃ d, Is 200 H u d ∧ q1g 3900 d = true) → ∃ ds, IsL 200 H vs ds ∧ smallL 3900 ds = true
 | [], _ => ⟨[], .nil, rfl⟩
 | v :: vs, h => by
  obtain ⟨d, I, hd⟩ := h v List.mem_cons_self
  obtain ⟨ds, r, hs⟩ := z1w fun u hu => h u (List.mem_cons_of_mem _ hu)
  exact ⟨d :: ds, .cons I r, by rw [smallL, hd, hs]; rfl⟩
theorem j1s {H : Hp} {v : V} (h : j5c v) : ∃ d, Is 200 H v d ∧ q1g 3900 d = true := by
 rcases h with rfl | ⟨b, rfl⟩ | ⟨i, rfl, hi⟩ | ⟨x, rfl, hx⟩
 ·exact ⟨_, .non, rfl⟩
 ·exact ⟨_, .bl b, rfl⟩
 ·exact ⟨_, .int i, decide_eq_true hi⟩
 ·exact ⟨_, .str x hx, rfl⟩
theorem j4d : ∀ {n : Nat} {H : Hp} {v : V}, ThD n H v → ∃ d, Is 200 H v d ∧ q1g 3900 d = true
 | 0, _, _, h => j1s h
 | _ + 1, _, _, .inl h => j1s h
 | _ + 1, _, _, .inr ⟨a, vs, e, h, l, r⟩ => by
  subst e
  obtain ⟨ds, I, hs⟩ := z1w fun u hu => j4d (r u hu)
  exact ⟨.tup ds, .tup h l I, hs⟩
noncomputable def x1k (n : Nat) : Sp := fun vs H Q _ => ∃ (v : V) (m : Int) (k : Nat), vs = [v, .int m] ∧ n = k + 1 ∧ ThD k H v ∧ 0 ≤ m ∧ m ≤ 1000000000000 ∧ ∀ v' H', ThD k H' v' → q0y H H' → Q v' H'
theorem j0x {n : Nat} {H : Hp} {xs : List V} (j : Nat) (h : q9f n H xs) : q9f n H (xs.take j) := fun u hu => h u (List.mem_of_mem_take hu)
theorem j0k {n : Nat} {H : Hp} {xs : List V} (j : Nat) (h : q9f n H xs) : q9f n H (xs.drop j) := fun u hu => h u (List.mem_of_mem_drop hu)
theorem j5i {m : Int} (h0 : 0 ≤ m) (h1 : m ≤ 1000000000000) : ∀ v ∈ [V.int (10 ^ (60 : Int).toNat), V.int (10 ^ (60 : Int).toNat + 1 + m), V.int (-10 ^ (60 : Int).toNat), V.int (10 ^ (64 : Int).toNat), V.int (-10 ^ (60 : Int).toNat - m)], ∃ i, v = .int i ∧ Sml i := by
 have e60 : (10 : Int) ^ (60 : Int).toNat = 1000000000000000000000000000000000000000000000000000000000000 := by decide +kernel
 have e64 : (10 : Int) ^ (64 : Int).toNat = 10000000000000000000000000000000000000000000000000000000000000000 := by decide +kernel
 have e70 : (10 : Nat) ^ 70 = 10000000000000000000000000000000000000000000000000000000000000000000000 := by decide +kernel
 intro v hv
 rw [e60, e64] at hv
 simp only [List.mem_cons, List.not_mem_nil, or_false] at hv
 rcases hv with rfl | rfl | rfl | rfl | rfl <;> exact ⟨_, rfl, Sml.of70 (by rw [e70]; omega)⟩
section
variable {P : Program} {w : World} {K : PySem.W.Frag} {mg : Str → Option Value} {base : Heap}
theorem w0c : FnScope ["_law_thing", "_law_number", "_law_at"] ["_law_thing", "_law_number"] (q0f q6e) := fSc
theorem z7u {f : Addr} {fd : FuncData} : FnOk P w K mg base CX0 1 f fd ["_law_thing", "_law_number"] (x1k 0) :=
 ⟨fun vs H Q E ⟨_, _, _, e, _⟩ => by subst e; rfl, fun A outer s H args us vs Q E hr he hb hv hs => by obtain ⟨_, _, _, _, h, _⟩ := hs; cases h⟩
theorem z7x {f : Addr} {fd : FuncData} {n k : Nat} (F : Fun K "_law_great" "_law_great" q6e f fd) (T : Txt mg) (G : FnOk P w K mg base CX0 k f fd ["_law_thing", "_law_number"] (x1k n)) (hm : mg "_law_great" = some (.ref f)) (hk : PySem.W.keepIn K (.ref f) = true) (hbi : q5i K fd ["_law_thing", "_law_number"] []) :
  FnOk P w K mg base CX0 (k + 1) f fd ["_law_thing", "_law_number"] (x1k (n + 1)) := by
 refine F.ok w0c (fun vs H Q E ⟨_, _, _, e, _⟩ => by subst e; rfl) (fun cdv A outer s H vs Q E hr h => ?_)
 obtain ⟨v, m, kd, rfl, hnk, hd, hm0, hm1, q⟩ := h
 have en : n = kd := by omega
 subst en
 refine ⟨_, @q0z _ _ _ _ _ (q1w (PW.pt (x4g (q2l (q0n q2a (by rfl) T.isi q1s (q1i (pv 0) (q1i (q4z (by rfl) T.int q9c) q0b)))) (x4j (q3a (q2l (q0n q2a (by rfl) T.isi q1s (q1i (pv 0) (q1i (q4z (by rfl) T.bool q6c) q0b))))))))
   (@q1m _ _ _ (q0k (q0u q5j (q4o (q6x (q0j q6p q0a q0a) (q6x (q0j q1r (q0j q1r (q0j q6p q0a q0a) q0a) (pv 1)) (w0g (x4p q9l (q0j q6p q0a q0a)) (q6x (q0j q6p q0a q0a) (q6x (q0j x1v (x4p q9l (q0j q6p q0a q0a)) (pv 1)) q0b)))))) (q0j q1n (pv 1) q0a) z5n))) q0t)
  (@q0z _ _ _ _ _ (q1w (PW.pt (q6t (q3a (q2l (q0n q2a (by rfl) T.isi q1s (q1i (pv 0) (q1i (q4z (by rfl) T.tuple q2p) q0b))))) (q7t (q0s q2c (q0n q0w (by rfl) T.len PySem.boot_len (q1i (pv 0) q0b)) q0a (q0q _))))) (@q1m _ _ _ (q0k (pv 0))) q0t)
  (@q0z _ _ _ _ _ (q1b (i := 2) w0c.nd (by rfl) (by exact Or.inl rfl) (q0j q1n (pv 1) (q0n q0w (by rfl) T.len PySem.boot_len (q1i (pv 0) q0b))))
  (@q1m _ _ _ (q0k (q0j q6a (q0j q6a (q3o q6g (pv 0) q5k (q4f (pv 2))) (q2r (q7o (q8y G hr (by rfl) hm hk hbi .nil x6m (q4a (q0u q0o (pv 0) (pv 2) w0i) (q6x (q0j q2b (pv 1) (q0n q0w (by rfl) T.len PySem.boot_len (q1i (pv 0) q0b))) q0b))) q0b)))
   (q3o q6g (pv 0) (q4f (q0j q1r (pv 2) q0a)) q5k)))))), ?_⟩
 have hcase : j5c v ∨ ∃ a vs k', v = .ref a ∧ n = k' + 1 ∧ H a = some (.tup vs) ∧ vs.length ≤ 200 ∧ q9f k' H vs := by
  cases n with
  | zero => exact .inl hd
  | succ n =>
   rcases hd with h | ⟨a, vs, e, h, l, r⟩
   ·exact .inl h
   ·exact .inr ⟨a, vs, n, e, rfl, h, l, r⟩
 have back := q v H hd (q0y.refl _)
 obtain ⟨d, I, _⟩ := j4d hd
 rcases hcase with (rfl | ⟨b, rfl⟩ | ⟨i, rfl, hi⟩ | ⟨x, rfl, hx⟩) | ⟨a, xs, k', rfl, rfl, ea, l, r⟩
 ·cases I
  refine ⟨_, rfl, _, _, _, _, rfl, Is.ty (B := 200) .non, q8w K .non, _, rfl, q1a (q1a ⟨_, rfl, _, _, _, _, rfl, Is.ty (B := 200) .non, q5d K .non, _, rfl, q1f (q1f ⟨_, rfl, back⟩)⟩)⟩
 ·cases I
  refine ⟨_, rfl, _, _, _, _, rfl, Is.ty (B := 200) (.bl b), q8w K (.bl b), _, rfl, q1f ⟨_, rfl, _, _, _, _, rfl, Is.ty (B := 200) (.bl b), q5r K (.bl b), _, rfl, q1a ⟨_, rfl, _, _, _, _, rfl, Is.ty (B := 200) (.bl b), q5d K (.bl b), _, rfl, q1f (q1f ⟨_, rfl, back⟩)⟩⟩⟩
 ·cases I
  refine ⟨_, rfl, _, _, _, _, rfl, Is.ty (B := 200) (.int i), q8w K (.int i), _, rfl, q1f ⟨_, rfl, _, _, _, _, rfl, Is.ty (B := 200) (.int i), q5r K (.int i), _, rfl, q1f ?_⟩⟩
  have g := j5i hm0 hm1
  obtain ⟨e0, e1⟩ := q2g m (m := 5) (by decide)
  refine ⟨_, _, rfl, rfl, ⟨by decide, by decide, by decide⟩, _, _, rfl, rfl, ⟨by decide, by decide, by decide⟩, _, _, rfl, rfl, _, rfl, _, _, rfl, rfl, _, _, rfl, rfl, ⟨by decide, by decide, by decide⟩, _, rfl, _, _, rfl, rfl, ⟨by decide, by decide, by decide⟩, _, _, rfl, rfl, ⟨by decide, by decide, by decide⟩, _, rfl, _, rfl, _, _, rfl, rfl, q3c (by show 5 ≤ 1000; decide), fun p hp => ?_⟩
  obtain ⟨u, hu, hm'⟩ := q4s (xs := [V.int (10 ^ (60 : Int).toNat), V.int (10 ^ (60 : Int).toNat + 1 + m), V.int (-10 ^ (60 : Int).toNat), V.int (10 ^ (64 : Int).toNat), V.int (-10 ^ (60 : Int).toNat - m)]) (i := m % 5) e0 (by show m % 5 < ((5 : Nat) : Int); omega)
  obtain ⟨z, rfl, hz⟩ := g u hm'
  exact ⟨_, rfl, _, _, rfl, rfl, (by show (0 : Int) < 5; decide), p, _, _, _, rfl, rfl, SqL.of q0e, hu, q _ _ (.int hz) (q0h hp)⟩
 ·cases I
  refine ⟨_, rfl, _, _, _, _, rfl, Is.ty (B := 200) (.str x hx), q8w K (.str x), _, rfl, q1a (q1a ⟨_, rfl, _, _, _, _, rfl, Is.ty (B := 200) (.str x hx), q5d K (.str x), _, rfl, q1f (q1f ⟨_, rfl, back⟩)⟩)⟩
 ·cases I with
  | lst e _ _ => rw [ea] at e; cases e
  | tup e _ _ =>
  refine ⟨_, rfl, _, _, _, _, rfl, Is.ty (B := 200) (.tup e ‹_› ‹_›), q8w K (.tup _), _, rfl, q1a (q1a ⟨_, rfl, _, _, _, _, rfl, Is.ty (B := 200) (.tup e ‹_› ‹_›), q5d K (.tup _), _, rfl, q1a ⟨_, rfl, a, xs, rfl, .inr (SqT.of ea), rfl, _, rfl, ?_⟩⟩)⟩
  by_cases hx : xs = []
  ·rw [decide_eq_true (show V.int (xs.length : Int) = V.int 0 by rw [hx]; rfl)]
   exact q1f ⟨_, rfl, back⟩
  rw [decide_eq_false (fun z => hx (List.eq_nil_of_length_eq_zero (by have := V.int.inj z; omega)))]
  have hpos : 0 < xs.length := List.length_pos_iff.mpr hx
  have hposI : (0 : Int) < (xs.length : Int) := by omega
  obtain ⟨a0, a1⟩ := q2g m hposI
  obtain ⟨j, hj⟩ := Int.eq_ofNat_of_zero_le a0
  have hjl : j < xs.length := by omega
  refine q1a ⟨_, rfl, _, rfl, a, xs, rfl, .inr (SqT.of ea), _, _, rfl, rfl, hposI, ?_⟩
  refine ⟨_, rfl, _, rfl, _, rfl, a, xs, rfl, ea, fun p1 H1 e1 s1 => ?_⟩
  have e1' := e1
  replace e1 : H1 p1 = some (.tup (xs.take j)) := by rw [← z7i, ← hj]; exact e1'
  have hq1 : m / (xs.length : Int) ≤ 1000000000000 := Int.le_trans (Int.ediv_le_self _ hm0) hm1
  refine ⟨_, rfl, _, rfl, a, xs, _, xs[j], rfl, rfl, SqT.of (s1 _ _ ea), (by show atI xs (m % (xs.length : Int)) = _; rw [hj]; exact q0m (List.getElem?_eq_getElem hjl)), _, rfl, _, rfl, a, xs, rfl, .inr (SqT.of (s1 _ _ ea)), _, _, rfl, rfl, ⟨hposI, by omega⟩, xs[j], _, k', rfl, rfl, (r _ (List.getElem_mem hjl)).same s1, Int.ediv_nonneg hm0 (by omega), hq1, fun v2 H2 t2 s2 => ⟨q3c (by show 1 ≤ 1000; decide), fun p2 h2 => ?_⟩⟩
  have s3 := q0h (o := HO.tup [v2]) h2
  have lt := List.length_take (i := j) (l := xs)
  have ld := List.length_drop (i := j + 1) (l := xs)
  refine ⟨p1, p2, _, [v2], rfl, rfl, s3 _ _ (s2 _ _ e1), q0e, q3c (by rw [lt]; show _ + 1 ≤ 1000; omega), fun p3 H3 e3 s4 => ?_⟩
  have sA := (s1.trans s2).trans (s3.trans s4)
  refine ⟨_, rfl, _, rfl, _, _, rfl, rfl, _, rfl, a, xs, rfl, sA _ _ ea, fun p4 H4 e4 s5 => ?_⟩
  have e4' := e4
  replace e4 : H4 p4 = some (.tup (xs.drop (j + 1))) := by rw [← q8d, show ((j + 1 : Nat) : Int) = m % (xs.length : Int) + 1 by omega]; exact e4'
  refine ⟨p3, p4, _, _, rfl, rfl, s5 _ _ e3, e4, q3c (by rw [List.length_append, lt, ld]; show _ + 1 + _ ≤ 1000; omega), fun p5 H5 e5 s6 => ?_⟩
  have sB := s5.trans s6
  refine q _ _ (ThD.tup e5 (by rw [List.length_append, List.length_append, lt, ld]; show _ + 1 + _ ≤ 200; omega) ?_) (sA.trans sB)
  exact ((j0x j (r : q9f k' H xs)).same (sA.trans sB)).append (.cons (t2.same ((s3.trans s4).trans sB)) .nil) |>.append ((j0k (j + 1) (r : q9f k' H xs)).same (sA.trans sB))
theorem z1a {f : Addr} {fd : FuncData} (F : Fun K "_law_great" "_law_great" q6e f fd) (T : Txt mg) (hm : mg "_law_great" = some (.ref f)) (hk : PySem.W.keepIn K (.ref f) = true) (hbi : q5i K fd ["_law_thing", "_law_number"] []) : ∀ n, FnOk P w K mg base CX0 (n + 1) f fd ["_law_thing", "_law_number"] (x1k n)
 | 0 => z7u
 | n + 1 => z7x F T (z1a F T hm hk hbi n) hm hk hbi
noncomputable def z8h : List Int := [1, 2, 4, 8, 16, 32, 64, 128, 256]
theorem j1k : ∀ x ∈ z8h, 0 < x ∧ x < 1073741824 := by decide
theorem SqL.same {H H' : Hp} {a : Addr} {xs : List V} (h : SqL K H a xs) (s : q0y H H') : SqL K H' a xs := by
 rcases h with h | h
 ·exact .inl (h.elim (fun e => .inl (s _ _ e)) fun ⟨o, e⟩ => .inr ⟨o, s _ _ e⟩)
 ·exact .inr h
noncomputable def x9i (K : PySem.W.Frag) (lim : Int) (R : Hp → V → Prop) : Sp := fun vs H Q _ => ∃ (a : Addr) (ns : List Int) (k : Int), vs = [.ref a, .int k] ∧ SqL K H a (ns.map V.int) ∧ 0 ≤ k ∧ k ≤ lim ∧ ∀ v H', R H' v → q0y H H' → Q v H'
theorem q7i {lim : Int} {R : Hp → V → Prop} : ∀ vs H Q E, x9i K lim R vs H Q E → vs.length = 2 := fun vs H Q E ⟨_, _, _, e, _⟩ => by subst e; rfl
noncomputable def j1x (H : Hp) (v : V) : Prop := ∃ (p : Addr) (ws : List Str), v = .ref p ∧ H p = some (.lst (ws.map V.str)) ∧ ws.length ≤ 160 ∧ ∀ x ∈ ws, x.length ≤ 16
theorem j5f : FnScope ["_law_script", "_law_at", "_law_number", "_law_many", "_law_letters", "_law_names"] ["_law_script", "_law_at"] (q0f q2v) := fSc
noncomputable def j9s : TS := fun D σ H => ∃ a at' n m x4 x5, σ = [some (.ref a), some (.int at'), some (.int n), some (.int m), x4, x5] ∧ 0 ≤ n ∧ 0 ≤ m ∧ m ≤ 3 ∧ ∀ m' : Int, 0 ≤ m' → m' ≤ 39 → D.nx [some (.ref a), some (.int at'), some (.int n), some (.int m'), x4, x5] H
theorem PS.weakM {X : Cx} {st : Stmt} {t t' : TS} (h : PS X st t) (w : ∀ D σ H, t' D σ H → t D σ H) : PS X st t' := fun pins s σ H D I q => h pins s σ H D I (w D σ H q)
theorem z0u {f : Addr} {fd : FuncData} (F : Fun K "_law_names_by" "_law_names_by" q2v f fd) (T : Txt mg) (hso : mg "sorted" = none) (CM : Cal P w K mg base "_law_mixed" 2 ["_law_script", "_law_k"] (q6j K)) (CN : Cal P w K mg base "_law_name_by" 1 ["_law_number"] x0o) :
  FnOk P w K mg base CX0 3 f fd ["_law_script", "_law_at"] (x9i K 9000 j1x) := by
 refine F.ok j5f q7i (fun cdv A outer s H vs Q E hr h => ?_)
 obtain ⟨a, ns, k, rfl, hS, h0, h1, q⟩ := h
 have r1 := hr.mono (show 1 ≤ 2 by decide)
 refine ⟨_, @q0z _ _ _ _ _ (q1b (i := 2) j5f.nd (by rfl) (by exact Or.inl rfl) (q0i CM hr (q1i (pv 0) (q1i (pv 1) q0b))))
  (@q0z _ _ _ _ _ (q1b (i := 3) j5f.nd (by rfl) (by exact Or.inl rfl) (q0j q1n (pv 2) q0a))
  (@q0z _ _ _ _ _ (PS.weakM (t' := j9s) (q1w (q0s q2c (q0j q1n (q0j q2b (pv 2) q0a) q0a) q0a (q0q _)) (q0p (q1b (i := 3) j5f.nd (by rfl) (by exact Or.inl rfl) (q0j q1r q0a (q0j q1n (q0j q2b (pv 2) q0a) q0a)))) q0t) ?w1)
  (@q0z _ _ _ _ _ (q1w (q0s q2c (q0j q1n (q0j q2b (pv 2) q0a) q0a) q0a (q0q _)) (q1c (q1b (i := 4) j5f.nd (by rfl) (by exact Or.inr rfl) q0r)
   (q0p (q0k (q3g (NB := ["_law_k", "_law_letters"]) (n := 1) (fr := [4]) (z0j (outer := q0f q2v) (x := "_law_letters") (by rfl) (by decide +kernel) (by rfl) (by rfl) (by rfl) (by rfl)) (by rfl)
    (x0g (by rfl) T.range (q6x (q0j q1r q0a (q0j q1n (q0j q2b (pv 2) q0a) q0a)) q0b)) (fun _ _ _ _ _ => q1h (i := 0) (show (["_law_k", "_law_letters"] : List Str).Nodup by decide +kernel) (by rfl) (by exact Or.inl rfl)) (fun _ _ _ _ _ => q2u)
    (fun _ _ _ _ _ => q0j q0l (q0u x3v (pv 1) (q0j q2b (pv 0) q0a) z5n) (q0u x3v (pv 1) (q0j q1n (pv 0) q0a) z5n)))))) q0t)
  (@q0z _ _ _ _ _ (q1b (i := 5) j5f.nd (by rfl) (by exact Or.inr rfl) (q3g (NB := ["_law_k", "_law_script", "_law_at"]) (n := 1) (fr := [0, 1]) (x3y (outer := q0f q2v) (x := "_law_script") (y := "_law_at") (by rfl) (by decide +kernel) (by rfl) (by rfl) (by rfl) (by rfl) (by rfl) (by rfl) (by rfl)) (by rfl)
    (x0g (by rfl) T.range (q1i (pv 3) q0b)) (fun _ _ _ _ _ => q1h (i := 0) (show (["_law_k", "_law_script", "_law_at"] : List Str).Nodup by decide +kernel) (by rfl) (by exact Or.inl rfl)) (fun _ _ _ _ _ => q2u)
    (fun _ _ _ _ _ => q0i CN r1 (q7o (q0i CM hr (q1i (pv 1) (q6x (q0j q1r (q0j q1r (pv 2) q0a) (q0j q6r q0a (pv 0))) q0b))) q0b))))
  (@q1m _ _ _ (q0k (q3g (NB := ["_law_name_here", "_law_names"]) (n := 1) (fr := [5]) (z0j (outer := q0f q2v) (x := "_law_names") (by rfl) (by decide +kernel) (by rfl) (by rfl) (by rfl) (by rfl)) (by rfl)
    (z6z (q0n x9l (by rfl) hso PyProof.Rows.boot_sorted (q1i (pv 5) q0b))) (fun _ _ _ _ _ => q1h (i := 0) (show (["_law_name_here", "_law_names"] : List Str).Nodup by decide +kernel) (by rfl) (by exact Or.inl rfl))
    (fun _ _ _ _ _ => x2f (q0s q2c (z7l (K := K) (by rfl) PySem.F.plainAttrs_list PySem.F.slot_list_count PySem.F.type_list_count (z5u (K := K) (by rfl)) (pv 1) (q1i (pv 0) q0b)) q0a (q0q _))) (fun _ _ _ _ _ => pv 0)))))))), ?_⟩
 case w1 =>
  rintro D σ H ⟨a, at', n, m, x4, x5, rfl, hn, hm0, hm3, q⟩
  refine ⟨_, rfl, _, _, rfl, rfl, ⟨by decide, by decide⟩, _, _, rfl, rfl, (by show (0 : Int) < 16; decide), rfl, _, rfl, q9a (fun _ => ?_) (fun _ => ?_)⟩
  ·refine ⟨_, rfl, _, _, rfl, rfl, ⟨by decide, by decide⟩, _, _, rfl, rfl, (by show (0 : Int) < 30; decide), _, _, rfl, rfl, ?_⟩
   obtain ⟨e0, e1⟩ := q2g (n / 64) (m := 30) (by decide)
   exact q (10 + n / 64 % 30) (by omega) (by omega)
  ·exact q m hm0 (by omega)
 refine ⟨_, rfl, _, rfl, a, ns, k, rfl, hS, h0, by omega, fun n n0 n1 => ?_⟩
 obtain ⟨e0, e1⟩ := q2g n (m := 4) (by decide)
 refine ⟨_, rfl, _, _, rfl, rfl, (by show (0 : Int) < 4; decide), a, k, n, n % 4, none, none, rfl, n0, e0, by omega, fun m m0 m39 => ?_⟩
 refine ⟨_, rfl, _, _, rfl, rfl, ⟨by decide, by decide⟩, _, _, rfl, rfl, (by show (0 : Int) < 64; decide), rfl, _, rfl, q9a (fun _ => ?_) (fun _ => ?_)⟩
 ·
  obtain ⟨g0, g1⟩ := q2g (n / 256) (m := 120) (by decide)
  have la : ("abcdefghijklmnopqrstuvwxyz" : Str).length = 26 := by decide +kernel
  have lb : (("abcdefghijklmnopqrstuvwxyz" : Str).cps.toList).length = 26 := by rw [Array.length_toList]; exact la
  refine ⟨_, rfl, _, _, rfl, rfl, ⟨by decide, by decide⟩, _, _, rfl, rfl, (by show (0 : Int) < 120; decide), _, _, rfl, rfl, _, rfl, ?_, ?_, x0y (n := (41 + n / 256 % 120).toNat) (k := 1) q9y (fun _ _ _ _ r => r) (by rw [sizeLine_eq]; omega) (fun i H2 hi _ => hi) (fun H2 _ => Nat.le_refl _) ?_ ?_⟩
  ·omega
  ·omega
  ·intro i H2 t v H3 S hi s1 ht y hR _
   obtain ⟨rfl, rfl⟩ := y
   obtain ⟨t0, rfl⟩ := q4v ht
   have i0 : 0 ≤ (0 + (i : Int)) / 26 := Int.ediv_nonneg (by omega) (by decide)
   have i1 : (0 + (i : Int)) / 26 < 26 := by omega
   obtain ⟨j0, j1⟩ := q2g (0 + (i : Int)) (m := 26) (by decide)
   obtain ⟨c, hc, _⟩ := q4s (xs := ("abcdefghijklmnopqrstuvwxyz" : Str).cps.toList) i0 (by rw [lb]; exact i1)
   obtain ⟨d, hd, _⟩ := q4s (xs := ("abcdefghijklmnopqrstuvwxyz" : Str).cps.toList) j0 (by rw [lb]; exact j1)
   refine ⟨_, rfl, _, rfl, _, _, rfl, rfl, ⟨by decide, by decide⟩, _, _, c, rfl, rfl, (by rw [la, sizeLine_eq]; decide), hc, _, rfl, _, rfl, _, _, rfl, rfl, (by show (0 : Int) < 26; decide), _, _, d, rfl, rfl, (by rw [la, sizeLine_eq]; decide), hd, _, _, rfl, rfl, (by show 2 ≤ sizeLine; rw [sizeLine_eq]; decide), ?_⟩
   exact hR [some (.int (0 + (i : Int)))] H3 _ rfl (q0y.refl _) ⟨_, rfl, by rw [x3j]; show 2 ≤ 16; decide⟩
  ·intro D H' ys s1 hD hd hl hR
   obtain ⟨ws, rfl, hw⟩ := q9y.list hR
   rw [List.length_map] at hl
   exact q _ _ ⟨D, ws, rfl, hd, by omega, hw⟩ s1
 ·
  refine ⟨_, rfl, m, rfl, by omega, by omega, x0y (n := m.toNat) (k := 1) q9y (fun _ _ _ _ r => r) (by rw [sizeLine_eq]; omega) (fun i H2 hi _ => hi) (fun H2 _ => Nat.le_refl _) ?_ ?_⟩
  ·intro i H2 t v H3 S hi s1 ht y hR _
   obtain ⟨rfl, rfl⟩ := y
   obtain ⟨t0, rfl⟩ := q4v ht
   refine ⟨_, rfl, _, rfl, _, _, rfl, rfl, _, rfl, _, _, rfl, rfl, .inl ⟨by decide, by decide⟩, _, _, rfl, rfl, a, ns, _, rfl, SqL.same hS s1, ?_, ?_, fun z z0 z1 => ⟨z, rfl, z0, fun x H4 hx s4 => ?_⟩⟩
   ·omega
   ·omega
   ·exact hR [some (.int (0 + (i : Int)))] H4 _ rfl s4 ⟨x, rfl, hx⟩
  ·intro D H1 ys s1 hD hd hl hR
   obtain ⟨ws, rfl, hw⟩ := q9y.list hR
   rw [List.length_map] at hl
   refine ⟨_, rfl, D, ws, rfl, SqL.of hd, by omega, fun l ys' hl' hperm => ?_⟩
   have s2 := q0h (o := HO.lst (ys'.map V.str)) hl'
   have lp : ys'.length = ws.length := hperm.length_eq
   refine ⟨l, rfl, ⟨_, SqL.of q0e⟩, x0y (n := ys'.length) (k := 1) q9y (fun _ _ _ _ r => r) (by rw [sizeLine_eq]; omega) (fun i H2 hi s3 => ⟨_, .str ys'[i], SqL.of (s3 _ _ q0e), by simp [hi]⟩) (fun H2 s3 => ⟨_, SqL.of (s3 _ _ q0e), by simp⟩) ?_ ?_⟩
   ·intro i H2 t v H3 S hi s3 ht y hR1 hR2
    obtain ⟨rfl, hy⟩ := y
    obtain ⟨t0, rfl⟩ := q4v ht
    have ev := hy _ (SqL.of (s3 _ _ q0e))
    rw [List.getElem?_map, List.getElem?_eq_getElem hi] at ev
    cases ev
    refine ⟨_, rfl, .inl ⟨rfl, _, SqL.of (s3 _ _ (s2 _ _ hd))⟩, _, rfl, D, ws, _, rfl, rfl, SqL.of (s3 _ _ (s2 _ _ hd)), fun c => ⟨rfl, _, rfl, q9a (fun _ => ?_) (fun _ => ?_)⟩⟩
    ·exact ⟨_, rfl, hR1 [some (.str ys'[i])] H3 _ rfl (q0y.refl _) ⟨_, rfl, hw _ (hperm.mem_iff.mp (List.getElem_mem hi))⟩⟩
    ·exact hR2 [some (.str ys'[i])] H3 rfl (q0y.refl _)
   ·intro D2 H' ys s3 hD2 hd2 hl2 hR2
    obtain ⟨ws2, rfl, hw2⟩ := q9y.list hR2
    rw [List.length_map] at hl2
    exact q _ _ ⟨D2, ws2, rfl, hd2, by omega, hw2⟩ ((s1.trans s2).trans s3)
end
end K1
namespace Kz
open PySem L2 Kp K1
theorem w2r {l x : Int} (h2 : 0 ≤ l) (h3 : l ≤ 1) : Sml (l + x % (10 ^ (60 : Int).toNat - l)) := by
 have e60 : (10 : Int) ^ (60 : Int).toNat = 1000000000000000000000000000000000000000000000000000000000000 := by decide +kernel
 have e70 : (10 : Nat) ^ 70 = 10000000000000000000000000000000000000000000000000000000000000000000000 := by decide +kernel
 rw [e60]
 obtain ⟨a, b⟩ := q2g x (m := 1000000000000000000000000000000000000000000000000000000000000 - l) (by omega)
 exact Sml.of70 (by rw [e70]; omega)
section
variable {P : Program} {w : World} {K : PySem.W.Frag} {mg : Str → Option Value} {base : Heap}
noncomputable def x5x : Sp := fun vs H Q _ => ∃ n, vs = [.int n] ∧ 0 ≤ n ∧ ∀ (ns : List Int) (a : Addr) (H' : Hp), ns.length ≤ 9 → (∀ m ∈ ns, Sml m) → H' a = some (.tup (ns.map V.int)) → q0y H H' → Q (.ref a) H'
theorem j9a : FnScope ["_law_number", "_law_powers"] ["_law_number"] (q0f x2a) := fSc
theorem z0s {f : Addr} {fd : FuncData} (F : Fun K "_law_seats_by" "_law_seats_by" x2a f fd) (T : Txt mg) : FnOk P w K mg base CX0 1 f fd ["_law_number"] x5x := by
 refine F.ok j9a (fun vs H Q E ⟨_, e, _⟩ => by subst e; rfl) (fun cdv A outer s H vs Q E hr h => ?_)
 obtain ⟨n, rfl, h0, q⟩ := h
 refine ⟨_, q1c (q1b (i := 0) j9a.nd rfl (Or.inr rfl) (q0j q1r q0a (q0j q1n (pv 0) q0a)))
  (q1c (q1b (i := 1) j9a.nd rfl (Or.inr rfl) (q4o (q0c q0a (q0c q0a (q0c q0a (q0c q0a (q0c q0a (q0c q0a (q0c q0a (q0c q0a (q0c q0a q0b)))))))))))
  (q0p (q0k (q5a q5p rfl T.tuple q2p (q0c (q3g (NB := ["_law_k", "_law_number", "_law_powers"]) (n := 1) (fr := [0, 1]) (x3y (outer := q0f x2a) (x := "_law_number") (y := "_law_powers") rfl (by decide +kernel) rfl rfl rfl rfl rfl rfl rfl) rfl
   (x0g rfl T.range (q0c q0a q0b)) (fun _ _ _ _ _ => q1h (i := 0) (show (["_law_k", "_law_number", "_law_powers"] : List Str).Nodup by decide +kernel) rfl (Or.inl rfl))
   (fun _ _ _ _ _ => x2f (q0s q2c (q0j q1n (q0j q2b (pv 1) (q0u (j0y (K := K) rfl) (pv 2) (pv 0) (fun _ _ => rfl))) q0a) q0a (q0q _))) (fun _ _ _ _ _ => pv 0)) q0b))))), ?_⟩
 refine ⟨_, rfl, _, _, rfl, rfl, (by show (0 : Int) < 511; decide), _, _, rfl, rfl, (by rw [sizeLine_eq]; decide), fun l hl => ?_⟩
 have sl : q0y H (upd H l (.lst (z8h.map V.int))) := q0h hl
 refine ⟨9, rfl, by decide, by decide, q3d (J := Itr 0 9) (k := 1) (n := 9) (fun i => decide (V.int ((1 + n % 511) / z8h.getD i 1 % 2) = V.int 1)) (fun i => .int (0 + (i : Int))) (by rw [sizeLine_eq]; decide) (fun i H2 hi _ => hi) (fun H2 _ => Nat.le_refl _) ?_ ?_⟩
 ·intro i H2 t v H3 R hi s1 ht y hR
  obtain ⟨rfl, rfl⟩ := y
  have ht' : ∃ t0, t = [t0] := by
   match t, ht with
   | [t0], _ => exact ⟨t0, rfl⟩
  obtain ⟨t0, rfl⟩ := ht'
  have hi' : i < z8h.length := hi
  have hat : atI (z8h.map V.int) (0 + (i : Int)) = some (.int (z8h.getD i 1)) := by
   rw [Int.zero_add]
   exact q0m (by rw [List.getElem?_map, List.getElem?_eq_getElem hi', List.getD_eq_getElem?_getD, List.getElem?_eq_getElem hi']; rfl)
  have hpos := j1k (z8h.getD i 1) (by rw [List.getD_eq_getElem?_getD, List.getElem?_eq_getElem hi']; exact List.getElem_mem hi')
  refine ⟨_, rfl, _, rfl, _, rfl, l, _, _, _, rfl, rfl, SqL.of (s1 _ _ q0e), hat, _, _, rfl, rfl, hpos, _, _, rfl, rfl, (by show (0 : Int) < 2; decide), rfl, _, rfl, ?_⟩
  have hR' := hR [some (.int (0 + (i : Int)))] H3 rfl (q0y.refl _)
  show if decide (V.int ((1 + n % 511) / z8h.getD i 1 % 2) = V.int 1) = true then _ else _
  cases e : decide (V.int ((1 + n % 511) / z8h.getD i 1 % 2) = V.int 1) with
  | true => rw [e] at hR'; exact q1f ⟨_, rfl, hR'⟩
  | false => rw [e] at hR'; exact q1a hR'
 ·intro D H' s1 hD hd
  refine ⟨D, _, rfl, .inl ⟨SqL.of hd, fun l2 hl2 => ?_⟩⟩
  refine q (((List.range 9).filter (fun i => decide (V.int ((1 + n % 511) / z8h.getD i 1 % 2) = V.int 1))).map fun i : Nat => (0 : Int) + (i : Int)) l2 _ ?_ ?_ ?_ ((sl.trans s1).trans (q0h hl2))
  ·rw [List.length_map]
   exact Nat.le_trans (List.length_filter_le _ _) (by simp)
  ·intro m hm
   obtain ⟨i, hi, rfl⟩ := List.mem_map.mp hm
   have := List.mem_range.mp (List.mem_filter.mp hi).1
   exact Sml.low (by omega) (by omega)
  ·rw [q0e, List.map_map]
   rfl
noncomputable def q8q : Sp := fun vs H Q _ => ∃ n l, vs = [.int n, .int l] ∧ 0 ≤ n ∧ n < 2147483629 ∧ 0 ≤ l ∧ l ≤ 1 ∧ ∀ z, Sml z → Q (.int z) H
theorem w1k : FnScope ["_law_number", "_law_least"] ["_law_number", "_law_least"] (q0f q5f) := fSc
theorem x7g {f : Addr} {fd : FuncData} (F : Fun K "_law_number_by" "_law_number_by" q5f f fd) : FnOk P w K mg base CX0 1 f fd ["_law_number", "_law_least"] q8q := by
 refine F.ok w1k (fun vs H Q E ⟨_, _, e, _⟩ => by subst e; rfl) (fun cdv A outer s H vs Q E hr h => ?_)
 obtain ⟨n, l, rfl, h0, h1, h2, h3, q⟩ := h
 refine ⟨_, q1c (q1w (q0s q2c (q0j q1n (pv 0) q0a) q0a (q0q _)) (q0p (q0k (q0j q1r (pv 1) (q0j q1n (q0j q6p (pv 0) q0a) (q0j x1v (q0j q6p q0a q0a) (pv 1)))))) q0t)
  (q1c (q1w (q0s q2c (q0j q1n (pv 0) q0a) q0a (q0q _)) (q0p (q0k (q0j q1r (pv 1) (q0j q1n (q0j q2b (pv 0) q0a) q0a)))) q0t)
  (q0p (q0k (q0j q1r (pv 1) (q0j q1n (q0j q2b (pv 0) q0a) q0a))))), ?_⟩
 refine ⟨_, rfl, _, _, rfl, rfl, (by show (0 : Int) < 5; decide), rfl, _, rfl, q9a (fun _ => ?_) (fun _ => ?_)⟩
 ·refine ⟨_, rfl, _, rfl, _, _, rfl, rfl, ⟨by decide, by decide, by omega⟩, _, _, rfl, rfl, ⟨by decide, by decide, by decide⟩, _, rfl, _, _, rfl, rfl, _, _, rfl, rfl, ?_, _, _, rfl, rfl, q _ (w2r h2 h3)⟩
  have : (1000 : Int) ≤ 10 ^ (60 : Int).toNat := by decide
  omega
 ·refine ⟨_, rfl, _, _, rfl, rfl, (by show (0 : Int) < 5; decide), rfl, _, rfl, q9a (fun _ => ?_) (fun _ => ?_)⟩
  ·exact ⟨_, rfl, _, rfl, _, _, rfl, rfl, ⟨by decide, by decide⟩, _, _, rfl, rfl, (by show (0 : Int) < 3; decide), _, _, rfl, rfl, q _ (by have := q2g (n / 5) (m := 3) (by decide); exact Sml.low (by omega) (by omega))⟩
  ·exact ⟨_, rfl, _, rfl, _, _, rfl, rfl, ⟨by decide, by decide⟩, _, _, rfl, rfl, (by show (0 : Int) < 400; decide), _, _, rfl, rfl, q _ (by have := q2g (n / 5) (m := 400) (by decide); exact Sml.low (by omega) (by omega))⟩
noncomputable def x6f : Sp := fun vs H Q _ => ∃ n, vs = [.int n] ∧ 0 ≤ n ∧ n < 2147483629 ∧ ∀ z, Sml z → Q (.int z) H
theorem w0b : FnScope ["_law_number", "_law_found"] ["_law_number"] (q0f q5t) := fSc
theorem x9p {f : Addr} {fd : FuncData} (F : Fun K "_law_value_by" "_law_value_by" q5t f fd) (CN : Cal P w K mg base "_law_number_by" 1 ["_law_number", "_law_least"] q8q) : FnOk P w K mg base CX0 2 f fd ["_law_number"] x6f := by
 refine F.ok w0b (fun vs H Q E ⟨_, e, _⟩ => by subst e; rfl) (fun cdv A outer s H vs Q E hr h => ?_)
 obtain ⟨n, rfl, h0, h1, q⟩ := h
 refine ⟨_, q1c (q1b (i := 1) w0b.nd rfl (Or.inl rfl) (q0i CN hr (q0c (q0j q2b (pv 0) q0a) (q0c q0a q0b))))
  (q1c (q1w (q0s q2c (q0j q1n (pv 0) q0a) q0a (q0q _)) (q0p (q0k (x4p q9l (pv 1)))) q0t)
  (q0p (q0k (pv 1)))), ?_⟩
 refine ⟨_, rfl, _, _, rfl, rfl, ⟨by decide, by decide⟩, n / 3, 0, rfl, by omega, by omega, by decide, by decide, fun z hz => ?_⟩
 refine ⟨_, rfl, _, _, rfl, rfl, (by show (0 : Int) < 3; decide), rfl, _, rfl, q9a (fun _ => ?_) (fun _ => ?_)⟩
 ·exact ⟨_, rfl, _, rfl, q _ hz.neg⟩
 ·exact ⟨_, rfl, q _ hz⟩
theorem j8b : FnScope ["_law_script", "_law_at", "_law_number", "_law_name_here"] ["_law_script", "_law_at"] (q0f q6m) := fSc
theorem z3g {f : Addr} {fd : FuncData} (F : Fun K "_law_deed_by" "_law_deed_by" q6m f fd) (CM : Cal P w K mg base "_law_mixed" 2 ["_law_script", "_law_k"] (q6j K)) (CN : Cal P w K mg base "_law_name_by" 1 ["_law_number"] x0o)
  (CV : Cal P w K mg base "_law_value_by" 2 ["_law_number"] x6f) : FnOk P w K mg base CX0 3 f fd ["_law_script", "_law_at"] (x9i K 900 (ThD 1)) := by
 refine F.ok j8b q7i (fun cdv A outer s H vs Q E hr h => ?_)
 obtain ⟨a, ns, k, rfl, hS, h0, h1, q⟩ := h
 have r1 := hr.mono (show 1 ≤ 2 by decide)
 refine ⟨_, q1c (q1b (i := 2) j8b.nd rfl (Or.inl rfl) (q0i CM hr (q1i (pv 0) (q1i (pv 1) q0b))))
  (q1c (q1b (i := 3) j8b.nd rfl (Or.inl rfl) (q0i CN r1 (q7o (q0i CM hr (q1i (pv 0) (q6x (q0j q1r (pv 1) q0a) q0b))) q0b)))
  (q1c (q1w (q0s q2c (q0j q1n (pv 2) q0a) q0a (q0q _)) (q0p (q0k (QE.h (q6b (q2k (z4y (pv 3) q3e)))))) q0t)
  (q0p (q0k (QE.h (q6b (j7t (QE.h (z5t q5j (x5a (q2k (q2k q3e))) (q0j x1v (q0j q1n (pv 2) q0a) q0a) z5n)) (z4y (pv 3) (j2h (q0i CV hr (q7o (q0i CM hr (q1i (pv 0) (q6x (q0j q1r (pv 1) q0a) q0b))) q0b)) q3e))))))))), ?_⟩
 refine ⟨_, rfl, _, rfl, a, ns, k, rfl, hS, h0, by omega, fun n n0 n1 => ?_⟩
 refine ⟨_, rfl, _, rfl, _, _, rfl, rfl, a, ns, k + 1, rfl, hS, by omega, by omega, fun n2 n20 n21 => ⟨n2, rfl, n20, fun x H1 hx s1 => ?_⟩⟩
 have hS1 := SqL.same hS s1
 refine ⟨_, rfl, _, _, rfl, rfl, (by show (0 : Int) < 3; decide), rfl, _, rfl, q9a (fun _ => ?_) (fun hne => ?_)⟩
 ·refine ⟨_, rfl, q3c (by show 2 ≤ 1000; decide), fun p hp => q _ _ (ThD.tup q0e (by show 2 ≤ 200; decide) (.cons (.str (by decide +kernel)) (.cons (.str (Nat.le_trans hx (by decide))) .nil))) (s1.trans (q0h hp))⟩
 ·have hne' : ¬ n % 3 = 0 := fun z => hne (decide_eq_true (show V.int (n % 3) = V.int 0 by rw [z]))
  refine ⟨q3c (by show 2 ≤ 1000; decide), fun p hp => ?_⟩
  have s2 := q0h (o := HO.lst [V.str "set", V.str "add"]) hp
  have e0 : 0 ≤ n % 3 - 1 := by omega
  obtain ⟨wd, hw, hm⟩ := q4s (xs := [V.str "set", V.str "add"]) (i := n % 3 - 1) e0 (by show n % 3 - 1 < ((2 : Nat) : Int); omega)
  have hx' : ∃ y : Str, wd = .str y ∧ y.length ≤ 16 := by
   simp only [List.mem_cons, List.not_mem_nil, or_false] at hm
   rcases hm with rfl | rfl <;> exact ⟨_, rfl, by decide +kernel⟩
  obtain ⟨y, rfl, hy⟩ := hx'
  refine ⟨_, rfl, _, _, rfl, rfl, (by show (0 : Int) < 3; decide), _, _, rfl, rfl, p, _, _, _, rfl, rfl, SqL.of q0e, hw, _, rfl, ?_⟩
  refine ⟨_, rfl, _, rfl, _, _, rfl, rfl, a, ns, k + 2, rfl, SqL.same hS1 s2, by omega, by omega, fun n3 n30 n31 => ⟨n3, rfl, n30, n31, fun z hz => ?_⟩⟩
  exact ⟨q3c (by show 3 ≤ 1000; decide), fun p2 hp2 => q _ _ (ThD.tup q0e (by show 3 ≤ 200; decide) (.cons (.str (Nat.le_trans hy (by decide))) (.cons (.str (Nat.le_trans hx (by decide))) (.cons (.int hz) .nil)))) ((s1.trans s2).trans (q0h hp2))⟩
theorem j9e : FnScope ["_law_script", "_law_at", "_law_number", "_law_caller"] ["_law_script", "_law_at"] (q0f q6i) := fSc
theorem z3k {f : Addr} {fd : FuncData} (F : Fun K "_law_what_by" "_law_what_by" q6i f fd) (CM : Cal P w K mg base "_law_mixed" 2 ["_law_script", "_law_k"] (q6j K)) (CN : Cal P w K mg base "_law_name_by" 1 ["_law_number"] x0o)
  (CS : Cal P w K mg base "_law_seats_by" 1 ["_law_number"] x5x) (CU : Cal P w K mg base "_law_number_by" 1 ["_law_number", "_law_least"] q8q) (CD : Cal P w K mg base "_law_deed_by" 3 ["_law_script", "_law_at"] (x9i K 900 (ThD 1))) :
  FnOk P w K mg base CX0 4 f fd ["_law_script", "_law_at"] (x9i K 890 (ThD 2)) := by
 refine F.ok j9e q7i (fun cdv A outer s H vs Q E hr h => ?_)
 obtain ⟨a, ns, k, rfl, hS, h0, h1, q⟩ := h
 have r1 := hr.mono (show 1 ≤ 3 by decide)
 have r2 := hr.mono (show 2 ≤ 3 by decide)
 refine ⟨_, q1c (q1b (i := 2) j9e.nd rfl (Or.inl rfl) (q0i CM r2 (q1i (pv 0) (q1i (pv 1) q0b))))
  (q1c (q1w (q0s q2c (q0j q1n (pv 2) q0a) q0a (q0q _)) (q0p (q0k (QE.h (q6b (q2k q3e))))) q0t)
  (q1c (q1w (q0s q2c (q0j q1n (pv 2) q0a) q0a (q0q _)) (q0p (q0k (QE.h (q6b (q2k (j2h (q0i CS r1 (q6x (q0j q2b (pv 2) q0a) q0b)) q3e)))))) q0t)
  (q1c (q1b (i := 3) j9e.nd rfl (Or.inl rfl) (q0i CN r1 (q7o (q0i CM r2 (q1i (pv 0) (q6x (q0j q1r (pv 1) q0a) q0b))) q0b)))
  (q0p (q0k (QE.h (q6b (q2k (z4y (pv 3) (j2h (q0i CU r1 (q7o (q0i CM r2 (q1i (pv 0) (q6x (q0j q1r (pv 1) q0a) q0b))) (q6s q0a q0b)))
   (j2h (q0i CD hr (q1i (pv 0) (q6x (q0j q1r (pv 1) q0a) q0b))) q3e)))))))))))  , ?_⟩
 refine ⟨_, rfl, _, rfl, a, ns, k, rfl, hS, h0, by omega, fun n n0 n1 => ?_⟩
 refine ⟨_, rfl, _, _, rfl, rfl, (by show (0 : Int) < 4; decide), rfl, _, rfl, q9a (fun _ => ?_) (fun _ => ?_)⟩
 ·exact ⟨q3c (by show 1 ≤ 1000; decide), fun p hp => q _ _ (ThD.tup q0e (by show 1 ≤ 200; decide) (.cons (.str (by decide +kernel)) .nil)) (q0h hp)⟩
 refine ⟨_, rfl, _, _, rfl, rfl, (by show (0 : Int) < 4; decide), rfl, _, rfl, q9a (fun _ => ?_) (fun _ => ?_)⟩
 ·refine ⟨_, rfl, _, _, rfl, rfl, ⟨by decide, by decide⟩, n / 4, rfl, Int.ediv_nonneg n0 (by decide), fun ms b H1 hl hms hb s1 => ⟨q3c (by show 2 ≤ 1000; decide), fun p hp => ?_⟩⟩
  have s2 := q0h (o := HO.tup [V.str "seats", V.ref b]) hp
  exact q _ _ (ThD.tup q0e (by show 2 ≤ 200; decide) (.cons (.str (by decide +kernel)) (.cons (.tup (s2 _ _ hb) (by rw [List.length_map]; omega) (q9f.ints hms)) .nil))) (s1.trans s2)
 refine ⟨_, rfl, _, rfl, _, _, rfl, rfl, a, ns, k + 1, rfl, hS, by omega, by omega, fun n2 n20 n21 => ⟨n2, rfl, n20, fun x H1 hx s1 => ?_⟩⟩
 have hS1 := SqL.same hS s1
 refine ⟨_, rfl, _, rfl, _, rfl, _, _, rfl, rfl, a, ns, k + 2, rfl, hS1, by omega, by omega, fun n3 n30 n31 => ⟨n3, 1, rfl, n30, n31, by decide, by decide, fun z hz => ?_⟩⟩
 refine ⟨_, rfl, _, rfl, _, _, rfl, rfl, a, ns, k + 3, rfl, hS1, by omega, by omega, fun v H2 tv s2 => ⟨q3c (by show 4 ≤ 1000; decide), fun p hp => ?_⟩⟩
 have s3 := q0h (o := HO.tup [V.str "wish", V.str x, V.int z, v]) hp
 exact q _ _ (ThD.tup q0e (by show 4 ≤ 200; decide) (.cons (.str (by decide +kernel)) (.cons (.str (Nat.le_trans hx (by decide))) (.cons (.int hz) (.cons (tv.same s3) .nil))))) ((s1.trans s2).trans s3)
theorem w0w : FnScope ["_law_script", "_law_at"] ["_law_script", "_law_at"] (q0f q5u) := fSc
theorem x9w {f : Addr} {fd : FuncData} (F : Fun K "_law_entry_by" "_law_entry_by" q5u f fd) (CM : Cal P w K mg base "_law_mixed" 2 ["_law_script", "_law_k"] (q6j K))
  (CU : Cal P w K mg base "_law_number_by" 1 ["_law_number", "_law_least"] q8q) (CW : Cal P w K mg base "_law_what_by" 4 ["_law_script", "_law_at"] (x9i K 890 (ThD 2))) :
  FnOk P w K mg base CX0 5 f fd ["_law_script", "_law_at"] (x9i K 880 (ThD 3)) := by
 refine F.ok w0w q7i (fun cdv A outer s H vs Q E hr h => ?_)
 obtain ⟨a, ns, k, rfl, hS, h0, h1, q⟩ := h
 have r1 := hr.mono (show 1 ≤ 4 by decide)
 have r2 := hr.mono (show 2 ≤ 4 by decide)
 refine ⟨_, q0p (q0k (QE.h (q6b (j2h (q0i CU r1 (q7o (q0i CM r2 (q1i (pv 0) (q1i (pv 1) q0b))) (q6s q0a q0b)))
   (j2h (q0i CW hr (q1i (pv 0) (q6x (q0j q1r (pv 1) q0a) q0b))) q3e))))), ?_⟩
 refine ⟨_, rfl, _, rfl, a, ns, k, rfl, hS, by omega, by omega, fun n3 n30 n31 => ⟨n3, 1, rfl, n30, n31, by decide, by decide, fun z hz => ?_⟩⟩
 refine ⟨_, rfl, _, rfl, _, _, rfl, rfl, a, ns, k + 1, rfl, hS, by omega, by omega, fun v H2 tv s2 => ⟨q3c (by show 2 ≤ 1000; decide), fun p hp => ?_⟩⟩
 have s3 := q0h (o := HO.tup [V.int z, v]) hp
 exact q _ _ (ThD.tup q0e (by show 2 ≤ 200; decide) (.cons (.int hz) (.cons (tv.same s3) .nil))) (s2.trans s3)
end
end Kz
namespace Kp
open PySem L2
section
variable {X : Cx} {S : St → Hp → Prop} {es l : List Expr} {n m : Nat} {p p' : Pos} {j : Nat}
end
end Kp
namespace Kz
open PySem L2 Kp K1
section
variable {P : Program} {w : World} {K : PySem.W.Frag} {mg : Str → Option Value} {base : Heap}
theorem j4u : FnScope ["_law_script", "_law_at", "_law_names", "_law_callers"] ["_law_script", "_law_at"] (q0f q3h) := fSc
theorem nd4 : (["_law_k", "_law_name_here", "_law_script", "_law_at"] : List Str).Nodup := by decide +kernel
theorem z0g {f : Addr} {fd : FuncData} (F : Fun K "_law_store_by" "_law_store_by" q3h f fd) (T : Txt mg) (hen : mg "enumerate" = none) (CM : Cal P w K mg base "_law_mixed" 2 ["_law_script", "_law_k"] (q6j K)) (CNm : Cal P w K mg base "_law_names_by" 3 ["_law_script", "_law_at"] (x9i K 9000 j1x))
  (CV : Cal P w K mg base "_law_value_by" 2 ["_law_number"] x6f) (CU : Cal P w K mg base "_law_number_by" 1 ["_law_number", "_law_least"] q8q) : FnOk P w K mg base CX0 4 f fd ["_law_script", "_law_at"] (x9i K 8000 (ThD 3)) := by
 refine F.ok j4u q7i (fun cdv A outer s H vs Q E hr h => ?_)
 obtain ⟨a, ns, k, rfl, hS, h0, h1, q⟩ := h
 have r1 := hr.mono (show 1 ≤ 3 by decide)
 have r2 := hr.mono (show 2 ≤ 3 by decide)
 refine ⟨_, @q0z _ _ _ _ _ (z0o (i := 2) j4u.nd (by rfl) (by exact Or.inl rfl) (NB := ["_law_k", "_law_name_here", "_law_script", "_law_at"]) (n := 2) (fr := [0, 1]) (x3y (outer := q0f q3h) (x := "_law_script") (y := "_law_at") (by rfl) (by decide +kernel) (by rfl) (by rfl) (by rfl) (by rfl) (by rfl) (by rfl) (by rfl)) (by rfl)
   (z6h (by rfl) hen (q7o (q0i CNm hr (q1i (pv 0) (q1i (pv 1) q0b))) q0b))
   (fun _ _ _ _ _ => x2o (K := K) (n := 2) (by rfl) (by rfl) (q1v (q1h (i := 0) nd4 (by rfl) (by exact Or.inl rfl)) (q1v (q1h (i := 1) nd4 (by rfl) (by exact Or.inl rfl)) q5c))) (fun _ _ _ _ _ => q2u)
   (fun _ _ _ _ _ => q2r (q1i (pv 1) (q7o (q0i CV r2 (q7o (q0i CM r2 (q1i (pv 2) (q6x (q0j q1r (q0j q1r (pv 3) q0a) (q0j q6r q0a (pv 0))) q0b))) q0b)) q0b))))
  (@q0z _ _ _ _ _ (z0o (i := 3) j4u.nd (by rfl) (by exact Or.inl rfl) (NB := ["_law_k", "_law_name_here", "_law_script", "_law_at"]) (n := 2) (fr := [0, 1]) (x3y (outer := q0f q3h) (x := "_law_script") (y := "_law_at") (by rfl) (by decide +kernel) (by rfl) (by rfl) (by rfl) (by rfl) (by rfl) (by rfl) (by rfl)) (by rfl)
   (z6h (by rfl) hen (q7o (q0i CNm hr (q1i (pv 0) (q6x (q0j q1r (pv 1) q0a) q0b))) q0b))
   (fun _ _ _ _ _ => x2o (K := K) (n := 2) (by rfl) (by rfl) (q1v (q1h (i := 0) nd4 (by rfl) (by exact Or.inl rfl)) (q1v (q1h (i := 1) nd4 (by rfl) (by exact Or.inl rfl)) q5c))) (fun _ _ _ _ _ => q2u)
   (fun _ _ _ _ _ => q2r (q1i (pv 1) (q7o (q0i CU r1 (q7o (q0i CM r2 (q1i (pv 2) (q6x (q0j q1r (q0j q1r (pv 3) q0a) (q0j q6r q0a (pv 0))) q0b))) (q6s q0a q0b)))
    (q7o (q0i CV r2 (q7o (q0i CM r2 (q1i (pv 2) (q6x (q0j q1r (q0j q1r (pv 3) q0a) (q0j q6r q0a (pv 0))) q0b))) q0b)) q0b)))))
  (@q1m _ _ _ (q0k (q2r (q7o (q5a q5p (by rfl) T.tuple q2p (q1i (pv 2) q0b)) (q7o (q5a q5p (by rfl) T.tuple q2p (q1i (pv 3) q0b)) q0b)))))), ?_⟩
 refine ⟨_, rfl, _, rfl, a, ns, k, rfl, hS, h0, by omega, fun v1 H1 t1 s1 => ?_⟩
 obtain ⟨p1, ws1, rfl, hp1, l1, w1⟩ := t1
 refine ⟨p1, _, rfl, hp1, x0y (J := Ite p1) (n := ws1.length) (k := 2) (ThD 1) ThD.monoT (by rw [sizeLine_eq]; omega) (fun i H2 hi s2 => ⟨_, .str ws1[i], s2 _ _ hp1, by simp [hi]⟩) (fun H2 s2 => ⟨_, s2 _ _ hp1, by simp⟩) ?_ ?_⟩
 ·intro i H2 t v H3 S hi s2 ht y hR _
  obtain ⟨p, x, rfl, hp, rfl, ex⟩ := y
  have ex' := ex _ (s2 _ _ hp1)
  rw [List.getElem?_map, List.getElem?_eq_getElem hi] at ex'
  cases ex'
  obtain ⟨t0, t1, rfl⟩ := x7u ht
  have s3 := q0h (o := HO.tup [V.int (i : Int), V.str ws1[i]]) hp
  refine ⟨p, _, rfl, SqT.of q0e, rfl, _, _, rfl, _, _, rfl, rfl, ?_⟩
  refine ⟨_, rfl, _, rfl, _, rfl, _, _, rfl, rfl, _, rfl, _, _, rfl, rfl, .inl ⟨by decide, by decide⟩, _, _, rfl, rfl, a, ns, _, rfl, SqL.same hS ((s1.trans s2).trans s3), ?_, ?_, fun z z0 z1 => ⟨z, rfl, z0, z1, fun y hy => ⟨q3c (by show 2 ≤ 1000; decide), fun p2 hp2 => ?_⟩⟩⟩
  ·omega
  ·omega
  ·exact hR [some (.int (i : Int)), some (.str ws1[i])] _ _ rfl (s3.trans (q0h hp2)) (ThD.tup q0e (by show 2 ≤ 200; decide) (.cons (.str (Nat.le_trans (w1 _ (List.getElem_mem hi)) (by decide))) (.cons (.int hy) .nil)))
 ·intro D1 H2 ys1 s2 hD1 hd1 hl1 hr1
  have hS2 := SqL.same hS (s1.trans s2)
  refine ⟨_, rfl, _, rfl, _, _, rfl, rfl, a, ns, k + 6, rfl, hS2, by omega, by omega, fun v3 H3 t3 s3 => ?_⟩
  obtain ⟨p3, ws3, rfl, hp3, l3, w3⟩ := t3
  have hd3 := s3 _ _ hd1
  have hr3 : q9f 1 H3 ys1 := fun v hv => (hr1 v hv).same s3
  refine ⟨p3, _, rfl, hp3, x0y (J := Ite p3) (n := ws3.length) (k := 2) (ThD 1) ThD.monoT (by rw [sizeLine_eq]; omega) (fun i H4 hi s4 => ⟨_, .str ws3[i], s4 _ _ hp3, by simp [hi]⟩) (fun H4 s4 => ⟨_, s4 _ _ hp3, by simp⟩) ?_ ?_⟩
  ·intro i H4 t v H5 S hi s4 ht y hR _
   obtain ⟨p, x, rfl, hp, rfl, ex⟩ := y
   have ex' := ex _ (s4 _ _ hp3)
   rw [List.getElem?_map, List.getElem?_eq_getElem hi] at ex'
   cases ex'
   obtain ⟨t0, t1, rfl⟩ := x7u ht
   have s5 := q0h (o := HO.tup [V.int (i : Int), V.str ws3[i]]) hp
   have hS5 := SqL.same hS2 ((s3.trans s4).trans s5)
   refine ⟨p, _, rfl, SqT.of q0e, rfl, _, _, rfl, _, _, rfl, rfl, ?_⟩
   refine ⟨_, rfl, _, rfl, _, rfl, _, _, rfl, rfl, _, rfl, _, _, rfl, rfl, .inl ⟨by decide, by decide⟩, _, _, rfl, rfl, a, ns, _, rfl, hS5, ?_, ?_, fun z z0 z1 => ⟨z, 1, rfl, z0, z1, by decide, by decide, fun y hy => ?_⟩⟩
   ·omega
   ·omega
   refine ⟨_, rfl, _, rfl, _, _, rfl, rfl, _, rfl, _, _, rfl, rfl, .inl ⟨by decide, by decide⟩, _, _, rfl, rfl, a, ns, _, rfl, hS5, ?_, ?_, fun z z0 z1 => ⟨z, rfl, z0, z1, fun y2 hy2 => ⟨q3c (by show 3 ≤ 1000; decide), fun p2 hp2 => ?_⟩⟩⟩
   ·omega
   ·omega
   exact hR [some (.int (i : Int)), some (.str ws3[i])] _ _ rfl (s5.trans (q0h hp2)) (ThD.tup q0e (by show 3 ≤ 200; decide) (.cons (.str (Nat.le_trans (w3 _ (List.getElem_mem hi)) (by decide))) (.cons (.int hy) (.cons (.int hy2) .nil))))
  ·intro D2 H4 ys2 s4 hD2 hd2 hl2 hr2
   refine ⟨_, rfl, D1, ys1, rfl, .inl ⟨SqL.of (s4 _ _ hd3), fun t1 ht1 => ?_⟩⟩
   have s5 := q0h (o := HO.tup ys1) ht1
   refine ⟨_, rfl, D2, ys2, rfl, .inl ⟨SqL.of (s5 _ _ hd2), fun t2 ht2 => ⟨q3c (by show 2 ≤ 1000; decide), fun p hp => ?_⟩⟩⟩
   have s6 := q0h (o := HO.tup ys2) ht2
   have s7 := q0h (o := HO.tup [V.ref t1, V.ref t2]) hp
   have th1 : q9f 1 _ ys1 := hr3.same (s4.trans (s5.trans (s6.trans s7)))
   have th2 : q9f 1 _ ys2 := q9f.same hr2 (s5.trans (s6.trans s7))
   exact q _ _ (ThD.tup q0e (by show 2 ≤ 200; decide) (.cons (ThD.tup (s7 _ _ (s6 _ _ q0e)) (by omega) th1) (.cons (ThD.tup (s7 _ _ q0e) (by omega) th2) .nil))) ((s1.trans s2).trans ((s3.trans s4).trans (s5.trans (s6.trans s7))))
noncomputable def j8d (H : Hp) (v : V) : Prop := ∃ (p : Addr) (i j : Int), v = .ref p ∧ H p = some (.tup [.int i, .int j]) ∧ Sml i ∧ Sml j
noncomputable def x3d : Sp := fun vs H Q _ => ∃ n, vs = [.int n] ∧ 0 ≤ n ∧ n < 2147483629 ∧ ∀ v H', j8d H' v → q0y H H' → Q v H'
theorem w1o : FnScope ["_law_number"] ["_law_number"] (q0f q5s) := fSc
theorem z0t {f : Addr} {fd : FuncData} (F : Fun K "_law_stand_by" "_law_stand_by" q5s f fd) (CU : Cal P w K mg base "_law_number_by" 1 ["_law_number", "_law_least"] q8q) : FnOk P w K mg base CX0 2 f fd ["_law_number"] x3d := by
 refine F.ok w1o (fun vs H Q E ⟨_, e, _⟩ => by subst e; rfl) (fun cdv A outer s H vs Q E hr h => ?_)
 obtain ⟨n, rfl, h0, h1, q⟩ := h
 refine ⟨_, q1c (q1w (q0s q2c (q0j q1n (pv 0) q0a) q0a (q0q _)) (q0p (q0k (q2r (q6s q0a (q6s q0a q0b))))) q0t)
  (q0p (q0k (q2r (q7o (q0i CU hr (q6x (q0j q2b (pv 0) q0a) (q6s q0a q0b))) (q7o (q0i CU hr (q6x (q0j q1n (q0j q6r (q0j q2b (pv 0) q0a) q0a) q0a) (q6s q0a q0b))) q0b))))), ?_⟩
 refine ⟨_, rfl, _, _, rfl, rfl, (by show (0 : Int) < 6; decide), rfl, _, rfl, q9a (fun _ => ?_) (fun _ => ?_)⟩
 ·exact ⟨q3c (by show 2 ≤ 1000; decide), fun p hp => q _ _ ⟨p, 0, 0, rfl, q0e, Sml.low (by decide) (by decide), Sml.low (by decide) (by decide)⟩ (q0h hp)⟩
 ·obtain ⟨e0, e1⟩ := q2g (n / 7 * 48271) (m := 1000003) (by decide)
  refine ⟨_, rfl, _, _, rfl, rfl, ⟨by decide, by decide⟩, n / 6, 1, rfl, by omega, by omega, by decide, by decide, fun z hz => ?_⟩
  refine ⟨_, rfl, _, _, rfl, rfl, ⟨by decide, by decide⟩, _, _, rfl, rfl, .inr ⟨by decide, by decide⟩, _, _, rfl, rfl, (by show (0 : Int) < 1000003; decide), n / 7 * 48271 % 1000003, 1, rfl, e0, by omega, by decide, by decide, fun y hy => ⟨q3c (by show 2 ≤ 1000; decide), fun p hp => q _ _ ⟨p, z, y, rfl, q0e, hz, hy⟩ (q0h hp)⟩⟩
noncomputable def j5p (H : Hp) (v : V) : Prop := ∃ (p : Addr) (i j : Int) (sv st : V), v = .ref p ∧ H p = some (.tup [.int i, .int j, sv, st]) ∧ Sml i ∧ Sml j ∧ ThD 1 H sv ∧ ThD 3 H st
theorem j9c : FnScope ["_law_script", "_law_at", "_law_place", "_law_last"] ["_law_script", "_law_at"] (q0f q6k) := fSc
theorem z3f {f : Addr} {fd : FuncData} (F : Fun K "_law_pack_by" "_law_pack_by" q6k f fd) (CM : Cal P w K mg base "_law_mixed" 2 ["_law_script", "_law_k"] (q6j K)) (CD : Cal P w K mg base "_law_stand_by" 2 ["_law_number"] x3d) (CS : Cal P w K mg base "_law_seats_by" 1 ["_law_number"] x5x)
  (CT : Cal P w K mg base "_law_store_by" 4 ["_law_script", "_law_at"] (x9i K 8000 (ThD 3))) : FnOk P w K mg base CX0 5 f fd ["_law_script", "_law_at"] (x9i K 7000 j5p) := by
 refine F.ok j9c q7i (fun cdv A outer s H vs Q E hr h => ?_)
 obtain ⟨a, ns, k, rfl, hS, h0, h1, q⟩ := h
 have r1 := hr.mono (show 1 ≤ 4 by decide)
 have r2 := hr.mono (show 2 ≤ 4 by decide)
 refine ⟨_, q1c (z1f (q0i CD r2 (q7o (q0i CM r2 (q1i (pv 0) (q1i (pv 1) q0b))) q0b)) (x1s (n := 2) rfl (q1v (q1h (i := 2) j9c.nd rfl (Or.inl rfl)) (q1v (q1h (i := 3) j9c.nd rfl (Or.inl rfl)) q5c))))
  (q0p (q0k (q2r (q1i (pv 2) (q1i (pv 3) (q7o (q0i CS r1 (q7o (q0i CM r2 (q1i (pv 0) (q6x (q0j q1r (pv 1) q0a) q0b))) q0b)) (q7o (q0i CT hr (q1i (pv 0) (q6x (q0j q1r (pv 1) q0a) q0b))) q0b))))))), ?_⟩
 refine ⟨_, rfl, _, rfl, a, ns, k, rfl, hS, h0, by omega, fun z z0 z1 => ⟨z, rfl, z0, z1, fun v1 H1 t1 s1 => ?_⟩⟩
 obtain ⟨p1, i, j, rfl, hp1, hi, hj⟩ := t1
 have hS1 := SqL.same hS s1
 refine ⟨p1, _, rfl, SqT.of hp1, rfl, _, _, rfl, _, _, rfl, rfl, ?_⟩
 refine ⟨_, rfl, _, rfl, _, rfl, _, rfl, _, _, rfl, rfl, a, ns, k + 1, rfl, hS1, by omega, by omega, fun y y0 y1 => ⟨y, rfl, y0, fun ms b H2 hl hms hb s2 => ?_⟩⟩
 have hS2 := SqL.same hS1 s2
 refine ⟨_, rfl, _, rfl, _, _, rfl, rfl, a, ns, k + 2, rfl, hS2, by omega, by omega, fun v3 H3 t3 s3 => ⟨q3c (by show 4 ≤ 1000; decide), fun p hp => ?_⟩⟩
 have s4 := q0h (o := HO.tup [V.int i, V.int j, V.ref b, v3]) hp
 exact q _ _ ⟨p, i, j, .ref b, v3, rfl, q0e, hi, hj, .tup (s4 _ _ (s3 _ _ hb)) (by rw [List.length_map]; omega) (q9f.ints hms), t3.same s4⟩ ((s1.trans s2).trans (s3.trans s4))
theorem z2g : bootBuiltins "max" = some (.builtin "max") := by decide +kernel
noncomputable def z8k (H : Hp) (v : V) : Prop := ∃ p xs, v = .ref p ∧ H p = some (.tup xs) ∧ xs ≠ [] ∧ xs.length ≤ 16 ∧ q9f 4 H xs
noncomputable def z6t (K : PySem.W.Frag) : Sp := fun vs H Q _ => ∃ (x : Str) (a : Addr) (ns : List Int) (k : Int), vs = [.str x, .ref a, .int k] ∧ x.length ≤ 16 ∧ SqL K H a (ns.map V.int) ∧ 0 ≤ k ∧ k ≤ 810 ∧ ∀ v H', z8k H' v → q0y H H' → Q v H'
theorem z8l : FnScope ["_law_kind_here", "_law_script", "_law_at", "_law_number", "_law_one", "_law_other", "_law_head", "_law_place", "_law_last", "_law_more", "_law_pack_here", "_law_entries"] ["_law_kind_here", "_law_script", "_law_at"] (q0f q3q) := fSc
theorem x6r {f : Addr} {fd : FuncData} (F : Fun K "_law_between_by" "_law_between_by" q3q f fd) (T : Txt mg) (hmx : mg "max" = none) (CM : Cal P w K mg base "_law_mixed" 2 ["_law_script", "_law_k"] (q6j K)) (CU : Cal P w K mg base "_law_number_by" 1 ["_law_number", "_law_least"] q8q)
  (CD : Cal P w K mg base "_law_stand_by" 2 ["_law_number"] x3d) (CP : Cal P w K mg base "_law_pack_by" 5 ["_law_script", "_law_at"] (x9i K 7000 j5p)) (CE : Cal P w K mg base "_law_entry_by" 5 ["_law_script", "_law_at"] (x9i K 880 (ThD 3))) : FnOk P w K mg base CX0 6 f fd ["_law_kind_here", "_law_script", "_law_at"] (z6t K) := by
 refine F.ok z8l (fun vs H Q E ⟨_, _, _, _, e, _⟩ => by subst e; rfl) (fun cdv A outer s H vs Q E hr h => ?_)
 obtain ⟨x, a, ns, k, rfl, hx, hS, h0, h1, q⟩ := h
 have r1 := hr.mono (show 1 ≤ 5 by decide)
 have r2 := hr.mono (show 2 ≤ 5 by decide)
 refine ⟨_, @q0z _ _ _ _ _ (q1b (i := 3) z8l.nd (by rfl) (by exact Or.inl rfl) (q0i CM r2 (q1i (pv 1) (q1i (pv 2) q0b))))
  (@q0z _ _ _ _ _ (q1b (i := 4) z8l.nd (by rfl) (by exact Or.inl rfl) (q0j q1n (pv 3) q0a))
  (@q0z _ _ _ _ _ (q1b (i := 5) z8l.nd (by rfl) (by exact Or.inl rfl) (q0j q1n (q0j q1r (q0j q1r (pv 4) q0a) (q0j q1n (q0j q2b (pv 3) q0a) q0a)) q0a))
  (@q0z _ _ _ _ _ (q1b (i := 6) z8l.nd (by rfl) (by exact Or.inl rfl) (q2r (q1i (pv 0) (q1i (pv 4) (q1i (pv 5) (q7o (q0i CU r1 (q7o (q0i CM r2 (q1i (pv 1) (q6x (q0j q1r (pv 2) q0a) q0b))) (q6s q0a q0b))) q0b))))))
  (@q0z _ _ _ _ _ (z1f (q0i CD r2 (q7o (q0i CM r2 (q1i (pv 1) (q6x (q0j q1r (pv 2) q0a) q0b))) q0b)) (x1s (n := 2) (by rfl) (q1v (q1h (i := 7) z8l.nd (by rfl) (by exact Or.inl rfl)) (q1v (q1h (i := 8) z8l.nd (by rfl) (by exact Or.inl rfl)) q5c))))
  (@q0z _ _ _ _ _ (q1b (i := 9) z8l.nd (by rfl) (by exact Or.inl rfl) (q0i CM r2 (q1i (pv 1) (q6x (q0j q1r (pv 2) q0a) q0b))))
  (@q0z _ _ _ _ _ (q1w (q0s q2c (pv 0) q0r (q0q _)) (q0p (q0k (q0j q6a (pv 6) (q2r (q1i (pv 7) (q1i (pv 8) q0b)))))) (q0t))
  (@q0z _ _ _ _ _ (q1w (q0s q2c (pv 0) q0r (q0q _)) (q0p (q0k (q0j q6a (pv 6) (q2r (w0h (q1z q2c (q0j q1n (pv 9) q0a) q0a (q0q _)) q0b))))) (q0t))
  (@q0z _ _ _ _ _ (q1w (q0s q2c (pv 0) q0r (q0q _)) (q0p (q0k (q0j q6a (pv 6) (q2r (w0h (q1z q2c (q0j q1n (pv 9) q0a) q0a (q0q _)) (q7o (q0i CU r1 (q6x (q0j q2b (pv 9) q0a) (q6s q0a q0b))) q0b)))))) (q0t))
  (@q0z _ _ _ _ _ (q1w (q0s q2c (pv 0) q0r (q0q _)) (q1c (q1b (i := 10) z8l.nd (by rfl) (by exact Or.inl rfl) (q0i CP hr (q1i (pv 1) (q6x (q0j q1r (pv 2) q0a) q0b)))) (q0p (q0k (q0j q6a (pv 6) (q2r (j6z (q2r (q7o (q0n (x8h (by rfl)) (by rfl) hmx z2g (q6s q0a (q4a (q0u q0o (pv 10) q0a q2j) q0b))) (q7o (q0n (x8h (by rfl)) (by rfl) hmx z2g (q6s q0a (q4a (q0u q0o (pv 10) q0a q2j) q0b))) (q4a (q0u q0o (pv 10) q0a q2j) (q4a (q0u q0o (pv 10) q0a q2j) q0b))))) q0b)))))) (q0t))
  (@q0z _ _ _ _ _ (q1b (i := 11) z8l.nd (by rfl) (by exact Or.inl rfl) (q5a q5p (by rfl) T.tuple q2p (q0c (q3g (NB := ["_law_k", "_law_script", "_law_at"]) (n := 1) (fr := [1, 2]) (x3y (outer := q0f q3q) (x := "_law_script") (y := "_law_at") (by rfl) (by decide +kernel) (by rfl) (by rfl) (by rfl) (by rfl) (by rfl) (by rfl) (by rfl)) (by rfl)
    (x0g (by rfl) T.range (q6x (q0j q1n (pv 9) q0a) q0b)) (fun _ _ _ _ _ => q1h (i := 0) (show (["_law_k", "_law_script", "_law_at"] : List Str).Nodup by decide +kernel) (by rfl) (by exact Or.inl rfl)) (fun _ _ _ _ _ => q2u)
    (fun _ _ _ _ _ => q0i CE hr (q1i (pv 1) (q6x (q0j q1r (q0j q1r (pv 2) q0a) (q0j q6r q0a (pv 0))) q0b)))) q0b)))
  (@q1m _ _ _ (q0k (q0j q6a (pv 6) (q2r (q1i (pv 7) (q1i (pv 8) (q1i (pv 11) (q7o (q0i CU r1 (q6x (q0j q2b (pv 9) q0a) (q6s q0a q0b))) q0b)))))))))))))))))), ?_⟩
 obtain ⟨a0, a1⟩ := q2g k (m := 9) (by decide)
 refine ⟨_, rfl, _, rfl, a, ns, k, rfl, hS, h0, by omega, fun n n0 n1 => ?_⟩
 refine ⟨_, rfl, _, _, rfl, rfl, (by show (0 : Int) < 9; decide), ?_⟩
 refine ⟨_, rfl, _, _, rfl, rfl, _, rfl, _, _, rfl, rfl, ⟨by decide, by decide⟩, _, _, rfl, rfl, (by show (0 : Int) < 8; decide), _, _, rfl, rfl, _, _, rfl, rfl, (by show (0 : Int) < 9; decide), ?_⟩
 obtain ⟨o1, ho1⟩ : ∃ o1, o1 = n % 9 := ⟨_, rfl⟩
 obtain ⟨o2, ho2⟩ : ∃ o2, o2 = (o1 + 1 + n / 9 % 8) % 9 := ⟨_, rfl⟩
 show z4d 5 (V.int ((n % 9 + 1 + n / 9 % 8) % 9)) ([some (V.str x), some (V.ref a), some (V.int k), some (V.int n), some (V.int (n % 9))] ++ [none, none, none, none, none, none, none]) H _
 rw [← ho1, ← ho2]
 have so1 : Sml o1 := by have := q2g n (m := 9) (by decide); exact Sml.low (by omega) (by omega)
 have so2 : Sml o2 := by have := q2g (o1 + 1 + n / 9 % 8) (m := 9) (by decide); exact Sml.low (by omega) (by omega)
 refine ⟨_, rfl, _, rfl, _, rfl, _, rfl, _, rfl, _, _, rfl, rfl, a, ns, k + 1, rfl, hS, by omega, by omega, fun n2 n20 n21 => ⟨n2, 1, rfl, n20, n21, by decide, by decide, fun z hz => ⟨q3c (by show 4 ≤ 1000; decide), fun p hp => ?_⟩⟩⟩
 have s1 := q0h (o := HO.tup [V.str x, V.int o1, V.int o2, V.int z]) hp
 have hS1 := SqL.same hS s1
 refine ⟨_, rfl, _, rfl, _, _, rfl, rfl, a, ns, k + 2, rfl, hS1, by omega, by omega, fun n3 n30 n31 => ⟨n3, rfl, n30, n31, fun v3 H3 t3 s3 => ?_⟩⟩
 obtain ⟨p3, i3, j3, rfl, hp3, hi3, hj3⟩ := t3
 refine ⟨p3, _, rfl, SqT.of hp3, rfl, _, _, rfl, _, _, rfl, rfl, ?_⟩
 have hS3 := SqL.same hS1 s3
 refine ⟨_, rfl, _, rfl, _, _, rfl, rfl, a, ns, k + 3, rfl, hS3, by omega, by omega, fun m m0 m1 => ?_⟩
 have hd3 : H3 p = some (.tup [V.str x, V.int o1, V.int o2, V.int z]) := s3 _ _ q0e
 have s03 := s1.trans s3
 generalize hHe : upd H p (HO.tup [V.str x, V.int o1, V.int o2, V.int z]) = He at *
 have fin : ∀ (ys : List V) (H4 : Hp), ys.length ≤ 12 → q9f 4 H4 ys → q0y H3 H4 → ∀ p5, H4 p5 = none → j6q (.ref p) (.ref p5) (upd H4 p5 (.tup ys)) Q := by
  intro ys H4 hl ty s4 p5 h5
  have s5 := q0h (o := HO.tup ys) h5
  refine ⟨p, p5, _, ys, rfl, rfl, s5 _ _ (s4 _ _ hd3), q0e, q3c (by show 4 + ys.length ≤ 1000; omega), fun p6 H6 e6 s6 => ?_⟩
  refine q _ _ ⟨p6, _, rfl, e6, by simp, by rw [List.length_append]; show 4 + ys.length ≤ 16; omega, ?_⟩ ((s03.trans s4).trans (s5.trans s6))
  exact q9f.append (.cons (.str (by omega)) (.cons (.int so1) (.cons (.int so2) (.cons (.int hz) .nil)))) (ty.same (s5.trans s6))
 refine ⟨_, rfl, rfl, _, rfl, q9a (fun _ => ?_) (fun _ => ?_)⟩
 ·exact ⟨_, rfl, _, rfl, _, rfl, q3c (by show 2 ≤ 1000; decide), fun p5 h5 => fin _ _ (by show 2 ≤ 12; decide) (.cons (.int hi3) (.cons (.int hj3) .nil)) (q0y.refl _) p5 h5⟩
 refine ⟨_, rfl, rfl, _, rfl, q9a (fun _ => ?_) (fun _ => ?_)⟩
 ·exact ⟨_, rfl, _, rfl, _, _, rfl, rfl, (by show (0 : Int) < 2; decide), rfl, q3c (by show 1 ≤ 1000; decide), fun p5 h5 => fin _ _ (by show 1 ≤ 12; decide) (.cons (.bl _) .nil) (q0y.refl _) p5 h5⟩
 refine ⟨_, rfl, rfl, _, rfl, q9a (fun _ => ?_) (fun _ => ?_)⟩
 ·exact ⟨_, rfl, _, rfl, _, _, rfl, rfl, (by show (0 : Int) < 2; decide), rfl, _, rfl, _, _, rfl, rfl, ⟨by decide, by decide⟩, m / 2, 0, rfl, Int.ediv_nonneg m0 (by decide), by omega, by decide, by decide, fun z2 hz2 => ⟨q3c (by show 2 ≤ 1000; decide), fun p5 h5 => fin _ _ (by show 2 ≤ 12; decide) (.cons (.bl _) (.cons (.int hz2) .nil)) (q0y.refl _) p5 h5⟩⟩
 refine ⟨_, rfl, rfl, _, rfl, q9a (fun _ => ?_) (fun _ => ?_)⟩
 ·refine ⟨_, rfl, _, rfl, _, _, rfl, rfl, a, ns, k + 4, rfl, hS3, by omega, by omega, fun v4 H4 t4 s4 => ?_⟩
  obtain ⟨q4, i4, j4, sv, st, rfl, hq4, hi4, hj4, ts4, tt4⟩ := t4
  refine ⟨_, rfl, _, rfl, q4, _, 0, _, rfl, rfl, SqT.of hq4, q0m (j := 0) rfl, _, _, rfl, _, rfl, q4, _, 1, _, rfl, rfl, SqT.of hq4, q0m (j := 1) rfl, _, _, rfl, _, rfl, q4, _, 2, _, rfl, rfl, SqT.of hq4, q0m (j := 2) rfl, _, rfl, q4, _, 3, _, rfl, rfl, SqT.of hq4, q0m (j := 3) rfl, q3c (by show 4 ≤ 1000; decide), fun p4 h4 => ?_⟩
  refine ⟨q3c (by show 1 ≤ 1000; decide), fun p5 h5 => ?_⟩
  have s5 := q0h (H := H4) (p := p4) (o := HO.tup [V.int (if i4 > 1 then i4 else 1), V.int (if j4 > 1 then j4 else 1), sv, st]) h4
  exact fin _ _ (by show 1 ≤ 12; decide) (.cons (ThD.tup q0e (by show 4 ≤ 200; decide) (.cons (.int hi4.cap) (.cons (.int hj4.cap) (.cons ((ts4.le (by decide)).same s5) (.cons (tt4.same s5) .nil))))) .nil) (s4.trans s5) p5 h5
 obtain ⟨g0, g1⟩ := q2g m (m := 6) (by decide)
 refine ⟨_, rfl, _, _, rfl, rfl, (by show (0 : Int) < 6; decide), _, rfl, ?_, ?_, x0y (n := (m % 6).toNat) (k := 1) (ThD 3) ThD.monoT (by rw [sizeLine_eq]; omega) (fun i H2 hi _ => hi) (fun H2 _ => Nat.le_refl _) ?_ ?_⟩
 ·omega
 ·omega
 ·intro i H4 t v H5 S hi s4 ht y hR _
  obtain ⟨rfl, rfl⟩ := y
  obtain ⟨t0, rfl⟩ := q4v ht
  refine ⟨_, rfl, _, rfl, _, _, rfl, rfl, _, rfl, _, _, rfl, rfl, .inl ⟨by decide, by decide⟩, _, _, rfl, rfl, a, ns, _, rfl, SqL.same hS3 s4, ?_, ?_, fun v6 H6 t6 s6 => ?_⟩
  ·omega
  ·omega
  ·exact hR [some (.int (0 + (i : Int)))] H6 _ rfl s6 t6
 ·intro D1 H4 ys s4 hD hd hl hR
  refine ⟨D1, ys, rfl, .inl ⟨SqL.of hd, fun p5 h5 => ?_⟩⟩
  have s5 := q0h (o := HO.tup ys) h5
  refine ⟨_, rfl, _, rfl, _, rfl, _, rfl, _, rfl, _, _, rfl, rfl, ⟨by decide, by decide⟩, m / 6, 0, rfl, Int.ediv_nonneg m0 (by decide), by omega, by decide, by decide, fun z2 hz2 => ⟨q3c (by show 4 ≤ 1000; decide), fun p6 h6 => ?_⟩⟩
  have tys : q9f 3 (upd H4 p5 (.tup ys)) ys := q9f.same hR s5
  exact fin _ _ (by show 4 ≤ 12; decide) (.cons (.int hi3) (.cons (.int hj3) (.cons (ThD.tup q0e (by omega) tys) (.cons (.int hz2) .nil)))) (s4.trans s5) p6 h6
theorem j5g : FnScope ["_law_script", "_law_at", "_law_kinds", "_law_number", "_law_kind_here", "_law_caller", "_law_count"] ["_law_script", "_law_at"] (q0f q5g) := fSc
theorem x9d {f : Addr} {fd : FuncData} (F : Fun K "_law_letter_by" "_law_letter_by" q5g f fd) (CM : Cal P w K mg base "_law_mixed" 2 ["_law_script", "_law_k"] (q6j K)) (CU : Cal P w K mg base "_law_number_by" 1 ["_law_number", "_law_least"] q8q)
  (CN : Cal P w K mg base "_law_name_by" 1 ["_law_number"] x0o) (CV : Cal P w K mg base "_law_value_by" 2 ["_law_number"] x6f) (CD : Cal P w K mg base "_law_deed_by" 3 ["_law_script", "_law_at"] (x9i K 900 (ThD 1))) (CB : Cal P w K mg base "_law_between_by" 6 ["_law_kind_here", "_law_script", "_law_at"] (z6t K)) : FnOk P w K mg base CX0 7 f fd ["_law_script", "_law_at"] (x9i K 800 z8k) := by
 refine F.ok j5g q7i (fun cdv A outer s H vs Q E hr h => ?_)
 obtain ⟨a, ns, k, rfl, hS, h0, h1, q⟩ := h
 have r1 := hr.mono (show 1 ≤ 6 by decide)
 have r2 := hr.mono (show 2 ≤ 6 by decide)
 have r3 := hr.mono (show 3 ≤ 6 by decide)
 refine ⟨_, @j7g _ _ _ _ _ (z0z (i := 2) j5g.nd (by rfl) (by exact Or.inl rfl) (x5a (q2k (q2k (q2k (q2k (q2k (q2k (q2k (q2k q3e))))))))) w1v)
  (@q0z _ _ _ _ _ (q1b (i := 3) j5g.nd (by rfl) (by exact Or.inl rfl) (q0i CM r2 (q1i (pv 0) (q1i (pv 1) q0b))))
  (@q0z _ _ _ _ _ (q1b (i := 4) j5g.nd (by rfl) (by exact Or.inl rfl) (q0u q5j (pv 2) (q0j q1n (pv 3) q0a) z5n))
  (@q0z _ _ _ _ _ (q1w (q0s x5t (q0j q1n (pv 3) q0a) q0a (q0q _)) (q0p (q0k (q0i CB hr (q1i (pv 4) (q1i (pv 0) (q6x (q0j q1r (pv 1) q0a) q0b)))))) (q0t))
  (@q0z _ _ _ _ _ (q1b (i := 5) j5g.nd (by rfl) (by exact Or.inl rfl) (q0i CN r1 (q7o (q0i CM r2 (q1i (pv 0) (q6x (q0j q1r (pv 1) q0a) q0b))) q0b)))
  (@q0z _ _ _ _ _ (q1b (i := 6) j5g.nd (by rfl) (by exact Or.inl rfl) (q0i CU r1 (q7o (q0i CM r2 (q1i (pv 0) (q6x (q0j q1r (pv 1) q0a) q0b))) (q6s q0a q0b))))
  (@q0z _ _ _ _ _ (q1w (q0s q2c (pv 4) q0r (q0q _)) (q0p (q0k (q2r (q1i (pv 4) (q1i (pv 5) (q6x (q0j q1n (q0j q2b (pv 3) q0a) q0a) (q1i (pv 6) (q7o (q0i CD r3 (q1i (pv 0) (q6x (q0j q1r (pv 1) q0a) q0b))) q0b)))))))) (q0t))
  (@q0z _ _ _ _ _ (q1w (q0s q2c (pv 4) q0r (q0q _)) (q0p (q0k (q2r (q1i (pv 4) (q6x (q0j q1n (q0j q2b (pv 3) q0a) q0a) (q1i (pv 5) (q1i (pv 6) (q7o (q0i CV r2 (q7o (q0i CM r2 (q1i (pv 0) (q6x (q0j q1r (pv 1) q0a) q0b))) q0b)) q0b)))))))) (q0t))
  (@q1m _ _ _ (j4p (q6b (z4y (pv 4) (j7s (q0j q1n (q0j q2b (pv 3) q0a) q0a) (z4y (pv 5) (z4y (pv 6) (j7c (z5t q5j (x5a (z6a (q5w (q5w (q5w (q5w (q5w (q5w (q5w (q5w (q5w q3e))))))))))) (q0j q1n (q0j q2b (pv 3) q0a) q0a) z5n) q3e))))))))))))))), ?_⟩
 refine ⟨q3c (by show 8 ≤ 1000; decide), fun p hp => ?_⟩
 have s1 := q0h (o := HO.lst [V.str "ask", V.str "voice", V.str "hand", V.str "pack", V.str "held", V.str "wish", V.str "told", V.str "away"]) hp
 have hS1 := SqL.same hS s1
 refine ⟨_, rfl, _, rfl, a, ns, k, rfl, hS1, h0, by omega, fun n n0 n1 => ?_⟩
 obtain ⟨e0, e1⟩ := q2g n (m := 8) (by decide)
 obtain ⟨wd, hw, hm⟩ := q4s (xs := [V.str "ask", V.str "voice", V.str "hand", V.str "pack", V.str "held", V.str "wish", V.str "told", V.str "away"]) (i := n % 8) e0 (by show n % 8 < ((8 : Nat) : Int); omega)
 obtain ⟨x, rfl, hx⟩ : ∃ y : Str, wd = .str y ∧ y.length ≤ 16 := by
  simp only [List.mem_cons, List.not_mem_nil, or_false] at hm
  rcases hm with rfl | rfl | rfl | rfl | rfl | rfl | rfl | rfl <;> exact ⟨_, rfl, by decide +kernel⟩
 refine ⟨_, rfl, _, rfl, _, _, rfl, rfl, (by show (0 : Int) < 8; decide), p, _, _, _, rfl, rfl, SqL.of q0e, hw, ?_⟩
 generalize hHe : upd H p (HO.lst [V.str "ask", V.str "voice", V.str "hand", V.str "pack", V.str "held", V.str "wish", V.str "told", V.str "away"]) = He at *
 refine ⟨_, rfl, _, _, rfl, rfl, (by show (0 : Int) < 8; decide), _, _, rfl, rfl, _, rfl, q9a (fun _ => ?_) (fun _ => ?_)⟩
 ·exact ⟨_, rfl, _, rfl, _, rfl, _, _, rfl, rfl, x, a, ns, k + 1, rfl, hx, hS1, by omega, by omega, fun v' H' t' s' => q v' H' t' (s1.trans s')⟩
 refine ⟨_, rfl, _, rfl, _, _, rfl, rfl, a, ns, k + 1, rfl, hS1, by omega, by omega, fun n2 n20 n21 => ⟨n2, rfl, n20, fun y H3 hy s3 => ?_⟩⟩
 have hS3 := SqL.same hS1 s3
 refine ⟨_, rfl, _, rfl, _, _, rfl, rfl, a, ns, k + 2, rfl, hS3, by omega, by omega, fun n4 n40 n41 => ⟨n4, 1, rfl, n40, n41, by decide, by decide, fun z hz => ?_⟩⟩
 have m9 : Sml (n / 8 % 9) := by have := q2g (n / 8) (m := 9) (by decide); exact Sml.low (by omega) (by omega)
 have fin : ∀ (ys : List V) (H4 : Hp), ys.length = 5 → q9f 4 H4 ys → q0y H3 H4 → ys.length ≤ sizeLine ∧ ∀ p5, H4 p5 = none → Q (.ref p5) (upd H4 p5 (.tup ys)) := fun ys H4 hl ty s4 => ⟨q3c (by omega), fun p5 h5 =>
  q _ _ ⟨p5, ys, rfl, q0e, (fun z => by rw [z] at hl; cases hl), by omega, ty.same (q0h h5)⟩ ((s1.trans s3).trans (s4.trans (q0h h5)))⟩
 refine ⟨_, rfl, rfl, _, rfl, q9a (fun _ => ?_) (fun _ => ?_)⟩
 ·refine ⟨_, rfl, _, rfl, _, rfl, _, _, rfl, rfl, ⟨by decide, by decide⟩, _, _, rfl, rfl, (by show (0 : Int) < 9; decide), _, rfl, _, rfl, _, rfl, _, _, rfl, rfl, a, ns, k + 3, rfl, hS3, by omega, by omega, fun v4 H4 t4 s4 => ?_⟩
  exact fin _ _ rfl (.cons (.str (by omega)) (.cons (.str (by omega)) (.cons (.int m9) (.cons (.int hz) (.cons (t4.le (by decide)) .nil))))) s4
 refine ⟨_, rfl, rfl, _, rfl, q9a (fun _ => ?_) (fun _ => ?_)⟩
 ·refine ⟨_, rfl, _, rfl, _, _, rfl, rfl, ⟨by decide, by decide⟩, _, _, rfl, rfl, (by show (0 : Int) < 9; decide), _, rfl, _, rfl, _, rfl, _, rfl, _, _, rfl, rfl, a, ns, k + 3, rfl, hS3, by omega, by omega, fun n5 n50 n51 => ⟨n5, rfl, n50, n51, fun z5 hz5 => ?_⟩⟩
  exact fin _ _ rfl (.cons (.str (by omega)) (.cons (.int m9) (.cons (.str (by omega)) (.cons (.int hz) (.cons (.int hz5) .nil))))) (q0y.refl _)
 refine ⟨_, rfl, _, rfl, _, _, rfl, rfl, ⟨by decide, by decide⟩, _, _, rfl, rfl, (by show (0 : Int) < 9; decide), _, rfl, _, rfl, ?_⟩
 refine ⟨q3c (by show 10 ≤ 1000; decide), fun p6 h6 => ?_⟩
 have s6 := q0h (o := HO.lst [V.non, V.int 0, V.int 1, V.int 2, V.int 3, V.int 4, V.int 5, V.int 6, V.int 7, V.int 8]) h6
 obtain ⟨f0, f1⟩ := q2g (n / 72) (m := 10) (by decide)
 obtain ⟨u, eu, hu⟩ := q4s (xs := [V.non, V.int 0, V.int 1, V.int 2, V.int 3, V.int 4, V.int 5, V.int 6, V.int 7, V.int 8]) (i := n / 72 % 10) f0 (by show n / 72 % 10 < ((10 : Nat) : Int); omega)
 have tu : j5c u := by
  simp only [List.mem_cons, List.not_mem_nil, or_false] at hu
  rcases hu with rfl | rfl | rfl | rfl | rfl | rfl | rfl | rfl | rfl | rfl
  ·exact .inl rfl
  all_goals exact .inr (.inr (.inl ⟨_, rfl, Sml.low (by decide) (by decide)⟩))
 refine ⟨_, rfl, _, _, rfl, rfl, ⟨by decide, by decide⟩, _, _, rfl, rfl, (by show (0 : Int) < 10; decide), p6, _, _, u, rfl, rfl, SqL.of q0e, eu, ?_⟩
 exact fin _ _ rfl (.cons (.str (by omega)) (.cons (.int m9) (.cons (.str (by omega)) (.cons (.int hz) (.cons (.leaf tu) .nil))))) s6
end
end Kz
namespace K1
open PySem L2 Kp Kz
theorem j3y {X : Cx} : OpR X (binaryOp .Pow) (rI (fun a n => 0 ≤ n ∧ (Builtin.Int.intBits a : Int) * n ≤ 2 ^ 27) fun i j => .int (i ^ j.toNat)) := opI fun _ _ _ _ _ _ _ hc q => PyProof.Rows.pow_int hc.1 hc.2 q
theorem w0f {X : Cx} {o : UnaryOp} {a : Expr} {p : Pos} {te : TE} {t : TA} {es : List Expr} (ha : PE X (.UnaryOp o a p) te) (r : QA X es t) : QA X (.UnaryOp o a p :: es) (q5o te t) := ⟨w0g ha r.h⟩
noncomputable def Th5 (H : Hp) (v : V) : Prop := ∃ d, Is 200 H v d ∧ q1g 3900 d = true
theorem Th5.of {n : Nat} {H : Hp} {v : V} (h : ThD n H v) : Th5 H v := j4d h
theorem Th5.same {H H' : Hp} {v : V} (h : Th5 H v) (s : q0y H H') : Th5 H' v := let ⟨d, I, hs⟩ := h; ⟨d, I.same s, hs⟩
theorem Th5.tup {H : Hp} {a : Addr} {vs : List V} (e : H a = some (.tup vs)) (l : vs.length ≤ 200) (r : ∀ u ∈ vs, Th5 H u) : Th5 H (.ref a) := let ⟨ds, I, hs⟩ := z1w r; ⟨.tup ds, .tup e l I, hs⟩
theorem Th5.lst {H : Hp} {a : Addr} {vs : List V} (e : H a = some (.lst vs)) (l : vs.length ≤ 200) (r : ∀ u ∈ vs, Th5 H u) : Th5 H (.ref a) := let ⟨ds, I, hs⟩ := z1w r; ⟨.lst ds, .lst e l I, hs⟩
theorem z4v {H : Hp} {v : V} (h : z8k H v) : ThD 5 H v := let ⟨p, xs, e, hp, _, l, t⟩ := h; e ▸ ThD.tup hp (by omega) t
theorem x8f {H H' : Hp} {v : V} (h : z8k H v) (s : q0y H H') : z8k H' v := let ⟨p, xs, e, hp, n, l, t⟩ := h; ⟨p, xs, e, s _ _ hp, n, l, t.same s⟩
theorem z5q : Sml ((10 ^ (64 : Int).toNat) ^ (60 : Int).toNat) := by
 have e : ((10 : Int) ^ (64 : Int).toNat) ^ (60 : Int).toNat = ((10 ^ 3840 : Nat) : Int) := by
  show ((10 : Int) ^ 64) ^ 60 = _
  rw [← Int.pow_mul, Int.natCast_pow]
  rfl
 unfold Sml
 rw [e, Int.natAbs_natCast]
 exact Nat.pow_lt_pow_right (by decide) (by decide)
theorem j5t : Sml (10 ^ (60 : Int).toNat) ∧ Sml (10 ^ (60 : Int).toNat - 1) ∧ Sml (1 - 10 ^ (60 : Int).toNat) := by
 have e60 : (10 : Int) ^ (60 : Int).toNat = 1000000000000000000000000000000000000000000000000000000000000 := by decide +kernel
 have e70 : (10 : Nat) ^ 70 = 10000000000000000000000000000000000000000000000000000000000000000000000 := by decide +kernel
 rw [e60]
 refine ⟨?_, ?_, ?_⟩ <;> exact Sml.of70 (by rw [e70]; omega)
theorem j5r : 0 ≤ (60 : Int) ∧ (Builtin.Int.intBits (10 ^ (64 : Int).toNat) : Int) * 60 ≤ 2 ^ 27 := ⟨by decide, by decide +kernel⟩
section
variable {P : Program} {w : World} {K : PySem.W.Frag} {mg : Str → Option Value} {base : Heap}
noncomputable def z8p (K : PySem.W.Frag) : Sp := fun vs H Q _ => ∃ (a : Addr) (ns : List Int), vs = [.ref a] ∧ SqL K H a (ns.map V.int) ∧ ns.length ≤ 63 ∧ ∀ H', Q (.bl true) H'
noncomputable def tA1 : TS := fun D σ H => ∃ a v wy, σ = [some (.ref a), some v, some (.int wy), none, none, none] ∧ 0 ≤ wy ∧ wy ≤ 100000000000 ∧ z8k H v ∧ ∀ v' H', ThD 5 H' v' → (wy % 3 ≠ 1 → v' = v) → q0y H H' → D.nx [some (.ref a), some v', some (.int wy), none, none, none] H'
noncomputable def tA2 : TS := fun D σ H => ∃ a v wy, σ = [some (.ref a), some v, some (.int wy), none, none, none] ∧ ThD 5 H v ∧ ∀ v' x3 H', ThD 5 H' v' → (wy % 3 ≠ 1 → v' = v) → q0y H H' → D.nx [some (.ref a), some v', some (.int wy), x3, none, none] H'
noncomputable def tA3 : TS := fun D σ H => ∃ a v wy x3, σ = [some (.ref a), some v, some (.int wy), x3, none, none] ∧ 0 ≤ wy ∧ ThD 5 H v ∧ (wy % 3 = 2 → z8k H v) ∧ ∀ v' x4 x5 H', Th5 H' v' → (wy % 3 ≠ 2 → v' = v) → q0y H H' → D.nx [some (.ref a), some v', some (.int wy), x3, x4, x5] H'
noncomputable def tA4 : TS := fun D σ H => ∃ a v wy x3 x4 x5, σ = [some (.ref a), some v, some (.int wy), x3, x4, x5] ∧ 0 ≤ wy ∧ Th5 H v ∧ (wy % 3 = 0 → z8k H v) ∧ ∀ v' H', Th5 H' v' → q0y H H' → D.nx [some (.ref a), some v', some (.int wy), x3, x4, x5] H'
theorem z8f : FnScope ["_law_script", "_law_thing", "_law_way", "_law_great_here", "_law_at", "_law_odd"] ["_law_script"] (q0f j0n) := fSc
theorem j7i {f : Addr} {fd : FuncData} {kk : Nat} (hk : 8 ≤ kk) (F : Fun K "law" "law" j0n f fd) (T : Txt mg) (CM : Cal P w K mg base "_law_mixed" 2 ["_law_script", "_law_k"] (q6j K)) (CB : Cal P w K mg base "_law_letter_by" 7 ["_law_script", "_law_at"] (x9i K 800 z8k)) (CG : Cal P w K mg base "_law_great" 7 ["_law_thing", "_law_number"] (x1k 6)) (CT : Cal P w K mg base "_law_told" kk ["_law_thing"] j1w) :
  FnOk P w K mg base CX0 (kk + 1) f fd ["_law_script"] (z8p K) := by
 refine F.ok z8f (fun vs H Q E ⟨_, _, e, _⟩ => by subst e; rfl) (fun cdv A outer s H vs Q E hr h => ?_)
 obtain ⟨a, ns, rfl, hS, hlen, k⟩ := h
 have r2 := hr.mono (show 2 ≤ kk by omega)
 have r7 := hr.mono (show 7 ≤ kk by omega)
 refine ⟨_, @q0z _ _ _ _ _ (q1b (i := 1) z8f.nd (by rfl) (by exact Or.inl rfl) (q0i CB r7 (q1i (pv 0) (q6s q0a q0b))))
  (@q0z _ _ _ _ _ (q1b (i := 2) z8f.nd (by rfl) (by exact Or.inl rfl) (q0j q1r (q0i CM r2 (q1i (pv 0) (q6s q0a q0b))) (q0j q6r q0a (q0i CM r2 (q1i (pv 0) (q6s q0a q0b))))))
  (@q0z _ _ _ _ _ (PS.weak5 (t' := tA1) (q1w (q0s q2c (q0j q1n (pv 2) q0a) q0a (q0q _)) (@q1m _ _ _ (q1b (i := 1) z8f.nd (by rfl) (by exact Or.inl rfl) (q0i CG r7 (q1i (pv 1) (q6x (q0j q2b (pv 2) q0a) q0b))))) q0t) ?w1)
  (@q0z _ _ _ _ _ (PS.weak5 (t' := tA2) (q1w (q0s q2c (q0j q1n (pv 2) q0a) q0a (q0q _)) (@q0z _ _ _ _ _ (q1b (i := 3) z8f.nd (by rfl) (by exact Or.inl rfl) (q0j j3y (q0j q6p q0a q0a) q0a))
   (@q1m _ _ _ (QS.h (z0z (i := 1) z8f.nd (by rfl) (by exact Or.inl rfl) (q6b (q2k (q5w (q2k (q5w (j7c (z5t q5j (x5a (j7s (q0j q6p q0a q0a) (w0f (x4p q9l (q0j q6p q0a q0a)) (j7s (q0j x1v (q0j q6p q0a q0a) q0a) (j7s (q0j x1v q0a (q0j q6p q0a q0a)) (z4y (pv 3) (w0f (x4p q9l (pv 3)) q3e))))))) (q0j q1n (q0j q2b (pv 2) q0a) q0a) z5n) q3e)))))) w1z)))) q0t) ?w2)
  (@q0z _ _ _ _ _ (PS.weak5 (t' := tA3) (q1w (q0s q2c (q0j q1n (pv 2) q0a) q0a (q0q _)) (@q0z _ _ _ _ _ (q1b (i := 4) z8f.nd (by rfl) (by exact Or.inl rfl) (q0j q1n (q0j q2b (pv 2) q0a) (q0n q0w (by rfl) T.len PySem.boot_len (q1i (pv 1) q0b))))
   (@j7g _ _ _ _ _ (z0z (i := 5) z8f.nd (by rfl) (by exact Or.inl rfl) (z5t q5j (x5a (j6r (q5w (j9x (z6a (q2k (q2k (q2k (j1m q3e (j6u (q5w q3e) (q5w q3e))))))))))) (q0j q1n (q0j q2b (pv 2) q0a) q0a) z5n) w0k)
   (@q1m _ _ _ (q1b (i := 1) z8f.nd (by rfl) (by exact Or.inl rfl) (q0j q6a (q0j q6a (q3o q6g (pv 1) q5k (q4f (pv 4))) (q2r (q1i (pv 5) q0b))) (q3o q6g (pv 1) (q4f (q0j q1r (pv 4) q0a)) q5k)))))) q0t) ?w3)
  (@q0z _ _ _ _ _ (PS.weak5 (t' := tA4) (q1w (q0s q2c (q0j q1n (pv 2) q0a) q0a (q0q _)) (@q1m _ _ _ (QS.h (z0z (i := 1) z8f.nd (by rfl) (by exact Or.inl rfl) (z5t q5j (x5a (z6a (q5w (j1m q3e (q2k (j2h (q5a x7i (by rfl) T.list z4m (q1i (pv 1) q0b)) q3e)))))) (q0j q1n (q0j q2b (pv 2) q0a) q0a) z5n) w0k))) q0t) ?w4)
  (@q1m _ _ _ (q0k (q1x (q0i CT hr (q1i (pv 1) q0b)) (q1x (q0i CT hr (q7o (q0i CB r7 (q1i (pv 0) (q6s q0a q0b))) q0b)) (q2i (q0i CT hr (q1i (pv 1) q0b)))))))))))), ?_⟩
 case w1 =>
  rintro D σ H ⟨a, v, wy, rfl, h0, h1, R, q⟩
  refine ⟨_, rfl, _, _, rfl, rfl, (by show (0 : Int) < 3; decide), rfl, _, rfl, q9a (fun he => ?_) (fun hne => ?_)⟩
  ·exact ⟨_, rfl, _, rfl, _, _, rfl, rfl, ⟨by decide, by decide⟩, v, wy / 3, 5, rfl, rfl, z4v R, Int.ediv_nonneg h0 (by decide), by omega, fun v' H' t' s' => q v' H' t' (fun hn => absurd (by have := of_decide_eq_true he; exact V.int.inj this) hn) s'⟩
  ·exact q v H (z4v R) (fun _ => rfl) (q0y.refl _)
 case w2 =>
  rintro D σ H ⟨a, v, wy, rfl, R, q⟩
  refine ⟨_, rfl, _, _, rfl, rfl, (by show (0 : Int) < 9; decide), rfl, _, rfl, q9a (fun he => ?_) (fun hne => ?_)⟩
  ·have e9 : wy % 9 = 4 := by have := of_decide_eq_true he; exact V.int.inj this
   have g0 := z5q
   obtain ⟨g1, g2, g3⟩ := j5t
   refine ⟨_, _, rfl, rfl, ⟨by decide, by decide, by decide⟩, _, _, rfl, rfl, j5r, ?_⟩
   show z4d 3 (V.int (((10 : Int) ^ (64 : Int).toNat) ^ (60 : Int).toNat)) _ H _
   generalize ((10 : Int) ^ (64 : Int).toNat) ^ (60 : Int).toNat = z at g0 ⊢
   have hgo : ∀ u ∈ [V.int (10 ^ (60 : Int).toNat), V.int (-10 ^ (60 : Int).toNat), V.int (10 ^ (60 : Int).toNat - 1), V.int (1 - 10 ^ (60 : Int).toNat), V.int z, V.int (-z)], ∃ i, u = .int i ∧ Sml i := by
    intro u hu
    simp only [List.mem_cons, List.not_mem_nil, or_false] at hu
    rcases hu with rfl | rfl | rfl | rfl | rfl | rfl
    ·exact ⟨_, rfl, g1⟩
    ·exact ⟨_, rfl, g1.neg⟩
    ·exact ⟨_, rfl, g2⟩
    ·exact ⟨_, rfl, g3⟩
    ·exact ⟨_, rfl, g0⟩
    ·exact ⟨_, rfl, g0.neg⟩
   obtain ⟨f0, f1⟩ := q2g (wy / 9) (m := 6) (by decide)
   obtain ⟨u, hu, hm⟩ := q4s (xs := [V.int (10 ^ (60 : Int).toNat), V.int (-10 ^ (60 : Int).toNat), V.int (10 ^ (60 : Int).toNat - 1), V.int (1 - 10 ^ (60 : Int).toNat), V.int z, V.int (-z)]) (i := wy / 9 % 6) f0 (by show wy / 9 % 6 < ((6 : Nat) : Int); omega)
   obtain ⟨i, rfl, hi⟩ := hgo u hm
   refine ⟨_, _, rfl, rfl, ⟨by decide, by decide, by decide⟩, _, _, rfl, rfl, ⟨by decide, by decide, by decide⟩, _, rfl, _, _, rfl, rfl, ⟨by decide, by decide, by decide⟩, _, _, rfl, rfl, _, _, rfl, rfl, ⟨by decide, by decide, by decide⟩, _, _, rfl, rfl, _, rfl, _, rfl, _, rfl, q3c (by show 6 ≤ 1000; decide), fun p hp => ?_⟩
   refine ⟨_, rfl, _, _, rfl, rfl, ⟨by decide, by decide⟩, _, _, rfl, rfl, (by show (0 : Int) < 6; decide), p, _, _, .int i, rfl, rfl, SqL.of q0e, hu, q3c (by show 5 ≤ 1000; decide), fun p2 hp2 => ?_⟩
   have s1 := q0h (H := H) (p := p) (o := HO.lst [V.int (10 ^ (60 : Int).toNat), V.int (-10 ^ (60 : Int).toNat), V.int (10 ^ (60 : Int).toNat - 1), V.int (1 - 10 ^ (60 : Int).toNat), V.int z, V.int (-z)]) hp
   exact q _ _ _ (ThD.le (n := 1) (ThD.tup q0e (by show 5 ≤ 200; decide) (.cons (.str (by decide +kernel)) (.cons (.int (Sml.low (by decide) (by decide))) (.cons (.str (by decide +kernel)) (.cons (.int (Sml.low (by decide) (by decide))) (.cons (.int hi) .nil)))))) (by decide)) (fun hn => absurd (show wy % 3 = 1 by omega) hn) (s1.trans (q0h hp2))
  ·exact q v none H R (fun _ => rfl) (q0y.refl _)
 case w3 =>
  rintro D σ H ⟨a, v, wy, x3, rfl, h0, Rv, R, q⟩
  refine ⟨_, rfl, _, _, rfl, rfl, (by show (0 : Int) < 3; decide), rfl, _, rfl, q9a (fun he => ?_) (fun hne => ?_)⟩
  ·have e3 : wy % 3 = 2 := by have := of_decide_eq_true he; exact V.int.inj this
   obtain ⟨c, xs, rfl, hc, hx, hl, tx⟩ := R e3
   have hpos : 0 < xs.length := List.length_pos_iff.mpr hx
   have hposI : (0 : Int) < (xs.length : Int) := by omega
   obtain ⟨a0, a1⟩ := q2g (wy / 3) hposI
   obtain ⟨j, hj⟩ := Int.eq_ofNat_of_zero_le a0
   have hjl : j < xs.length := by omega
   refine ⟨_, rfl, _, _, rfl, rfl, ⟨by decide, by decide⟩, _, rfl, c, xs, rfl, .inr (SqT.of hc), _, _, rfl, rfl, hposI, ?_⟩
   refine ⟨_, rfl, q3c (by show 0 ≤ 1000; decide), fun p1 h1 => ⟨q3c (by show 1 ≤ 1000; decide), fun p2 h2 => ⟨q3c (by show 10 ≤ 1000; decide), fun p3 h3 => ?_⟩⟩⟩
   have s1 := q0h (H := H) (p := p1) (o := HO.tup []) h1
   have s2 := q0h (p := p2) (o := HO.lst [V.int 1]) h2
   have s3 := q0h (p := p3) (o := HO.lst [V.int (-1), V.int 0, V.bl true, V.non, V.str "", V.str "A", V.str "a	", V.ref p1, V.ref p2, V.int 9]) h3
   obtain ⟨f0, f1⟩ := q2g (wy / 27) (m := 10) (by decide)
   obtain ⟨u, hu, hm⟩ := q4s (xs := [V.int (-1), V.int 0, V.bl true, V.non, V.str "", V.str "A", V.str "a	", V.ref p1, V.ref p2, V.int 9]) (i := wy / 27 % 10) f0 (by show wy / 27 % 10 < ((10 : Nat) : Int); omega)
   have s123 := (s1.trans s2).trans s3
   have tu : Th5 _ u := show Th5 (upd (upd (upd H p1 (HO.tup [])) p2 (HO.lst [V.int 1])) p3 (HO.lst [V.int (-1), V.int 0, V.bl true, V.non, V.str "", V.str "A", V.str "a	", V.ref p1, V.ref p2, V.int 9])) u by
    have lo : ∀ i : Int, -100000 < i → i < 100000 → ∀ H', Th5 H' (.int i) := fun i b c H' => Th5.of (n := 0) (ThD.int (Sml.low b c))
    have st : ∀ x : Str, x.length ≤ 200 → ∀ H', Th5 H' (.str x) := fun x b H' => Th5.of (n := 0) (ThD.str b)
    simp only [List.mem_cons, List.not_mem_nil, or_false] at hm
    rcases hm with rfl | rfl | rfl | rfl | rfl | rfl | rfl | rfl | rfl | rfl
    ·exact lo _ (by decide) (by decide) _
    ·exact lo _ (by decide) (by decide) _
    ·exact Th5.of (n := 0) (ThD.bl _)
    ·exact Th5.of (n := 0) ThD.non
    ·exact st _ (by decide +kernel) _
    ·exact st _ (by decide +kernel) _
    ·exact st _ (by decide +kernel) _
    ·exact Th5.tup (s3 _ _ (s2 _ _ q0e)) (by decide) (fun u h => by cases h)
    ·refine Th5.lst (s3 _ _ q0e) (by decide) (fun u h => ?_)
     rcases List.mem_singleton.mp h with rfl
     exact lo _ (by decide) (by decide) _
    ·exact lo _ (by decide) (by decide) _
   refine ⟨_, rfl, _, _, rfl, rfl, ⟨by decide, by decide⟩, _, _, rfl, rfl, (by show (0 : Int) < 10; decide), p3, _, _, u, rfl, rfl, SqL.of q0e, hu, ?_⟩
   generalize upd (upd (upd H p1 (HO.tup [])) p2 (HO.lst [V.int 1])) p3 (HO.lst [V.int (-1), V.int 0, V.bl true, V.non, V.str "", V.str "A", V.str "a	", V.ref p1, V.ref p2, V.int 9]) = Ho at *
   refine ⟨_, rfl, _, rfl, _, rfl, c, xs, rfl, s123 _ _ hc, fun p4 H4 e4 s4 => ?_⟩
   replace e4 : H4 p4 = some (.tup (xs.take j)) := by rw [← z7i, ← hj]; exact e4
   refine ⟨_, rfl, q3c (by show 1 ≤ 1000; decide), fun p5 h5 => ?_⟩
   have s5 := q0h (o := HO.tup [u]) h5
   have lt := List.length_take (i := j) (l := xs)
   have ld := List.length_drop (i := j + 1) (l := xs)
   refine ⟨p4, p5, _, [u], rfl, rfl, s5 _ _ e4, q0e, q3c (by rw [lt]; show _ + 1 ≤ 1000; omega), fun p6 H6 e6 s6 => ?_⟩
   have sA := s123.trans (s4.trans (s5.trans s6))
   refine ⟨_, rfl, _, rfl, _, _, rfl, rfl, _, rfl, c, xs, rfl, sA _ _ hc, fun p7 H7 e7 s7 => ?_⟩
   replace e7 : H7 p7 = some (.tup (xs.drop (j + 1))) := by rw [← q8d, show ((j + 1 : Nat) : Int) = wy / 3 % (xs.length : Int) + 1 by omega]; exact e7
   refine ⟨p6, p7, _, _, rfl, rfl, s7 _ _ e6, e7, q3c (by rw [List.length_append, lt, ld]; show _ + 1 + _ ≤ 1000; omega), fun p8 H8 e8 s8 => ?_⟩
   have sB := sA.trans (s7.trans s8)
   refine q _ _ _ _ (Th5.tup e8 (by rw [List.length_append, List.length_append, lt, ld]; show _ + 1 + _ ≤ 200; omega) (fun y hy => ?_)) (fun hn => absurd e3 hn) sB
   rcases List.mem_append.mp hy with hy | hy
   ·rcases List.mem_append.mp hy with hy | hy
    ·exact Th5.of ((tx y (List.mem_of_mem_take hy)).same sB)
    ·rcases List.mem_singleton.mp hy with rfl
     exact tu.same ((s4.trans (s5.trans s6)).trans (s7.trans s8))
   ·exact Th5.of ((tx y (List.mem_of_mem_drop hy)).same sB)
  ·exact q v none none H (Th5.of Rv) (fun _ => rfl) (q0y.refl _)
 case w4 =>
  rintro D σ H ⟨a, v, wy, x3, x4, x5, rfl, h0, Rv, R, q⟩
  refine ⟨_, rfl, _, _, rfl, rfl, (by show (0 : Int) < 18; decide), rfl, _, rfl, q9a (fun he => ?_) (fun hne => ?_)⟩
  ·have e18 : wy % 18 = 3 := by have := of_decide_eq_true he; exact V.int.inj this
   obtain ⟨c, xs, rfl, hc, hx, hl, tx⟩ := R (by omega)
   refine ⟨q3c (by show 0 ≤ 1000; decide), fun p1 h1 => ⟨_, rfl, c, xs, rfl, .inr (SqT.of (q0h h1 _ _ hc)), fun p2 h2 => ⟨q3c (by show 5 ≤ 1000; decide), fun p3 h3 => ?_⟩⟩⟩
   have s1 := q0h (H := H) (p := p1) (o := HO.tup []) h1
   have s2 := q0h (p := p2) (o := HO.lst xs) h2
   have s3 := q0h (p := p3) (o := HO.lst [V.non, V.int 5, V.ref p1, V.str "ask", V.ref p2]) h3
   obtain ⟨f0, f1⟩ := q2g (wy / 18) (m := 5) (by decide)
   obtain ⟨u, hu, hm⟩ := q4s (xs := [V.non, V.int 5, V.ref p1, V.str "ask", V.ref p2]) (i := wy / 18 % 5) f0 (by show wy / 18 % 5 < ((5 : Nat) : Int); omega)
   have s123 := (s1.trans s2).trans s3
   refine ⟨_, rfl, _, _, rfl, rfl, ⟨by decide, by decide⟩, _, _, rfl, rfl, (by show (0 : Int) < 5; decide), p3, _, _, u, rfl, rfl, SqL.of q0e, hu, q u _ ?_ s123⟩
   simp only [List.mem_cons, List.not_mem_nil, or_false] at hm
   rcases hm with rfl | rfl | rfl | rfl | rfl
   ·exact Th5.of (n := 0) ThD.non
   ·exact Th5.of (n := 0) (ThD.int (Sml.low (by decide) (by decide)))
   ·exact Th5.tup (s3 _ _ (s2 _ _ q0e)) (by decide) (fun u h => by cases h)
   ·exact Th5.of (n := 0) (ThD.str (by decide +kernel))
   ·exact Th5.lst (s3 _ _ q0e) (by omega) (fun u h => Th5.of ((tx u h).same s123))
  ·exact q v H Rv (q0y.refl _)
 refine ⟨_, rfl, a, ns, 2, rfl, hS, by decide, by decide, fun v1 H1 p1 s1 => ?_⟩
 have hS1 := SqL.same hS s1
 refine ⟨_, rfl, a, ns, 0, rfl, hS1, by decide, by decide, fun w2 w20 w21 => ⟨_, rfl, a, ns, 1, rfl, hS1, by decide, by decide, fun w3 w30 w31 => ⟨_, _, rfl, rfl, .inl ⟨by decide, by decide⟩, _, _, rfl, rfl, ?_⟩⟩⟩
 refine ⟨a, v1, w2 + 7 * w3, rfl, by omega, by omega, p1, fun v2 H2 t2 e2 s2 => ?_⟩
 refine ⟨a, v2, w2 + 7 * w3, rfl, t2, fun v3 x3 H3 t3 e3 s3 => ?_⟩
 have L3 : (w2 + 7 * w3) % 3 ≠ 1 → z8k H3 v3 := fun h => by rw [e3 h, e2 h]; exact x8f p1 (s2.trans s3)
 refine ⟨a, v3, w2 + 7 * w3, x3, rfl, by omega, t3, fun h => L3 (by omega), fun v4 x4 x5 H4 t4 e4 s4 => ?_⟩
 refine ⟨a, v4, w2 + 7 * w3, x3, x4, x5, rfl, by omega, t4, fun h => ?_, fun v5 H5 t5 s5 => ?_⟩
 ·rw [e4 (by omega)]
  exact x8f (L3 (by omega)) s4
 obtain ⟨d, I, hd⟩ := t5
 have hS5 := SqL.same hS1 ((s2.trans s3).trans (s4.trans s5))
 refine ⟨_, rfl, v5, d, rfl, I, hd, fun H6 s6 => ⟨_, rfl, q1f ⟨_, rfl, a, ns, 9, rfl, SqL.same hS5 s6, by decide, by decide, fun v7 H7 t7 s7 => ?_⟩⟩⟩
 obtain ⟨d7, I7, hd7⟩ := Th5.of (z4v t7)
 exact ⟨v7, d7, rfl, I7, hd7, fun H8 s8 => ⟨_, rfl, q1f ⟨_, rfl, v5, d, rfl, I.same ((s6.trans s7).trans s8), hd, fun H9 s9 => k H9⟩⟩⟩
end
end K1
namespace K1
open PySem L2 Kp
section
variable {P : Program} {w : World} {K : PySem.W.Frag} {mg : Str → Option Value} {base : Heap}
theorem q1t {x px : Str} {k k2 : Nat} {cN g : Addr} {p p' : D → Bool} {f : D → List Str} (C : CalE P w K mg base x k [px] (spW cN p f)) (hm : mg x = some (.ref g)) (hs : ∀ d, p' d = true → p d = true) (hk : k ≤ k2) : Wrt P w K mg base cN k2 g p' f := by
 obtain ⟨g', fd, F, m, kp, b⟩ := C.ex
 have e : g' = g := by
  rw [m] at hm
  exact Value.ref.inj (Option.some.inj hm)
 subst e
 refine ⟨⟨k, fd, px, hk, ⟨fun vs H Q E h => ?_, fun A outer s H args us vs Q E hr he hb hv h => ?_⟩, kp, b⟩⟩
 ·obtain ⟨B, v, d, hB, e, _⟩ := h
  subst e; rfl
 ·obtain ⟨B, v, d, hB, e, I, hp, q⟩ := h
  exact F.run A outer s H args us vs Q E hr he hb hv ⟨B, v, d, hB, e, I, hs d hp, q⟩
noncomputable def j3x : List (Str × List (D → Bool)) := [("ask", [whole, whole, whole, whole, whole]), ("voice", [whole, whole, whole, q2t]), ("hand", [whole, whole, whole, whole, whole, whole, q2f]), ("pack", [whole, whole, whole, q8k]),
 ("held", [whole, whole, whole, q2t, whole]), ("wish", [q2y, whole, whole, q7z]), ("told", [whole, q2y, whole, whole]), ("away", [whole, q2y, whole, q7y])]
theorem j7j {x : Str} {r : List D} (h : q2n q2q (.tup (.str x :: r)) = true) : ∃ ps, j3x.lookup x = some ps ∧ q0x ps (if x = "hand" then x1y r else r) = true := by
 obtain ⟨x', r', ps, e, el, hf⟩ := q2x h
 cases e
 have kw : ∀ d, q0g d = true → whole d = true := fun d => q1k
 have gw : ∀ n d, geD n d = true → whole d = true := fun n d => q1l
 have idd : ∀ (p : D → Bool) d, p d = true → p d = true := fun _ _ h => h
 unfold q2q at el
 rw [List.lookup_cons] at el
 by_cases g0 : x = "ask"
 ·subst g0
  cases el
  refine ⟨_, rfl, ?_⟩
  rw [if_neg (show ¬ (("ask" : Str) = "hand") by decide +kernel)]
  exact q3l (.cons kw (.cons kw (.cons (gw _) (.cons (gw _) (.cons (gw _) .nil))))) hf
 ·rw [show (x == "ask") = false from by rw [beq_eq_false_iff_ne]; exact g0, List.lookup_cons] at el
  by_cases g1 : x = "voice"
  ·subst g1
   cases el
   refine ⟨_, rfl, ?_⟩
   rw [if_neg (show ¬ (("voice" : Str) = "hand") by decide +kernel)]
   exact q3l (.cons kw (.cons kw (.cons (gw _) (.cons (idd _) .nil)))) hf
  ·rw [show (x == "voice") = false from by rw [beq_eq_false_iff_ne]; exact g1, List.lookup_cons] at el
   by_cases g2 : x = "hand"
   ·subst g2
    cases el
    obtain ⟨a, b, c, p, l, e, m, rfl, h1, h2, h3, h4, h5, h6, h7⟩ := x7c hf
    refine ⟨_, rfl, ?_⟩
    rw [if_pos rfl]
    show q0x [whole, whole, whole, whole, whole, whole, q2f] [a, b, c, p, l, m, e] = true
    simp only [q0x, kw a h1, kw b h2, gw _ c h3, gw _ p h4, gw _ l h5, gw _ m h7, h6, Bool.and_true]
   ·rw [show (x == "hand") = false from by rw [beq_eq_false_iff_ne]; exact g2, List.lookup_cons] at el
    by_cases g3 : x = "pack"
    ·subst g3
     cases el
     refine ⟨_, rfl, ?_⟩
     rw [if_neg (show ¬ (("pack" : Str) = "hand") by decide +kernel)]
     exact q3l (.cons kw (.cons kw (.cons (gw _) (.cons (idd _) .nil)))) hf
    ·rw [show (x == "pack") = false from by rw [beq_eq_false_iff_ne]; exact g3, List.lookup_cons] at el
     by_cases g4 : x = "held"
     ·subst g4
      cases el
      refine ⟨_, rfl, ?_⟩
      rw [if_neg (show ¬ (("held" : Str) = "hand") by decide +kernel)]
      exact q3l (.cons kw (.cons kw (.cons (gw _) (.cons (idd _) (.cons (gw _) .nil))))) hf
     ·rw [show (x == "held") = false from by rw [beq_eq_false_iff_ne]; exact g4, List.lookup_cons] at el
      by_cases g5 : x = "wish"
      ·subst g5
       cases el
       refine ⟨_, rfl, ?_⟩
       rw [if_neg (show ¬ (("wish" : Str) = "hand") by decide +kernel)]
       exact q3l (.cons (idd _) (.cons kw (.cons (gw _) (.cons (idd _) .nil)))) hf
      ·rw [show (x == "wish") = false from by rw [beq_eq_false_iff_ne]; exact g5, List.lookup_cons] at el
       by_cases g6 : x = "told"
       ·subst g6
        cases el
        refine ⟨_, rfl, ?_⟩
        rw [if_neg (show ¬ (("told" : Str) = "hand") by decide +kernel)]
        exact q3l (.cons kw (.cons (idd _) (.cons (gw _) (.cons (idd _) .nil)))) hf
       ·rw [show (x == "told") = false from by rw [beq_eq_false_iff_ne]; exact g6, List.lookup_cons] at el
        by_cases g7 : x = "away"
        ·subst g7
         cases el
         refine ⟨_, rfl, ?_⟩
         rw [if_neg (show ¬ (("away" : Str) = "hand") by decide +kernel)]
         exact q3l (.cons kw (.cons (idd _) (.cons (gw _) (.cons (idd _) .nil)))) hf
        ·rw [show (x == "away") = false from by rw [beq_eq_false_iff_ne]; exact g7] at el
         cases el
end
theorem cal {P : Program} {w : World} {K : PySem.W.Frag} {mg : Str → Option Value} {base : Heap} {x : Str} {st : Stmt} {f : Addr} {fd : FuncData} {ps : List Str} {k : Nat} {sp : Sp} (F : Fun K x x st f fd) (hm : mg x = some (.ref f)) (b : q5i K fd ps []) (ok : FnOk P w K mg base CX0 k f fd ps sp) : Cal P w K mg base x k ps sp := ⟨f, fd, ok, hm, F.kp, b⟩
theorem x4n {P : Program} {w : World} {K : PySem.W.Frag} {mg : Str → Option Value} {base : Heap} {x : Str} {st : Stmt} {f : Addr} {fd : FuncData} {ps : List Str} {k : Nat} {sp : Sp} (F : Fun K x x st f fd) (hm : mg x = some (.ref f)) (b : q5i K fd ps []) (ok : FnOk P w K mg base (CXe P w) k f fd ps sp) : CalE P w K mg base x k ps sp := ⟨f, fd, ok, hm, F.kp, b⟩
structure DF (K : PySem.W.Frag) (n : Str) (st : Stmt) (f : Addr) : Prop where
 a : PySem.W.nsIn K mainGlobals n = some (some (.ref f))
 F : ∃ fd, Fun K n n st f fd
noncomputable def TF (K : PySem.W.Frag) (q : Addr) (vs : Array Value) : Prop := ∃ o n s, K.lookup q = some ⟨.type "tuple", o, .seq vs n, s⟩
theorem TF.sq {K : PySem.W.Frag} {q : Addr} {vs : Array Value} {gs : List V} (h : TF K q vs) (hl : Nat.ble vs.size 1000 = true) (r : q4b gs vs.toList) (H : Hp) : SqT K H q gs := let ⟨o, n, s, e⟩ := h; .inr ⟨_, _, _, e, rfl, rfl, q3c (Nat.le_of_ble_eq_true hl), r⟩
theorem bd {K : PySem.W.Frag} {x : Str} {st : Stmt} {f : Addr} {fd : FuncData} (p : Str) (F : Fun K x x st f fd) (h : ∀ (kV doc pm : Value) (an : Option Addr) (cdv ct u : Value), bindArgs (PySem.W.fnOf x x (q8p st) (q6l st) (q0f st) .none kV doc pm an cdv ct) ⟨[u], []⟩ = pure ([p].zip [u])) : q5i K fd [p] [] := F.binds fun _ _ _ _ _ _ us hl => match us, hl with | [_], _ => h _ _ _ _ _ _ _
theorem bd2 {K : PySem.W.Frag} {x : Str} {st : Stmt} {f : Addr} {fd : FuncData} (p r : Str) (F : Fun K x x st f fd) (h : ∀ (kV doc pm : Value) (an : Option Addr) (cdv ct u v : Value), bindArgs (PySem.W.fnOf x x (q8p st) (q6l st) (q0f st) .none kV doc pm an cdv ct) ⟨[u, v], []⟩ = pure ([p, r].zip [u, v])) : q5i K fd [p, r] [] := F.binds fun _ _ _ _ _ _ us hl => match us, hl with | [_, _], _ => h _ _ _ _ _ _ _ _
theorem all_mk {l : PySem.W.OpenLaw} {w : World} {K : PySem.W.Frag} {h : Heap} {mg : Str → Option Value} {fa f0 f1 f2 f3 f4 f5 f6 f7 f8 f9 f10 f11 f12 f13 f14 f15 f16 f17 f18 f19 f20 f21 f22 f23 f24 f25 f26 f27 f28 f29 f30 f31 f32 f33 f34 f35 f36 f37 f38 f39 f40 f41 f42 f43 f44 f45 f46 f47 f48 f49 f50 f51 f52 f53 f54 f55 f56 f57 f58 f59 f60 f61 f62 f63 f64 f65 f66 f67 f68 f69 f70 f71 f72 f73 f74 f75 f76 f77 f78 f79 f80 f81 f82 f83 f84 : Addr} (X : K.In h) (G : h.Ns mainGlobals mg) (hfa : mg "law" = some (.ref fa))
(d0 : DF K "is_whole" z5w f0)(d1 : DF K "is_truth" x1n f1)(d2 : DF K "is_from_nought" q5m f2)(d3 : DF K "is_from_one" q7k f3)(d4 : DF K "is_keeper" z0a f4)(d5 : DF K "is_head" x4l f5)(d6 : DF K "is_name" z8x f6)(d7 : DF K "is_rising" x1m f7)(d8 : DF K "is_row_of" j7q f8)(d9 : DF K "fits" z2i f9)(d10 : DF K "first_word" q8b f10)(d11 : DF K "fits_behind_word" q4j f11)(d12 : DF K "is_deed" x2s f12)(d13 : DF K "is_seats" z7w f13)(d14 : DF K "is_what" x2y f14)(d15 : DF K "is_entry" x1i f15)(d16 : DF K "is_entries" q8v f16)(d17 : DF K "is_name_pair" q6h f17)(d18 : DF K "is_caller_triple" q4e f18)(d19 : DF K "is_by_alphabet" q3v f19)(d20 : DF K "is_names" x1g f20)(d21 : DF K "is_callers" q8n f21)(d22 : DF K "is_store" x1d f22)(d23 : DF K "is_end" x6x f23)(d24 : DF K "is_pack" x3b f24)(d25 : DF K "is_pack_to_send" q4q f25)(d26 : DF K "is_letter" q9v f26)(d27 : DF K "number_words" q6o f27)(d28 : DF K "name_words" q8u f28)(d29 : DF K "truth_words" q7n f29)(d30 : DF K "head_words" q8r f30)(d31 : DF K "words_of_parts" q5e f31)(d32 : DF K "counted_words" q5y f32)(d33 : DF K "seats_words" q7d f33)(d34 : DF K "deed_words" q8g f34)(d35 : DF K "what_words" q8j f35)(d36 : DF K "entry_words" q7h f36)(d37 : DF K "entries_words" q5v f37)(d38 : DF K "name_pair_words" q4t f38)(d39 : DF K "caller_triple_words" q3i f39)(d40 : DF K "store_words" q7a f40)(d41 : DF K "pack_words" q8i f41)(d42 : DF K "last_two_changed" q4c f42)(d43 : DF K "written" x4e f43)(d44 : DF K "_law_cell_at" j4o f44)(d45 : DF K "_law_mixed" z4q f45)(d46 : DF K "_law_name_by" z0n f46)(d47 : DF K "_law_number_by" q5f f47)(d48 : DF K "_law_value_by" q5t f48)(d49 : DF K "_law_deed_by" q6m f49)(d50 : DF K "_law_seats_by" x2a f50)(d51 : DF K "_law_what_by" q6i f51)(d52 : DF K "_law_entry_by" q5u f52)(d53 : DF K "_law_names_by" q2v f53)(d54 : DF K "_law_store_by" q3h f54)(d55 : DF K "_law_stand_by" q5s f55)(d56 : DF K "_law_pack_by" q6k f56)(d57 : DF K "_law_between_by" q3q f57)(d58 : DF K "_law_letter_by" q5g f58)(d59 : DF K "_law_from" j4w f59)(d60 : DF K "_law_any" x1q f60)(d61 : DF K "_law_sized" q8f f61)(d62 : DF K "_law_keeper" q7p f62)(d63 : DF K "_law_name" z1i f63)(d64 : DF K "_law_kind" q9u f64)(d65 : DF K "_law_deed" q9p f65)(d66 : DF K "_law_seats" x9j f66)(d67 : DF K "_law_what" q9r f67)(d68 : DF K "_law_entry" q8m f68)(d69 : DF K "_law_rises" q8l f69)(d70 : DF K "_law_store" q8z f70)(d71 : DF K "_law_stand" q8t f71)(d72 : DF K "_law_pack" q9w f72)(d73 : DF K "_law_between" q4w f73)(d74 : DF K "_law_letter" q7q f74)(d75 : DF K "_law_figures" q3t f75)(d76 : DF K "_law_deed_words" q4p f76)(d77 : DF K "_law_seats_words" q3f f77)(d78 : DF K "_law_entry_words" q4k f78)(d79 : DF K "_law_store_words" q4h f79)(d80 : DF K "_law_text_between" q2e f80)(d81 : DF K "_law_text_of" q6n f81)(d82 : DF K "_law_great" q6e f82)(d83 : DF K "_law_told" q6z f83)
  {odL anL : Option Addr} {slL : Array (Option Value)} {ocL kVL dcL pmL cdL ctL : Value} (aL : PySem.W.nsIn K mainGlobals "law" = some (some (.ref f84))) (lL : K.lookup f84 = some ⟨ocL, odL, .func (PySem.W.fnOf "law" "law" (q8p j0n) (q6l j0n) (q0f j0n) .none kVL dcL pmL anL cdL ctL), slL⟩) (cL' : PySem.W.codeIn K cdL "law" = true) (kL : PySem.W.keepIn K (.ref f84) = true)
  {u0 q0_0 q0_1 q0_2 : Addr} {tkq0_0 tkq0_1 tkq0_2 : Tok} {nd0 : Nat}
  (da0 : PySem.W.nsIn K mainGlobals "DEED_TELLERS" = some (some (.ref u0))) (dl0 : K.lookup u0 = some ⟨.type "dict", none, .dict #[⟨PyData.keyHash w.params "set", .str "set" tkq0_0, .ref q0_0⟩, ⟨PyData.keyHash w.params "add", .str "add" tkq0_1, .ref q0_1⟩, ⟨PyData.keyHash w.params "get", .str "get" tkq0_2, .ref q0_2⟩] nd0, #[]⟩) (ds0 : (u0 == sysModules) = false)
(tq0_0 : TF K q0_0 #[.ref f6, .ref f0])(tq0_1 : TF K q0_1 #[.ref f6, .ref f0])(tq0_2 : TF K q0_2 #[.ref f6])
  {u1 q1_0 q1_1 q1_2 : Addr} {tkq1_0 tkq1_1 tkq1_2 : Tok} {nd1 : Nat}
  (da1 : PySem.W.nsIn K mainGlobals "WHAT_TELLERS" = some (some (.ref u1))) (dl1 : K.lookup u1 = some ⟨.type "dict", none, .dict #[⟨PyData.keyHash w.params "open", .str "open" tkq1_0, .ref q1_0⟩, ⟨PyData.keyHash w.params "wish", .str "wish" tkq1_1, .ref q1_1⟩, ⟨PyData.keyHash w.params "seats", .str "seats" tkq1_2, .ref q1_2⟩] nd1, #[]⟩) (ds1 : (u1 == sysModules) = false)
(tq1_0 : TF K q1_0 #[])(tq1_1 : TF K q1_1 #[.ref f6, .ref f3, .ref f12])(tq1_2 : TF K q1_2 #[.ref f13])
  {u2 q2_0 q2_1 q2_2 q2_3 q2_4 q2_5 q2_6 q2_7 : Addr} {tkq2_0 tkq2_1 tkq2_2 tkq2_3 tkq2_4 tkq2_5 tkq2_6 tkq2_7 : Tok} {nd2 : Nat}
  (da2 : PySem.W.nsIn K mainGlobals "LETTER_TELLERS" = some (some (.ref u2))) (dl2 : K.lookup u2 = some ⟨.type "dict", none, .dict #[⟨PyData.keyHash w.params "ask", .str "ask" tkq2_0, .ref q2_0⟩, ⟨PyData.keyHash w.params "voice", .str "voice" tkq2_1, .ref q2_1⟩, ⟨PyData.keyHash w.params "hand", .str "hand" tkq2_2, .ref q2_2⟩, ⟨PyData.keyHash w.params "pack", .str "pack" tkq2_3, .ref q2_3⟩, ⟨PyData.keyHash w.params "held", .str "held" tkq2_4, .ref q2_4⟩, ⟨PyData.keyHash w.params "wish", .str "wish" tkq2_5, .ref q2_5⟩, ⟨PyData.keyHash w.params "told", .str "told" tkq2_6, .ref q2_6⟩, ⟨PyData.keyHash w.params "away", .str "away" tkq2_7, .ref q2_7⟩] nd2, #[]⟩) (ds2 : (u2 == sysModules) = false)
(tq2_0 : TF K q2_0 #[.ref f4, .ref f4, .ref f3, .ref f2, .ref f2])(tq2_1 : TF K q2_1 #[.ref f4, .ref f4, .ref f3, .ref f1])(tq2_2 : TF K q2_2 #[.ref f4, .ref f4, .ref f3, .ref f2, .ref f2, .ref f16, .ref f2])(tq2_3 : TF K q2_3 #[.ref f4, .ref f4, .ref f3, .ref f25])(tq2_4 : TF K q2_4 #[.ref f4, .ref f4, .ref f3, .ref f1, .ref f2])(tq2_5 : TF K q2_5 #[.ref f6, .ref f4, .ref f3, .ref f12])(tq2_6 : TF K q2_6 #[.ref f4, .ref f6, .ref f3, .ref f0])(tq2_7 : TF K q2_7 #[.ref f4, .ref f6, .ref f3, .ref f5])
  {u3 q3_0 q3_1 q3_2 : Addr} {tkq3_0 tkq3_1 tkq3_2 : Tok} {nd3 : Nat}
  (da3 : PySem.W.nsIn K mainGlobals "DEED_WRITERS" = some (some (.ref u3))) (dl3 : K.lookup u3 = some ⟨.type "dict", none, .dict #[⟨PyData.keyHash w.params "set", .str "set" tkq3_0, .ref q3_0⟩, ⟨PyData.keyHash w.params "add", .str "add" tkq3_1, .ref q3_1⟩, ⟨PyData.keyHash w.params "get", .str "get" tkq3_2, .ref q3_2⟩] nd3, #[]⟩) (ds3 : (u3 == sysModules) = false)
(tq3_0 : TF K q3_0 #[.ref f28, .ref f27])(tq3_1 : TF K q3_1 #[.ref f28, .ref f27])(tq3_2 : TF K q3_2 #[.ref f28])
  {u4 q4_0 q4_1 q4_2 : Addr} {tkq4_0 tkq4_1 tkq4_2 : Tok} {nd4 : Nat}
  (da4 : PySem.W.nsIn K mainGlobals "WHAT_WRITERS" = some (some (.ref u4))) (dl4 : K.lookup u4 = some ⟨.type "dict", none, .dict #[⟨PyData.keyHash w.params "open", .str "open" tkq4_0, .ref q4_0⟩, ⟨PyData.keyHash w.params "wish", .str "wish" tkq4_1, .ref q4_1⟩, ⟨PyData.keyHash w.params "seats", .str "seats" tkq4_2, .ref q4_2⟩] nd4, #[]⟩) (ds4 : (u4 == sysModules) = false)
(tq4_0 : TF K q4_0 #[])(tq4_1 : TF K q4_1 #[.ref f28, .ref f27, .ref f34])(tq4_2 : TF K q4_2 #[.ref f33])
  {u5 q5_0 q5_1 q5_2 q5_3 q5_4 q5_5 q5_6 q5_7 : Addr} {tkq5_0 tkq5_1 tkq5_2 tkq5_3 tkq5_4 tkq5_5 tkq5_6 tkq5_7 : Tok} {nd5 : Nat}
  (da5 : PySem.W.nsIn K mainGlobals "LETTER_WRITERS" = some (some (.ref u5))) (dl5 : K.lookup u5 = some ⟨.type "dict", none, .dict #[⟨PyData.keyHash w.params "ask", .str "ask" tkq5_0, .ref q5_0⟩, ⟨PyData.keyHash w.params "voice", .str "voice" tkq5_1, .ref q5_1⟩, ⟨PyData.keyHash w.params "hand", .str "hand" tkq5_2, .ref q5_2⟩, ⟨PyData.keyHash w.params "pack", .str "pack" tkq5_3, .ref q5_3⟩, ⟨PyData.keyHash w.params "held", .str "held" tkq5_4, .ref q5_4⟩, ⟨PyData.keyHash w.params "wish", .str "wish" tkq5_5, .ref q5_5⟩, ⟨PyData.keyHash w.params "told", .str "told" tkq5_6, .ref q5_6⟩, ⟨PyData.keyHash w.params "away", .str "away" tkq5_7, .ref q5_7⟩] nd5, #[]⟩) (ds5 : (u5 == sysModules) = false)
(tq5_0 : TF K q5_0 #[.ref f27, .ref f27, .ref f27, .ref f27, .ref f27])(tq5_1 : TF K q5_1 #[.ref f27, .ref f27, .ref f27, .ref f29])(tq5_2 : TF K q5_2 #[.ref f27, .ref f27, .ref f27, .ref f27, .ref f27, .ref f27, .ref f37])(tq5_3 : TF K q5_3 #[.ref f27, .ref f27, .ref f27, .ref f41])(tq5_4 : TF K q5_4 #[.ref f27, .ref f27, .ref f27, .ref f29, .ref f27])(tq5_5 : TF K q5_5 #[.ref f28, .ref f27, .ref f27, .ref f34])(tq5_6 : TF K q5_6 #[.ref f27, .ref f28, .ref f27, .ref f27])(tq5_7 : TF K q5_7 #[.ref f27, .ref f28, .ref f27, .ref f30])
  {cN cL cK cP cR cS : Addr} {ccx : PySem.ClassData}
  (ncN : PySem.W.nsIn K mainGlobals "NoLetter" = some (some (.ref cN))) (ncL : PySem.W.nsIn K mainGlobals "LogError" = some (some (.ref cL))) (ncK : PySem.W.nsIn K mainGlobals "NoKeeper" = some (some (.ref cK))) (ncP : PySem.W.nsIn K mainGlobals "NoPlace" = some (some (.ref cP))) (ncR : PySem.W.nsIn K mainGlobals "NoRoom" = some (some (.ref cR))) (ncS : PySem.W.nsIn K mainGlobals "NoSchedule" = some (some (.ref cS))) (nV : PySem.W.nsIn K mainGlobals "ValueError" = some none)
  (xP : PySem.W.excIn K cN j8r "ValueError.__new__" = true) (xe : PySem.W.exmOne K (.ref cN) (.ref cN) = some true) (xga : PySem.W.findIn K (.ref cN) "__getattribute__" = some (some (.builtin "BaseException.__getattribute__"))) (xgn : PySem.W.findIn K (.ref cN) "__getattr__" = some none) (xcl : PySem.W.findIn K (.ref cN) "__class__" = some (some (.builtin "object.__class__")))
  (xgt : PySem.W.specialIn K (.builtin "object.__class__") "__get__" = some (some (.builtin "getset_descriptor.__get__"))) (xtk : PySem.W.takesIn K (.builtin "object.__class__") = some true) (xmo : PySem.W.mroIn K cN (.type "object") = some true) (xmb : PySem.W.mroIn K cN (.type "BaseException") = some true) (xci : PySem.W.clsIn K cN = some ccx)
  (xk1 : PySem.W.kitOne K (.ref cN) (.ref cL) = some true) (xk2 : PySem.W.kitOne K (.ref cN) (.type "ValueError") = some true) (xk3 : PySem.W.kitAny K (.ref cN) [Value.ref cK, Value.ref cP, Value.ref cR, Value.ref cS] = some false)
  (z0 : PySem.W.nsIn K mainGlobals "isinstance" = some none) (z1 : PySem.W.nsIn K mainGlobals "int" = some none) (z2 : PySem.W.nsIn K mainGlobals "bool" = some none) (z3 : PySem.W.nsIn K mainGlobals "str" = some none) (z4 : PySem.W.nsIn K mainGlobals "tuple" = some none) (z5 : PySem.W.nsIn K mainGlobals "list" = some none) (z6 : PySem.W.nsIn K mainGlobals "all" = some none) (z7 : PySem.W.nsIn K mainGlobals "zip" = some none) (z8 : PySem.W.nsIn K mainGlobals "len" = some none) (z9 : PySem.W.nsIn K mainGlobals "range" = some none) (z10 : PySem.W.nsIn K mainGlobals "sorted" = some none) (z11 : PySem.W.nsIn K mainGlobals "enumerate" = some none) (z12 : PySem.W.nsIn K mainGlobals "max" = some none) (z13 : PySem.W.nsIn K mainGlobals "abs" = some none) :
  ∃ fd : FuncData, (∀ (s : Shared) (v : Value), BindsTo s fd ⟨[v], []⟩ [("_law_script", v)]) ∧ ∀ base : Heap, K.In base → base.Ns mainGlobals mg → FnOk l.prog w K mg base CX0 18 fa fd ["_law_script"] (z8p K) := by
 have e := hfa.symm.trans (PySem.W.mg_of X G aL)
 cases e
 have T : Txt mg := ⟨PySem.W.mg_none_of X G z0, PySem.W.mg_none_of X G z1, PySem.W.mg_none_of X G z2, PySem.W.mg_none_of X G z3, PySem.W.mg_none_of X G z4, PySem.W.mg_none_of X G z5, PySem.W.mg_none_of X G z6, PySem.W.mg_none_of X G z7, PySem.W.mg_none_of X G z8, PySem.W.mg_none_of X G z9⟩
 have Z : ExcG K mg cN cL cK cP cR cS := ⟨PySem.W.mg_of X G ncN, PySem.W.mg_of X G ncL, PySem.W.mg_of X G ncK, PySem.W.mg_of X G ncP, PySem.W.mg_of X G ncR, PySem.W.mg_of X G ncS, PySem.W.mg_none_of X G nV, xe, ⟨xga, xgn, xcl, xgt, xtk, xmo, xmb⟩, by rw [xci]; rfl, xk1, xk2, xk3⟩
 have Z0 : NoL K mg cN := ⟨PySem.W.mg_of X G ncN, xP⟩
 have hso := PySem.W.mg_none_of X G z10
 have hen := PySem.W.mg_none_of X G z11
 have hmx := PySem.W.mg_none_of X G z12
 have hab := PySem.W.mg_none_of X G z13
 obtain ⟨_, F0⟩ := d0.F
 have m0 := PySem.W.mg_of X G d0.a
 have b0 := bd "thing" F0 fun _ _ _ _ _ _ _ => rfl
 obtain ⟨_, F1⟩ := d1.F
 have m1 := PySem.W.mg_of X G d1.a
 have b1 := bd "thing" F1 fun _ _ _ _ _ _ _ => rfl
 obtain ⟨_, F2⟩ := d2.F
 have m2 := PySem.W.mg_of X G d2.a
 have b2 := bd "thing" F2 fun _ _ _ _ _ _ _ => rfl
 obtain ⟨_, F3⟩ := d3.F
 have m3 := PySem.W.mg_of X G d3.a
 have b3 := bd "thing" F3 fun _ _ _ _ _ _ _ => rfl
 obtain ⟨_, F4⟩ := d4.F
 have m4 := PySem.W.mg_of X G d4.a
 have b4 := bd "thing" F4 fun _ _ _ _ _ _ _ => rfl
 obtain ⟨_, F5⟩ := d5.F
 have m5 := PySem.W.mg_of X G d5.a
 have b5 := bd "thing" F5 fun _ _ _ _ _ _ _ => rfl
 obtain ⟨_, F6⟩ := d6.F
 have m6 := PySem.W.mg_of X G d6.a
 have b6 := bd "thing" F6 fun _ _ _ _ _ _ _ => rfl
 obtain ⟨_, F7⟩ := d7.F
 have m7 := PySem.W.mg_of X G d7.a
 have b7 := bd "parts" F7 fun _ _ _ _ _ _ _ => rfl
 obtain ⟨_, F8⟩ := d8.F
 have m8 := PySem.W.mg_of X G d8.a
 have b8 := bd2 "thing" "teller" F8 fun _ _ _ _ _ _ _ _ => rfl
 obtain ⟨_, F9⟩ := d9.F
 have m9 := PySem.W.mg_of X G d9.a
 have b9 := bd2 "thing" "tellers" F9 fun _ _ _ _ _ _ _ _ => rfl
 obtain ⟨_, F10⟩ := d10.F
 have m10 := PySem.W.mg_of X G d10.a
 have b10 := bd "thing" F10 fun _ _ _ _ _ _ _ => rfl
 obtain ⟨_, F11⟩ := d11.F
 have m11 := PySem.W.mg_of X G d11.a
 have b11 := bd2 "thing" "tellers" F11 fun _ _ _ _ _ _ _ _ => rfl
 obtain ⟨_, F12⟩ := d12.F
 have m12 := PySem.W.mg_of X G d12.a
 have b12 := bd "thing" F12 fun _ _ _ _ _ _ _ => rfl
 obtain ⟨_, F13⟩ := d13.F
 have m13 := PySem.W.mg_of X G d13.a
 have b13 := bd "thing" F13 fun _ _ _ _ _ _ _ => rfl
 obtain ⟨_, F14⟩ := d14.F
 have m14 := PySem.W.mg_of X G d14.a
 have b14 := bd "thing" F14 fun _ _ _ _ _ _ _ => rfl
 obtain ⟨_, F15⟩ := d15.F
 have m15 := PySem.W.mg_of X G d15.a
 have b15 := bd "thing" F15 fun _ _ _ _ _ _ _ => rfl
 obtain ⟨_, F16⟩ := d16.F
 have m16 := PySem.W.mg_of X G d16.a
 have b16 := bd "thing" F16 fun _ _ _ _ _ _ _ => rfl
 obtain ⟨_, F17⟩ := d17.F
 have m17 := PySem.W.mg_of X G d17.a
 have b17 := bd "thing" F17 fun _ _ _ _ _ _ _ => rfl
 obtain ⟨_, F18⟩ := d18.F
 have m18 := PySem.W.mg_of X G d18.a
 have b18 := bd "thing" F18 fun _ _ _ _ _ _ _ => rfl
 obtain ⟨_, F19⟩ := d19.F
 have m19 := PySem.W.mg_of X G d19.a
 have b19 := bd2 "thing" "teller" F19 fun _ _ _ _ _ _ _ _ => rfl
 obtain ⟨_, F20⟩ := d20.F
 have m20 := PySem.W.mg_of X G d20.a
 have b20 := bd "thing" F20 fun _ _ _ _ _ _ _ => rfl
 obtain ⟨_, F21⟩ := d21.F
 have m21 := PySem.W.mg_of X G d21.a
 have b21 := bd "thing" F21 fun _ _ _ _ _ _ _ => rfl
 obtain ⟨_, F22⟩ := d22.F
 have m22 := PySem.W.mg_of X G d22.a
 have b22 := bd "thing" F22 fun _ _ _ _ _ _ _ => rfl
 obtain ⟨_, F23⟩ := d23.F
 have m23 := PySem.W.mg_of X G d23.a
 have b23 := bd2 "place" "last" F23 fun _ _ _ _ _ _ _ _ => rfl
 obtain ⟨_, F24⟩ := d24.F
 have m24 := PySem.W.mg_of X G d24.a
 have b24 := bd "thing" F24 fun _ _ _ _ _ _ _ => rfl
 obtain ⟨_, F25⟩ := d25.F
 have m25 := PySem.W.mg_of X G d25.a
 have b25 := bd "thing" F25 fun _ _ _ _ _ _ _ => rfl
 obtain ⟨_, F26⟩ := d26.F
 have m26 := PySem.W.mg_of X G d26.a
 have b26 := bd "thing" F26 fun _ _ _ _ _ _ _ => rfl
 obtain ⟨_, F27⟩ := d27.F
 have m27 := PySem.W.mg_of X G d27.a
 have b27 := bd "number" F27 fun _ _ _ _ _ _ _ => rfl
 obtain ⟨_, F28⟩ := d28.F
 have m28 := PySem.W.mg_of X G d28.a
 have b28 := bd "name" F28 fun _ _ _ _ _ _ _ => rfl
 obtain ⟨_, F29⟩ := d29.F
 have m29 := PySem.W.mg_of X G d29.a
 have b29 := bd "truth" F29 fun _ _ _ _ _ _ _ => rfl
 obtain ⟨_, F30⟩ := d30.F
 have m30 := PySem.W.mg_of X G d30.a
 have b30 := bd "head" F30 fun _ _ _ _ _ _ _ => rfl
 obtain ⟨_, F31⟩ := d31.F
 have m31 := PySem.W.mg_of X G d31.a
 have b31 := bd2 "parts" "writers" F31 fun _ _ _ _ _ _ _ _ => rfl
 obtain ⟨_, F32⟩ := d32.F
 have m32 := PySem.W.mg_of X G d32.a
 have b32 := bd2 "parts" "writer" F32 fun _ _ _ _ _ _ _ _ => rfl
 obtain ⟨_, F33⟩ := d33.F
 have m33 := PySem.W.mg_of X G d33.a
 have b33 := bd "seats" F33 fun _ _ _ _ _ _ _ => rfl
 obtain ⟨_, F34⟩ := d34.F
 have m34 := PySem.W.mg_of X G d34.a
 have b34 := bd "deed" F34 fun _ _ _ _ _ _ _ => rfl
 obtain ⟨_, F35⟩ := d35.F
 have m35 := PySem.W.mg_of X G d35.a
 have b35 := bd "what" F35 fun _ _ _ _ _ _ _ => rfl
 obtain ⟨_, F36⟩ := d36.F
 have m36 := PySem.W.mg_of X G d36.a
 have b36 := bd "entry" F36 fun _ _ _ _ _ _ _ => rfl
 obtain ⟨_, F37⟩ := d37.F
 have m37 := PySem.W.mg_of X G d37.a
 have b37 := bd "entries" F37 fun _ _ _ _ _ _ _ => rfl
 obtain ⟨_, F38⟩ := d38.F
 have m38 := PySem.W.mg_of X G d38.a
 have b38 := bd "pair" F38 fun _ _ _ _ _ _ _ => rfl
 obtain ⟨_, F39⟩ := d39.F
 have m39 := PySem.W.mg_of X G d39.a
 have b39 := bd "triple" F39 fun _ _ _ _ _ _ _ => rfl
 obtain ⟨_, F40⟩ := d40.F
 have m40 := PySem.W.mg_of X G d40.a
 have b40 := bd "store" F40 fun _ _ _ _ _ _ _ => rfl
 obtain ⟨_, F41⟩ := d41.F
 have m41 := PySem.W.mg_of X G d41.a
 have b41 := bd "pack" F41 fun _ _ _ _ _ _ _ => rfl
 obtain ⟨_, F42⟩ := d42.F
 have m42 := PySem.W.mg_of X G d42.a
 have b42 := bd "parts" F42 fun _ _ _ _ _ _ _ => rfl
 obtain ⟨_, F43⟩ := d43.F
 have m43 := PySem.W.mg_of X G d43.a
 have b43 := bd "letter" F43 fun _ _ _ _ _ _ _ => rfl
 obtain ⟨_, F44⟩ := d44.F
 have m44 := PySem.W.mg_of X G d44.a
 have b44 := bd2 "_law_script" "_law_k" F44 fun _ _ _ _ _ _ _ _ => rfl
 obtain ⟨_, F45⟩ := d45.F
 have m45 := PySem.W.mg_of X G d45.a
 have b45 := bd2 "_law_script" "_law_k" F45 fun _ _ _ _ _ _ _ _ => rfl
 obtain ⟨_, F46⟩ := d46.F
 have m46 := PySem.W.mg_of X G d46.a
 have b46 := bd "_law_number" F46 fun _ _ _ _ _ _ _ => rfl
 obtain ⟨_, F47⟩ := d47.F
 have m47 := PySem.W.mg_of X G d47.a
 have b47 := bd2 "_law_number" "_law_least" F47 fun _ _ _ _ _ _ _ _ => rfl
 obtain ⟨_, F48⟩ := d48.F
 have m48 := PySem.W.mg_of X G d48.a
 have b48 := bd "_law_number" F48 fun _ _ _ _ _ _ _ => rfl
 obtain ⟨_, F49⟩ := d49.F
 have m49 := PySem.W.mg_of X G d49.a
 have b49 := bd2 "_law_script" "_law_at" F49 fun _ _ _ _ _ _ _ _ => rfl
 obtain ⟨_, F50⟩ := d50.F
 have m50 := PySem.W.mg_of X G d50.a
 have b50 := bd "_law_number" F50 fun _ _ _ _ _ _ _ => rfl
 obtain ⟨_, F51⟩ := d51.F
 have m51 := PySem.W.mg_of X G d51.a
 have b51 := bd2 "_law_script" "_law_at" F51 fun _ _ _ _ _ _ _ _ => rfl
 obtain ⟨_, F52⟩ := d52.F
 have m52 := PySem.W.mg_of X G d52.a
 have b52 := bd2 "_law_script" "_law_at" F52 fun _ _ _ _ _ _ _ _ => rfl
 obtain ⟨_, F53⟩ := d53.F
 have m53 := PySem.W.mg_of X G d53.a
 have b53 := bd2 "_law_script" "_law_at" F53 fun _ _ _ _ _ _ _ _ => rfl
 obtain ⟨_, F54⟩ := d54.F
 have m54 := PySem.W.mg_of X G d54.a
 have b54 := bd2 "_law_script" "_law_at" F54 fun _ _ _ _ _ _ _ _ => rfl
 obtain ⟨_, F55⟩ := d55.F
 have m55 := PySem.W.mg_of X G d55.a
 have b55 := bd "_law_number" F55 fun _ _ _ _ _ _ _ => rfl
 obtain ⟨_, F56⟩ := d56.F
 have m56 := PySem.W.mg_of X G d56.a
 have b56 := bd2 "_law_script" "_law_at" F56 fun _ _ _ _ _ _ _ _ => rfl
 obtain ⟨_, F57⟩ := d57.F
 have m57 := PySem.W.mg_of X G d57.a
 have b57 := F57.binds (ps := ["_law_kind_here", "_law_script", "_law_at"]) fun _ _ _ _ _ _ us hl => match us, hl with | [_, _, _], _ => rfl
 obtain ⟨_, F58⟩ := d58.F
 have m58 := PySem.W.mg_of X G d58.a
 have b58 := bd2 "_law_script" "_law_at" F58 fun _ _ _ _ _ _ _ _ => rfl
 obtain ⟨_, F59⟩ := d59.F
 have m59 := PySem.W.mg_of X G d59.a
 have b59 := bd2 "_law_thing" "_law_least" F59 fun _ _ _ _ _ _ _ _ => rfl
 obtain ⟨_, F60⟩ := d60.F
 have m60 := PySem.W.mg_of X G d60.a
 have b60 := bd "_law_thing" F60 fun _ _ _ _ _ _ _ => rfl
 obtain ⟨_, F61⟩ := d61.F
 have m61 := PySem.W.mg_of X G d61.a
 have b61 := bd2 "_law_thing" "_law_size" F61 fun _ _ _ _ _ _ _ _ => rfl
 obtain ⟨_, F62⟩ := d62.F
 have m62 := PySem.W.mg_of X G d62.a
 have b62 := bd "_law_thing" F62 fun _ _ _ _ _ _ _ => rfl
 obtain ⟨_, F63⟩ := d63.F
 have m63 := PySem.W.mg_of X G d63.a
 have b63 := bd "_law_thing" F63 fun _ _ _ _ _ _ _ => rfl
 obtain ⟨_, F64⟩ := d64.F
 have m64 := PySem.W.mg_of X G d64.a
 have b64 := bd "_law_thing" F64 fun _ _ _ _ _ _ _ => rfl
 obtain ⟨_, F65⟩ := d65.F
 have m65 := PySem.W.mg_of X G d65.a
 have b65 := bd "_law_thing" F65 fun _ _ _ _ _ _ _ => rfl
 obtain ⟨_, F66⟩ := d66.F
 have m66 := PySem.W.mg_of X G d66.a
 have b66 := bd "_law_thing" F66 fun _ _ _ _ _ _ _ => rfl
 obtain ⟨_, F67⟩ := d67.F
 have m67 := PySem.W.mg_of X G d67.a
 have b67 := bd "_law_thing" F67 fun _ _ _ _ _ _ _ => rfl
 obtain ⟨_, F68⟩ := d68.F
 have m68 := PySem.W.mg_of X G d68.a
 have b68 := bd "_law_thing" F68 fun _ _ _ _ _ _ _ => rfl
 obtain ⟨_, F69⟩ := d69.F
 have m69 := PySem.W.mg_of X G d69.a
 have b69 := bd2 "_law_thing" "_law_size" F69 fun _ _ _ _ _ _ _ _ => rfl
 obtain ⟨_, F70⟩ := d70.F
 have m70 := PySem.W.mg_of X G d70.a
 have b70 := bd "_law_thing" F70 fun _ _ _ _ _ _ _ => rfl
 obtain ⟨_, F71⟩ := d71.F
 have m71 := PySem.W.mg_of X G d71.a
 have b71 := bd2 "_law_place" "_law_last" F71 fun _ _ _ _ _ _ _ _ => rfl
 obtain ⟨_, F72⟩ := d72.F
 have m72 := PySem.W.mg_of X G d72.a
 have b72 := bd "_law_thing" F72 fun _ _ _ _ _ _ _ => rfl
 obtain ⟨_, F73⟩ := d73.F
 have m73 := PySem.W.mg_of X G d73.a
 have b73 := bd "_law_thing" F73 fun _ _ _ _ _ _ _ => rfl
 obtain ⟨_, F74⟩ := d74.F
 have m74 := PySem.W.mg_of X G d74.a
 have b74 := bd "_law_thing" F74 fun _ _ _ _ _ _ _ => rfl
 obtain ⟨_, F75⟩ := d75.F
 have m75 := PySem.W.mg_of X G d75.a
 have b75 := bd "_law_number" F75 fun _ _ _ _ _ _ _ => rfl
 obtain ⟨_, F76⟩ := d76.F
 have m76 := PySem.W.mg_of X G d76.a
 have b76 := bd "_law_deed_here" F76 fun _ _ _ _ _ _ _ => rfl
 obtain ⟨_, F77⟩ := d77.F
 have m77 := PySem.W.mg_of X G d77.a
 have b77 := bd "_law_seats_here" F77 fun _ _ _ _ _ _ _ => rfl
 obtain ⟨_, F78⟩ := d78.F
 have m78 := PySem.W.mg_of X G d78.a
 have b78 := bd "_law_entry_here" F78 fun _ _ _ _ _ _ _ => rfl
 obtain ⟨_, F79⟩ := d79.F
 have m79 := PySem.W.mg_of X G d79.a
 have b79 := bd "_law_store_here" F79 fun _ _ _ _ _ _ _ => rfl
 obtain ⟨_, F80⟩ := d80.F
 have m80 := PySem.W.mg_of X G d80.a
 have b80 := bd "_law_letter_here" F80 fun _ _ _ _ _ _ _ => rfl
 obtain ⟨_, F81⟩ := d81.F
 have m81 := PySem.W.mg_of X G d81.a
 have b81 := bd "_law_letter_here" F81 fun _ _ _ _ _ _ _ => rfl
 obtain ⟨_, F82⟩ := d82.F
 have m82 := PySem.W.mg_of X G d82.a
 have b82 := bd2 "_law_thing" "_law_number" F82 fun _ _ _ _ _ _ _ _ => rfl
 obtain ⟨_, F83⟩ := d83.F
 have m83 := PySem.W.mg_of X G d83.a
 have b83 := bd "_law_thing" F83 fun _ _ _ _ _ _ _ => rfl
 have F84 := j5v (st := j0n) lL cL' kL
 refine ⟨PySem.W.fnOf "law" "law" (q8p j0n) (q6l j0n) (q0f j0n) .none kVL dcL pmL anL cdL ctL, fun s v => .of_eq rfl, fun base _ _ => ?_⟩
 have CW := cal (P := l.prog) (w := w) (base := base) F0 m0 b0 (z8o F0 T)
 have CF0 := cal (P := l.prog) (w := w) (base := base) F2 m2 b2 (x4v F2 T CW)
 have CF1 := cal (P := l.prog) (w := w) (base := base) F3 m3 b3 (x9t F3 T CW)
 have CK := cal (P := l.prog) (w := w) (base := base) F4 m4 b4 (z5d F4 T CW)
 have CN := cal (P := l.prog) (w := w) (base := base) F6 m6 b6 (j4h F6 T)
 have CI := cal (P := l.prog) (w := w) (base := base) F7 m7 b7 (z5j F7 T)
 have CI2 := cal (P := l.prog) (w := w) (base := base) F7 m7 b7 (z4b F7 T)
 have CS := cal (P := l.prog) (w := w) (base := base) F13 m13 b13 (z9o F13 T CK (fun g gd hg kp b => cal F8 m8 b8 (z1u F8 T hg kp b)) CI)
 have CFi1 : Cal l.prog w K mg base "fits" 2 ["thing", "tellers"] (q6q l.prog w K mg base 1) := cal F9 m9 b9 (x1p F9 T)
 have CPr := cal (P := l.prog) (w := w) (base := base) F17 m17 b17 (j4e F17 CN CW (by decide) (by decide) CFi1)
 have CFi2 : Cal l.prog w K mg base "fits" 3 ["thing", "tellers"] (q6q l.prog w K mg base 2) := cal F9 m9 b9 (x1p F9 T)
 have CTr := cal (P := l.prog) (w := w) (base := base) F18 m18 b18 (z7v F18 CN CF1 CW (by decide) (by decide) (by decide) CFi2)
 have CNs := cal (P := l.prog) (w := w) (base := base) F20 m20 b20 (z9e F20 CPr (fun g gd hg kp b => cal F19 m19 b19 (z2d F19 j0w (cal F8 m8 b8 (z1u F8 T hg kp b)) CI2)))
 have CCs := cal (P := l.prog) (w := w) (base := base) F21 m21 b21 (z3x F21 CTr (fun g gd hg kp b => cal F19 m19 b19 (z2d F19 z2u (cal F8 m8 b8 (z1u F8 T hg kp b)) CI2)))
 have CFi7 : Cal l.prog w K mg base "fits" 8 ["thing", "tellers"] (q6q l.prog w K mg base 7) := cal F9 m9 b9 (x1p F9 T)
 have CSt := cal (P := l.prog) (w := w) (base := base) F22 m22 b22 (j1j F22 CNs CCs (by decide) (by decide) CFi7)
 have CEn := cal (P := l.prog) (w := w) (base := base) F23 m23 b23 (j6o F23)
 have CFi9 : Cal l.prog w K mg base "fits" 10 ["thing", "tellers"] (q6q l.prog w K mg base 9) := cal F9 m9 b9 (x1p F9 T)
 have CPk := cal (P := l.prog) (w := w) (base := base) F24 m24 b24 (j3j F24 CF0 CS CSt (by decide) (by decide) (by decide) CFi9 CEn)
 have CTt := cal (P := l.prog) (w := w) (base := base) F1 m1 b1 (z8u F1 T)
 have CHd := cal (P := l.prog) (w := w) (base := base) F5 m5 b5 (j4z F5 CK)
 have CFW := cal (P := l.prog) (w := w) (base := base) F10 m10 b10 (x6u F10 T)
 have CFb1 : Cal l.prog w K mg base "fits_behind_word" 3 ["thing", "tellers"] (z0d l.prog w K mg base 1) := cal F11 m11 b11 (z4o F11 T CFi1)
 have TD : TabOk l.prog w K mg base "DEED_TELLERS" 1 (x8y q2y) := ⟨⟨u0, _, _, PySem.W.mg_of X G da0, dl0, ds0, .cons (gs := [V.ref f6, V.ref f0]) (tq0_0.sq rfl (.cons rfl (.cons rfl (.nil)))) (.cons (CN.tl m6 (by decide)) (.cons (CW.tl m0 (by decide)) (.nil))) (.cons (gs := [V.ref f6, V.ref f0]) (tq0_1.sq rfl (.cons rfl (.cons rfl (.nil)))) (.cons (CN.tl m6 (by decide)) (.cons (CW.tl m0 (by decide)) (.nil))) (.cons (gs := [V.ref f6]) (tq0_2.sq rfl (.cons rfl (.nil))) (.cons (CN.tl m6 (by decide)) (.nil)) (.nil)))⟩, by rfl, fun q hq => by
  simp only [x8y, List.mem_cons, List.not_mem_nil, or_false] at hq
  rcases hq with rfl | rfl | rfl <;> exact Nat.le_of_ble_eq_true rfl⟩
 have CD := cal (P := l.prog) (w := w) (base := base) F12 m12 b12 (j3n F12 TD CFW CFb1)
 have CFi4 : Cal l.prog w K mg base "fits" 5 ["thing", "tellers"] (q6q l.prog w K mg base 4) := cal F9 m9 b9 (x1p F9 T)
 have CFb4 : Cal l.prog w K mg base "fits_behind_word" 6 ["thing", "tellers"] (z0d l.prog w K mg base 4) := cal F11 m11 b11 (z4o F11 T CFi4)
 have TW : TabOk l.prog w K mg base "WHAT_TELLERS" 4 (x7y) := ⟨⟨u1, _, _, PySem.W.mg_of X G da1, dl1, ds1, .cons (gs := []) (tq1_0.sq rfl (.nil)) (.nil) (.cons (gs := [V.ref f6, V.ref f3, V.ref f12]) (tq1_1.sq rfl (.cons rfl (.cons rfl (.cons rfl (.nil))))) (.cons (CN.tl m6 (by decide)) (.cons (CF1.tl m3 (by decide)) (.cons (CD.tl m12 (by decide)) (.nil)))) (.cons (gs := [V.ref f13]) (tq1_2.sq rfl (.cons rfl (.nil))) (.cons (CS.tl m13 (by decide)) (.nil)) (.nil)))⟩, by rfl, fun q hq => by
  simp only [x7y, List.mem_cons, List.not_mem_nil, or_false] at hq
  rcases hq with rfl | rfl | rfl <;> exact Nat.le_of_ble_eq_true rfl⟩
 have CWh := cal (P := l.prog) (w := w) (base := base) F14 m14 b14 (j2u F14 TW CFW CFb4)
 have CE := cal (P := l.prog) (w := w) (base := base) F15 m15 b15 (j1c F15 CF1 CWh (by decide) (by decide) CFi7)
 have CEs := cal (P := l.prog) (w := w) (base := base) F16 m16 b16 (z3s F16 T CE (fun g gd hg kp b => cal F8 m8 b8 (z1u F8 T hg kp b)))
 have CSe := cal (P := l.prog) (w := w) (base := base) F25 m25 b25 (j2m F25 CPk)
 have CFi12 : Cal l.prog w K mg base "fits" 13 ["thing", "tellers"] (q6q l.prog w K mg base 12) := cal F9 m9 b9 (x1p F9 T)
 have CFb12 : Cal l.prog w K mg base "fits_behind_word" 14 ["thing", "tellers"] (z0d l.prog w K mg base 12) := cal F11 m11 b11 (z4o F11 T CFi12)
 have TL : TabOk l.prog w K mg base "LETTER_TELLERS" 12 (q2q) := ⟨⟨u2, _, _, PySem.W.mg_of X G da2, dl2, ds2, .cons (gs := [V.ref f4, V.ref f4, V.ref f3, V.ref f2, V.ref f2]) (tq2_0.sq rfl (.cons rfl (.cons rfl (.cons rfl (.cons rfl (.cons rfl (.nil))))))) (.cons (CK.tl m4 (by decide)) (.cons (CK.tl m4 (by decide)) (.cons (CF1.tl m3 (by decide)) (.cons (CF0.tl m2 (by decide)) (.cons (CF0.tl m2 (by decide)) (.nil)))))) (.cons (gs := [V.ref f4, V.ref f4, V.ref f3, V.ref f1]) (tq2_1.sq rfl (.cons rfl (.cons rfl (.cons rfl (.cons rfl (.nil)))))) (.cons (CK.tl m4 (by decide)) (.cons (CK.tl m4 (by decide)) (.cons (CF1.tl m3 (by decide)) (.cons (CTt.tl m1 (by decide)) (.nil))))) (.cons (gs := [V.ref f4, V.ref f4, V.ref f3, V.ref f2, V.ref f2, V.ref f16, V.ref f2]) (tq2_2.sq rfl (.cons rfl (.cons rfl (.cons rfl (.cons rfl (.cons rfl (.cons rfl (.cons rfl (.nil))))))))) (.cons (CK.tl m4 (by decide)) (.cons (CK.tl m4 (by decide)) (.cons (CF1.tl m3 (by decide)) (.cons (CF0.tl m2 (by decide)) (.cons (CF0.tl m2 (by decide)) (.cons (CEs.tl m16 (by decide)) (.cons (CF0.tl m2 (by decide)) (.nil)))))))) (.cons (gs := [V.ref f4, V.ref f4, V.ref f3, V.ref f25]) (tq2_3.sq rfl (.cons rfl (.cons rfl (.cons rfl (.cons rfl (.nil)))))) (.cons (CK.tl m4 (by decide)) (.cons (CK.tl m4 (by decide)) (.cons (CF1.tl m3 (by decide)) (.cons (CSe.tl m25 (by decide)) (.nil))))) (.cons (gs := [V.ref f4, V.ref f4, V.ref f3, V.ref f1, V.ref f2]) (tq2_4.sq rfl (.cons rfl (.cons rfl (.cons rfl (.cons rfl (.cons rfl (.nil))))))) (.cons (CK.tl m4 (by decide)) (.cons (CK.tl m4 (by decide)) (.cons (CF1.tl m3 (by decide)) (.cons (CTt.tl m1 (by decide)) (.cons (CF0.tl m2 (by decide)) (.nil)))))) (.cons (gs := [V.ref f6, V.ref f4, V.ref f3, V.ref f12]) (tq2_5.sq rfl (.cons rfl (.cons rfl (.cons rfl (.cons rfl (.nil)))))) (.cons (CN.tl m6 (by decide)) (.cons (CK.tl m4 (by decide)) (.cons (CF1.tl m3 (by decide)) (.cons (CD.tl m12 (by decide)) (.nil))))) (.cons (gs := [V.ref f4, V.ref f6, V.ref f3, V.ref f0]) (tq2_6.sq rfl (.cons rfl (.cons rfl (.cons rfl (.cons rfl (.nil)))))) (.cons (CK.tl m4 (by decide)) (.cons (CN.tl m6 (by decide)) (.cons (CF1.tl m3 (by decide)) (.cons (CW.tl m0 (by decide)) (.nil))))) (.cons (gs := [V.ref f4, V.ref f6, V.ref f3, V.ref f5]) (tq2_7.sq rfl (.cons rfl (.cons rfl (.cons rfl (.cons rfl (.nil)))))) (.cons (CK.tl m4 (by decide)) (.cons (CN.tl m6 (by decide)) (.cons (CF1.tl m3 (by decide)) (.cons (CHd.tl m5 (by decide)) (.nil))))) (.nil))))))))⟩, by rfl, fun q hq => by
  simp only [q2q, List.mem_cons, List.not_mem_nil, or_false] at hq
  rcases hq with rfl | rfl | rfl | rfl | rfl | rfl | rfl | rfl <;> exact Nat.le_of_ble_eq_true rfl⟩
 have CLe := cal (P := l.prog) (w := w) (base := base) F26 m26 b26 (z7e F26 TL CFW CFb12 CEn)
 have CC := cal (P := l.prog) (w := w) (base := base) F44 m44 b44 (j4k F44 T)
 have CM := cal (P := l.prog) (w := w) (base := base) F45 m45 b45 (j0i F45 CC)
 have CNB := cal (P := l.prog) (w := w) (base := base) F46 m46 b46 (z4e F46 T)
 have CSB := cal (P := l.prog) (w := w) (base := base) F50 m50 b50 (Kz.z0s F50 T)
 have CNu := cal (P := l.prog) (w := w) (base := base) F47 m47 b47 (Kz.x7g F47)
 have CVa := cal (P := l.prog) (w := w) (base := base) F48 m48 b48 (Kz.x9p F48 CNu)
 have CNsB := cal (P := l.prog) (w := w) (base := base) F53 m53 b53 (z0u F53 T hso CM CNB)
 have CDB := cal (P := l.prog) (w := w) (base := base) F49 m49 b49 (Kz.z3g F49 CM CNB CVa)
 have CWB := cal (P := l.prog) (w := w) (base := base) F51 m51 b51 (Kz.z3k F51 CM CNB CSB CNu CDB)
 have CEB := cal (P := l.prog) (w := w) (base := base) F52 m52 b52 (Kz.x9w F52 CM CNu CWB)
 have CStB := cal (P := l.prog) (w := w) (base := base) F54 m54 b54 (Kz.z0g F54 T hen CM CNsB CVa CNu)
 have CSdB := cal (P := l.prog) (w := w) (base := base) F55 m55 b55 (Kz.z0t F55 CNu)
 have CPkB := cal (P := l.prog) (w := w) (base := base) F56 m56 b56 (Kz.z3f F56 CM CSdB CSB CStB)
 have CBB := cal (P := l.prog) (w := w) (base := base) F57 m57 b57 (Kz.x6r F57 T hmx CM CNu CSdB CPkB CEB)
 have CLB := cal (P := l.prog) (w := w) (base := base) F58 m58 b58 (Kz.x9d F58 CM CNu CNB CVa CDB CBB)
 have CF := cal (P := l.prog) (w := w) (base := base) F59 m59 b59 (j2v F59 T)
 have CNL := cal (P := l.prog) (w := w) (base := base) F63 m63 b63 (j0j F63 T)
 have CSL := cal (P := l.prog) (w := w) (base := base) F66 m66 b66 (z5h F66 T CF)
 have CA := cal (P := l.prog) (w := w) (base := base) F60 m60 b60 (j6s F60 T)
 have CZ := cal (P := l.prog) (w := w) (base := base) F61 m61 b61 (j0f F61 T)
 have CRs := cal (P := l.prog) (w := w) (base := base) F69 m69 b69 (z9h F69 T CF CA CZ CNL)
 have CStL := cal (P := l.prog) (w := w) (base := base) F70 m70 b70 (z6y F70 CZ CRs)
 have CSdL := cal (P := l.prog) (w := w) (base := base) F71 m71 b71 (z4k F71 CF)
 have CPkL := cal (P := l.prog) (w := w) (base := base) F72 m72 b72 (z8z F72 CZ CSdL CSL CStL)
 have CKi := cal (P := l.prog) (w := w) (base := base) F64 m64 b64 (j2s F64 T)
 have CDL := cal (P := l.prog) (w := w) (base := base) F65 m65 b65 (j0t F65 T CKi CNL CA)
 have CWL := cal (P := l.prog) (w := w) (base := base) F67 m67 b67 (j0e F67 T CKi CNL CF CDL CSL)
 have CEL := cal (P := l.prog) (w := w) (base := base) F68 m68 b68 (z4z F68 CZ CF CWL)
 have CKL := cal (P := l.prog) (w := w) (base := base) F62 m62 b62 (z2v F62 CF)
 have CBt := cal (P := l.prog) (w := w) (base := base) F73 m73 b73 (z2o F73 T CKi CF CKL CSdL CPkL CEL)
 have CLL := cal (P := l.prog) (w := w) (base := base) F74 m74 b74 (z2m F74 T CKi CBt CF CKL CNL CA CDL)
 have CNw := x4n (P := l.prog) (w := w) (base := base) (sp := spW cN whole q2o) F27 m27 b27 (x2l Z0 F27 T hab)
 have CAw := x4n (P := l.prog) (w := w) (base := base) (sp := spW cN q2y x8q) F28 m28 b28 (x6d F28)
 have CTw := x4n (P := l.prog) (w := w) (base := base) (sp := spW cN q2t j4q) F29 m29 b29 (x4o F29)
 have CHw := x4n (P := l.prog) (w := w) (base := base) (sp := spW cN q7y j5d) F30 m30 b30 (x6y F30 CNw)
 have CP1 : CalE l.prog w K mg base "words_of_parts" 2 ["parts", "writers"] (q5l l.prog w K mg base cN 1) := x4n F31 m31 b31 (q3p F31 T)
 have CP3 : CalE l.prog w K mg base "words_of_parts" 4 ["parts", "writers"] (q5l l.prog w K mg base cN 3) := x4n F31 m31 b31 (q3p F31 T)
 have CP5 : CalE l.prog w K mg base "words_of_parts" 6 ["parts", "writers"] (q5l l.prog w K mg base cN 5) := x4n F31 m31 b31 (q3p F31 T)
 have CP14 : CalE l.prog w K mg base "words_of_parts" 15 ["parts", "writers"] (q5l l.prog w K mg base cN 14) := x4n F31 m31 b31 (q3p F31 T)
 have CC1 : CalE l.prog w K mg base "counted_words" 2 ["parts", "writer"] (x9k l.prog w K mg base cN 1) := x4n F32 m32 b32 (q5b (by decide) F32 T CNw)
 have CC3 : CalE l.prog w K mg base "counted_words" 4 ["parts", "writer"] (x9k l.prog w K mg base cN 3) := x4n F32 m32 b32 (q5b (by decide) F32 T CNw)
 have CC7 : CalE l.prog w K mg base "counted_words" 8 ["parts", "writer"] (x9k l.prog w K mg base cN 7) := x4n F32 m32 b32 (q5b (by decide) F32 T CNw)
 have CSw := x4n (P := l.prog) (w := w) (base := base) (sp := spW cN q3m q3u) F33 m33 b33 (x4q F33 CNw (by decide) CC1)
 have WD : WTab l.prog w K mg base cN "DEED_WRITERS" 1 (x8y q2y) x7k := ⟨u3, _, _, PySem.W.mg_of X G da3, dl3, ⟨⟨_, _, rfl, rfl⟩, ⟨⟨_, _, rfl, rfl⟩, ⟨⟨_, _, rfl, rfl⟩, trivial⟩⟩⟩, fun x ps hx => by
  unfold x8y at hx
  rw [List.lookup_cons] at hx
  by_cases g0 : x = "set"
  ·subst g0
   cases hx
   exact ⟨_, q3_0, [V.ref f28, V.ref f27], rfl, rfl, tq3_0.sq rfl (.cons rfl (.cons rfl (.nil))), .cons (q1t CAw m28 (fun _ h => h) (by decide)) (.cons (q1t CNw m27 (fun _ h => h) (by decide)) (.nil))⟩
  ·rw [show (x == "set") = false from by rw [beq_eq_false_iff_ne]; exact g0, List.lookup_cons] at hx
   by_cases g1 : x = "add"
   ·subst g1
    cases hx
    exact ⟨_, q3_1, [V.ref f28, V.ref f27], rfl, rfl, tq3_1.sq rfl (.cons rfl (.cons rfl (.nil))), .cons (q1t CAw m28 (fun _ h => h) (by decide)) (.cons (q1t CNw m27 (fun _ h => h) (by decide)) (.nil))⟩
   ·rw [show (x == "add") = false from by rw [beq_eq_false_iff_ne]; exact g1, List.lookup_cons] at hx
    by_cases g2 : x = "get"
    ·subst g2
     cases hx
     exact ⟨_, q3_2, [V.ref f28], rfl, rfl, tq3_2.sq rfl (.cons rfl (.nil)), .cons (q1t CAw m28 (fun _ h => h) (by decide)) (.nil)⟩
    ·rw [show (x == "get") = false from by rw [beq_eq_false_iff_ne]; exact g2] at hx
     cases hx⟩
 have CDw := x4n (P := l.prog) (w := w) (base := base) (sp := spW cN q7z q5z) F34 m34 b34 (x6w F34 WD CP1)
 have WW : WTab l.prog w K mg base cN "WHAT_WRITERS" 3 x7y x9f := ⟨u4, _, _, PySem.W.mg_of X G da4, dl4, ⟨⟨_, _, rfl, rfl⟩, ⟨⟨_, _, rfl, rfl⟩, ⟨⟨_, _, rfl, rfl⟩, trivial⟩⟩⟩, fun x ps hx => by
  unfold x7y at hx
  rw [List.lookup_cons] at hx
  by_cases g0 : x = "open"
  ·subst g0
   cases hx
   exact ⟨_, q4_0, [], rfl, rfl, tq4_0.sq rfl (.nil), .nil⟩
  ·rw [show (x == "open") = false from by rw [beq_eq_false_iff_ne]; exact g0, List.lookup_cons] at hx
   by_cases g1 : x = "wish"
   ·subst g1
    cases hx
    exact ⟨_, q4_1, [V.ref f28, V.ref f27, V.ref f34], rfl, rfl, tq4_1.sq rfl (.cons rfl (.cons rfl (.cons rfl (.nil)))), .cons (q1t CAw m28 (fun _ h => h) (by decide)) (.cons (q1t CNw m27 (fun _ => q1l) (by decide)) (.cons (q1t CDw m34 (fun _ h => h) (by decide)) (.nil)))⟩
   ·rw [show (x == "wish") = false from by rw [beq_eq_false_iff_ne]; exact g1, List.lookup_cons] at hx
    by_cases g2 : x = "seats"
    ·subst g2
     cases hx
     exact ⟨_, q4_2, [V.ref f33], rfl, rfl, tq4_2.sq rfl (.cons rfl (.nil)), .cons (q1t CSw m33 (fun _ h => h) (by decide)) (.nil)⟩
    ·rw [show (x == "seats") = false from by rw [beq_eq_false_iff_ne]; exact g2] at hx
     cases hx⟩
 have CWw := x4n (P := l.prog) (w := w) (base := base) (sp := spW cN x0z z2w) F35 m35 b35 (x6i F35 WW CP3)
 have CEw := x4n (P := l.prog) (w := w) (base := base) (sp := spW cN q3z q3j) F36 m36 b36 (x4w F36 CNw (by decide) CWw (by decide) CP5)
 have CEsw := x4n (P := l.prog) (w := w) (base := base) (sp := spW cN q2f q6y) F37 m37 b37 (x1x F37 CEw (by decide) CC7)
 have CPrw := x4n (P := l.prog) (w := w) (base := base) (sp := spW cN x0f q7c) F38 m38 b38 (x0h F38 CAw (by decide) CNw (by decide) CP1)
 have CTrw := x4n (P := l.prog) (w := w) (base := base) (sp := spW cN q3w q5n) F39 m39 b39 (q7x F39 CAw (by decide) CNw (by decide) CNw (by decide) CP1)
 have CStw := x4n (P := l.prog) (w := w) (base := base) (sp := spW cN q4g q7v) F40 m40 b40 (x4r F40 CPrw (by decide) CTrw (by decide) CC3)
 have CPkw := x4n (P := l.prog) (w := w) (base := base) (sp := spW cN q8k z2s) F41 m41 b41 (x5s F41 CNw (by decide) CNw (by decide) CSw (by decide) CStw (by decide) CP5)
 have WL : WTab l.prog w K mg base cN "LETTER_WRITERS" 14 j3x q9g := ⟨u5, _, _, PySem.W.mg_of X G da5, dl5, ⟨⟨_, _, rfl, rfl⟩, ⟨⟨_, _, rfl, rfl⟩, ⟨⟨_, _, rfl, rfl⟩, ⟨⟨_, _, rfl, rfl⟩, ⟨⟨_, _, rfl, rfl⟩, ⟨⟨_, _, rfl, rfl⟩, ⟨⟨_, _, rfl, rfl⟩, ⟨⟨_, _, rfl, rfl⟩, trivial⟩⟩⟩⟩⟩⟩⟩⟩, fun x ps hx => by
  unfold j3x at hx
  rw [List.lookup_cons] at hx
  by_cases g0 : x = "ask"
  ·subst g0
   cases hx
   exact ⟨_, q5_0, [V.ref f27, V.ref f27, V.ref f27, V.ref f27, V.ref f27], rfl, rfl, tq5_0.sq rfl (.cons rfl (.cons rfl (.cons rfl (.cons rfl (.cons rfl (.nil)))))), .cons (q1t CNw m27 (fun _ h => h) (by decide)) (.cons (q1t CNw m27 (fun _ h => h) (by decide)) (.cons (q1t CNw m27 (fun _ h => h) (by decide)) (.cons (q1t CNw m27 (fun _ h => h) (by decide)) (.cons (q1t CNw m27 (fun _ h => h) (by decide)) (.nil)))))⟩
  ·rw [show (x == "ask") = false from by rw [beq_eq_false_iff_ne]; exact g0, List.lookup_cons] at hx
   by_cases g1 : x = "voice"
   ·subst g1
    cases hx
    exact ⟨_, q5_1, [V.ref f27, V.ref f27, V.ref f27, V.ref f29], rfl, rfl, tq5_1.sq rfl (.cons rfl (.cons rfl (.cons rfl (.cons rfl (.nil))))), .cons (q1t CNw m27 (fun _ h => h) (by decide)) (.cons (q1t CNw m27 (fun _ h => h) (by decide)) (.cons (q1t CNw m27 (fun _ h => h) (by decide)) (.cons (q1t CTw m29 (fun _ h => h) (by decide)) (.nil))))⟩
   ·rw [show (x == "voice") = false from by rw [beq_eq_false_iff_ne]; exact g1, List.lookup_cons] at hx
    by_cases g2 : x = "hand"
    ·subst g2
     cases hx
     exact ⟨_, q5_2, [V.ref f27, V.ref f27, V.ref f27, V.ref f27, V.ref f27, V.ref f27, V.ref f37], rfl, rfl, tq5_2.sq rfl (.cons rfl (.cons rfl (.cons rfl (.cons rfl (.cons rfl (.cons rfl (.cons rfl (.nil)))))))), .cons (q1t CNw m27 (fun _ h => h) (by decide)) (.cons (q1t CNw m27 (fun _ h => h) (by decide)) (.cons (q1t CNw m27 (fun _ h => h) (by decide)) (.cons (q1t CNw m27 (fun _ h => h) (by decide)) (.cons (q1t CNw m27 (fun _ h => h) (by decide)) (.cons (q1t CNw m27 (fun _ h => h) (by decide)) (.cons (q1t CEsw m37 (fun _ h => h) (by decide)) (.nil)))))))⟩
    ·rw [show (x == "hand") = false from by rw [beq_eq_false_iff_ne]; exact g2, List.lookup_cons] at hx
     by_cases g3 : x = "pack"
     ·subst g3
      cases hx
      exact ⟨_, q5_3, [V.ref f27, V.ref f27, V.ref f27, V.ref f41], rfl, rfl, tq5_3.sq rfl (.cons rfl (.cons rfl (.cons rfl (.cons rfl (.nil))))), .cons (q1t CNw m27 (fun _ h => h) (by decide)) (.cons (q1t CNw m27 (fun _ h => h) (by decide)) (.cons (q1t CNw m27 (fun _ h => h) (by decide)) (.cons (q1t CPkw m41 (fun _ h => h) (by decide)) (.nil))))⟩
     ·rw [show (x == "pack") = false from by rw [beq_eq_false_iff_ne]; exact g3, List.lookup_cons] at hx
      by_cases g4 : x = "held"
      ·subst g4
       cases hx
       exact ⟨_, q5_4, [V.ref f27, V.ref f27, V.ref f27, V.ref f29, V.ref f27], rfl, rfl, tq5_4.sq rfl (.cons rfl (.cons rfl (.cons rfl (.cons rfl (.cons rfl (.nil)))))), .cons (q1t CNw m27 (fun _ h => h) (by decide)) (.cons (q1t CNw m27 (fun _ h => h) (by decide)) (.cons (q1t CNw m27 (fun _ h => h) (by decide)) (.cons (q1t CTw m29 (fun _ h => h) (by decide)) (.cons (q1t CNw m27 (fun _ h => h) (by decide)) (.nil)))))⟩
      ·rw [show (x == "held") = false from by rw [beq_eq_false_iff_ne]; exact g4, List.lookup_cons] at hx
       by_cases g5 : x = "wish"
       ·subst g5
        cases hx
        exact ⟨_, q5_5, [V.ref f28, V.ref f27, V.ref f27, V.ref f34], rfl, rfl, tq5_5.sq rfl (.cons rfl (.cons rfl (.cons rfl (.cons rfl (.nil))))), .cons (q1t CAw m28 (fun _ h => h) (by decide)) (.cons (q1t CNw m27 (fun _ h => h) (by decide)) (.cons (q1t CNw m27 (fun _ h => h) (by decide)) (.cons (q1t CDw m34 (fun _ h => h) (by decide)) (.nil))))⟩
       ·rw [show (x == "wish") = false from by rw [beq_eq_false_iff_ne]; exact g5, List.lookup_cons] at hx
        by_cases g6 : x = "told"
        ·subst g6
         cases hx
         exact ⟨_, q5_6, [V.ref f27, V.ref f28, V.ref f27, V.ref f27], rfl, rfl, tq5_6.sq rfl (.cons rfl (.cons rfl (.cons rfl (.cons rfl (.nil))))), .cons (q1t CNw m27 (fun _ h => h) (by decide)) (.cons (q1t CAw m28 (fun _ h => h) (by decide)) (.cons (q1t CNw m27 (fun _ h => h) (by decide)) (.cons (q1t CNw m27 (fun _ h => h) (by decide)) (.nil))))⟩
        ·rw [show (x == "told") = false from by rw [beq_eq_false_iff_ne]; exact g6, List.lookup_cons] at hx
         by_cases g7 : x = "away"
         ·subst g7
          cases hx
          exact ⟨_, q5_7, [V.ref f27, V.ref f28, V.ref f27, V.ref f30], rfl, rfl, tq5_7.sq rfl (.cons rfl (.cons rfl (.cons rfl (.cons rfl (.nil))))), .cons (q1t CNw m27 (fun _ h => h) (by decide)) (.cons (q1t CAw m28 (fun _ h => h) (by decide)) (.cons (q1t CNw m27 (fun _ h => h) (by decide)) (.cons (q1t CHw m30 (fun _ h => h) (by decide)) (.nil))))⟩
         ·rw [show (x == "away") = false from by rw [beq_eq_false_iff_ne]; exact g7] at hx
          cases hx⟩
 have CL2 := cal (P := l.prog) (w := w) (base := base) F42 m42 b42 (z0f F42)
 have CWr := x4n (P := l.prog) (w := w) (base := base) (sp := x2z cN) F43 m43 b43 (z4c (by decide) Z0 F43 CLe CL2 (fun H => by
  obtain ⟨a, es, n, hm, hl, hk, hT⟩ := WL.ex
  refine ⟨a, es, n, hm, hl, hk, fun x r hb => ?_⟩
  obtain ⟨ps, e1, e2⟩ := j7j hb
  obtain ⟨fs, t, gs, a1, a2, a3, a4⟩ := hT x ps e1
  exact ⟨fs, t, gs, ps, a1, a2, a3, a4, e2⟩) CP14)
 have CFg := cal (P := l.prog) (w := w) (base := base) F75 m75 b75 (j6c F75 m75 F75.kp b75)
 have CDt := cal (P := l.prog) (w := w) (base := base) F76 m76 b76 (x8x F76 T CFg)
 have CSt2 := cal (P := l.prog) (w := w) (base := base) F77 m77 b77 (x7f F77 T CFg)
 have CEt := cal (P := l.prog) (w := w) (base := base) F78 m78 b78 (x6h F78 T CFg CSt2 CDt)
 have CTt2 := cal (P := l.prog) (w := w) (base := base) F79 m79 b79 (x6j F79 T CFg)
 have CBx := cal (P := l.prog) (w := w) (base := base) F80 m80 b80 (x3w F80 T CFg CSt2 CTt2 CEt)
 have CXt := cal (P := l.prog) (w := w) (base := base) F81 m81 b81 (z3m F81 CFg CDt CBx)
 have CGr : Cal l.prog w K mg base "_law_great" 7 ["_law_thing", "_law_number"] (x1k 6) := cal F82 m82 b82 (z1a F82 T m82 F82.kp b82 6)
 have CTo := cal (P := l.prog) (w := w) (base := base) F83 m83 b83 (j3k (by decide) Z F83 T hmx CLL CXt CWr)
 exact j7i (by decide) F84 T CM CLB CGr CTo
theorem walk {l : PySem.W.OpenLaw} {q : Program} {loose : List Str} {XP : (Str → Option Value) → Heap → Prop} {YP : World → Heap → Prop} {d : DefRec} {K : Params → PySem.W.Frag} (hn : l.most = some 63) (hdf : d.params.defaults = [])
  (hY : ∀ (w : World) (h : Heap), YP w h → (K w.params).In h)
  (F : ∀ (w : World) (mg : Str → Option Value) (fa : Addr) (h : Heap), (K w.params).In h → h.Ns mainGlobals mg → mg d.name = some (.ref fa) →
   ∃ fd : FuncData, (∀ (s : Shared) (u : Value), BindsTo s fd ⟨[u], []⟩ [("_law_script", u)]) ∧ ∀ base : Heap, (K w.params).In base → base.Ns mainGlobals mg → FnOk l.prog w (K w.params) mg base CX0 18 fa fd ["_law_script"] (z8p (K w.params))) :
  PySem.W.WalkO q loose XP YP l.row.toRowW d [] (fun f vs => PySem.call f vs) :=
 L2.j4l (n := 63) (k := 18) (x := "_law_script") (CX := fun _ => CX0) (sp := fun w => z8p (K w.params)) hn (by decide) hdf ⟨rfl, by decide, by decide⟩ hY F (fun _ _ a ns hl _ hS => ⟨a, ns, rfl, hS, hl, fun _ => rfl⟩) fun _ _ _ _ _ z => z
end K1
namespace PySem.W.Fast
def tw5502004397025664260 := ()
def tw7649787229951041695 := ()
def tw670611040644992968 := ()
def tw2898200790095417135 := ()
def tw15923606560640056021 := ()
def tw5301112262464111695 := ()
def tw9010635088250575405 := ()
def tw7729706925959751321 := ()
def tw12847034737634065493 := ()
def tw15032105100511946913 := ()
def tw5273867869749925668 := ()
def tw155697068126988201 := ()
def tw7079719442675710984 := ()
def tw5900796674518573981 := ()
def tw8950678138968708943 := ()
def tw4506336101195685984 := ()
def tw4738409257896985924 := ()
def tw5847238875345976627 := ()
def tw16840093440752268038 := ()
def tw1443413183459560282 := ()
def tw11708260470442506368 := ()
def tw13193172079014729948 := ()
def tw12664885763742169437 := ()
def tw9462464779935283681 := ()
def tw495578038008941654 := ()
def tw848089030997831051 := ()
def tw6622701384746054931 := ()
def tw1286418935823771994 := ()
def tw16458926005462137203 := ()
def tw5725314013514960529 := ()
def tw3213804762202983787 := ()
def tw313678403772303556 := ()
def tw917846197993278139 := ()
def tw7479980682447480069 := ()
def tw9728142730477107838 := ()
def tw10967781879101450205 := ()
def tw2532978792212952124 := ()
def tw17414355151552033266 := ()
def tw8955561790376284474 := ()
def tw3884043874992710148 := ()
def tw16929998293280948988 := ()
def tw17671099943234798202 := ()
def tw3334157621700440688 := ()
def tw5863932616040355285 := ()
def tw11826305931490433330 := ()
def tw6626111254080981422 := ()
def tw10752228353407336071 := ()
def tw15298175582172314637 := ()
def tw8817164047729185643 := ()
def tw11069512007261274279 := ()
def tw5258383320721851386 := ()
def tw10738277426466212300 := ()
def tw9553645281196857888 := ()
def tw1423972642540021374 := ()
def tw1319161481551952189 := ()
def tw6713881235823996767 := ()
def tw1345580664318657797 := ()
def tw14111092967247227707 := ()
def tw11967429072158205923 := ()
def tw6837771500925655823 := ()
def tw2794050660319236985 := ()
def tw11130590313245752300 := ()
def tw7565369947434126132 := ()
def tw15004392106086710643 := ()
def tw6404311300044455802 := ()
def tw14537561994407243720 := ()
def tw15684979393455669232 := ()
def tw15151923295723525659 := ()
def tw2222588573300046162 := ()
def tw5264589422528163823 := ()
def tw4561592633499886839 := ()
def tw5938559713624243839 := ()
def tw6383475085803563706 := ()
def tw1626355885547049957 := ()
def tw1685026607078299620 := ()
def tw4072093673144601466 := ()
def tw17898848072179776816 := ()
def tw17473840663588862053 := ()
def tw16743161891167131574 := ()
def tw5143130323558015382 := ()
def tw1505220060781445486 := ()
def tw8714721213408558871 := ()
def tw18386534050780982718 := ()
def tw14974109659426746709 := ()
def tw11069719799236750564 := ()
def tw6307899747861353509 := ()
def tw13713001529946995074 := ()
def tw17384496958974353846 := ()
def tw17366863877883248145 := ()
def tw16700286533444633604 := ()
def tw11485893341350902560 := ()
def tw417646243920530162 := ()
def tw12824023673774180573 := ()
def tw219125092205488402 := ()
def tw5029722158888211077 := ()
def tw15554381746942008158 := ()
def tw640211161267496088 := ()
def tw5462187135479851671 := ()
def tw6744654014027220634 := ()
def tw6692358642078461202 := ()
def tw11945032540135723511 := ()
def tw14269801281228554052 := ()
def tw4458475516653099784 := ()
def tw14656794627353072350 := ()
def tw3021862023459847763 := ()
def tw13488574491638265344 := ()
def tw7770996202303240174 := ()
def tw10076061926386302917 := ()
def tw16866650890900611762 := ()
def tw14497269916159413636 := ()
def tw1768337891092546346 := ()
def tw4316651058386860382 := ()
def tw1254669497005787021 := ()
def tw10439843276712546115 := ()
def tw6566312728565840098 := ()
def tw3125379221814641033 := ()
def tw2723604332459677321 := ()
def tw10071242760339547851 := ()
def tw17213294948964649695 := ()
def tw2767713102229550228 := ()
def tw5942277127932854752 := ()
def tw16627962738548184746 := ()
def tw4928381735228241537 := ()
def tw14495085557198085288 := ()
def tw8406823038534615544 := ()
def tw3330265870416318550 := ()
def tw6818433146601607141 := ()
def tw14071035579674028371 := ()
def tw15428114493287895604 := ()
def tw10209683591079813508 := ()
def tw15621374213269767207 := ()
def tw15321595841334849820 := ()
def tw2239219346055991520 := ()
def tw17260991635957828153 := ()
def tw4461230208947015399 := ()
def tw13957938466187478480 := ()
def tw16852974284220761709 := ()
def tw15979944213444060216 := ()
def tw6547088946019252166 := ()
def tw708390684343962723 := ()
def tw17630720370422108401 := ()
def tw11399532456196998345 := ()
def tw16838990999963285263 := ()
def tw13879385540402224394 := ()
def tw4179898676764321780 := ()
def tw10810631785853574082 := ()
def tw8528371898495094101 := ()
def tw13421362363537691863 := ()
def tw9563986602089659116 := ()
def tw8183354033377222880 := ()
def tw3484481040674162304 := ()
def tw11926597135012620460 := ()
def tw4215910376568362405 := ()
def tw17639243456212206729 := ()
def tw10312599711428582343 := ()
def tw9339361817437745158 := ()
end PySem.W.Fast
open PySem PySem.W PyProof.Rows
set_option maxRecDepth 100000 in
set_option maxHeartbeats 0 in
theorem PySem.Challenge.cw_keeplog_k05_written_holds : PySem.Challenge.rw_keeplog_k05_written.Holds := by
 w_on; o_law; k_head; (case hw => w_witness2)
 k_fill
 refine K1.walk (l := PySem.Challenge.rw_keeplog_k05_written) rfl rfl (fun w h Y => PySem.W.kIn_of Y) ?F
 case F =>
  intro w mg fa h KX G hmg
  refine' K1.all_mk KX G hmg ?d0 ?d1 ?d2 ?d3 ?d4 ?d5 ?d6 ?d7 ?d8 ?d9 ?d10 ?d11 ?d12 ?d13 ?d14 ?d15 ?d16 ?d17 ?d18 ?d19 ?d20 ?d21 ?d22 ?d23 ?d24 ?d25 ?d26 ?d27 ?d28 ?d29 ?d30 ?d31 ?d32 ?d33 ?d34 ?d35 ?d36 ?d37 ?d38 ?d39 ?d40 ?d41 ?d42 ?d43 ?d44 ?d45 ?d46 ?d47 ?d48 ?d49 ?d50 ?d51 ?d52 ?d53 ?d54 ?d55 ?d56 ?d57 ?d58 ?d59 ?d60 ?d61 ?d62 ?d63 ?d64 ?d65 ?d66 ?d67 ?d68 ?d69 ?d70 ?d71 ?d72 ?d73 ?d74 ?d75 ?d76 ?d77 ?d78 ?d79 ?d80 ?d81 ?d82 ?d83 ?aL ?lL ?cL' ?kL ?da0 ?dl0 ?ds0 ?tq0_0 ?tq0_1 ?tq0_2 ?da1 ?dl1 ?ds1 ?tq1_0 ?tq1_1 ?tq1_2 ?da2 ?dl2 ?ds2 ?tq2_0 ?tq2_1 ?tq2_2 ?tq2_3 ?tq2_4 ?tq2_5 ?tq2_6 ?tq2_7 ?da3 ?dl3 ?ds3 ?tq3_0 ?tq3_1 ?tq3_2 ?da4 ?dl4 ?ds4 ?tq4_0 ?tq4_1 ?tq4_2 ?da5 ?dl5 ?ds5 ?tq5_0 ?tq5_1 ?tq5_2 ?tq5_3 ?tq5_4 ?tq5_5 ?tq5_6 ?tq5_7 ?ncN ?ncL ?ncK ?ncP ?ncR ?ncS ?nV ?xP ?xe ?xga ?xgn ?xcl ?xgt ?xtk ?xmo ?xmb ?xci ?xk1 ?xk2 ?xk3 ?z0 ?z1 ?z2 ?z3 ?z4 ?z5 ?z6 ?z7 ?z8 ?z9 ?z10 ?z11 ?z12 ?z13
  (case d0 | d1 | d2 | d3 | d4 | d5 | d6 | d7 | d8 | d9 | d10 | d11 | d12 | d13 | d14 | d15 | d16 | d17 | d18 | d19 | d20 | d21 | d22 | d23 | d24 | d25 | d26 | d27 | d28 | d29 | d30 | d31 | d32 | d33 | d34 | d35 | d36 | d37 | d38 | d39 | d40 | d41 | d42 | d43 | d44 | d45 | d46 | d47 | d48 | d49 | d50 | d51 | d52 | d53 | d54 | d55 | d56 | d57 | d58 | d59 | d60 | d61 | d62 | d63 | d64 | d65 | d66 | d67 | d68 | d69 | d70 | d71 | d72 | d73 | d74 | d75 | d76 | d77 | d78 | d79 | d80 | d81 | d82 | d83 => exact ⟨by k_is, _, ⟨_, _, _, _, _, _, _, _, _, rfl, by k_is, by k_is⟩, by k_is⟩)
  (case aL => k_is)
  (case lL => k_is)
  (case cL' => k_is)
  (case kL => k_is)
  (case da0 => k_is)
  (case dl0 => k_is)
  (case ds0 => rfl)
  (case da1 => k_is)
  (case dl1 => k_is)
  (case ds1 => rfl)
  (case da2 => k_is)
  (case dl2 => k_is)
  (case ds2 => rfl)
  (case da3 => k_is)
  (case dl3 => k_is)
  (case ds3 => rfl)
  (case da4 => k_is)
  (case dl4 => k_is)
  (case ds4 => rfl)
  (case da5 => k_is)
  (case dl5 => k_is)
  (case ds5 => rfl)
  (case ncN => k_is)
  (case ncL => k_is)
  (case ncK => k_is)
  (case ncP => k_is)
  (case ncR => k_is)
  (case ncS => k_is)
  (case nV => k_is)
  (case xP => k_exc)
  (case xe => kts_exm)
  (case xga => k_is)
  (case xgn => k_is)
  (case xcl => k_is)
  (case xgt => k_is)
  (case xtk => k_is)
  (case xmo => k_is)
  (case xmb => k_is)
  (case xci => k_is)
  (case xk1 => kit_is)
  (case xk2 => kit_is)
  (case xk3 => kit_is)
  (case z0 => k_is)
  (case z1 => k_is)
  (case z2 => k_is)
  (case z3 => k_is)
  (case z4 => k_is)
  (case z5 => k_is)
  (case z6 => k_is)
  (case z7 => k_is)
  (case z8 => k_is)
  (case z9 => k_is)
  (case z10 => k_is)
  (case z11 => k_is)
  (case z12 => k_is)
  (case z13 => k_is)
  (case tq0_0 | tq0_1 | tq0_2 | tq1_0 | tq1_1 | tq1_2 | tq2_0 | tq2_1 | tq2_2 | tq2_3 | tq2_4 | tq2_5 | tq2_6 | tq2_7 | tq3_0 | tq3_1 | tq3_2 | tq4_0 | tq4_1 | tq4_2 | tq5_0 | tq5_1 | tq5_2 | tq5_3 | tq5_4 | tq5_5 | tq5_6 | tq5_7 => exact ⟨_, _, _, by k_is⟩)
