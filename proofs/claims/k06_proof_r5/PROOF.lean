import PyProof.Rows.All
import Wide.All
import OpenK.AllK
import Wide.FinOn
import Lean
import PyProof.EqAt
import PyProof.EqKinds
import PyProof.TupleCall
import PySem.Challenge.RW_keeplog_k06_whole_read_back
set_option bootstrap.genMatcherCode false
set_option Elab.async false
set_option linter.all false
set_option maxRecDepth 100000
namespace L2
open PySem PySem.Spec PyProof.Rows
noncomputable abbrev Key := Sum Int Str
noncomputable def z5j : Key → Value → Bool
 | .inl k, v => Value.isInt k v
 | .inr x, v => Value.isStrOf x v
noncomputable def w4c (w : World) : Key → Int
 | .inl k => hashInt k
 | .inr x => hashStr w x
theorem q3g : ∀ {k : Key} {v : Value}, z5j k v = true → (∃ i t, k = Sum.inl i ∧ v = Value.int i t) ∨ (∃ x t, k = Sum.inr x ∧ v = Value.str x t)
 | .inl i, v, h => by
  obtain ⟨t, e⟩ := Value.isInt_shape (k := i) (v := v) h
  exact .inl ⟨i, t, rfl, e⟩
 | .inr x, v, h => by
  obtain ⟨t, e⟩ := Value.isStrOf_shape (x := x) (v := v) h
  exact .inr ⟨x, t, rfl, e⟩
theorem z8g (i : Int) (t : Tok) : z5j (.inl i) (.int i t) = true := by simp [z5j, Value.isInt]
theorem z9d (x : Str) (t : Tok) : z5j (.inr x) (.str x t) = true := by simp [z5j, Value.isStrOf]
theorem j8n (a b : Int) : decide ((Sum.inl a : Key) = Sum.inl b) = (a == b) := by
 by_cases e : a = b
 ·subst e; simp
 ·have h : ¬ (Sum.inl a : Key) = Sum.inl b := fun q => e (Sum.inl.inj q)
  rw [decide_eq_false h]
  exact (beq_eq_false_iff_ne.mpr e).symm
theorem j9c (a b : Str) : decide ((Sum.inr a : Key) = Sum.inr b) = decide (a = b) := by
 by_cases e : a = b
 ·subst e; simp
 ·have h : ¬ (Sum.inr a : Key) = Sum.inr b := fun q => e (Sum.inr.inj q)
  rw [decide_eq_false h, decide_eq_false e]
theorem j8e (a : Int) (b : Str) : decide ((Sum.inl a : Key) = Sum.inr b) = false := decide_eq_false (fun q => nomatch q)
theorem j8f (a : Str) (b : Int) : decide ((Sum.inr a : Key) = Sum.inl b) = false := decide_eq_false (fun q => nomatch q)
noncomputable def q5c (prog : Program) (w : World) : PySem.KeyKind prog w Key where
 is := z5j
 hash := w4c w
 inj := fun v a b ha hb => by
  rcases q3g ha with ⟨i, t, rfl, rfl⟩ | ⟨x, t, rfl, rfl⟩
  ·rcases q3g hb with ⟨j, u, rfl, e⟩ | ⟨y, u, rfl, e⟩
   ·injection e with e1 _; rw [e1]
   ·exact nomatch e
  ·rcases q3g hb with ⟨j, u, rfl, e⟩ | ⟨y, u, rfl, e⟩
   ·exact nomatch e
   ·injection e with e1 _; rw [e1]
 byValue := fun k v h => by
  rcases q3g h with ⟨i, t, rfl, rfl⟩ | ⟨x, t, rfl, rfl⟩ <;> rfl
 pyHash := fun hv h => by
  rcases q3g hv with ⟨i, t, rfl, rfl⟩ | ⟨x, t, rfl, rfl⟩
  ·exact wpAny_pyHash_int h
  ·exact wpAny_pyHash_str h
 eqBool := fun hu hv h => by
  rcases q3g hu with ⟨i, t, rfl, rfl⟩ | ⟨x, t, rfl, rfl⟩
  ·rcases q3g hv with ⟨j, u, rfl, rfl⟩ | ⟨y, u, rfl, rfl⟩
   ·rw [j8n] at h; exact wpAny_eqBool_int h
   ·rw [j8e] at h; exact SeqAt.EqAt.int_str i t y u _ _ _ _ h
  ·rcases q3g hv with ⟨j, u, rfl, rfl⟩ | ⟨y, u, rfl, rfl⟩
   ·rw [j8f] at h; exact SeqAt.EqAt.str_int x t j u _ _ _ _ h
   ·rw [j9c] at h; exact wpAny_eqBool_str h
 «strs» := fun k x t v h => by
  rcases q3g h with ⟨i, u, rfl, e⟩ | ⟨y, u, rfl, e⟩
  ·exact nomatch e
  ·injection e with e1 _
   subst e1
   cases v <;> rfl
theorem z1o (prog : Program) (w : World) (i : Int) (t : Tok) : (q5c prog w).is (.inl i) (.int i t) = true := z8g i t
theorem z1w (prog : Program) (w : World) (x : Str) (t : Tok) : (q5c prog w).is (.inr x) (.str x t) = true := z9d x t
inductive V where
 | non | bl (b : Bool) | int (i : Int) | str (x : Str) | byt (b : Array UInt8) | flt (b : UInt64) | ref (a : Addr) | ty (n : String)
 deriving DecidableEq
noncomputable def q5d : V → Value → Prop
 | .non, u => u = Value.none
 | .bl b, u => u = Value.bool b
 | .int i, u => ∃ t, u = Value.int i t
 | .str x, u => ∃ t, u = Value.str x t
 | .byt b, u => ∃ t, u = Value.bytes b t
 | .flt b, u => ∃ t, u = Value.float b t
 | .ref a, u => u = Value.ref a
 | .ty n, u => u = Value.type n
noncomputable abbrev q3r : List V → List Value → Prop := Paired q5d
theorem q3r.length {xs : List V} {us : List Value} (r : q3r xs us) : xs.length = us.length := Paired.length r
theorem q3r.get : ∀ {xs : List V} {us : List Value} {i : Nat} {x : V}, q3r xs us → xs[i]? = some x → ∃ u, us[i]? = some u ∧ q5d x u
 | _, _, _, _, .nil, e => by simp at e
 | _, _, 0, _, .cons r _, e => by simp at e; subst e; exact ⟨_, rfl, r⟩
 | _, _, i + 1, x, .cons _ t, e => by
  obtain ⟨u, h1, h2⟩ := q3r.get (i := i) (x := x) t (by simpa using e)
  exact ⟨u, by simpa using h1, h2⟩
theorem q3r.append : ∀ {xs ys : List V} {us ws : List Value}, q3r xs us → q3r ys ws → q3r (xs ++ ys) (us ++ ws)
 | _, _, _, _, .nil, s => s
 | _, _, _, _, .cons r t, s => .cons r (q3r.append t s)
theorem q3r.take : ∀ {xs : List V} {us : List Value} (n : Nat), q3r xs us → q3r (xs.take n) (us.take n)
 | _, _, 0, _ => .nil
 | _, _, _ + 1, .nil => .nil
 | _, _, n + 1, .cons r t => .cons r (q3r.take n t)
theorem q3r.drop : ∀ {xs : List V} {us : List Value} (n : Nat), q3r xs us → q3r (xs.drop n) (us.drop n)
 | _, _, 0, r => r
 | _, _, _ + 1, .nil => .nil
 | _, _, n + 1, .cons _ t => q3r.drop n t
noncomputable def z3s : Option V → Option Value → Prop
 | some v, some u => q5d v u
 | none, none => True
 | _, _ => False
noncomputable def KV {κ : Type} : List (κ × V) → List (κ × Value) → Prop := Paired fun (p : κ × V) (q : κ × Value) => p.1 = q.1 ∧ q5d p.2 q.2
noncomputable def kV : Key → V
 | .inl i => .int i
 | .inr x => .str x
inductive HO where
 | lst (xs : List V)
 | tup (xs : List V)
 | dK (kvs : List (Key × V)) | dT (kvs : List (List Key × V))
 | set (S : Int → Bool) (n : Nat)
 | ins (C dx : Addr) (fs : List (Str × V))
 | own (x : Addr)
 | xd (fs : List (Str × V))
 | met (f x : Addr)
 | rng (lo hi : Int)
 | frz (o : Obj) (u : HO)
 | tbl (ps : Array Value)
 | ext (φ : Heap → Prop)
noncomputable abbrev Hp := Addr → Option HO
noncomputable def upd (H : Hp) (a : Addr) (o : HO) : Hp := fun b => if b = a then some o else H b
theorem q0g {H : Hp} {a : Addr} {o : HO} : upd H a o a = some o := by unfold upd; rw [if_pos rfl]
theorem q1b {H : Hp} {a b : Addr} {o : HO} (h : b ≠ a) : upd H a o b = H b := by unfold upd; rw [if_neg h]
theorem j6p {H : Hp} {a : Addr} {o u : HO} : upd (upd H a o) a u = upd H a u := by
 funext b; unfold upd; split <;> rfl
theorem q1n {H : Hp} {a b : Addr} {o : HO} (h : H a = some o) (h' : H b = none) : a ≠ b := by
 intro e; subst e; rw [h] at h'; cases h'
section
variable (P : Program) (w : World)
noncomputable def q5m (H : Hp) (h : Heap) (a : Addr) : HO → Prop
 | .lst xs => xs.length ≤ sizeLine ∧ ∃ (its : List Value) (n : Nat), q3r xs its ∧ h.get? a = some { cls := .type "list", data := .seq its.toArray n }
 | .tup xs => xs.length ≤ sizeLine ∧ ∃ its : List Value, q3r xs its ∧ IsTup h a its.toArray
 | .dK kvs => kvs.length ≤ sizeLine ∧ (a == sysModules) = false ∧ ∃ vs, KV kvs vs ∧ h.DictOf (q5c P w) a vs
 | .dT kvs => kvs.length ≤ sizeLine ∧ (a == sysModules) = false ∧ ∃ xs : List (List Key × Addr × Value),
   Paired (fun (p : List Key × V) (q : List Key × Addr × Value) => p.1 = q.1 ∧ H q.2.1 = some (.tup (p.1.map kV)) ∧ q5d p.2 q.2.2) kvs xs ∧
   ∃ o es ep, h.get? a = some o ∧ o.ExactDict ∧ o.data = .dict es ep ∧ es.toList = xs.map (entryOfKey (tupleKind (q5c P w))) ∧ (xs.map (·.1)).Nodup
 | .set S n => h.SetOf (intKind P w) a S n
 | .ins C dx fs => H dx = some (.own a) ∧ fs.length ≤ 1000 ∧ dx ≠ a ∧ h.get? a = some (PySem.W.instObj C dx) ∧
   ∃ mA, h.Ns1 dx mA ∧ (∀ f, z3s (fs.lookup f) (mA f)) ∧ PySem.Within mA (fs.map (·.1))
 | .own _ => ∃ o, h.get? a = some o
 | .xd fs => ∃ mA, h.Ns1 a mA ∧ ∀ f, z3s (fs.lookup f) (mA f)
 | .rng lo hi => ∃ t u v, h.get? a = some { cls := .type "range", data := .fields #[.int lo t, .int hi u, .int 1 v] }
 | .frz o u => h.get? a = some o ∧ q5m H h a u
 | .tbl ps => h.get? a = some { cls := .none, data := .fields ps }
 | .met f x => h.get? a = some (PySem.W.methodObj (.ref f) (.ref x))
 | .ext φ => φ h ∧ (∃ o, h.get? a = some o) ∧ ∀ h1 h2 : Heap, φ h1 → (∀ o, h1.get? a = some o → h2.get? a = some o) → φ h2
noncomputable def HOk (H : Hp) (h : Heap) : Prop := ∀ a o, H a = some o → q5m P w H h a o
end
section
variable {P : Program} {w : World} {H H' : Hp} {h h' : Heap} {a : Addr} {o : HO}
theorem q5m.lt (x : q5m P w H h a o) : a < h.objs.size := by
 cases o with
 | lst xs => obtain ⟨_, _, _, _, e⟩ := x; exact Heap.lt_size e
 | tup xs => obtain ⟨_, _, _, p⟩ := x; exact p.lt
 | dK kvs => obtain ⟨_, _, _, _, o, _, _, e, _⟩ := x; exact Heap.lt_size e
 | dT kvs => obtain ⟨_, _, _, _, o, _, _, e, _⟩ := x; exact Heap.lt_size e
 | set S n => obtain ⟨o, _, _, _, e, _⟩ := x; exact Heap.lt_size e
 | ins C dx fs => obtain ⟨_, _, _, e, _⟩ := x; exact Heap.lt_size e
 | own y => obtain ⟨_, e⟩ := x; exact Heap.lt_size e
 | xd fs => obtain ⟨_, ⟨_, _, _, e, _⟩, _⟩ := x; exact Heap.lt_size e
 | rng lo hi => obtain ⟨_, _, _, e⟩ := x; exact Heap.lt_size e
 | frz ob u => obtain ⟨e, _⟩ := x; exact Heap.lt_size e
 | tbl ps => exact Heap.lt_size (show h.get? a = some _ from x)
 | met f y => exact Heap.lt_size (show h.get? a = some _ from x)
 | ext φ => obtain ⟨_, ⟨_, e⟩, _⟩ := x; exact Heap.lt_size e
theorem Paired.mapP {α β : Type} {F G : α → β → Prop} : ∀ {l₁ : List α} {l₂ : List β}, Paired F l₁ l₂ → (∀ a b, F a b → G a b) → Paired G l₁ l₂
 | _, _, .nil, _ => .nil
 | _, _, .cons r t, f => .cons (f _ _ r) (Paired.mapP t f)
theorem q5m.stay (x : q5m P w H h a o) (k : ∀ b u, (b = a ∨ H b = some (.own a)) → h.get? b = some u → h'.get? b = some u)
  (ho : ∀ b, H b = some (.own a) → H' b = some (.own a)) (ht : ∀ b xs, H b = some (.tup xs) → H' b = some (.tup xs)) : q5m P w H' h' a o := by
 induction o with
 | lst xs => obtain ⟨z, its, n, r, e⟩ := x; exact ⟨z, its, n, r, k _ _ (.inl rfl) e⟩
 | tup xs => obtain ⟨z, its, r, ob, e, c⟩ := x; exact ⟨z, its, r, ob, k _ _ (.inl rfl) e, c⟩
 | dK kvs => obtain ⟨z, y, vs, r, ob, es, ep, e, c⟩ := x; exact ⟨z, y, vs, r, ob, es, ep, k _ _ (.inl rfl) e, c⟩
 | dT kvs =>
  obtain ⟨z, y, xs, r, ob, es, ep, e, c⟩ := x
  exact ⟨z, y, xs, Paired.mapP r fun p q z => ⟨z.1, ht _ _ z.2.1, z.2.2⟩, ob, es, ep, k _ _ (.inl rfl) e, c⟩
 | set S n => obtain ⟨ob, es, ep, t, e, c⟩ := x; exact ⟨ob, es, ep, t, k _ _ (.inl rfl) e, c⟩
 | ins C dx fs =>
  obtain ⟨d, z, ne, e, mA, ⟨od, es, ep, e2, c⟩, r⟩ := x
  exact ⟨ho _ d, z, ne, k _ _ (.inl rfl) e, mA, ⟨od, es, ep, k _ _ (.inr d) e2, c⟩, r⟩
 | own y => obtain ⟨ob, e⟩ := x; exact ⟨ob, k _ _ (.inl rfl) e⟩
 | xd fs => obtain ⟨mA, ⟨od, es, ep, e, c⟩, r⟩ := x; exact ⟨mA, ⟨od, es, ep, k _ _ (.inl rfl) e, c⟩, r⟩
 | rng lo hi => obtain ⟨t, u, v, e⟩ := x; exact ⟨t, u, v, k _ _ (.inl rfl) e⟩
 | frz ob u ih => obtain ⟨e, q⟩ := x; exact ⟨k _ _ (.inl rfl) e, ih q⟩
 | tbl ps =>
  have e : h.get? a = some { cls := .none, data := .fields ps } := x
  show h'.get? a = some { cls := .none, data := .fields ps }
  exact k a _ (.inl rfl) e
 | met f y =>
  have e : h.get? a = some (PySem.W.methodObj (.ref f) (.ref y)) := x
  show h'.get? a = some (PySem.W.methodObj (.ref f) (.ref y))
  exact k a _ (.inl rfl) e
 | ext φ => obtain ⟨p, ⟨o, e⟩, st⟩ := x; exact ⟨st _ _ p fun o q => k _ _ (.inl rfl) q, ⟨o, k _ _ (.inl rfl) e⟩, st⟩
theorem HOk.lt (x : HOk P w H h) (e : H a = some o) : a < h.objs.size := (x a o e).lt
theorem HOk.fresh (x : HOk P w H h) (e : h.objs.size ≤ a) : H a = none := by
 cases q : H a with
 | none => rfl
 | some u => exact absurd (Nat.lt_of_lt_of_le (x.lt q) e) (Nat.lt_irrefl _)
theorem HOk.kept (x : HOk P w H h) (k : ∀ b u, h.get? b = some u → h'.get? b = some u) : HOk P w H h' := fun a o e =>
 (x a o e).stay (fun b u _ q => k b u q) (fun _ q => q) fun _ _ q => q
theorem HOk.laid (x : HOk P w H h) (k : ∀ b u, h.get? b = some u → h'.get? b = some u) (hp : h.objs.size ≤ a) (new : q5m P w (upd H a o) h' a o) : HOk P w (upd H a o) h' := fun b u e => by
 have hn := x.fresh hp
 by_cases hb : b = a
 ·subst hb; rw [q0g] at e; cases e; exact new
 ·rw [q1b hb] at e
  exact (x b u e).stay (fun c v _ q => k c v q) (fun c q => by rw [q1b (q1n q hn)]; exact q) fun c xs q => by rw [q1b (q1n q hn)]; exact q
end
noncomputable def Rd (H : Hp) (a : Addr) (u : HO) : Prop := H a = some u ∨ ∃ o, H a = some (.frz o u)
theorem Rd.ok {P : Program} {w : World} {H : Hp} {h : Heap} {a : Addr} {u : HO} (r : Rd H a u) (x : HOk P w H h) : q5m P w H h a u := by
 rcases r with r | ⟨o, r⟩
 ·exact x a u r
 ·obtain ⟨_, q⟩ := x a _ r
  exact q
noncomputable def Mut : Option HO → Prop
 | some (.lst _) => True
 | some (.dK _) => True
 | some (.dT _) => True
 | some (.set _ _) => True
 | some (.ins _ _ _) => True
 | some (.ext _) => True
 | _ => False
section
variable {P : Program} {w : World} {H : Hp} {h h' : Heap} {x e : Addr} {o' : HO}
theorem HOk.write (ok : HOk P w H h) (mu : Mut (H x)) (he : e = x ∨ H e = some (.own x)) (k : ∀ b u, b ≠ e → h.get? b = some u → h'.get? b = some u) (heo : ∃ u, h'.get? e = some u)
  (new : q5m P w (upd H x o') h' x o') : HOk P w (upd H x o') h' := fun b u q => by
 have nown : ∀ c y, H c = some (.own y) → c ≠ x := fun c y r z => by subst z; rw [r] at mu; exact mu
 have ntup : ∀ c xs, H c = some (.tup xs) → c ≠ x := fun c xs r z => by subst z; rw [r] at mu; exact mu
 by_cases hb : b = x
 ·subst hb; rw [q0g] at q; cases q; exact new
 ·rw [q1b hb] at q
  by_cases hbe : b = e
  ·have q' : H b = some (.own x) := by
    rcases he with z | z
    ·exact absurd (hbe.trans z) hb
    ·rw [hbe]; exact z
   rw [q] at q'; cases q'
   obtain ⟨v, hv⟩ := heo
   exact ⟨v, by rw [hbe]; exact hv⟩
  ·refine (ok b u q).stay (fun c v hc r => k c v ?_ r) (fun c r => by rw [q1b (nown c b r)]; exact r) fun c xs r => by rw [q1b (ntup c xs r)]; exact r
   rcases hc with rfl | hc
   ·exact hbe
   ·rintro rfl
    rcases he with z | z
    ·exact nown c b hc z
    ·rw [hc] at z; cases z; exact hb rfl
end
structure Un (fs ex : List Addr) (H H' : Hp) (h h' : Heap) : Prop where
 keep : ∀ b o, h.get? b = some o → H b = none → b ∉ fs → b ∉ ex → h'.get? b = some o
 slot : ∀ b o, h.get? b = some o → H b = none → b ∈ fs → b ∉ ex → ∃ sl, h'.get? b = some { o with slots := sl }
 free : ∀ b o, h.get? b = some o → H b = none → b ∉ ex → H' b = none
 there : ∀ b o, h.get? b = some o → b ∉ ex → ∃ o', h'.get? b = some o'
 tups : ∀ b xs, H b = some (.tup xs) → H' b = some (.tup xs)
 frzs : ∀ b o u, H b = some (.frz o u) → H' b = some (.frz o u)
 tbls : ∀ b ps, H b = some (.tbl ps) → ∃ more, H' b = some (.tbl (ps ++ more))
section
variable {fs fs' ex ex' : List Addr} {H H1 H2 : Hp} {h h1 h2 h' : Heap} {a x e : Addr} {o : HO}
theorem Un.any (u : Un fs ex H H1 h h1) {b : Addr} {ob : Obj} (q : h.get? b = some ob) (n : H b = none) (hx : b ∉ ex) : ∃ sl, h1.get? b = some { ob with slots := sl } := by
 by_cases hb : b ∈ fs
 ·exact u.slot b ob q n hb hx
 ·exact ⟨ob.slots, u.keep b ob q n hb hx⟩
theorem Un.kept (k : ∀ b u, h.get? b = some u → h'.get? b = some u) : Un fs ex H H h h' :=
 ⟨fun b ob q _ _ _ => k b ob q, fun b ob q _ _ _ => ⟨ob.slots, k b ob q⟩, fun _ _ _ n _ => n, fun b ob q _ => ⟨ob, k b ob q⟩, fun _ _ q => q, fun _ _ _ q => q, fun _ ps q => ⟨#[], by rw [q]; simp⟩⟩
theorem Un.refl : Un fs ex H H h h := Un.kept fun _ _ q => q
theorem Un.laid (k : ∀ b u, h.get? b = some u → h'.get? b = some u) (hp : h.objs.size ≤ a) (hn : H a = none) : Un fs ex H (upd H a o) h h' where
 keep := fun b u q _ _ _ => k b u q
 slot := fun b u q _ _ _ => ⟨u.slots, k b u q⟩
 free := fun b u q n _ => by rw [q1b (Nat.ne_of_lt (Nat.lt_of_lt_of_le (Heap.lt_size q) hp))]; exact n
 there := fun b u q _ => ⟨u, k b u q⟩
 tups := fun b xs q => by rw [q1b (q1n q hn)]; exact q
 frzs := fun b u xs q => by rw [q1b (q1n q hn)]; exact q
 tbls := fun b ps q => ⟨#[], by rw [q1b (q1n q hn), q]; simp⟩
theorem Un.write (mu : Mut (H x)) (he : e = x ∨ H e = some (.own x)) (k : ∀ b u, b ≠ e → h.get? b = some u → h'.get? b = some u) (heo : ∃ u, h'.get? e = some u) : Un fs ex H (upd H x o) h h' := by
 have hx : ∀ b, H b = none → b ≠ x := fun b n z => by subst z; rw [n] at mu; exact mu
 have hb : ∀ b, H b = none → b ≠ e := fun b n z => by
  subst z
  rcases he with r | r
  ·exact hx b n r
  ·rw [n] at r; cases r
 have hm : ∀ b u, H b = some u → ¬ Mut (some u) → b ≠ x := fun b u q nm z => by subst z; rw [q] at mu; exact nm mu
 refine ⟨fun b u q n _ _ => k b u (hb b n) q, fun b u q n _ _ => ⟨u.slots, k b u (hb b n) q⟩, fun b u q n _ => by rw [q1b (hx b n)]; exact n, fun b u q _ => ?_,
  fun b xs q => by rw [q1b (hm b _ q fun z => z)]; exact q, fun b u xs q => by rw [q1b (hm b _ q fun z => z)]; exact q, fun b ps q => ⟨#[], by rw [q1b (hm b _ q fun z => z), q]; simp⟩⟩
 by_cases hbe : b = e
 ·subst hbe; exact heo
 ·exact ⟨u, k b u hbe q⟩
end
noncomputable def trk (h : Heap) (H : Hp) : List Addr := (List.range h.objs.size).filter fun a => (H a).isSome
noncomputable def j1g (h : Heap) (H : Hp) : Heap := PySem.W.hideAll h (trk h H)
theorem z7u (h : Heap) (H : Hp) : (j1g h H).objs.size = h.objs.size := PySem.W.hideAll_size _ _
theorem j3i {h : Heap} {H : Hp} {b : Addr} {o : Obj} (e : h.get? b = some o) (n : H b = none) : (j1g h H).get? b = some o :=
 PySem.W.hideAll_get _ e fun hm => by
  have q : (H b).isSome = true := (List.mem_filter.mp hm).2
  rw [n] at q; simp at q
theorem j7c {h : Heap} {H : Hp} {b : Addr} {o : Obj} (e : (j1g h H).get? b = some o) : h.get? b = some o ∧ H b = none := by
 have e' : h.get? b = some o := PySem.W.of_hideAll (trk h H) e
 refine ⟨e', ?_⟩
 cases q : H b with
 | none => rfl
 | some x =>
  have hm : b ∈ trk h H := List.mem_filter.mpr ⟨List.mem_range.mpr (Heap.lt_size e'), by simp [q]⟩
  have z : (j1g h H).get? b = none := PySem.W.hideAll_none (trk h H) hm
  rw [z] at e; cases e
noncomputable def j5j (g h : Heap) (L : Addr) : List (Addr × Obj) := (List.range h.objs.size).filterMap fun a => if a = L ∨ (g.get? a).isSome = true then none else (h.get? a).map fun o => (a, o)
noncomputable def q3y (g h : Heap) (L d : Addr) : List (Addr × Obj) := (j5j g h L).filter fun p => decide (p.1 ≠ d)
structure Mod (K : PySem.W.Frag) (mg : Str → Option Value) (base : Heap) : Prop where
 kin : K.In base
 glob : base.Ns mainGlobals mg
 blt : ∃ mb, base.Ns builtinsNs mb ∧ ∀ x : Str, x ≠ "__name__" → mb x = bootBuiltins x
 nolimit : base.NoLimit
structure Cx where
 prog : Program
 w : World
 K : PySem.W.Frag
 mg : Str → Option Value
 base : Heap
 A : Around
 N : List Str
 s₀ : Shared
 H₀ : Hp
 env : Env
 outer : List Env
 stack : List Env
 ex : List Addr
 fn : Str → Bool
 calm : Bool
 pn : List (Addr × Obj)
 xe : Value → Shared → Prop
noncomputable def frs (l : List Env) : List Addr := l.filterMap (·.frame)
noncomputable abbrev Cx.fs (X : Cx) : List Addr := frs X.outer
noncomputable def Vis (sc : Scope) (x : Str) : Prop := sc.names.lookup x = some .local ∨ sc.names.lookup x = some .cell ∨ sc.names.lookup x = some .free
noncomputable def Loc (sc : Scope) (x : Str) : Prop := sc.names.lookup x = some .local ∨ sc.names.lookup x = some .cell
noncomputable def w5b (env : Env) (h : Heap) (m : Str → Option Value) (x : Str) (u : Value) : Prop :=
 (env.kindOf x = some .local ∧ m x = some u) ∨ ((env.kindOf x = some .cell ∨ env.kindOf x = some .free) ∧ ∃ c, env.cells.lookup x = some c ∧ h.IsCell c (some u))
structure Cx.Ok (X : Cx) : Prop where
 mod : Mod X.K X.mg X.base
 kind : X.env.scope.kind = .function
 glob : X.env.globals = mainGlobals
 blt : X.env.builtins = builtinsNs
 above : X.s₀.heap.objs.size ≤ X.env.locals
 inj : ∀ x y c, X.env.cells.lookup x = some c → X.env.cells.lookup y = some c → x = y
 has : ∀ x, (X.env.kindOf x = some .cell ∨ X.env.kindOf x = some .free) → ∃ c, X.env.cells.lookup x = some c
 cab : ∀ x c, X.fn x = true → X.env.cells.lookup x = some c → X.s₀.heap.objs.size ≤ c
 hd : X.calm = true → X.A.handled = none
 frames : X.A.frames = some X.stack
 stk : X.stack = X.outer ∨ (X.stack = X.env :: X.outer ∧ X.env.frame = some X.env.locals)
 exf : ∀ b ∈ X.ex, b ≠ X.env.locals ∧ ∀ x c, X.env.cells.lookup x = some c → c ≠ b
 bs : ∀ b o, X.base.get? b = some o → X.s₀.heap.get? b = some o ∧ X.H₀ b = none
 bsz : X.base.objs.size ≤ X.s₀.heap.objs.size
 noex : ∀ b o, X.base.get? b = some o → b ∉ X.ex
 exfs : ∀ b ∈ X.ex, b ∉ X.fs
 funs : X.s₀.heap.FunFrames X.base X.outer
 frf : ∀ b ∈ X.fs, X.H₀ b = none
structure Inv (X : Cx) (pins : List (Addr × Obj)) (σ : List (Option V)) (H : Hp) (s : Shared) : Prop where
 ok : X.Ok
 os : s.os = X.s₀.os
 bare : AllBare s.gens
 base : Un X.fs X.ex X.H₀ H X.s₀.heap s.heap
 loc : ∃ m, s.heap.Ns X.env.locals m ∧ ∀ (i : Nat) (x : Str) (v : V), X.N[i]? = some x → σ[i]? = some (some v) → Vis X.env.scope x → ∃ u, q5d v u ∧ w5b X.env s.heap m x u
 cell : ∀ x c, X.env.cells.lookup x = some c → ∃ v, s.heap.IsCell c v
 free : H X.env.locals = none
 freeC : ∀ x c, X.env.cells.lookup x = some c → H c = none
 pin : ∀ p ∈ X.pn ++ pins, s.heap.get? p.1 = some p.2 ∧ H p.1 = none ∧ p.1 ≠ X.env.locals ∧ p.1 ∉ X.fs ∧ ∀ v, p.2.data ≠ .cell v
 hok : HOk X.prog X.w H s.heap
 len : σ.length = X.N.length
section
variable {X : Cx} {pins : List (Addr × Obj)} {σ : List (Option V)} {H H' : Hp} {s : Shared} {h' : Heap}
theorem Cx.Ok.nofr (ok : X.Ok) {b : Addr} {o : Obj} (e : X.base.get? b = some o) : b ∉ X.fs := fun hb => by
 have := (ok.funs.mem hb).1
 rw [e] at this; cases this
theorem Inv.bs (I : Inv X pins σ H s) : ∀ b o, X.base.get? b = some o → s.heap.get? b = some o ∧ H b = none := fun b o e =>
 ⟨I.base.keep b o (I.ok.bs b o e).1 (I.ok.bs b o e).2 (I.ok.nofr e) (I.ok.noex b o e), I.base.free b o (I.ok.bs b o e).1 (I.ok.bs b o e).2 (I.ok.noex b o e)⟩
theorem Inv.bk (I : Inv X pins σ H s) : ∀ b o, X.base.get? b = some o → s.heap.get? b = some o := fun b o e => (I.bs b o e).1
theorem Inv.mod (I : Inv X pins σ H s) : Mod X.K X.mg X.base := I.ok.mod
theorem Inv.kIn (I : Inv X pins σ H s) : X.K.In s.heap := I.ok.mod.kin.keeps I.bk
theorem Inv.lt (I : Inv X pins σ H s) : X.env.locals < s.heap.objs.size := let ⟨_, hn, _⟩ := I.loc; hn.lt
theorem Inv.sz (I : Inv X pins σ H s) : X.s₀.heap.objs.size ≤ s.heap.objs.size := Nat.le_trans I.ok.above (Nat.le_of_lt I.lt)
theorem Inv.nofs (I : Inv X pins σ H s) {a : Addr} (h : s.heap.objs.size ≤ a) : a ∉ X.fs := fun hb => by
 obtain ⟨_, o, ho, _⟩ := I.ok.funs.mem hb
 exact absurd (Nat.lt_of_lt_of_le (Heap.lt_size ho) (Nat.le_trans I.sz h)) (Nat.lt_irrefl _)
theorem Inv.cne (I : Inv X pins σ H s) : ∀ x c, X.env.cells.lookup x = some c → c ≠ X.env.locals := fun x c e z => by
 obtain ⟨v, o, ho, hd⟩ := I.cell x c e
 obtain ⟨m, ⟨o', es, ep, ho', hd', _⟩, _⟩ := I.loc
 rw [z, ho'] at ho; cases ho; rw [hd'] at hd; cases hd
theorem Inv.funs (I : Inv X pins σ H s) : s.heap.FunFrames X.base X.outer := by
 have all : ∀ (l : List Env), (∀ b ∈ frs l, b ∈ X.fs) → X.s₀.heap.FunFrames X.base l → s.heap.FunFrames X.base l := by
  intro l
  induction l with
  | nil => intro _ _; trivial
  | cons env r ih =>
   intro hs hl
   obtain ⟨hk, ⟨L, o, hf, hn, ho, hd⟩, hr⟩ := hl
   have hL : L ∈ X.fs := hs L (by unfold frs; rw [List.filterMap_cons, hf]; exact List.mem_cons_self)
   obtain ⟨sl, e⟩ := I.base.slot L o ho (I.ok.frf L hL) hL fun z => I.ok.exfs L z hL
   exact ⟨hk, ⟨L, _, hf, hn, e, hd⟩, ih (fun b hb => hs b (by unfold frs; rw [List.filterMap_cons, hf]; exact List.mem_cons_of_mem _ hb)) hr⟩
 exact all X.outer (fun _ hb => hb) I.ok.funs
theorem Inv.stack (I : Inv X pins σ H s) : s.heap.FunFrames X.base X.stack := by
 rcases I.ok.stk with e | ⟨e, hf⟩
 ·rw [e]; exact I.funs
 ·rw [e]
  obtain ⟨m, hn, _⟩ := I.loc
  refine .cons (by rw [I.ok.kind]; decide) hf hn ?_ I.funs
  exact Heap.get?_none_of_le (Nat.le_trans I.ok.bsz I.ok.above)
theorem Inv.stkSub (I : Inv X pins σ H s) : ∀ b ∈ frs X.stack, b ∈ X.env.locals :: X.fs := fun b hb => by
 rcases I.ok.stk with e | ⟨e, hf⟩
 ·rw [e] at hb; exact List.mem_cons_of_mem _ hb
 ·rw [e] at hb
  unfold frs at hb
  rw [List.filterMap_cons, hf] at hb
  exact hb
theorem Inv.stkFree (I : Inv X pins σ H s) : ∀ b ∈ frs X.stack, H b = none := fun b hb => by
 rcases List.mem_cons.mp (I.stkSub b hb) with e | hb
 ·rw [e]; exact I.free
 ·obtain ⟨_, o, ho, _⟩ := I.ok.funs.mem hb
  exact I.base.free b o ho (I.ok.frf b hb) fun z => I.ok.exfs b z hb
theorem Inv.step {g' : Array GenState} {t' : Nat} {d' : Drawn} {ch : List Addr} (I : Inv X pins σ H s)
  (hch : ∀ b ∈ ch, (b ∈ X.ex ∨ X.s₀.heap.objs.size ≤ b) ∧ b ≠ X.env.locals ∧ (∀ x c, X.env.cells.lookup x = some c → c ≠ b) ∧ ∀ p ∈ X.pn ++ pins, p.1 ≠ b)
  (keep : ∀ b o, b ≠ X.env.locals → b ∉ X.fs → b ∉ ch → s.heap.get? b = some o → H b = none → h'.get? b = some o)
  (slot : ∀ b o, b ≠ X.env.locals → b ∈ X.fs → b ∉ ch → s.heap.get? b = some o → H b = none → ∃ sl, h'.get? b = some { o with slots := sl }) (free : ∀ b o, b ∉ ch → s.heap.get? b = some o → H b = none → H' b = none)
  (there : ∀ b o, b ∉ ch → s.heap.get? b = some o → ∃ o', h'.get? b = some o')
  (tups : ∀ b xs, H b = some (.tup xs) → H' b = some (.tup xs)) (frzs : ∀ b o u, H b = some (.frz o u) → H' b = some (.frz o u)) (tbls : ∀ b ps, H b = some (.tbl ps) → ∃ more, H' b = some (.tbl (ps ++ more)))
  (ns : ∀ m, s.heap.Ns X.env.locals m → h'.Ns X.env.locals m) (hok : HOk X.prog X.w H' h') (hg : AllBare g') :
  Inv X pins σ H' { s with heap := h', gens := g', drawn := d', toks := t' } := by
 have neL : ∀ b o, X.s₀.heap.get? b = some o → b ≠ X.env.locals := fun b o e => Nat.ne_of_lt (Nat.lt_of_lt_of_le (Heap.lt_size e) I.ok.above)
 have neC : ∀ b o, X.s₀.heap.get? b = some o → b ∉ X.ex → b ∉ ch := fun b o e hx hb => by
  rcases (hch b hb).1 with z | z
  ·exact hx z
  ·exact absurd (Nat.lt_of_lt_of_le (Heap.lt_size e) z) (Nat.lt_irrefl _)
 have cellK : ∀ x c, X.env.cells.lookup x = some c → ∀ v, s.heap.IsCell c v → h'.IsCell c v := fun x c e v ⟨o, ho, hd⟩ => by
  have nch : c ∉ ch := fun z => (hch c z).2.2.1 x c e rfl
  by_cases hc : c ∈ X.fs
  ·obtain ⟨sl, q⟩ := slot c o (I.cne x c e) hc nch ho (I.freeC x c e)
   exact ⟨_, q, hd⟩
  ·exact ⟨o, keep c o (I.cne x c e) hc nch ho (I.freeC x c e), hd⟩
 refine ⟨I.ok, I.os, hg, ⟨fun b o e n hb hx => ?_, fun b o e n hb hx => ?_, fun b o e n hx => ?_, fun b o e hx => ?_, fun b xs e => tups b xs (I.base.tups b xs e), fun b o xs e => frzs b o xs (I.base.frzs b o xs e), fun b ps e => ?_⟩, ?_, fun x c e => ?_, ?_, fun x c e => ?_, fun p hp => ?_, hok, I.len⟩
 ·exact keep b o (neL b o e) hb (neC b o e hx) (I.base.keep b o e n hb hx) (I.base.free b o e n hx)
 ·obtain ⟨sl, e1⟩ := I.base.slot b o e n hb hx
  obtain ⟨sl', e2⟩ := slot b _ (neL b o e) hb (neC b o e hx) e1 (I.base.free b o e n hx)
  exact ⟨sl', e2⟩
 ·obtain ⟨o', e1⟩ := I.base.there b o e hx
  exact free b o' (neC b o e hx) e1 (I.base.free b o e n hx)
 ·obtain ⟨o', e1⟩ := I.base.there b o e hx
  exact there b o' (neC b o e hx) e1
 ·obtain ⟨m1, e1⟩ := I.base.tbls b ps e
  obtain ⟨m2, e2⟩ := tbls b _ e1
  exact ⟨m1 ++ m2, by rw [e2, Array.append_assoc]⟩
 ·obtain ⟨m, hn, hl⟩ := I.loc
  refine ⟨m, ns m hn, fun i x v e1 e2 e3 => ?_⟩
  obtain ⟨u, r, l⟩ := hl i x v e1 e2 e3
  refine ⟨u, r, ?_⟩
  rcases l with l | ⟨k, c, e, z⟩
  ·exact .inl l
  ·exact .inr ⟨k, c, e, cellK x c e _ z⟩
 ·obtain ⟨v, z⟩ := I.cell x c e
  exact ⟨v, cellK x c e v z⟩
 ·obtain ⟨m, ⟨o, _, _, ho, _⟩, _⟩ := I.loc
  exact free _ o (fun z => (hch _ z).2.1 rfl) ho I.free
 ·obtain ⟨v, o, ho, hd⟩ := I.cell x c e
  exact free c o (fun z => (hch c z).2.2.1 x c e rfl) ho (I.freeC x c e)
 ·obtain ⟨e, n, ne, nf, d⟩ := I.pin p hp
  have nch : p.1 ∉ ch := fun z => (hch p.1 z).2.2.2 p hp rfl
  exact ⟨keep p.1 p.2 ne nf nch e n, free p.1 p.2 nch e n, ne, nf, d⟩
theorem Inv.un {t' : Nat} (I : Inv X pins σ H s) (u : Un X.fs [] H H' s.heap h') (hok : HOk X.prog X.w H' h') : Inv X pins σ H' { s with heap := h', toks := t' } := by
 obtain ⟨m, ⟨o, es, ep, ho, r⟩, _⟩ := id I.loc
 obtain ⟨sl, hL⟩ := u.any ho I.free (by simp)
 exact I.step (g' := s.gens) (d' := s.drawn) (ch := []) (fun _ z => nomatch z) (fun b o _ hb _ e n => u.keep b o e n hb (by simp)) (fun b o _ hb _ e n => u.slot b o e n hb (by simp)) (fun b o _ e n => u.free b o e n (by simp)) (fun b o _ e => u.there b o e (by simp)) u.tups u.frzs u.tbls (fun m' hm => by
  obtain ⟨o', es', ep', ho', r'⟩ := hm
  rw [ho] at ho'; cases ho'
  exact ⟨_, es', ep', hL, r'⟩) hok I.bare
theorem Inv.call {g' : Array GenState} {t' : Nat} {d' : Drawn} {ch : List Addr} (I : Inv X pins σ H s) (u : Un (frs X.stack) ch H H' s.heap h') (hok : HOk X.prog X.w H' h') (hg : AllBare g')
  (hch : ∀ b ∈ ch, (b ∈ X.ex ∨ X.s₀.heap.objs.size ≤ b) ∧ b ≠ X.env.locals ∧ (∀ x c, X.env.cells.lookup x = some c → c ≠ b) ∧ ∀ p ∈ X.pn ++ pins, p.1 ≠ b) :
  Inv X pins σ H' { s with heap := h', gens := g', drawn := d', toks := t' } := by
 obtain ⟨m, ⟨o, es, ep, ho, r⟩, _⟩ := id I.loc
 obtain ⟨sl, hL⟩ := u.any ho I.free fun z => (hch _ z).2.1 rfl
 exact I.step (ch := ch) hch (fun b o hL hb hc e n => u.keep b o e n (fun z => (List.mem_cons.mp (I.stkSub b z)).elim hL hb) hc) (fun b o _ _ hc e n => u.any e n hc) (fun b o hc e n => u.free b o e n hc) (fun b o hc e => u.there b o e hc) u.tups u.frzs u.tbls (fun m' hm => by
  obtain ⟨o', es', ep', ho', r'⟩ := hm
  rw [ho] at ho'; cases ho'
  exact ⟨_, es', ep', hL, r'⟩) hok hg
theorem Inv.turned {t' : Nat} {it : Addr} (I : Inv X pins σ H s) (k : ∀ b o, b ≠ it → s.heap.get? b = some o → h'.get? b = some o) (hn : H it = none) (hL : it ≠ X.env.locals)
  (h1 : it ∈ X.ex ∨ X.s₀.heap.objs.size ≤ it) (h2 : ∀ x c, X.env.cells.lookup x = some c → c ≠ it) (h3 : ∀ p ∈ X.pn ++ pins, p.1 ≠ it) : Inv X pins σ H { s with heap := h', toks := t' } := by
 have nit : ∀ b u, H b = some u → b ≠ it := fun b u e z => by rw [z, hn] at e; cases e
 refine I.step (g' := s.gens) (d' := s.drawn) (ch := [it]) (fun b hb => ?_) (fun b o _ _ hc e _ => k b o (fun z => hc (by simp [z])) e) (fun b o _ _ hc e _ => ⟨o.slots, k b o (fun z => hc (by simp [z])) e⟩) (fun _ _ _ _ n => n)
  (fun b o hc e => ⟨o, k b o (fun z => hc (by simp [z])) e⟩) (fun _ _ e => e) (fun _ _ _ e => e) (fun b ps e => ⟨#[], by rw [e]; simp⟩) (fun m hm => ?_) (fun b u e => ?_) I.bare
 ·have e : b = it := by simpa using hb
  subst e
  exact ⟨h1, hL, h2, h3⟩
 ·obtain ⟨o, es, ep, ho, r⟩ := hm
  exact ⟨o, es, ep, k _ o (Ne.symm hL) ho, r⟩
 ·refine (I.hok b u e).stay (fun c v hc q => k c v ?_ q) (fun _ q => q) fun _ _ q => q
  rcases hc with z | z
  ·rw [z]; exact nit b u e
  ·exact nit c _ z
theorem Inv.tok (I : Inv X pins σ H s) (t : Nat) : Inv X pins σ H { s with toks := t } := I.un (h' := s.heap) (t' := t) Un.refl I.hok
theorem Inv.kept {t' : Nat} (I : Inv X pins σ H s) (k : ∀ b u, s.heap.get? b = some u → h'.get? b = some u) : Inv X pins σ H { s with heap := h', toks := t' } := I.un (Un.kept k) (I.hok.kept k)
theorem Inv.laid {a : Addr} {o : HO} {t' : Nat} (I : Inv X pins σ H s) (k : ∀ b u, s.heap.get? b = some u → h'.get? b = some u) (hp : s.heap.objs.size ≤ a) (new : q5m X.prog X.w (upd H a o) h' a o) :
  Inv X pins σ (upd H a o) { s with heap := h', toks := t' } := I.un (Un.laid k hp (I.hok.fresh hp)) (I.hok.laid k hp new)
theorem Inv.write {x e : Addr} {o : HO} {t' : Nat} (I : Inv X pins σ H s) (mu : Mut (H x)) (he : e = x ∨ H e = some (.own x)) (k : ∀ b u, b ≠ e → s.heap.get? b = some u → h'.get? b = some u) (heo : ∃ u, h'.get? e = some u)
  (new : q5m X.prog X.w (upd H x o) h' x o) : Inv X pins σ (upd H x o) { s with heap := h', toks := t' } := I.un (Un.write mu he k heo) (I.hok.write mu he k heo new)
theorem Inv.pins_of {pins' : List (Addr × Obj)} (I : Inv X pins σ H s) (h : ∀ p ∈ pins', s.heap.get? p.1 = some p.2 ∧ H p.1 = none ∧ p.1 ≠ X.env.locals ∧ p.1 ∉ X.fs ∧ ∀ v, p.2.data ≠ .cell v) : Inv X pins' σ H s :=
 ⟨I.ok, I.os, I.bare, I.base, I.loc, I.cell, I.free, I.freeC, fun p hp => (List.mem_append.mp hp).elim (fun z => I.pin p (List.mem_append_left _ z)) (h p), I.hok, I.len⟩
theorem z2a {N : List Str} (hN : N.Nodup) {i j : Nat} {x : Str} (a : N[i]? = some x) (b : N[j]? = some x) : i = j := by
 obtain ⟨h1, e1⟩ := List.getElem?_eq_some_iff.mp a
 obtain ⟨h2, e2⟩ := List.getElem?_eq_some_iff.mp b
 exact (List.getElem_inj hN).mp (e1.trans e2.symm)
theorem x9t {M : Model} {A : Around} {E : Value → Shared → Prop} {i : Nat} {x : Str} {v : V} {u : Value} {Q : Unit → Shared → Prop} (I : Inv X pins σ H s) (hN : X.N.Nodup) (hi : X.N[i]? = some x) (hx : Loc X.env.scope x) (r : q5d v u)
  (h : ∀ s', Inv X pins (σ.set i (some v)) H s' → (∃ a, Heap.SameBut a s.heap s'.heap ∧ (a = X.env.locals ∨ X.env.cells.lookup x = some a)) → Q () s') (hf : X.fn x = true ∨ X.env.scope.names.lookup x = some .local := by first | exact .inl rfl | exact .inr rfl | assumption) : wpAny M A (storeName X.env x u) Q E s := by
 obtain ⟨m, hn, hl⟩ := id I.loc
 have hcls : (X.env.scope.kind == .class || (X.env.scope.kind == .module && X.env.locals != X.env.globals)) = false := by rw [I.ok.kind]; rfl
 have hiσ : i < σ.length := by rw [I.len]; exact (List.getElem?_eq_some_iff.mp hi).1
 have cne := I.cne
 have tracked : ∀ {a : Addr} {h' : Heap}, (∃ o, s.heap.get? a = some o ∧ H a = none) → Heap.SameBut a s.heap h' → HOk X.prog X.w H h' := fun {a h'} ha hs b ob e => by
  obtain ⟨_, _, hfree⟩ := ha
  refine (I.hok b ob e).stay (fun c w' hc q => (hs.2 c ?_).trans q) (fun _ q => q) fun _ _ q => q
  rintro rfl
  rcases hc with rfl | hc
  ·rw [hfree] at e; cases e
  ·rw [hfree] at hc; cases hc
 rcases hx with hk | hk
 ·refine wpAny_storeName_local hk hn (fun h' hn' hs => ?_) hcls
  obtain ⟨oL, _, _, hoL, _⟩ := id hn
  refine h _ ⟨I.ok, I.os, I.bare, ⟨fun b o e n hb hx => ?_, fun b o e n hb hx => ?_, I.base.free, fun b o e hx => ?_, I.base.tups, I.base.frzs, I.base.tbls⟩, ⟨_, hn', fun j y v' e1 e2 e3 => ?_⟩, fun y c e => ?_, I.free, I.freeC, fun p hp => ?_, tracked ⟨oL, hoL, I.free⟩ hs, by simpa using I.len⟩ ⟨_, hs, .inl rfl⟩
  ·exact (hs.2 b (Nat.ne_of_lt (Nat.lt_of_lt_of_le (Heap.lt_size e) I.ok.above))).trans (I.base.keep b o e n hb hx)
  ·obtain ⟨sl, e1⟩ := I.base.slot b o e n hb hx
   exact ⟨sl, (hs.2 b (Nat.ne_of_lt (Nat.lt_of_lt_of_le (Heap.lt_size e) I.ok.above))).trans e1⟩
  ·obtain ⟨o', e1⟩ := I.base.there b o e hx
   exact ⟨o', (hs.2 b (Nat.ne_of_lt (Nat.lt_of_lt_of_le (Heap.lt_size e) I.ok.above))).trans e1⟩
  ·by_cases hj : j = i
   ·subst hj
    rw [hi] at e1; cases e1
    rw [List.getElem?_set_self hiσ] at e2
    cases e2
    exact ⟨u, r, .inl ⟨hk, by simp⟩⟩
   ·rw [List.getElem?_set_ne (Ne.symm hj)] at e2
    obtain ⟨u', r', q⟩ := hl j y v' e1 e2 e3
    refine ⟨u', r', ?_⟩
    rcases q with ⟨k, e⟩ | ⟨k, c, e, z⟩
    ·refine .inl ⟨k, ?_⟩
     have : y ≠ x := fun e => hj (z2a hN e1 (e ▸ hi))
     simp [this, e]
    ·exact .inr ⟨k, c, e, z.sameBut hs (cne y c e)⟩
  ·obtain ⟨w', z⟩ := I.cell y c e
   exact ⟨w', z.sameBut hs (cne y c e)⟩
  ·obtain ⟨e, n, ne, nf, d⟩ := I.pin p hp
   exact ⟨(hs.2 p.1 ne).trans e, n, ne, nf, d⟩
 ·have hfn : X.fn x = true := by
   rcases hf with z | z
   ·exact z
   ·rw [z] at hk; cases hk
  obtain ⟨c, hc⟩ := I.ok.has x (.inl hk)
  obtain ⟨w', z⟩ := I.cell x c hc
  refine wpAny_storeName_cell I.ok.kind hk hc z (fun h' hc' hs => ?_)
  obtain ⟨oc, hoc, hocd⟩ := id z
  refine h { s with heap := h' } ⟨I.ok, I.os, I.bare, ⟨fun b o e n hb hx => ?_, fun b o e n hb hx => ?_, I.base.free, fun b o e hx => ?_, I.base.tups, I.base.frzs, I.base.tbls⟩, ⟨m, hn.sameBut hs (Ne.symm (cne x c hc)), fun j y v' e1 e2 e3 => ?_⟩, fun y c' e => ?_, I.free, I.freeC, fun p hp => ?_, tracked ⟨oc, hoc, I.freeC x c hc⟩ hs, by simpa using I.len⟩ ⟨c, hs, .inr hc⟩
  ·exact (hs.2 b (Nat.ne_of_lt (Nat.lt_of_lt_of_le (Heap.lt_size e) (I.ok.cab x c hfn hc)))).trans (I.base.keep b o e n hb hx)
  ·obtain ⟨sl, e1⟩ := I.base.slot b o e n hb hx
   exact ⟨sl, (hs.2 b (Nat.ne_of_lt (Nat.lt_of_lt_of_le (Heap.lt_size e) (I.ok.cab x c hfn hc)))).trans e1⟩
  ·obtain ⟨o', e1⟩ := I.base.there b o e hx
   exact ⟨o', (hs.2 b (Nat.ne_of_lt (Nat.lt_of_lt_of_le (Heap.lt_size e) (I.ok.cab x c hfn hc)))).trans e1⟩
  ·by_cases hj : j = i
   ·subst hj
    rw [hi] at e1; cases e1
    rw [List.getElem?_set_self hiσ] at e2
    cases e2
    exact ⟨u, r, .inr ⟨.inl hk, c, hc, hc'⟩⟩
   ·rw [List.getElem?_set_ne (Ne.symm hj)] at e2
    obtain ⟨u', r', q⟩ := hl j y v' e1 e2 e3
    refine ⟨u', r', ?_⟩
    rcases q with q | ⟨k, c', e, z'⟩
    ·exact .inl q
    ·refine .inr ⟨k, c', e, z'.sameBut hs ?_⟩
     rintro rfl
     exact hj (z2a hN e1 (I.ok.inj _ _ _ e hc ▸ hi))
  ·by_cases hcc : c' = c
   ·subst hcc; exact ⟨_, hc'⟩
   ·obtain ⟨w2, z2⟩ := I.cell y c' e
    exact ⟨w2, z2.sameBut hs hcc⟩
  ·obtain ⟨e, n, ne, nf, d⟩ := I.pin p hp
   refine ⟨(hs.2 p.1 ?_).trans e, n, ne, nf, d⟩
   intro q
   rw [q, hoc] at e
   have q' : oc = p.2 := Option.some.inj e
   exact d w' (by rw [← q']; exact hocd)
theorem z2o {M : Model} {A : Around} {E : Value → Shared → Prop} {i : Nat} {x : Str} {v : V} {u : Value} {Q : Unit → Shared → Prop} (I : Inv X pins σ H s) (hN : X.N.Nodup) (hi : X.N[i]? = some x) (hx : Loc X.env.scope x) (r : q5d v u)
  (h : ∀ s', Inv X pins (σ.set i (some v)) H s' → Q () s') (hf : X.fn x = true ∨ X.env.scope.names.lookup x = some .local := by first | exact .inl rfl | exact .inr rfl | assumption) : wpAny M A (storeName X.env x u) Q E s :=
 x9t I hN hi hx r (fun s' I' _ => h s' I') hf
theorem Inv.call' {s' : Shared} {ch : List Addr} (I : Inv X pins σ H s) (ho : s'.os = s.os) (u : Un (frs X.stack) ch H H' s.heap s'.heap) (hok : HOk X.prog X.w H' s'.heap) (hg : AllBare s'.gens)
  (hch : ∀ b ∈ ch, (b ∈ X.ex ∨ X.s₀.heap.objs.size ≤ b) ∧ b ≠ X.env.locals ∧ (∀ x c, X.env.cells.lookup x = some c → c ≠ b) ∧ ∀ p ∈ X.pn ++ pins, p.1 ≠ b) : Inv X pins σ H' s' := by
 obtain ⟨h', g', d', t', o'⟩ := s'
 have e : o' = s.os := ho
 subst e
 exact I.call (g' := g') (t' := t') (d' := d') u hok hg hch
end
noncomputable abbrev XK := Value → Option Addr → Hp → Prop
noncomputable abbrev St := List (Option V)
noncomputable abbrev VK := V → Hp → Prop
noncomputable abbrev TE := St → Hp → VK → Prop
noncomputable abbrev TT := St → Hp → (Bool → Hp → Prop) → Prop
noncomputable abbrev TA := St → Hp → (List V → Hp → Prop) → Prop
structure Ends where
 nx : St → Hp → Prop
 rt : VK
 bk : St → Hp → Prop := fun _ _ => False
 ct : St → Hp → Prop := fun _ _ => False
noncomputable abbrev TS := Ends → St → Hp → Prop
noncomputable def EP (X : Cx) (pins : List (Addr × Obj)) (σ : St) (Q : VK) (u : Value) (s' : Shared) : Prop := ∃ v H', Inv X pins σ H' s' ∧ q5d v u ∧ Q v H'
noncomputable def TP (X : Cx) (pins : List (Addr × Obj)) (σ : St) (Q : Bool → Hp → Prop) (b : Bool) (s' : Shared) : Prop := ∃ H', Inv X pins σ H' s' ∧ Q b H'
noncomputable def AP (X : Cx) (pins : List (Addr × Obj)) (σ : St) (Q : List V → Hp → Prop) (us : List Value) (s' : Shared) : Prop := ∃ vs H', Inv X pins σ H' s' ∧ q3r vs us ∧ Q vs H'
noncomputable def SP (X : Cx) (pins : List (Addr × Obj)) (D : Ends) (f : Flow) (s' : Shared) : Prop :=
 match f with
 | .next => ∃ σ' H', Inv X pins σ' H' s' ∧ D.nx σ' H'
 | .brk => ∃ σ' H', Inv X pins σ' H' s' ∧ D.bk σ' H'
 | .cont => ∃ σ' H', Inv X pins σ' H' s' ∧ D.ct σ' H'
 | .ret u => ∃ v σ' H', Inv X pins σ' H' s' ∧ q5d v u ∧ D.rt v H'
noncomputable def PE (X : Cx) (e : Expr) (t : TE) : Prop :=
 ∀ (pins : List (Addr × Obj)) (s : Shared) (σ : St) (H : Hp) (Q : VK), Inv X pins σ H s → t σ H Q → wpAny (model X.prog X.w) X.A (eval e X.env) (EP X pins σ Q) X.xe s
noncomputable def PT (X : Cx) (e : Expr) (t : TT) : Prop :=
 ∀ (pins : List (Addr × Obj)) (s : Shared) (σ : St) (H : Hp) (Q : Bool → Hp → Prop), Inv X pins σ H s → t σ H Q → wpAny (model X.prog X.w) X.A (isTrue e X.env (eval e X.env)) (TP X pins σ Q) X.xe s
noncomputable def PW (X : Cx) (e : Expr) (t : TT) : Prop :=
 ∀ (whole : Sem Value) (pins : List (Addr × Obj)) (s : Shared) (σ : St) (H : Hp) (Q : Bool → Hp → Prop), Inv X pins σ H s → t σ H Q → wpAny (model X.prog X.w) X.A (isTrue e X.env whole) (TP X pins σ Q) X.xe s
theorem PW.pt {X : Cx} {e : Expr} {t : TT} (h : PW X e t) : PT X e t := h _
noncomputable def PA (X : Cx) (es : List Expr) (t : TA) : Prop :=
 ∀ (pos : Pos) (pins : List (Addr × Obj)) (s : Shared) (σ : St) (H : Hp) (Q : List V → Hp → Prop), Inv X pins σ H s → t σ H Q → wpAny (model X.prog X.w) X.A (spliced (backTo pos (starEach es X.env))) (AP X pins σ Q) X.xe s
noncomputable def PS (X : Cx) (st : Stmt) (t : TS) : Prop :=
 ∀ (pins : List (Addr × Obj)) (s : Shared) (σ : St) (H : Hp) (D : Ends), Inv X pins σ H s → t D σ H → wpAny (model X.prog X.w) X.A (exec st X.env) (SP X pins D) X.xe s
noncomputable def PSs (X : Cx) (st : List Stmt) (t : TS) : Prop :=
 ∀ (pins : List (Addr × Obj)) (s : Shared) (σ : St) (H : Hp) (D : Ends), Inv X pins σ H s → t D σ H → wpAny (model X.prog X.w) X.A (execs st X.env) (SP X pins D) X.xe s
theorem thn {α : Type} {t : Sem α} {Q Q' : α → Shared → Prop} {M : Model} {A : Around} {E : Value → Shared → Prop} {s : Shared} (h : wpAny M A t Q E s) (hQ : ∀ a s, Q a s → Q' a s) : wpAny M A t Q' E s := wpAny_mono h hQ fun _ _ x => x
section
variable {X : Cx}
noncomputable def w0c (i : Nat) : TE := fun σ H Q => ∃ v, σ[i]? = some (some v) ∧ Q v H
noncomputable def tC (v : V) : TE := fun _ H Q => Q v H
theorem j8w {i : Nat} {x : Str} {pos : Pos} (hN : X.N[i]? = some x) (hv : Vis X.env.scope x) (hd : (x == ("__debug__" : Str)) = false := by decide) (hcd : (x == ("__classdict__" : Str)) = false := by decide) : PE X (.Name x pos) (w0c i) := by
 intro pins s σ H Q I h
 obtain ⟨v, e, h⟩ := h
 obtain ⟨m, hn, hl⟩ := I.loc
 obtain ⟨u, r, l⟩ := hl i x v hN e hv
 have fin : EP X pins σ Q u s := ⟨v, H, I, r, h⟩
 rcases l with ⟨hk, hm⟩ | ⟨hk, c, hc, hcell⟩
 ·exact wpAny_Name (wpAny_loadName_local I.ok.kind hk hn hm fin) hd
 ·rcases hk with hk | hk
  ·exact wpAny_Name (wpAny_loadName_cell I.ok.kind hk hc hcell fin) hd
  ·exact wpAny_Name (wpAny_loadName_free I.ok.kind hk hc hcell fin hcd) hd
theorem q0a {i j pos} : PE X (.Constant (.int i) j pos) (tC (.int i)) := fun _ _ _ H _ I h => wpAny_Constant_int ⟨.int i, H, I.tok _, ⟨_, rfl⟩, h⟩
theorem x0m {b j pos} : PE X (.Constant (.bool b) j pos) (tC (.bl b)) := fun _ _ _ H _ I h => Constant_bool ⟨.bl b, H, I, rfl, h⟩
theorem x2r {j pos} : PE X (.Constant .none j pos) (tC .non) := fun _ _ _ H _ I h => Constant_none ⟨.non, H, I, rfl, h⟩
theorem q0r {x j pos} : PE X (.Constant (.str x) j pos) (tC (.str x)) := fun _ _ _ H _ I h => Calls.Constant_str ⟨.str x, H, I.tok _, ⟨_, rfl⟩, h⟩
noncomputable def Gl (X : Cx) (x : Str) : Prop := X.env.kindOf x = some .globalImplicit
theorem x4b {E : Value → Shared → Prop} {pins : List (Addr × Obj)} {s : Shared} {σ : St} {H : Hp} {x : Str} {u : Value} {pos : Pos} {Q : Value → Shared → Prop} (I : Inv X pins σ H s) (hg : Gl X x) (hm : X.mg x = some u) (h : Q u s)
  (hd : (x == ("__debug__" : Str)) = false := by decide) : wpAny (model X.prog X.w) X.A (eval (.Name x pos) X.env) Q E s :=
 Calls.Name_function_global I.ok.kind hg (Calls.loadGlobal_global (by rw [I.ok.glob]; exact I.mod.glob.keeps I.bk) hm h) hd
theorem x5h {E : Value → Shared → Prop} {pins : List (Addr × Obj)} {s : Shared} {σ : St} {H : Hp} {x : Str} {u : Value} {pos : Pos} {Q : Value → Shared → Prop} (I : Inv X pins σ H s) (hg : Gl X x) (hm : X.mg x = none) (hv : bootBuiltins x = some u) (h : Q u s)
  (hn : x ≠ "__name__" := by decide) (hd : (x == ("__debug__" : Str)) = false := by decide) : wpAny (model X.prog X.w) X.A (eval (.Name x pos) X.env) Q E s := by
 obtain ⟨mb, h1, h2⟩ := I.mod.blt
 exact Calls.Name_function_global I.ok.kind hg (Calls.loadGlobal_builtin (by rw [I.ok.glob]; exact I.mod.glob.keeps I.bk) hm (by rw [I.ok.blt]; exact h1.keeps I.bk) ((h2 x hn).trans hv) h) hd
theorem j5m {x : Str} {v : V} {u : Value} {pos : Pos} (hg : Gl X x) (hm : X.mg x = some u) (r : q5d v u) (hd : (x == ("__debug__" : Str)) = false := by decide) : PE X (.Name x pos) (tC v) :=
 fun _ _ _ H _ I h => x4b I hg hm ⟨v, H, I, r, h⟩ hd
theorem j6x {x : Str} {v : V} {u : Value} {pos : Pos} (hg : Gl X x) (hm : X.mg x = none) (hv : bootBuiltins x = some u) (r : q5d v u) (hn : x ≠ "__name__" := by decide) (hd : (x == ("__debug__" : Str)) = false := by decide) : PE X (.Name x pos) (tC v) :=
 fun _ _ _ H _ I h => x5h I hg hm hv ⟨v, H, I, r, h⟩ hn hd
variable {a b : Expr} {ta tb : TE} {pos : Pos}
noncomputable def tB (t : TE) : TT := fun σ H Q => t σ H fun x H1 => ∃ c, x = .bl c ∧ Q c H1
theorem q2n {e : Expr} {t : TE} (h : PE X e t) (he : ∀ whole, isTrue e X.env whole = (do let v ← whole; standAt e.pos; holding [v] (truthy v)) := by intro _; rfl) : PT X e (tB t) := by
 intro pins s σ H Q I hw
 refine isTrue_plain (thn (h pins s σ H _ I hw) fun v s1 ⟨x, H1, I1, r1, q1⟩ => ?_) (he _)
 obtain ⟨d, rfl, q⟩ := q1
 cases r1
 exact wpAny_truthy_bool ⟨H1, I1, q⟩
variable {tA tB' : TT} {q3y : List Expr}
noncomputable def w4a (t u : TT) : TT := fun σ H Q => t σ H fun c H1 => if c = true then u σ H1 Q else Q false H1
noncomputable def tOr (t u : TT) : TT := fun σ H Q => t σ H fun c H1 => if c = true then Q true H1 else u σ H1 Q
noncomputable def w3h (t : TT) : TT := fun σ H Q => t σ H fun c H1 => Q (!c) H1
theorem x6l (ha : PT X a tA) : PW X (.BoolOp .And [a] pos) tA := by
 intro wh pins s σ H Q I h
 refine isTrue_and (thn (ha pins s σ H Q I h) fun c s1 e => ?_)
 cases c with
 | true => exact isTrue_and_nil e
 | false => exact e
theorem q7y (ha : PT X a tA) : PW X (.BoolOp .Or [a] pos) tA := by
 intro wh pins s σ H Q I h
 refine isTrue_or (thn (ha pins s σ H Q I h) fun c s1 e => ?_)
 cases c with
 | false => exact isTrue_or_nil e
 | true => exact e
theorem x5g (ha : PT X a tA) (hb : PW X (.BoolOp .And (b :: q3y) pos) tB') : PW X (.BoolOp .And (a :: b :: q3y) pos) (w4a tA tB') := by
 intro wh pins s σ H Q I h
 refine isTrue_and (thn (ha pins s σ H _ I h) fun c s1 ⟨H1, I1, q1⟩ => ?_)
 cases c with
 | true => exact hb wh pins s1 σ H1 Q I1 q1
 | false => exact ⟨H1, I1, q1⟩
theorem q7j (ha : PT X a tA) (hb : PW X (.BoolOp .Or (b :: q3y) pos) tB') : PW X (.BoolOp .Or (a :: b :: q3y) pos) (tOr tA tB') := by
 intro wh pins s σ H Q I h
 refine isTrue_or (thn (ha pins s σ H _ I h) fun c s1 ⟨H1, I1, q1⟩ => ?_)
 cases c with
 | true => exact ⟨H1, I1, q1⟩
 | false => exact hb wh pins s1 σ H1 Q I1 q1
theorem q3b (ha : PT X a tA) : PT X (.UnaryOp .Not a pos) (w3h tA) := by
 intro pins s σ H Q I h
 exact isTrue_not (ha pins s σ H (fun c H1 => Q (!c) H1) I h)
noncomputable def w0w (ta tb : TE) : TE := fun σ H Q => ta σ H fun x H1 => ∃ c, x = .bl c ∧ if c = true then tb σ H1 Q else Q (.bl false) H1
noncomputable def w3s (ta tb : TE) : TE := fun σ H Q => ta σ H fun x H1 => ∃ c, x = .bl c ∧ if c = true then Q (.bl true) H1 else tb σ H1 Q
noncomputable def w1e (ta : TE) : TE := fun σ H Q => ta σ H fun x H1 => ∃ c, x = .bl c ∧ Q (.bl (!c)) H1
theorem q2h {op} {t : TE} (h : PE X a t) : PE X (.BoolOp op [a] pos) t := fun pins s σ H Q I hw => BoolOp_one (h pins s σ H Q I hw)
theorem q1z (ha : PE X a ta) (hb : PE X (.BoolOp .And (b :: q3y) pos) tb) : PE X (.BoolOp .And (a :: b :: q3y) pos) (w0w ta tb) := by
 intro pins s σ H Q I h
 refine BoolOp_and (thn (ha pins s σ H _ I h) fun v s1 ⟨x, H1, I1, r1, q1⟩ => ?_)
 obtain ⟨c, rfl, q1⟩ := q1
 cases r1
 refine wpAny_truthy_bool ?_
 cases c with
 | true => exact hb pins s1 σ H1 Q I1 q1
 | false => exact ⟨.bl false, H1, I1, rfl, q1⟩
theorem z7c (ha : PE X a ta) (hb : PE X (.BoolOp .Or (b :: q3y) pos) tb) : PE X (.BoolOp .Or (a :: b :: q3y) pos) (w3s ta tb) := by
 intro pins s σ H Q I h
 refine BoolOp_or (thn (ha pins s σ H _ I h) fun v s1 ⟨x, H1, I1, r1, q1⟩ => ?_)
 obtain ⟨c, rfl, q1⟩ := q1
 cases r1
 refine wpAny_truthy_bool ?_
 cases c with
 | false => exact hb pins s1 σ H1 Q I1 q1
 | true => exact ⟨.bl true, H1, I1, rfl, q1⟩
theorem z2c (ha : PE X a ta) : PE X (.UnaryOp .Not a pos) (w1e ta) := by
 intro pins s σ H Q I h
 refine UnaryOp_ (thn (ha pins s σ H _ I h) fun v s1 ⟨x, H1, I1, r1, q1⟩ => ?_)
 obtain ⟨c, rfl, q1⟩ := q1
 cases r1
 exact not_of (wpAny_truthy_bool ⟨.bl (!c), H1, I1, rfl, q1⟩)
noncomputable def tIf (t : TT) (ta tb : TE) : TE := fun σ H Q => t σ H fun c H1 => if c = true then ta σ H1 Q else tb σ H1 Q
theorem z3q {c : Expr} (hc : PT X c tA) (ha : PE X a ta) (hb : PE X b tb) : PE X (.IfExp c a b pos) (tIf tA ta tb) := by
 intro pins s σ H Q I h
 refine wpAny_IfExp (thn (hc pins s σ H _ I h) fun d s1 ⟨H1, I1, q1⟩ => ?_)
 cases d with
 | true => exact ha pins s1 σ H1 Q I1 q1
 | false => exact hb pins s1 σ H1 Q I1 q1
end
noncomputable def SqL (K : PySem.W.Frag) (H : Hp) (a : Addr) (xs : List V) : Prop :=
 Rd H a (.lst xs) ∨
  ∃ (o : Obj) (its : Array Value) (n : Nat), K.lookup a = some o ∧ o.cls = .type "list" ∧ o.dict = none ∧ o.data = .seq its n ∧ its.size ≤ sizeLine ∧ q3r xs its.toList
noncomputable def SqT (K : PySem.W.Frag) (H : Hp) (a : Addr) (xs : List V) : Prop :=
 Rd H a (.tup xs) ∨
  ∃ (o : Obj) (its : Array Value) (n : Nat), K.lookup a = some o ∧ o.cls = .type "tuple" ∧ o.data = .seq its n ∧ its.size ≤ sizeLine ∧ q3r xs its.toList
noncomputable def w4g : Value → Option V
 | .none => some .non
 | .bool b => some (.bl b)
 | .int i _ => some (.int i)
 | .str x _ => some (.str x)
 | .bytes b _ => some (.byt b)
 | .float b _ => some (.flt b)
 | .ref a => some (.ref a)
 | .type n => some (.ty n)
 | _ => none
theorem q5d.abs {x : V} {u : Value} (r : q5d x u) : w4g u = some x := by
 cases x with
 | non => cases r; rfl
 | bl _ => cases r; rfl
 | int _ => obtain ⟨t, rfl⟩ := r; rfl
 | str _ => obtain ⟨t, rfl⟩ := r; rfl
 | byt _ => obtain ⟨t, rfl⟩ := r; rfl
 | flt _ => obtain ⟨t, rfl⟩ := r; rfl
 | ref _ => cases r; rfl
 | ty _ => cases r; rfl
theorem q5d.inj {x y : V} {u : Value} (r : q5d x u) (q : q5d y u) : x = y := Option.some.inj (r.abs.symm.trans q.abs)
theorem q3r.inj : ∀ {xs ys : List V} {us : List Value}, q3r xs us → q3r ys us → xs = ys
 | _, _, _, .nil, .nil => rfl
 | _, _, _, .cons r t, .cons r' t' => by rw [r.inj r', q3r.inj t t']
section
variable {X : Cx} {pins : List (Addr × Obj)} {σ : St} {H : Hp} {s : Shared} {a : Addr} {xs ys : List V}
theorem SqL.of {K : PySem.W.Frag} (h : H a = some (.lst xs)) : SqL K H a xs := .inl (.inl h)
theorem SqT.of {K : PySem.W.Frag} (h : H a = some (.tup xs)) : SqT K H a xs := .inl (.inl h)
theorem Inv.list (I : Inv X pins σ H s) (h : SqL X.K H a xs) : ∃ its : List Value, q3r xs its ∧ PlainL s.heap a its.toArray ∧ xs.length ≤ sizeLine := by
 rcases h with h | ⟨o, its, n, hk, hc, hd, hs, hz, r⟩
 ·obtain ⟨z, its, n, r, e⟩ := h.ok I.hok
  exact ⟨its, r, ⟨_, n, e, rfl, rfl, rfl⟩, z⟩
 ·refine ⟨its.toList, r, ⟨o, n, I.kIn a o hk, hc, hd, by simpa using hs⟩, ?_⟩
  have e := r.length
  simp only [Array.length_toList] at e
  omega
theorem Inv.tuple (I : Inv X pins σ H s) (h : SqT X.K H a xs) : ∃ its : List Value, q3r xs its ∧ IsTup s.heap a its.toArray ∧ xs.length ≤ sizeLine := by
 rcases h with h | ⟨o, its, n, hk, hc, hs, hz, r⟩
 ·obtain ⟨z, its, r, p⟩ := h.ok I.hok
  exact ⟨its, r, p, z⟩
 ·refine ⟨its.toList, r, ⟨o, I.kIn a o hk, hc, n, by simpa using hs⟩, ?_⟩
  have e := r.length
  simp only [Array.length_toList] at e
  omega
theorem Inv.list_inj (I : Inv X pins σ H s) (h : SqL X.K H a xs) (h' : SqL X.K H a ys) : xs = ys := by
 obtain ⟨its, r, ⟨o, n, e, _, _, d⟩, _⟩ := I.list h
 obtain ⟨its', r', ⟨o', n', e', _, _, d'⟩, _⟩ := I.list h'
 rw [e] at e'; cases e'
 rw [d] at d'
 injection d' with d1 _
 have : its = its' := by simpa using congrArg Array.toList d1
 subst this
 exact r.inj r'
theorem Inv.tuple_inj (I : Inv X pins σ H s) (h : SqT X.K H a xs) (h' : SqT X.K H a ys) : xs = ys := by
 obtain ⟨its, r, ⟨o, e, _, n, d⟩, _⟩ := I.tuple h
 obtain ⟨its', r', ⟨o', e', _, n', d'⟩, _⟩ := I.tuple h'
 rw [e] at e'; cases e'
 rw [d] at d'
 injection d' with d1 _
 have : its = its' := by simpa using congrArg Array.toList d1
 subst this
 exact r.inj r'
end
noncomputable abbrev Cx.wish (X : Cx) (E : Value → Shared → Prop) : Cx := { X with xe := E }
noncomputable abbrev Cx.nox (X : Cx) : Cx := X.wish fun _ _ => False
theorem Cx.Ok.wish {X : Cx} (ok : X.Ok) (E : Value → Shared → Prop) : (X.wish E).Ok :=
 ⟨ok.mod, ok.kind, ok.glob, ok.blt, ok.above, ok.inj, ok.has, ok.cab, ok.hd, ok.frames, ok.stk, ok.exf, ok.bs, ok.bsz, ok.noex, ok.exfs, ok.funs, ok.frf⟩
theorem Cx.Ok.unwish {X : Cx} {E : Value → Shared → Prop} (ok : (X.wish E).Ok) : X.Ok :=
 ⟨ok.mod, ok.kind, ok.glob, ok.blt, ok.above, ok.inj, ok.has, ok.cab, ok.hd, ok.frames, ok.stk, ok.exf, ok.bs, ok.bsz, ok.noex, ok.exfs, ok.funs, ok.frf⟩
section
variable {X : Cx} {pins : List (Addr × Obj)} {σ : St} {H : Hp} {s : Shared} {E : Value → Shared → Prop}
theorem Inv.wish (I : Inv X pins σ H s) (E : Value → Shared → Prop) : Inv (X.wish E) pins σ H s := ⟨I.ok.wish E, I.os, I.bare, I.base, I.loc, I.cell, I.free, I.freeC, I.pin, I.hok, I.len⟩
theorem Inv.unwish (I : Inv (X.wish E) pins σ H s) : Inv X pins σ H s := ⟨I.ok.unwish, I.os, I.bare, I.base, I.loc, I.cell, I.free, I.freeC, I.pin, I.hok, I.len⟩
theorem SP.unwish {D : Ends} {f : Flow} {s' : Shared} (h : SP (X.wish E) pins D f s') : SP X pins D f s' := by
 cases f with
 | next => obtain ⟨σ', H', I, q⟩ := h; exact ⟨σ', H', I.unwish, q⟩
 | brk => obtain ⟨σ', H', I, q⟩ := h; exact ⟨σ', H', I.unwish, q⟩
 | cont => obtain ⟨σ', H', I, q⟩ := h; exact ⟨σ', H', I.unwish, q⟩
 | ret u => obtain ⟨v, σ', H', I, r, q⟩ := h; exact ⟨v, σ', H', I.unwish, r, q⟩
theorem PSs.nox {st : List Stmt} {t : TS} (h : PSs X.nox st t) : PSs X st t := fun pins s σ H D I hw =>
 wpAny_mono (h pins s σ H D (I.wish _) hw) (fun _ _ q => q.unwish) fun _ _ z => False.elim z
end
section
variable {X : Cx} {st : Stmt} {q3y : List Stmt} {t u : TS} {e : Expr} {te : TE} {pos : Pos}
noncomputable def w2f : TS := fun D σ H => D.nx σ H
noncomputable def w1z (t u : TS) : TS := fun D σ H => t { D with nx := u D } σ H
theorem q0t : PSs X [] w2f := fun _ _ σ H _ I h => wpAny_execs_nil ⟨σ, H, I, h⟩
theorem q1d (h1 : PS X st t) (h2 : PSs X q3y u) : PSs X (st :: q3y) (w1z t u) := by
 intro pins s σ H D I h
 refine wpAny_execs_cons (thn (h1 pins s σ H { D with nx := u D } I h) fun f s1 q => ?_)
 cases f with
 | next =>
  obtain ⟨σ', H', I', q⟩ := q
  exact h2 pins s1 σ' H' D I' q
 | ret v => exact q
 | brk => exact q
 | cont => exact q
theorem q0o (h1 : PS X st t) : PSs X [st] t := by
 intro pins s σ H D I h
 refine wpAny_execs_cons (thn (h1 pins s σ H D I h) fun f s1 q => ?_)
 cases f with
 | next => exact wpAny_execs_nil q
 | ret v => exact q
 | brk => exact q
 | cont => exact q
theorem Inv.quiet {pins : List (Addr × Obj)} {σ : St} {H : Hp} {s : Shared} (I : Inv X pins σ H s) : interactive X.env = false := by simp [interactive, I.ok.kind]
noncomputable def w1n (te : TE) : TS := fun D σ H => te σ H fun _ H1 => D.nx σ H1
theorem x6j (he : PE X e te) (hs : swapsWith e none pos.line X.env = pure false := by rfl) : PS X (.Expr e pos) (w1n te) := by
 intro pins s σ H D I h
 exact wpAny_Expr_any (thn (he pins s σ H _ I h) fun v s1 ⟨x, H1, I1, r1, q1⟩ => ⟨σ, H1, I1, q1⟩) I.quiet hs
noncomputable def w2m (te : TE) : TS := fun D σ H => te σ H D.rt
theorem q0j (he : PE X e te) : PS X (.Return (some e) pos) (w2m te) := by
 intro pins s σ H D I h
 exact wpAny_Return_some (thn (he pins s σ H _ I h) fun v s1 ⟨x, H1, I1, r1, q1⟩ => ⟨x, σ, H1, I1, r1, q1⟩)
noncomputable def w3r (c : TT) (t u : TS) : TS := fun D σ H => c σ H fun b H1 => if b = true then t D σ H1 else u D σ H1
theorem q1q {c : Expr} {a b : List Stmt} {tc : TT} (hc : PT X c tc) (ha : PSs X a t) (hb : PSs X b u) : PS X (.If c a b pos) (w3r tc t u) := by
 intro pins s σ H D I h
 refine wpAny_If (thn (hc pins s σ H _ I h) fun d s1 ⟨H1, I1, q1⟩ => ?_)
 cases d with
 | true => exact ha pins s1 σ H1 D I1 q1
 | false => exact hb pins s1 σ H1 D I1 q1
noncomputable def j9q : TS := fun _ _ _ => False
theorem q2s {sts : List Stmt} : PSs X sts j9q := fun _ _ _ _ _ _ h => h.elim
end
noncomputable abbrev TG := V → St → Hp → (St → Hp → Prop) → Prop
noncomputable abbrev TGs := List V → St → Hp → (St → Hp → Prop) → Prop
noncomputable def PG (X : Cx) (target : Expr) (t : TG) : Prop :=
 ∀ (pins : List (Addr × Obj)) (s : Shared) (σ : St) (H : Hp) (v : V) (u : Value) (Q : St → Hp → Prop), Inv X pins σ H s → q5d v u → t v σ H Q →
  wpAny (model X.prog X.w) X.A (assign target X.env u) (fun _ s' => ∃ σ' H', Inv X pins σ' H' s' ∧ Q σ' H') X.xe s
noncomputable def PGs (X : Cx) (ts : List Expr) (t : TGs) : Prop :=
 ∀ (pins : List (Addr × Obj)) (s : Shared) (σ : St) (H : Hp) (vs : List V) (us : List Value) (Q : St → Hp → Prop), Inv X pins σ H s → q3r vs us → t vs σ H Q →
  wpAny (model X.prog X.w) X.A (assignInOrder ((assignEach ts X.env).map (·.2)) us) (fun _ s' => ∃ σ' H', Inv X pins σ' H' s' ∧ Q σ' H') X.xe s
section
variable {X : Cx} {pos : Pos}
noncomputable def z6s (i : Nat) : TG := fun v σ H Q => Q (σ.set i (some v)) H
theorem q1h {i : Nat} {x : Str} (hN : X.N.Nodup) (hi : X.N[i]? = some x) (hx : Loc X.env.scope x) (hf : X.fn x = true ∨ X.env.scope.names.lookup x = some .local := by first | exact .inl rfl | exact .inr rfl | assumption) : PG X (.Name x pos) (z6s i) := by
 intro pins s σ H v u Q I r h
 exact wpAny_assign_Name (z2o I hN hi hx r (fun s' I' => ⟨_, H, I', h⟩) hf)
noncomputable def w3n : TGs := fun vs σ H Q => vs = [] ∧ Q σ H
noncomputable def w1a (t : TG) (u : TGs) : TGs := fun vs σ H Q => ∃ v r, vs = v :: r ∧ t v σ H fun σ' H' => u r σ' H' Q
theorem q5x : PGs X [] w3n := by
 intro pins s σ H vs us Q I r h
 obtain ⟨e, h⟩ := h
 subst e
 cases r
 exact assignInOrder_nil ⟨σ, H, I, h⟩
theorem q1v {e : Expr} {es : List Expr} {t : TG} {u : TGs} (h1 : PG X e t) (h2 : PGs X es u)
  (hs : (assignEach (e :: es) X.env).map (·.2) = assign e X.env :: (assignEach es X.env).map (·.2) := by rfl) : PGs X (e :: es) (w1a t u) := by
 intro pins s σ H vs us Q I r h
 obtain ⟨v, vr, e1, h⟩ := h
 subst e1
 cases r with
 | cons r rr =>
  rw [hs]
  refine assignInOrder_cons (thn (h1 pins s σ H _ _ _ I r h) fun _ s1 ⟨σ1, H1, I1, q1⟩ => ?_)
  exact h2 pins s1 σ1 H1 _ _ Q I1 rr q1
noncomputable def w2k (K : PySem.W.Frag) (n : Nat) (t : TGs) : TG := fun v σ H Q => ∃ a xs, v = .ref a ∧ SqT K H a xs ∧ xs.length = n ∧ t xs σ H Q
theorem x3p {es : List Expr} {k : Nat} {t : TGs} {n : Nat} (hc : X.calm = true) (h : PGs X es t)
  (hn : (assignEach es X.env).length = n := by rfl) (hst : (assignEach es X.env).findIdx? (·.1) = none := by rfl) : PG X (.Tuple es k pos) (w2k X.K n t) := by
 intro pins s σ H v u Q I r hw
 obtain ⟨a, xs, e1, hq, hl, hw⟩ := hw
 subst e1
 cases r
 obtain ⟨its, rv, ht, hz⟩ := I.tuple hq
 refine assign_Tuple_tuple (I.ok.hd hc) ht (by simp [hn, ← hl, rv.length]) hst fun h' hx => ?_
 have I1 : Inv X pins σ H { s with heap := h' } := I.kept (t' := s.toks) fun b o e => hx b o (Nat.ne_of_lt (Heap.lt_size e)) e
 exact h pins _ σ H xs _ Q I1 (by simpa using rv) hw
noncomputable def j9y (te : TE) (g : TG) : TS := fun D σ H => te σ H fun x H1 => g x σ H1 D.nx
theorem z3f {tg e : Expr} {te : TE} {g : TG} (he : PE X e te) (hg : PG X tg g) (hs : swapsWithSole [tg] e pos.line X.env = pure false := by rfl) (hw : swappedStores [tg] e X.env = pure none := by rfl)
  (h1 : (assignEach [tg] X.env).map (·.2) = [assign tg X.env] := by rfl) : PS X (.Assign [tg] e pos) (j9y te g) := by
 intro pins s σ H D I h
 refine wpAny_Assign_stores (thn (he pins s σ H _ I h) fun v s1 ⟨x, H1, I1, r1, q1⟩ => ?_) hs hw
 rw [h1]
 exact thn (hg pins s1 σ H1 x v _ I1 r1 q1) fun _ s2 q => q
theorem q1c {i : Nat} {x : Str} {e : Expr} {te : TE} {pos' : Pos} (hN : X.N.Nodup) (hi : X.N[i]? = some x) (hx : Loc X.env.scope x) (he : PE X e te) (hs : swapsWith e (some (.Name x pos')) pos.line X.env = pure false := by rfl) (hf : X.fn x = true ∨ X.env.scope.names.lookup x = some .local := by first | exact .inl rfl | exact .inr rfl | assumption) :
  PS X (.Assign [.Name x pos'] e pos) (j9y te (z6s i)) := by
 intro pins s σ H D I h
 refine wpAny_Assign_Name (thn (he pins s σ H _ I h) fun v s1 ⟨y, H1, I1, r1, q1⟩ => ?_) hs
 exact z2o I1 hN hi hx r1 (fun s2 I2 => ⟨_, H1, I2, q1⟩) hf
end
section
variable {X : Cx} {pos : Pos}
noncomputable def j7v (c : TT) (tb : TS) : TS := fun D σ H => ∃ W : Nat → St → Hp → Prop, (∃ m, W m σ H) ∧ ∀ m σ H, W m σ H →
 c σ H fun b H1 => if b = true then ∃ N : St → Hp → Prop, (∀ σ' H', N σ' H' → ∃ m', m' < m ∧ W m' σ' H') ∧ tb { D with nx := N, ct := N, bk := D.nx } σ H1 else D.nx σ H1
theorem z3b {c : Expr} {body : List Stmt} {tc : TT} {tb : TS} (hp : PassesOwn (model X.prog X.w) X.A X.env X.xe) (hc : PT X c tc) (hb : PSs X body tb) : PS X (.While c body [] pos) (j7v tc tb) := by
 intro pins s σ H D I h
 obtain ⟨W, ⟨m0, w0⟩, turn⟩ := h
 refine wpAny_While (codeAny_whileLoop (fun n s' => ∃ σ' H', Inv X pins σ' H' s' ∧ W n σ' H') ?_ m0 ⟨σ, H, I, w0⟩)
 rintro n s1 ⟨σ1, H1, I1, w1⟩
 refine wpAny_passesOwn hp (thn (hc pins s1 σ1 H1 _ I1 (turn n σ1 H1 w1)) fun b s2 ⟨H2, I2, q2⟩ => ?_)
 cases b with
 | true =>
  obtain ⟨N, hN, q2⟩ := q2
  rw [if_pos rfl]
  refine wpAny_passesOwn hp (thn (hb pins s2 σ1 H2 _ I2 q2) fun f s3 q3 => ?_)
  cases f with
  | next =>
   obtain ⟨σ3, H3, I3, n3⟩ := q3
   obtain ⟨m', hm, w3⟩ := hN σ3 H3 n3
   exact ⟨m', hm, σ3, H3, I3, w3⟩
  | cont =>
   obtain ⟨σ3, H3, I3, n3⟩ := q3
   obtain ⟨m', hm, w3⟩ := hN σ3 H3 n3
   exact ⟨m', hm, σ3, H3, I3, w3⟩
  | brk => exact q3
  | ret v => exact q3
 | false =>
  rw [if_neg Bool.false_ne_true]
  exact wpAny_execs_nil ⟨σ1, H2, I2, q2⟩
end
structure It where
 go : Nat → Hp → Prop
 yld : Nat → Hp → V → Hp → Prop
 stop : Nat → Hp → Prop
noncomputable def j0b (X : Cx) (pins : List (Addr × Obj)) (H : Hp) (b : Addr) : Prop :=
 H b = none ∧ b ≠ X.env.locals ∧ b ∉ X.fs ∧ (b ∈ X.ex ∨ X.s₀.heap.objs.size ≤ b) ∧ (∀ x c, X.env.cells.lookup x = some c → c ≠ b) ∧ ∀ p ∈ X.pn ++ pins, p.1 ≠ b
theorem Inv.fpOk {X : Cx} {pins : List (Addr × Obj)} {σ : St} {H H' : Hp} {s : Shared} {b : Addr} (I : Inv X pins σ H s) (hb : s.heap.objs.size ≤ b) (hn : H' b = none) : j0b X pins H' b := by
 refine ⟨hn, Nat.ne_of_gt (Nat.lt_of_lt_of_le I.lt hb), I.nofs hb, .inr (Nat.le_trans I.sz hb), fun x c e z => ?_, fun p hp z => ?_⟩
 ·obtain ⟨v, q⟩ := I.cell x c e
  exact absurd (Nat.lt_of_lt_of_le q.lt (by rw [z]; exact hb)) (Nat.lt_irrefl _)
 ·exact absurd (Nat.lt_of_lt_of_le (Heap.lt_size (I.pin p hp).1) (by rw [z]; exact hb)) (Nat.lt_irrefl _)
structure Turn (P : Program) (w : World) (K : PySem.W.Frag) (tg : Expr) (J : It) (fp : List Addr) (it : Addr) (tn : Nat → Heap → Prop) : Prop where
 mem : it ∈ fp
 obj : ∀ i h, tn i h → ∀ b ∈ fp, ∃ o, h.get? b = some o ∧ ∀ v, o.data ≠ .cell v
 keep : ∀ i h h', tn i h → (∀ b ∈ fp, ∀ o, h.get? b = some o → h'.get? b = some o) → tn i h'
 item : ∀ (X : Cx), X.prog = P → X.w = w → X.K = K → X.calm = true → ∀ (i : Nat) (pins : List (Addr × Obj)) (s : Shared) (σ : St) (H : Hp) (E : Value → Shared → Prop), Inv X pins σ H s → (∀ b ∈ fp, j0b X pins H b) → tn i s.heap → J.go i H →
  wpAny (model P w) X.A (pyNext (.ref it)) (fun r s1 => ∃ u, r = some u ∧
   wpAny (model P w) X.A (letOwnedTupleGo tg (.ref it) u) (fun _ s2 => ∃ x H', Inv X pins σ H' s2 ∧ q5d x u ∧ J.yld i H x H' ∧ tn (i + 1) s2.heap ∧ ∀ b ∈ fp, H' b = none) E s1) E s
 done : ∀ (X : Cx), X.prog = P → X.w = w → X.K = K → X.calm = true → ∀ (i : Nat) (pins : List (Addr × Obj)) (s : Shared) (σ : St) (H : Hp) (E : Value → Shared → Prop), Inv X pins σ H s → (∀ b ∈ fp, j0b X pins H b) → tn i s.heap → J.stop i H →
  wpAny (model P w) X.A (pyNext (.ref it)) (fun r s1 => r = none ∧ Inv X pins σ H s1) E s
 self : ∀ (A : Around) (i : Nat) (s : Shared) (Q : Value → Shared → Prop) (E : Value → Shared → Prop), tn i s.heap → Q (.ref it) s → wpAny (model P w) A (pyIter (.ref it)) Q E s
noncomputable abbrev TI := St → Hp → (It → Hp → Prop) → Prop
noncomputable def PIE (X : Cx) (pins : List (Addr × Obj)) (σ : St) (tg : Expr) (R : It → Hp → Prop) (itv : Value) (s2 : Shared) : Prop :=
 ∃ (it : Addr) (fp : List Addr) (tn : Nat → Heap → Prop) (J : It) (H' : Hp), itv = .ref it ∧ Inv X pins σ H' s2 ∧ Turn X.prog X.w X.K tg J fp it tn ∧ tn 0 s2.heap ∧ (∀ b ∈ fp, j0b X pins H' b) ∧ R J H'
noncomputable def PI (X : Cx) (tg iter : Expr) (wi : TI) : Prop :=
 ∀ (pins : List (Addr × Obj)) (s : Shared) (σ : St) (H : Hp) (R : It → Hp → Prop), Inv X pins σ H s → wi σ H R →
  wpAny (model X.prog X.w) X.A (eval iter X.env) (fun v s1 => wpAny (model X.prog X.w) X.A (pyIter v) (PIE X pins σ tg R) X.xe s1) X.xe s
theorem j7b {M : Model} {A : Around} {E : Value → Shared → Prop} {s : Shared} {tg : Expr} {it : Addr} {u : Value} {o : Obj} {n : String} {vs : Array Value} {Q : Unit → Shared → Prop} (ho : s.heap.get? it = some o) (hc : o.cls = .type n) (hd : o.data = .fields vs)
    (hn : ["enumerate", "zip", "dict_itemiterator", "dict_reverseitemiterator", "odict_iterator", "itertools.zip_longest", "itertools.pairwise"].contains n = false) (hQ : Q () s) : wpAny M A (letOwnedTupleGo tg (.ref it) u) Q E s := by
  unfold letOwnedTupleGo
  cases tg <;> first
    | exact wpAny_pure hQ
    | (cases u <;> first
        | exact wpAny_pure hQ
        | (refine wpAny_bind (wpAny_load ho ?_)
           rw [hc, hd]
           show wpAny M A (if (["enumerate", "zip", "dict_itemiterator", "dict_reverseitemiterator", "odict_iterator", "itertools.zip_longest", "itertools.pairwise"].contains n && vs[0]? == some (rawInt _)) = true then _ else _) Q E s
           rw [if_neg (by intro h; rw [hn, Bool.false_and] at h; cases h)]
           exact wpAny_pure hQ))
noncomputable def Itl (K : PySem.W.Frag) (a : Addr) : It :=
 ⟨fun i H => ∃ xs x, SqL K H a xs ∧ xs[i]? = some x, fun i H x H' => H' = H ∧ ∀ xs, SqL K H a xs → xs[i]? = some x, fun i H => ∃ xs, SqL K H a xs ∧ xs.length ≤ i⟩
noncomputable def Itt (K : PySem.W.Frag) (a : Addr) : It :=
 ⟨fun i H => ∃ xs x, SqT K H a xs ∧ xs[i]? = some x, fun i H x H' => H' = H ∧ ∀ xs, SqT K H a xs → xs[i]? = some x, fun i H => ∃ xs, SqT K H a xs ∧ xs.length ≤ i⟩
noncomputable def Itr (lo : Int) (n : Nat) : It := ⟨fun i _ => i < n, fun i H x H' => H' = H ∧ x = .int (lo + i), fun i _ => n ≤ i⟩
theorem z9f {P : Program} {w : World} {K : PySem.W.Frag} {tg : Expr} (a it : Addr) : Turn P w K tg (Itl K a) [it] it (fun i h => h.IsListIter it a i) where
 mem := by simp
 obj := fun i h st b hb => by
  have e : b = it := by simpa using hb
  subst e
  obtain ⟨o, e, c, d⟩ := st
  exact ⟨o, e, fun v z => by rw [d] at z; cases z⟩
 keep := fun i h h' st k => st.at fun o e => k it (by simp) o e
 item := by
  intro X hP hw hK hc i pins s σ H E I hf st hg
  subst hP hw hK
  obtain ⟨xs, x, hq, hx⟩ := hg
  obtain ⟨its, rv, p, hz⟩ := I.list hq
  obtain ⟨u, hu, ru⟩ := rv.get hx
  obtain ⟨f0, f1, f2, f3, f4, f5⟩ := hf it (by simp)
  refine wpAny_pyNext_list_item st p.isList (x := u) (by simpa using hu) fun h' st' sb => ?_
  have I1 : Inv X pins σ H { s with heap := h' } := I.turned (t' := s.toks) (fun b o hb e => (sb.2 b hb).trans e) f0 f1 f3 f4 f5
  obtain ⟨o, e, c, d⟩ := id st'
  exact ⟨u, rfl, j7b (s := { s with heap := h' }) e c d (by decide) ⟨x, H, I1, ru, ⟨rfl, fun ys hy => by rw [I.list_inj hy hq]; exact hx⟩, st', fun b hb => (hf b hb).1⟩⟩
 done := by
  intro X hP hw hK hc i pins s σ H E I hf st hg
  subst hP hw hK
  obtain ⟨xs, hq, hx⟩ := hg
  obtain ⟨its, rv, p, hz⟩ := I.list hq
  obtain ⟨f0, f1, f2, f3, f4, f5⟩ := hf it (by simp)
  have hl := rv.length
  exact wpAny_pyNext_list_end (I.ok.hd hc) st p.isList (by simp; omega) fun h' eb => ⟨rfl, I.turned (t' := s.toks) (fun b o hb e => eb b o hb e) f0 f1 f3 f4 f5⟩
 self := fun _ _ _ _ _ st h => wpAny_pyIter_listiter st h
theorem z5d {P : Program} {w : World} {K : PySem.W.Frag} {tg : Expr} (a it : Addr) : Turn P w K tg (Itt K a) [it] it (fun i h => h.IsTupleIter it a i) where
 mem := by simp
 obj := fun i h st b hb => by
  have e : b = it := by simpa using hb
  subst e
  obtain ⟨o, e, c, d⟩ := st
  exact ⟨o, e, fun v z => by rw [d] at z; cases z⟩
 keep := fun i h h' st k => st.at fun o e => k it (by simp) o e
 item := by
  intro X hP hw hK hc i pins s σ H E I hf st hg
  subst hP hw hK
  obtain ⟨xs, x, hq, hx⟩ := hg
  obtain ⟨its, rv, p, hz⟩ := I.tuple hq
  obtain ⟨u, hu, ru⟩ := rv.get hx
  obtain ⟨f0, f1, f2, f3, f4, f5⟩ := hf it (by simp)
  refine wpAny_pyNext_tuple_item st (show s.heap.IsTuple a its.toArray from p) (x := u) (by simpa using hu) fun h' st' sb => ?_
  have I1 : Inv X pins σ H { s with heap := h' } := I.turned (t' := s.toks) (fun b o hb e => (sb.2 b hb).trans e) f0 f1 f3 f4 f5
  obtain ⟨o, e, c, d⟩ := id st'
  exact ⟨u, rfl, j7b (s := { s with heap := h' }) e c d (by decide) ⟨x, H, I1, ru, ⟨rfl, fun ys hy => by rw [I.tuple_inj hy hq]; exact hx⟩, st', fun b hb => (hf b hb).1⟩⟩
 done := by
  intro X hP hw hK hc i pins s σ H E I hf st hg
  subst hP hw hK
  obtain ⟨xs, hq, hx⟩ := hg
  obtain ⟨its, rv, p, hz⟩ := I.tuple hq
  obtain ⟨f0, f1, f2, f3, f4, f5⟩ := hf it (by simp)
  have hl := rv.length
  exact wpAny_pyNext_tuple_end (I.ok.hd hc) st (show s.heap.IsTuple a its.toArray from p) (by simp; omega) fun h' eb => ⟨rfl, I.turned (t' := s.toks) (fun b o hb e => eb b o hb e) f0 f1 f3 f4 f5⟩
 self := fun _ _ _ _ _ st h => wpAny_pyIter_tupleiter st h
theorem z3y {P : Program} {w : World} {K : PySem.W.Frag} {tg : Expr} (it : Addr) (lo : Int) (n : Nat) : Turn P w K tg (Itr lo n) [it] it (fun i h => IsRangeIter h it (lo + (i : Nat) * 1) ((n : Int) - (i : Nat)) 1) where
 mem := by simp
 obj := fun i h st b hb => by
  have e : b = it := by simpa using hb
  subst e
  exact ⟨_, st, fun v z => by
   have z' : Data.fields _ = Data.cell v := z
   cases z'⟩
 keep := fun i h h' st k => k it (by simp) _ st
 item := by
  intro X hP hw hK hc i pins s σ H E I hf st hg
  subst hP hw hK
  obtain ⟨f0, f1, f2, f3, f4, f5⟩ := hf it (by simp)
  have W := Walks.range (prog := X.prog) (w := X.w) (I.ok.hd hc) it lo 1 n
  refine W.item i s _ _ hg st fun v h' tk hv st' kk => ?_
  obtain ⟨t, rfl⟩ := hv
  have I1 : Inv X pins σ H { s with heap := h', toks := tk } := I.turned (fun b o hb e => kk b o (by simpa using hb) e) f0 f1 f3 f4 f5
  refine ⟨_, rfl, j7b (s := { s with heap := h', toks := tk }) (n := "range_iterator") st' rfl rfl (by decide) ⟨.int (lo + i), H, I1, ⟨t, ?_⟩, ⟨rfl, rfl⟩, st', fun b hb => (hf b hb).1⟩⟩
  rw [Int.mul_one]
 done := by
  intro X hP hw hK hc i pins s σ H E I hf st hg
  subst hP hw hK
  obtain ⟨f0, f1, f2, f3, f4, f5⟩ := hf it (by simp)
  exact wpAny_pyNext_range_end (I.ok.hd hc) st (by have : n ≤ i := hg; omega) fun h' eb => ⟨rfl, I.turned (t' := s.toks) (fun b o hb e => eb b o hb e) f0 f1 f3 f4 f5⟩
 self := fun _ _ _ _ _ st h => wpAny_pyIter_rangeiter st h
section
variable {X : Cx} {tg : Expr}
noncomputable def w0o (K : PySem.W.Frag) (tl : TE) : TI := fun σ H R => tl σ H fun x H1 => ∃ a, x = .ref a ∧ (∃ xs, SqL K H1 a xs) ∧ R (Itl K a) H1
noncomputable def w3u (K : PySem.W.Frag) (tl : TE) : TI := fun σ H R => tl σ H fun x H1 => ∃ a, x = .ref a ∧ (∃ xs, SqT K H1 a xs) ∧ R (Itt K a) H1
theorem j5n {l : Expr} {tl : TE} (hl : PE X l tl) : PI X tg l (w0o X.K tl) := by
 intro pins s σ H R I h
 refine thn (hl pins s σ H _ I h) fun v s1 ⟨x, H1, I1, r1, q1⟩ => ?_
 obtain ⟨a, e, ⟨xs, hq⟩, q⟩ := q1
 subst e
 cases r1
 obtain ⟨its, rv, p, hz⟩ := I1.list hq
 refine wpAny_pyIter_list p.isList ?_
 refine ⟨s1.heap.objs.size, [s1.heap.objs.size], _, _, H1, rfl, I1.kept (t' := s1.toks) fun b o e => Heap.get?_push_of_some _ e, z9f a _, ⟨_, Heap.get?_push_size _ rfl, rfl, rfl⟩, fun b hb => ?_, q⟩
 have e : b = s1.heap.objs.size := by simpa using hb
 subst e
 exact I1.fpOk (Nat.le_refl _) (I1.hok.fresh (Nat.le_refl _))
theorem q7a {l : Expr} {tl : TE} (hl : PE X l tl) : PI X tg l (w3u X.K tl) := by
 intro pins s σ H R I h
 refine thn (hl pins s σ H _ I h) fun v s1 ⟨x, H1, I1, r1, q1⟩ => ?_
 obtain ⟨a, e, ⟨xs, hq⟩, q⟩ := q1
 subst e
 cases r1
 obtain ⟨its, rv, p, hz⟩ := I1.tuple hq
 refine wpAny_pyIter_tuple (show s1.heap.IsTuple a its.toArray from p) ?_
 refine ⟨s1.heap.objs.size, [s1.heap.objs.size], _, _, H1, rfl, I1.kept (t' := s1.toks) fun b o e => Heap.get?_push_of_some _ e, z5d a _, ⟨_, Heap.get?_push_size _ rfl, rfl, rfl⟩, fun b hb => ?_, q⟩
 have e : b = s1.heap.objs.size := by simpa using hb
 subst e
 exact I1.fpOk (Nat.le_refl _) (I1.hok.fresh (Nat.le_refl _))
theorem j1u {pins : List (Addr × Obj)} {σ : St} {H : Hp} {s : Shared} {R : It → Hp → Prop} {E : Value → Shared → Prop} {lo hi : Int} {t u v : Tok} {tk : Nat} (I : Inv X pins σ H s) (h1 : -(2 ^ 62) ≤ lo) (h2 : lo < 2 ^ 62) (h3 : -(2 ^ 62) ≤ hi) (h4 : hi < 2 ^ 62)
  (q : R (Itr lo (hi - lo).toNat) H) : wpAny (model X.prog X.w) X.A (pyIter (.ref s.heap.objs.size)) (PIE X pins σ tg R) E { s with heap := s.heap.push { cls := .type "range", data := .fields #[.int lo t, .int hi u, .int 1 v] }, toks := tk } := by
 refine wpAny_pyIter_range (IsRange.new ..) (small_one h1 h2 h3 h4) ?_
 have I1 : Inv X pins σ H { s with heap := s.heap.push { cls := .type "range", data := .fields #[.int lo t, .int hi u, .int 1 v] }, toks := tk } := I.kept fun b o e => Heap.get?_push_of_some _ e
 refine ⟨(s.heap.push { cls := .type "range", data := .fields #[.int lo t, .int hi u, .int 1 v] }).objs.size, [(s.heap.push { cls := .type "range", data := .fields #[.int lo t, .int hi u, .int 1 v] }).objs.size], _, _, H, rfl,
  I1.kept (t' := tk) fun b o e => Heap.get?_push_of_some _ e, z3y _ lo (hi - lo).toNat, ?_, fun b hb => ?_, q⟩
 ·have e1 : lo + ((0 : Nat) : Int) * 1 = lo := by simp
  have e2 : (((hi - lo).toNat : Nat) : Int) - ((0 : Nat) : Int) = Builtin.Range.rangeSize lo hi 1 := by rw [rangeSize_one]; split <;> omega
  show IsRangeIter _ _ (lo + ((0 : Nat) : Int) * 1) ((((hi - lo).toNat : Nat) : Int) - ((0 : Nat) : Int)) 1
  rw [e1, e2]
  exact Heap.get?_push_size _ rfl
 ·have e : b = (s.heap.push { cls := .type "range", data := .fields #[.int lo t, .int hi u, .int 1 v] }).objs.size := by simpa using hb
  subst e
  exact I1.fpOk (Nat.le_refl _) (I1.hok.fresh (Nat.le_refl _))
noncomputable def w1k (ta : TA) : TI := fun σ H R => ta σ H fun vs H1 => ∃ j : Int, vs = [.int j] ∧ -(2 ^ 62) ≤ j ∧ j < 2 ^ 62 ∧ R (Itr 0 j.toNat) H1
theorem q8y {a : Expr} {ta : TA} {p pos : Pos} (hg : Gl X "range") (hm : X.mg "range" = none) (ha : PA X [a] ta) (hs : starEach [a] X.env = [(false, eval a X.env)] := by rfl) : PI X tg (.Call (.Name "range" p) [a] [] pos) (w1k ta) := by
 intro pins s σ H R I h
 refine Call_ (x5h I hg hm boot_range (PyProof.Rows.callWith_type1 (thn (ha pos pins s σ H _ I h) fun us s1 ⟨vs, H1, I1, r1, q1⟩ => ?_) hs rfl))
 obtain ⟨j, e, q1, q2, q⟩ := q1
 subst e
 cases r1 with
 | cons r rr =>
  cases rr
  obtain ⟨t, rfl⟩ := r
  exact call_range_1 (j1u I1 (by omega) (by omega) q1 q2 (by simpa using q))
noncomputable def w3y (wi : TI) (g : TG) (tb : TS) : TS := fun D σ H => wi σ H fun J H1 => ∃ W : Nat → Nat → St → Hp → Prop, (∃ m, W 0 m σ H1) ∧ ∀ i m σ H, W i m σ H →
 (J.stop i H ∧ D.nx σ H) ∨ (J.go i H ∧ ∃ N : St → Hp → Prop, (∀ σ' H', N σ' H' → ∃ m', m' < m ∧ W (i + 1) m' σ' H') ∧ ∀ x H', J.yld i H x H' → g x σ H' fun σ2 H2 => tb { D with nx := N, ct := N, bk := D.nx } σ2 H2)
noncomputable def x8a (fp : List Addr) (h : Heap) : List (Addr × Obj) := fp.filterMap fun b => (h.get? b).map fun o => (b, o)
theorem q9v {fp : List Addr} {h : Heap} {b : Addr} {o : Obj} (hb : b ∈ fp) (e : h.get? b = some o) : (b, o) ∈ x8a fp h := List.mem_filterMap.mpr ⟨b, hb, by rw [e]; rfl⟩
theorem z6z {fp : List Addr} {h : Heap} {p : Addr × Obj} (hp : p ∈ x8a fp h) : p.1 ∈ fp ∧ h.get? p.1 = some p.2 := by
 obtain ⟨b, hb, e⟩ := List.mem_filterMap.mp hp
 cases q : h.get? b with
 | none => rw [q] at e; cases e
 | some o =>
  rw [q] at e
  have e' : (b, o) = p := Option.some.inj e
  subst e'
  exact ⟨hb, q⟩
theorem Inv.pinned {pins : List (Addr × Obj)} {σ : St} {H : Hp} {s : Shared} {fp : List Addr} (I : Inv X pins σ H s) (hf : ∀ b ∈ fp, j0b X pins H b) (ho : ∀ b ∈ fp, ∃ o, s.heap.get? b = some o ∧ ∀ v, o.data ≠ .cell v) : Inv X (pins ++ x8a fp s.heap) σ H s :=
 I.pins_of fun p hp => (List.mem_append.mp hp).elim (fun z => I.pin p (List.mem_append_right _ z)) fun z => by
  obtain ⟨hb, e⟩ := z6z z
  obtain ⟨f0, f1, f2, _⟩ := hf p.1 hb
  obtain ⟨o, e', d⟩ := ho p.1 hb
  rw [e] at e'; cases e'
  exact ⟨e, f0, f1, f2, d⟩
theorem Inv.unpinned {pins pl : List (Addr × Obj)} {σ : St} {H : Hp} {s : Shared} (I : Inv X (pins ++ pl) σ H s) : Inv X pins σ H s := I.pins_of fun p hp => I.pin p (List.mem_append_right _ (List.mem_append_left _ hp))
theorem x9s {iter : Expr} {body : List Stmt} {wi : TI} {g : TG} {tb : TS} {pos : Pos} (hp : PassesOwn (model X.prog X.w) X.A X.env X.xe) (hc : X.calm = true) (hi : PI X tg iter wi) (hg : PG X tg g) (hb : PSs X body tb)
  (hs : ∀ x, foldedSetIterable iter X.env x = pure x := by intro _; rfl) : PS X (.For tg iter body [] pos) (w3y wi g tb) := by
 intro pins s σ H D I h
 refine wpAny_For (thn (hi pins s σ H _ I h) fun v s1 h1 => thn h1 fun itv s2 h2 => ?_) hs
 obtain ⟨it, fp, tn, J, H2, e, I2, T, st2, f2, W, ⟨m0, w0⟩, turn⟩ := h2
 subst e
 have stat : ∀ {H' : Hp}, (∀ b ∈ fp, H' b = none) → ∀ b ∈ fp, j0b X pins H' b := fun hn b hb => ⟨hn b hb, (f2 b hb).2⟩
 refine codeAny_forLoop_any (fun n s' => ∃ i σ' H', Inv X pins σ' H' s' ∧ tn i s'.heap ∧ (∀ b ∈ fp, H' b = none) ∧ W i n σ' H') ?_ m0 ⟨0, σ, H2, I2, st2, fun b hb => (f2 b hb).1, w0⟩
 rintro n s3 ⟨i, σ3, H3, I3, st3, fr3, w3⟩
 rcases turn i n σ3 H3 w3 with ⟨stop, qn⟩ | ⟨go, N, hN, step⟩
 ·refine wpAny_passesOwn hp (thn (T.done X rfl rfl rfl hc i pins s3 σ3 H3 X.xe I3 (stat fr3) st3 stop) fun r s4 ⟨hr, I4⟩ => ?_)
  subst hr
  exact wpAny_execs_nil ⟨σ3, H3, I4, qn⟩
 ·refine wpAny_passesOwn hp (thn (T.item X rfl rfl rfl hc i pins s3 σ3 H3 X.xe I3 (stat fr3) st3 go) fun r s4 ⟨u, hr, h4⟩ => ?_)
  subst hr
  refine wpAny_passesOwn hp (thn h4 fun _ s5 ⟨x, H5, I5, r5, y5, st5, fr5⟩ => ?_)
  have I5' := I5.pinned (stat fr5) (T.obj _ _ st5)
  refine wpAny_passesOwn hp (thn (hg _ s5 σ3 H5 x u _ I5' r5 (step x H5 y5)) fun _ s6 ⟨σ6, H6, I6, q6⟩ => ?_)
  refine wpAny_passesOwn hp (thn (hb _ s6 σ6 H6 _ I6 q6) fun f s7 q7 => ?_)
  have again : ∀ {σ7 : St} {H7 : Hp}, Inv X (pins ++ x8a fp s5.heap) σ7 H7 s7 → N σ7 H7 → ∃ m, m < n ∧ ∃ i σ' H', Inv X pins σ' H' s7 ∧ tn i s7.heap ∧ (∀ b ∈ fp, H' b = none) ∧ W i m σ' H' := fun {σ7 H7} I7 n7 => by
   obtain ⟨m', hm, w7⟩ := hN σ7 H7 n7
   refine ⟨m', hm, i + 1, σ7, H7, I7.unpinned, T.keep _ _ _ st5 fun b hb o e => (I7.pin (b, o) (List.mem_append_right _ (List.mem_append_right _ (q9v hb e)))).1, fun b hb => ?_, w7⟩
   obtain ⟨o, e, d⟩ := T.obj _ _ st5 b hb
   exact (I7.pin (b, o) (List.mem_append_right _ (List.mem_append_right _ (q9v hb e)))).2.1
  cases f with
  | next => obtain ⟨σ7, H7, I7, n7⟩ := q7; exact again I7 n7
  | cont => obtain ⟨σ7, H7, I7, n7⟩ := q7; exact again I7 n7
  | brk => obtain ⟨σ7, H7, I7, q7⟩ := q7; exact ⟨σ7, H7, I7.unpinned, q7⟩
  | ret v => obtain ⟨x7, σ7, H7, I7, r7, q7⟩ := q7; exact ⟨x7, σ7, H7, I7.unpinned, r7, q7⟩
end
theorem x4j {K : PySem.W.Frag} {a : Addr} {xs : List V} {g : TG} {tb : TS} {D : Ends} {σ : St} {H : Hp} (Pv : Nat → St → Hp → Prop) (h0 : Pv 0 σ H) (hl : ∀ i σ H, i ≤ xs.length → Pv i σ H → SqT K H a xs)
  (hs : ∀ i x σ H, xs[i]? = some x → Pv i σ H → g x σ H fun σ2 H2 => tb { D with nx := Pv (i + 1), ct := Pv (i + 1), bk := D.nx } σ2 H2) (hd : ∀ σ H, Pv xs.length σ H → D.nx σ H) :
  ∃ W : Nat → Nat → St → Hp → Prop, (∃ m, W 0 m σ H) ∧ ∀ i m σ H, W i m σ H →
   ((Itt K a).stop i H ∧ D.nx σ H) ∨ ((Itt K a).go i H ∧ ∃ N : St → Hp → Prop, (∀ σ' H', N σ' H' → ∃ m', m' < m ∧ W (i + 1) m' σ' H') ∧ ∀ x H', (Itt K a).yld i H x H' → g x σ H' fun σ2 H2 => tb { D with nx := N, ct := N, bk := D.nx } σ2 H2) := by
 refine ⟨fun i m σ H => m = xs.length - i ∧ i ≤ xs.length ∧ Pv i σ H, ⟨xs.length, by simp, Nat.zero_le _, h0⟩, ?_⟩
 rintro i m σ H ⟨rfl, hi, p⟩
 have q := hl i σ H hi p
 by_cases hlt : i < xs.length
 ·refine .inr ⟨⟨xs, xs[i], q, by simp [hlt]⟩, Pv (i + 1), fun σ' H' p' => ⟨xs.length - (i + 1), by omega, rfl, hlt, p'⟩, fun x H' y => ?_⟩
  obtain ⟨e, y⟩ := y
  subst e
  exact hs i x σ _ (y xs q) p
 ·have e : i = xs.length := by omega
  subst e
  exact .inl ⟨⟨xs, q, Nat.le_refl _⟩, hd σ H p⟩
noncomputable abbrev R2 := V → V → Hp → VK → Prop
noncomputable def OpR (X : Cx) (f : Value → Value → Sem Value) (r : R2) : Prop :=
 ∀ (pins : List (Addr × Obj)) (s : Shared) (σ : St) (H : Hp) (x y : V) (v u : Value) (Q : VK), Inv X pins σ H s → q5d x v → q5d y u → r x y H Q →
  wpAny (model X.prog X.w) X.A (f v u) (EP X pins σ Q) X.xe s
noncomputable def UnR (X : Cx) (f : Value → Sem Value) (r : V → Hp → VK → Prop) : Prop :=
 ∀ (pins : List (Addr × Obj)) (s : Shared) (σ : St) (H : Hp) (x : V) (v : Value) (Q : VK), Inv X pins σ H s → q5d x v → r x H Q →
  wpAny (model X.prog X.w) X.A (f v) (EP X pins σ Q) X.xe s
noncomputable def x4h (X : Cx) (f : Value) (r : List V → Hp → VK → Prop) : Prop :=
 ∀ (pins : List (Addr × Obj)) (s : Shared) (σ : St) (H : Hp) (xs : List V) (us : List Value) (Q : VK), Inv X pins σ H s → q3r xs us → r xs H Q →
  wpAny (model X.prog X.w) X.A (call f us) (EP X pins σ Q) X.xe s
noncomputable def tOp (r : R2) (ta tb : TE) : TE := fun σ H Q => ta σ H fun x H1 => tb σ H1 fun y H2 => r x y H2 Q
noncomputable def tUn (r : V → Hp → VK → Prop) (ta : TE) : TE := fun σ H Q => ta σ H fun x H1 => r x H1 Q
noncomputable def rI (C : Int → Int → Prop) (g : Int → Int → V) : R2 := fun x y H Q => ∃ i j, x = .int i ∧ y = .int j ∧ C i j ∧ Q (g i j) H
noncomputable def rI0 (g : Int → Int → V) : R2 := fun x y H Q => ∃ i j, x = .int i ∧ y = .int j ∧ Q (g i j) H
noncomputable def rU (g : Int → V) : V → Hp → VK → Prop := fun x H Q => ∃ i, x = .int i ∧ Q (g i) H
section
variable {X : Cx} {a b c : Expr} {ta tb tc : TE} {pos : Pos}
theorem w0s (ha : PE X a ta) (hb : PE X b tb) {pins : List (Addr × Obj)} {s : Shared} {σ : St} {H : Hp} {R : V → V → Hp → Prop} (I : Inv X pins σ H s)
  (h : ta σ H fun x H1 => tb σ H1 fun y H2 => R x y H2) {Q : Value → Shared → Prop} {f : Value → Value → Sem Value}
  (hf : ∀ v u s2 x y H2, Inv X pins σ H2 s2 → q5d x v → q5d y u → R x y H2 → wpAny (model X.prog X.w) X.A (f v u) Q X.xe s2) :
  wpAny (model X.prog X.w) X.A (eval a X.env) (fun v s₁ => wpAny (model X.prog X.w) X.A (eval b X.env) (fun u s₂ => wpAny (model X.prog X.w) X.A (f v u) Q X.xe s₂) X.xe s₁) X.xe s := by
 refine thn (ha pins s σ H _ I h) fun v s1 ⟨x, H1, I1, r1, q1⟩ => ?_
 refine thn (hb pins s1 σ H1 _ I1 q1) fun u s2 ⟨y, H2, I2, r2, q2⟩ => ?_
 exact hf v u s2 x y H2 I2 r1 r2 q2
theorem q0l {op : Operator} {r : R2} (ho : OpR X (binaryOp op) r) (ha : PE X a ta) (hb : PE X b tb) : PE X (.BinOp a op b pos) (tOp r ta tb) := by
 intro pins s σ H Q I h
 exact wpAny_BinOp (w0s ha hb I h fun v u s2 x y H2 I2 rx ry q => ho pins s2 σ H2 x y v u Q I2 rx ry q)
theorem z6f {op : UnaryOp} {r : V → Hp → VK → Prop} (ho : UnR X (unaryOp op) r) (ha : PE X a ta) : PE X (.UnaryOp op a pos) (tUn r ta) := by
 intro pins s σ H Q I h
 exact UnaryOp_ (thn (ha pins s σ H _ I h) fun v s1 ⟨x, H1, I1, r1, q1⟩ => ho pins s1 σ H1 x v Q I1 r1 q1)
theorem opI {f : Value → Value → Sem Value} {C : Int → Int → Prop} {g : Int → Int → Int}
  (rule : ∀ (i j : Int) (t u : Tok) (s : Shared) (Q : Value → Shared → Prop) (E : Value → Shared → Prop), C i j → Q (.int (g i j) s.toks) { s with toks := s.toks + 1 } → wpAny (model X.prog X.w) X.A (f (.int i t) (.int j u)) Q E s) :
  OpR X f (rI C fun i j => .int (g i j)) := by
 intro pins s σ H x y v u Q I rx ry h
 obtain ⟨i, j, rfl, rfl, hc, q⟩ := h
 obtain ⟨t, rfl⟩ := rx
 obtain ⟨t', rfl⟩ := ry
 exact rule i j t t' s _ _ hc ⟨.int (g i j), H, I.tok _, ⟨_, rfl⟩, q⟩
theorem w2g {f : Value → Value → Sem Value} {g : Int → Int → Int}
  (rule : ∀ (i j : Int) (t u : Tok) (s : Shared) (Q : Value → Shared → Prop) (E : Value → Shared → Prop), Q (.int (g i j) s.toks) { s with toks := s.toks + 1 } → wpAny (model X.prog X.w) X.A (f (.int i t) (.int j u)) Q E s) :
  OpR X f (rI0 fun i j => .int (g i j)) := by
 intro pins s σ H x y v u Q I rx ry h
 obtain ⟨i, j, rfl, rfl, q⟩ := h
 obtain ⟨t, rfl⟩ := rx
 obtain ⟨t', rfl⟩ := ry
 exact rule i j t t' s _ _ ⟨.int (g i j), H, I.tok _, ⟨_, rfl⟩, q⟩
theorem w0d {f : Value → Value → Sem Value} {g : Int → Int → Bool}
  (rule : ∀ (i j : Int) (t u : Tok) (s : Shared) (Q : Value → Shared → Prop) (E : Value → Shared → Prop), Q (.bool (g i j)) s → wpAny (model X.prog X.w) X.A (f (.int i t) (.int j u)) Q E s) :
  OpR X f (rI0 fun i j => .bl (g i j)) := by
 intro pins s σ H x y v u Q I rx ry h
 obtain ⟨i, j, rfl, rfl, q⟩ := h
 obtain ⟨t, rfl⟩ := rx
 obtain ⟨t', rfl⟩ := ry
 exact rule i j t t' s _ _ ⟨.bl (g i j), H, I, rfl, q⟩
noncomputable def w5n (i j : Int) : Prop := 0 < j ∧ j < 1073741824
noncomputable def w6a (i j : Int) : Prop := 0 ≤ j ∧ j ≤ 1000000 ∧ i.natAbs < 2 ^ 64
noncomputable def w0y (i j : Int) : Prop := (-(2 ^ 64) < i ∧ i < 2 ^ 64) ∨ (-(2 ^ 64) < j ∧ j < 2 ^ 64)
theorem w0y.ok {i j : Int} (h : w0y i j) : IntMulOk i j := by
 rcases h with ⟨h1, h2⟩ | ⟨h1, h2⟩
 ·exact .of_left (intBits_le_64 h1 h2)
 ·exact .of_right (intBits_le_64 h1 h2)
theorem q1s : OpR X (binaryOp .Add) (rI0 fun i j => .int (i + j)) := w2g fun _ _ _ _ _ _ _ q => add_int q
theorem x5o : OpR X (binaryOp .Sub) (rI0 fun i j => .int (i - j)) := w2g fun _ _ _ _ _ _ _ q => sub_int q
theorem q7x : OpR X (binaryOp .Mult) (rI w0y fun i j => .int (i * j)) := opI fun _ _ _ _ _ _ _ hc q => mul_int q hc.ok
theorem q2m : OpR X (binaryOp .FloorDiv) (rI w5n fun i j => .int (i / j)) := opI fun i j _ _ _ _ _ hc q => by
 have h1 : (0 : Int) < j := hc.1
 have h2 : j < 1073741824 := hc.2
 exact floordiv_int (by omega) (by rw [Int.fdiv_eq_ediv_of_nonneg i (by omega)]; exact q) (.inl (PyProof.noPylong_small (by omega)))
theorem q1t : OpR X (binaryOp .Mod) (rI (fun _ j => 0 < j) fun i j => .int (i % j)) := opI fun i j _ _ _ _ _ hc q => by
 have h1 : (0 : Int) < j := hc
 exact mod_int' (by omega) (by rw [Int.fmod_eq_emod_of_nonneg i (by omega)]; exact q)
theorem j3n : OpR X (binaryOp .Pow) (rI w6a fun i j => .int (i ^ j.toNat)) := opI fun _ _ _ _ _ _ _ hc q => pow_int_small hc.1 hc.2.1 hc.2.2 q
theorem unI {f : Value → Sem Value} {g : Int → Int}
  (rule : ∀ (i : Int) (t : Tok) (s : Shared) (Q : Value → Shared → Prop) (E : Value → Shared → Prop), Q (.int (g i) s.toks) { s with toks := s.toks + 1 } → wpAny (model X.prog X.w) X.A (f (.int i t)) Q E s) :
  UnR X f (rU fun i => .int (g i)) := by
 intro pins s σ H x v Q I rx h
 obtain ⟨i, rfl, q⟩ := h
 obtain ⟨t, rfl⟩ := rx
 exact rule i t s _ _ ⟨.int (g i), H, I.tok _, ⟨_, rfl⟩, q⟩
theorem x8d : UnR X (unaryOp .USub) (rU fun i => .int (-i)) := unI fun _ _ _ _ _ q => neg_int q
end
noncomputable def w0z : V → V → Bool
 | .non, .non => true | .non, .int _ => true | .int _, .non => true | .non, .bl _ => true | .bl _, .non => true | .non, .str _ => true | .str _, .non => true
 | .int _, .int _ => true | .bl _, .bl _ => true | .str _, .str _ => true | .byt _, .byt _ => true
 | .int _, .str _ => true | .str _, .int _ => true | .bl _, .str _ => true | .str _, .bl _ => true
 | _, _ => false
noncomputable def rEq : R2 := fun x y H Q => w0z x y = true ∧ Q (.bl (decide (x = y))) H
noncomputable def rNe : R2 := fun x y H Q => w0z x y = true ∧ Q (.bl (!decide (x = y))) H
theorem x3k {i j : Int} : decide (V.int i = V.int j) = (i == j) := by
 rw [Bool.eq_iff_iff]
 simp
theorem z3e {i j : Bool} : decide (V.bl i = V.bl j) = (i == j) := by
 rw [Bool.eq_iff_iff]
 simp
theorem z7b {i j : Str} : decide (V.str i = V.str j) = (i == j) := by
 rw [Bool.eq_iff_iff]
 simp
theorem z6p {i j : Array UInt8} : decide (V.byt i = V.byt j) = (i.toList == j.toList) := by
 rw [Bool.eq_iff_iff]
 cases i
 cases j
 simp
section
variable {X : Cx} {a b c : Expr} {ta tb tc : TE} {pos : Pos}
theorem q2o {pins : List (Addr × Obj)} {σ : St} {H : Hp} {s : Shared} {Q : VK} {k k' : Bool} (I : Inv X pins σ H s) (q : Q (.bl k) H) (e : k = k') : EP X pins σ Q (.bool k') s := by
 subst e
 exact ⟨.bl k, H, I, rfl, q⟩
theorem q2a : OpR X (compareOp .Eq) rEq := by
 intro pins s σ H x y v u Q I rx ry h
 obtain ⟨hs, q⟩ := h
 cases x with
 | non =>
  cases rx
  cases y with
  | non => cases ry; exact PySem.EqNone.eq_none_none (q2o I q (by simp))
  | bl j => cases ry; exact PySem.EqNone.eq_none_bool (q2o I q (by simp))
  | int j => obtain ⟨t', rfl⟩ := ry; exact PySem.EqNone.eq_none_int (q2o I q (by simp))
  | str j => obtain ⟨t', rfl⟩ := ry; exact PySem.EqNone.eq_none_str (q2o I q (by simp))
  | _ => exact absurd (show false = true from hs) Bool.false_ne_true
 | bl i =>
  cases rx
  cases y with
  | non => cases ry; exact PySem.EqNone.eq_bool_none (q2o I q (by simp))
  | bl j => cases ry; exact eq_bool (q2o I q z3e)
  | str j => obtain ⟨t', rfl⟩ := ry; exact PySem.EqMixed.eq_bool_str (q2o I q (by simp))
  | _ => exact absurd (show false = true from hs) Bool.false_ne_true
 | int i =>
  obtain ⟨t, rfl⟩ := rx
  cases y with
  | non => cases ry; exact PySem.EqNone.eq_int_none (q2o I q (by simp))
  | int j => obtain ⟨t', rfl⟩ := ry; exact eq_int (q2o I q x3k)
  | str j => obtain ⟨t', rfl⟩ := ry; exact PySem.EqMixed.eq_int_str (q2o I q (by simp))
  | _ => exact absurd (show false = true from hs) Bool.false_ne_true
 | str i =>
  obtain ⟨t, rfl⟩ := rx
  cases y with
  | non => cases ry; exact PySem.EqNone.eq_str_none (q2o I q (by simp))
  | bl j => cases ry; exact PySem.EqMixed.eq_str_bool (q2o I q (by simp))
  | int j => obtain ⟨t', rfl⟩ := ry; exact PySem.EqMixed.eq_str_int (q2o I q (by simp))
  | str j => obtain ⟨t', rfl⟩ := ry; exact eq_str (q2o I q z7b)
  | _ => exact absurd (show false = true from hs) Bool.false_ne_true
 | byt i =>
  obtain ⟨t, rfl⟩ := rx
  cases y with
  | byt j => obtain ⟨t', rfl⟩ := ry; exact PySem.W.eq_bytes (q2o I q z6p)
  | _ => exact absurd (show false = true from hs) Bool.false_ne_true
 | _ => cases y <;> exact absurd (show false = true from hs) Bool.false_ne_true
theorem j1x : OpR X (compareOp .NotEq) rNe := by
 intro pins s σ H x y v u Q I rx ry h
 obtain ⟨hs, q⟩ := h
 cases x with
 | non =>
  cases rx
  cases y with
  | non => cases ry; exact PySem.EqNone.ne_none_none (q2o I q (by simp))
  | bl j => cases ry; exact PySem.EqNone.ne_none_bool (q2o I q (by simp))
  | int j => obtain ⟨t', rfl⟩ := ry; exact PySem.EqNone.ne_none_int (q2o I q (by simp))
  | str j => obtain ⟨t', rfl⟩ := ry; exact PySem.EqNone.ne_none_str (q2o I q (by simp))
  | _ => exact absurd (show false = true from hs) Bool.false_ne_true
 | bl i =>
  cases rx
  cases y with
  | non => cases ry; exact PySem.EqNone.ne_bool_none (q2o I q (by simp))
  | bl j => cases ry; exact ne_bool (q2o I q (congrArg not z3e))
  | str j => obtain ⟨t', rfl⟩ := ry; exact PySem.EqMixed.ne_bool_str (q2o I q (by simp))
  | _ => exact absurd (show false = true from hs) Bool.false_ne_true
 | int i =>
  obtain ⟨t, rfl⟩ := rx
  cases y with
  | non => cases ry; exact PySem.EqNone.ne_int_none (q2o I q (by simp))
  | int j => obtain ⟨t', rfl⟩ := ry; exact ne_int (q2o I q (congrArg not x3k))
  | str j => obtain ⟨t', rfl⟩ := ry; exact PySem.EqMixed.ne_int_str (q2o I q (by simp))
  | _ => exact absurd (show false = true from hs) Bool.false_ne_true
 | str i =>
  obtain ⟨t, rfl⟩ := rx
  cases y with
  | non => cases ry; exact PySem.EqNone.ne_str_none (q2o I q (by simp))
  | bl j => cases ry; exact PySem.EqMixed.ne_str_bool (q2o I q (by simp))
  | int j => obtain ⟨t', rfl⟩ := ry; exact PySem.EqMixed.ne_str_int (q2o I q (by simp))
  | str j => obtain ⟨t', rfl⟩ := ry; exact ne_str (q2o I q (congrArg not z7b))
  | _ => exact absurd (show false = true from hs) Bool.false_ne_true
 | byt i =>
  obtain ⟨t, rfl⟩ := rx
  cases y with
  | byt j => obtain ⟨t', rfl⟩ := ry; exact PySem.W.ne_bytes (q2o I q (congrArg not z6p))
  | _ => exact absurd (show false = true from hs) Bool.false_ne_true
 | _ => cases y <;> exact absurd (show false = true from hs) Bool.false_ne_true
theorem x6e : OpR X (compareOp .Lt) (rI0 fun i j => .bl (decide (i < j))) := w0d fun _ _ _ _ _ _ _ q => lt_int q
theorem x5u : OpR X (compareOp .LtE) (rI0 fun i j => .bl (decide (i ≤ j))) := w0d fun _ _ _ _ _ _ _ q => le_int q
theorem z1f : OpR X (compareOp .Gt) (rI0 fun i j => .bl (decide (j < i))) := w0d fun _ _ _ _ _ _ _ q => gt_int q
theorem z7x : OpR X (compareOp .GtE) (rI0 fun i j => .bl (decide (j ≤ i))) := w0d fun _ _ _ _ _ _ _ q => ge_int q
theorem z9x : OpR X (compareOp .Lt) (fun x y H Q => ∃ i j, x = .str i ∧ y = .str j ∧ Q (.bl (decide (i.cps.toList < j.cps.toList))) H) := by
 intro pins s σ H x y v u Q I rx ry h
 obtain ⟨i, j, rfl, rfl, q⟩ := h
 obtain ⟨t, rfl⟩ := rx
 obtain ⟨t', rfl⟩ := ry
 exact lt_str (q2o I q rfl)
theorem z2b : OpR X (compareOp .Is) (fun x y H Q => y = .non ∧ Q (.bl (decide (x = .non))) H) := by
 intro pins s σ H x y v u Q I rx ry h
 obtain ⟨rfl, q⟩ := h
 cases ry
 refine is_none_gen (q2o I q ?_)
 cases x <;> first
  | (cases rx; rfl)
  | (obtain ⟨t, rfl⟩ := rx; rfl)
theorem j6a : OpR X (compareOp .IsNot) (fun x y H Q => y = .non ∧ Q (.bl (!decide (x = .non))) H) := by
 intro pins s σ H x y v u Q I rx ry h
 obtain ⟨rfl, q⟩ := h
 cases ry
 refine isnot_none_gen (q2o I q ?_)
 cases x <;> first
  | (cases rx; rfl)
  | (obtain ⟨t, rfl⟩ := rx; rfl)
theorem q0q (b : Expr) {op : CmpOp} (h : op ≠ .In := by decide) (h2 : op ≠ .NotIn := by decide) : behindInMarks op b = false := by
 have e1 : (op == CmpOp.In) = false := by cases op <;> first | rfl | exact absurd rfl h
 have e2 : (op == CmpOp.NotIn) = false := by cases op <;> first | rfl | exact absurd rfl h2
 cases b <;> simp [behindInMarks, e1, e2]
theorem q1r {op : CmpOp} {r : R2} (ho : OpR X (compareOp op) r) (ha : PE X a ta) (hb : PE X b tb) (hm : behindInMarks op b = false) : PE X (.Compare a [op] [b] pos) (tOp r ta tb) := by
 intro pins s σ H Q I h
 exact wpAny_Compare1 (w0s ha hb I h fun v u s2 x y H2 I2 rx ry q => ho pins s2 σ H2 x y v u Q I2 rx ry q) hm
noncomputable def j2f (t : TE) : TT := fun σ H Q => t σ H fun x H' => ∃ k, x = .bl k ∧ Q k H'
theorem q0s {op : CmpOp} {r : R2} (ho : OpR X (compareOp op) r) (ha : PE X a ta) (hb : PE X b tb) (hm : behindInMarks op b = false) : PT X (.Compare a [op] [b] pos) (j2f (tOp r ta tb)) := by
 intro pins s σ H Q I h
 refine wpAny_isTrue_Compare1 (thn (ha pins s σ H _ I h) fun v s1 ⟨x, H1, I1, r1, q1⟩ => thn (hb pins s1 σ H1 _ I1 q1) fun u s2 ⟨y, H2, I2, r2, q2⟩ =>
  thn (ho pins s2 σ H2 x y v u _ I2 r1 r2 q2) fun c s3 ⟨z, H3, I3, r3, k, e, q3⟩ => ?_) hm
 subst e
 cases r3
 exact wpAny_truthy_bool ⟨H3, I3, q3⟩
noncomputable def j4h (r r' : R2) (ta tb tc : TE) : TE := fun σ H Q => ta σ H fun x H1 => tb σ H1 fun y H2 => r x y H2 fun z H3 => ∃ k, z = .bl k ∧
 (if k = true then tc σ H3 fun w' H4 => r' y w' H4 Q else Q (.bl false) H3)
theorem x1i {op op' : CmpOp} {r r' : R2} (ho : OpR X (compareOp op) r) (ho' : OpR X (compareOp op') r') (ha : PE X a ta) (hb : PE X b tb) (hc : PE X c tc)
  (hm : lastMarks [op, op'] [b, c] = false := by with_unfolding_all rfl) : PE X (.Compare a [op, op'] [b, c] pos) (j4h r r' ta tb tc) := by
 intro pins s σ H Q I h
 refine Compare_chain (thn (ha pins s σ H _ I h) fun v s1 ⟨x, H1, I1, r1, q1⟩ => chain_link (thn (hb pins s1 σ H1 _ I1 q1) fun u s2 ⟨y, H2, I2, r2, q2⟩ =>
  thn (ho pins s2 σ H2 x y v u _ I2 r1 r2 q2) fun d s3 ⟨z, H3, I3, r3, k, e, q3⟩ => ?_)) hm
 subst e
 cases r3
 refine wpAny_truthy_bool ?_
 cases k with
 | false => exact ite_ff ⟨.bl false, H3, I3, rfl, q3⟩
 | true => exact ite_tt (chain_last (thn (hc pins s3 σ H3 _ I3 q3) fun w' s4 ⟨z', H4, I4, r4, q4⟩ => ho' pins s4 σ H4 y z' u w' Q I4 r2 r4 q4))
theorem j3e {op op' : CmpOp} {r r' : R2} (ho : OpR X (compareOp op) r) (ho' : OpR X (compareOp op') r') (ha : PE X a ta) (hb : PE X b tb) (hc : PE X c tc)
  (hm : lastMarks [op, op'] [b, c] = false := by with_unfolding_all rfl) : PT X (.Compare a [op, op'] [b, c] pos) (j2f (j4h r r' ta tb tc)) := by
 intro pins s σ H Q I h
 refine isTrue_chain (thn (ha pins s σ H _ I h) fun v s1 ⟨x, H1, I1, r1, q1⟩ => test_link (thn (hb pins s1 σ H1 _ I1 q1) fun u s2 ⟨y, H2, I2, r2, q2⟩ =>
  thn (ho pins s2 σ H2 x y v u _ I2 r1 r2 q2) fun d s3 ⟨z, H3, I3, r3, k, e, q3⟩ => ?_)) hm
 subst e
 cases r3
 refine wpAny_truthy_bool ?_
 cases k with
 | false =>
  obtain ⟨k', e', q'⟩ := q3
  cases e'
  exact ite_ff ⟨H3, I3, q'⟩
 | true =>
  refine ite_tt (test_last (thn (hc pins s3 σ H3 _ I3 q3) fun w' s4 ⟨z', H4, I4, r4, q4⟩ => thn (ho' pins s4 σ H4 y z' u w' _ I4 r2 r4 q4) fun d' s5 ⟨z2, H5, I5, r5, k2, e2, q5⟩ => ?_))
  subst e2
  cases r5
  exact wpAny_truthy_bool ⟨H5, I5, q5⟩
theorem x7t : (sizeLine : Nat) < 2 ^ 63 := by rw [sizeLine_eq]; decide
theorem q0k : OpR X (binaryOp .Add) (fun x y H Q => ∃ i j, x = .str i ∧ y = .str j ∧ i.length + j.length ≤ sizeLine ∧ Q (.str (i ++ j)) H) := by
 intro pins s σ H x y v u Q I rx ry h
 obtain ⟨i, j, rfl, rfl, hz, q⟩ := h
 obtain ⟨t, rfl⟩ := rx
 obtain ⟨t', rfl⟩ := ry
 exact add_str (fun t' tk => ⟨.str (i ++ j), H, I.tok _, ⟨_, rfl⟩, q⟩) hz
theorem x0z {x : V} {us : List Value} (r : q3r [x] us) : ∃ u, us = [u] ∧ q5d x u := by
 cases r with
 | cons r1 r2 => cases r2; exact ⟨_, rfl, r1⟩
theorem j6m {x y : V} {us : List Value} (r : q3r [x, y] us) : ∃ u w', us = [u, w'] ∧ q5d x u ∧ q5d y w' := by
 cases r with
 | cons r1 r2 =>
  cases r2 with
  | cons r3 r4 => cases r4; exact ⟨_, _, rfl, r1, r3⟩
theorem x9u (hc : X.calm = true) : x4h X (.builtin "max") (fun xs H Q => ∃ i j, xs = [.int i, .int j] ∧ Q (.int (if j > i then j else i)) H) := by
 intro pins s σ H xs us Q I r h
 obtain ⟨i, j, rfl, q⟩ := h
 obtain ⟨u, w', rfl, ⟨t, rfl⟩, ⟨t', rfl⟩⟩ := j6m r
 refine max_two_ints (I.ok.hd hc) fun h' tk k => ⟨_, H, I.kept k, ?_, q⟩
 by_cases hj : j > i
 ·rw [if_pos hj, if_pos hj]; exact ⟨_, rfl⟩
 ·rw [if_neg hj, if_neg hj]; exact ⟨_, rfl⟩
theorem x8y : x4h X (.type "int") (fun xs H Q => (∃ i, xs = [.int i] ∧ Q (.int i) H) ∨ ∃ k, xs = [.bl k] ∧ Q (.int (if k then 1 else 0)) H) := by
 intro pins s σ H xs us Q I r h
 rcases h with ⟨i, rfl, q⟩ | ⟨k, rfl, q⟩
 ·obtain ⟨u, rfl, t, rfl⟩ := x0z r
  exact call_int_int ⟨.int i, H, I, ⟨_, rfl⟩, q⟩
 ·obtain ⟨u, rfl, r1⟩ := x0z r
  cases r1
  exact call_int_bool ⟨.int (if k then 1 else 0), H, I.tok _, ⟨_, rfl⟩, q⟩
end
structure ObjM (h : Heap) (x dx C : Addr) (mA : Str → Option Value) : Prop where
 obj : h.get? x = some (PySem.W.instObj C dx)
 ns : h.Ns1 dx mA
 ne : dx ≠ x
theorem z9v {h : Heap} {dx : Addr} {mA : Str → Option Value} (n : h.Ns1 dx mA) : ∃ od, h.get? dx = some od ∧ ∀ name, PySem.W.lookIn name od = some (mA name) := by
 obtain ⟨o, es, ep, ho, hd, hk, _, hm⟩ := n
 refine ⟨o, ho, fun name => ?_⟩
 have e := hm name
 unfold nsFind findBy at e
 rw [← Array.find?_toList] at e
 unfold PySem.W.lookIn
 rw [hd]
 dsimp only
 split
 ·rename_i y q
  rw [q] at e
  exact congrArg some e
 ·rename_i q
  rw [q] at e
  have a : es.toList.any (·.refKey) = false := by
   rw [List.any_eq_false]
   intro y hy
   obtain ⟨z, t, hkey⟩ := hk y (Array.mem_toList_iff.mp hy)
   simp [DictEntry.refKey, hkey]
  have a' : ¬ es.toList.any (·.refKey) = true := by rw [a]; exact Bool.false_ne_true
  rw [if_neg a']
  exact congrArg some e
theorem ObjM.look {h : Heap} {x dx C : Addr} {mA : Str → Option Value} (I : ObjM h x dx C mA) : ∃ od, PySem.W.InstAt h x (PySem.W.instObj C dx) C (some od) ∧ ∀ name, PySem.W.lookIn name od = some (mA name) :=
 let ⟨od, ho, hl⟩ := z9v I.ns
 ⟨od, ⟨I.obj, rfl, rfl, ho⟩, hl⟩
section
variable {prog : Program} {w : World} {A : Around} {E : Value → Shared → Prop} {s : Shared} {K : PySem.W.Frag} {x dx C f : Addr} {mA : Str → Option Value} {name : Str} {v : Value}
theorem j5k {expr : Bool} {Q : Value → Shared → Prop} (X : K.In s.heap) (I : ObjM s.heap x dx C mA) (hg : PySem.W.plainGet K C name = true) (hh : PySem.W.hasDictIn K C = true)
  (ha : PySem.W.findIn K (.ref C) name = some none) (hv : mA name = some v) (hv' : PySem.W.handedIn v = true) (h : Q v { s with toks := s.toks + 1 }) :
  wpAny (model prog w) A (getAttr (.ref x) name expr) Q E s := by
 obtain ⟨od, J, hl⟩ := I.look
 exact PySem.W.get_value X J (PySem.W.plainGet_of hg).1 (PySem.W.findObj_own hh ha rfl (by rw [hl, hv])) hv' h
theorem j1r {pl : Sem Bool} {Q : Value × List Value → Shared → Prop} (X : K.In s.heap) (I : ObjM s.heap x dx C mA) (hg : PySem.W.plainGet K C name = true)
  (hf : PySem.W.findIn K (.ref C) name = some (some (.ref f))) (ht : PySem.W.isFn K (.ref f) = true) (hv : mA name = none) (h : Q (.ref f, [.ref x]) s) :
  wpAny (model prog w) A (getMethod (.ref x) name pl) Q E s := by
 obtain ⟨od, J, hl⟩ := I.look
 exact PySem.W.method_fn X J (PySem.W.plainGet_of hg).1 (PySem.W.plainGet_of hg).2 hf (beq_iff_eq.mp ht) (by show (PySem.W.lookIn name od).map (·.isSome) = some false; rw [hl, hv]; rfl) h
theorem j5t {ns : List Str} {Q : Unit → Shared → Prop} (X : K.In s.heap) (I : ObjM s.heap x dx C mA)
  (hs : PySem.W.findIn K (.ref C) "__setattr__" = some (some (.builtin "object.__setattr__"))) (hp : PySem.W.plainOver K C = true) (ht : PySem.W.takerIn K C name = some none) (hh : PySem.W.hasDictIn K C = true)
  (hw : PySem.Within mA ns) (hsz : ns.length ≤ sizeLine)
  (h : ∀ h', ObjM h' x dx C (fun y => if y = name then some v else mA y) → Heap.SameBut dx s.heap h' → Q () { s with heap := h', toks := s.toks + 2 }) :
  wpAny (model prog w) A (setAttr (.ref x) name v) Q E s := by
 obtain ⟨od, J, hl⟩ := I.look
 refine PySem.W.set_plain X J hs (PySem.W.osa_open (s := { s with toks := s.toks + 1 }) (r := none) X J hp ht fun b => ?_)
 obtain ⟨cd, hc, hd'⟩ := PySem.W.any_some hh
 have hx : s.heap.get? x = some ⟨.ref C, some dx, .plain, #[]⟩ := I.obj
 refine wpAny_bind (wpAny_pure (wpAny_bind (wpAny_bind (wpAny_loadPart hx (wpAny_bind (PySem.W.Looks.here (s := { s with toks := s.toks + 1 }) (PySem.W.looks_clsIn X hc) ?_))))))
 rw [hd']
 refine wpAny_pure (a := some dx) (wpAny_bind (wpAny_pure (wpAny_bind ?_)))
 refine wpAny_nsSet1 (s := { s with toks := s.toks + 1 }) I.ns fun h' hn2 hs2 => ?_
 obtain ⟨oD, esD, epD, hoD, hdD, hcD⟩ := hn2.count (PySem.Within.cons name v hw)
 refine wpAny_bind (wpAny_lookBehind hoD (by rw [hdD]; exact pastItsLine_dict (Nat.le_trans hcD (by rw [List.length_cons]; omega))) ?_)
 exact wpAny_pure (h _ ⟨(hs2.2 _ (Ne.symm I.ne)).trans I.obj, hn2, I.ne⟩ hs2)
theorem j0p {R : Result → Shared → Prop} {vs : List Value} {kw : List (Str × Value)} (X : K.In s.heap) (hm : PySem.W.makesIn K C = true)
  (hi : PySem.W.findIn K (.ref C) "__init__" = some (some (.ref f))) (hf : PySem.W.typeIn K (.ref f) = some (.type "function"))
  (h : codeAny (model prog w) (A.under (.builtin "type.__call__" ⟨.ref C :: vs, kw⟩)) (.call (.ref f) ⟨.ref (s.heap.objs.size + 1) :: vs, kw⟩) (PySem.W.InitBack (s.heap.objs.size + 1) R)
   { s with heap := (s.heap.push PySem.W.emptyDict).push (PySem.W.instObj C s.heap.objs.size) }) :
  codeAny (model prog w) A (.call (.ref C) ⟨vs, kw⟩) R s := by
 obtain ⟨hh, g, d, t, os⟩ := s
 exact PySem.W.make_core (PySem.W.makes_of X hm) (PySem.W.looks_findIn X hi) (fun self => PySem.W.bind_fn X self hf) (.inl rfl) h
end
noncomputable def z0e (f : Str) (v : V) : List (Str × V) → List (Str × V)
 | [] => [(f, v)]
 | (g, x) :: r => if g = f then (g, v) :: r else (g, x) :: z0e f v r
theorem x3t (f g : Str) (v : V) : ∀ fs : List (Str × V), (z0e f v fs).lookup g = if g = f then some v else fs.lookup g
 | [] => by
  show List.lookup g [(f, v)] = _
  by_cases h : g = f
  ·have hb : (g == f) = true := beq_iff_eq.mpr h
   simp only [List.lookup, hb, if_pos h]
  ·have hb : (g == f) = false := beq_eq_false_iff_ne.mpr h
   simp only [List.lookup, hb, if_neg h]
 | (k, x) :: r => by
  have ih := x3t f g v r
  rw [show z0e f v ((k, x) :: r) = (if k = f then (k, v) :: r else (k, x) :: z0e f v r) from rfl]
  by_cases hk : k = f
  ·rw [if_pos hk]
   by_cases h : g = k
   ·have hb : (g == k) = true := beq_iff_eq.mpr h
    simp only [List.lookup, hb, if_pos (h.trans hk)]
   ·have hb : (g == k) = false := beq_eq_false_iff_ne.mpr h
    simp only [List.lookup, hb, if_neg (fun e : g = f => h (e.trans hk.symm))]
  ·rw [if_neg hk]
   by_cases h : g = k
   ·have hb : (g == k) = true := beq_iff_eq.mpr h
    simp only [List.lookup, hb, if_neg (fun e : g = f => hk (h.symm.trans e))]
   ·have hb : (g == k) = false := beq_eq_false_iff_ne.mpr h
    simp only [List.lookup, hb]
    exact ih
theorem x3m (f : Str) (v : V) : ∀ fs : List (Str × V), f ∈ (z0e f v fs).map (·.1) ∧ ∀ g, g ∈ fs.map (·.1) → g ∈ (z0e f v fs).map (·.1)
 | [] => ⟨by simp [z0e], fun g h => by simp at h⟩
 | (k, x) :: r => by
  obtain ⟨i1, i2⟩ := x3m f v r
  rw [show z0e f v ((k, x) :: r) = (if k = f then (k, v) :: r else (k, x) :: z0e f v r) from rfl]
  by_cases hk : k = f
  ·rw [if_pos hk]
   subst hk
   exact ⟨by simp, fun g h => by simpa using h⟩
  ·rw [if_neg hk]
   refine ⟨?_, fun g h => ?_⟩
   ·rw [List.map_cons]
    exact List.mem_cons_of_mem _ i1
   ·rw [List.map_cons] at h ⊢
    rcases List.mem_cons.mp h with e | e
    ·exact List.mem_cons.mpr (.inl e)
    ·exact List.mem_cons_of_mem _ (i2 g e)
theorem x4v (f : Str) (v : V) : ∀ fs : List (Str × V), (z0e f v fs).length ≤ fs.length + 1
 | [] => by simp [z0e]
 | (k, x) :: r => by
  have ih := x4v f v r
  rw [show z0e f v ((k, x) :: r) = (if k = f then (k, v) :: r else (k, x) :: z0e f v r) from rfl]
  by_cases hk : k = f
  ·rw [if_pos hk, List.length_cons, List.length_cons]; omega
  ·rw [if_neg hk, List.length_cons, List.length_cons]; omega
theorem z3s.some_of {v : V} {o : Option Value} (r : z3s (some v) o) : ∃ u, o = some u ∧ q5d v u := by
 cases o with
 | none => exact (show False from r).elim
 | some u => exact ⟨u, rfl, r⟩
theorem z3s.none_of {o : Option Value} (r : z3s none o) : o = none := by
 cases o with
 | none => rfl
 | some u => exact (show False from r).elim
theorem z7d {v : V} {u : Value} (r : q5d v u) : PySem.W.handedIn u = true := by
 cases v with
 | non => cases (show u = Value.none from r); rfl
 | bl b => cases (show u = Value.bool b from r); rfl
 | int i => obtain ⟨t, e⟩ := (show ∃ t, u = Value.int i t from r); cases e; rfl
 | str x => obtain ⟨t, e⟩ := (show ∃ t, u = Value.str x t from r); cases e; rfl
 | byt b => obtain ⟨t, e⟩ := (show ∃ t, u = Value.bytes b t from r); cases e; rfl
 | flt b => obtain ⟨t, e⟩ := (show ∃ t, u = Value.float b t from r); cases e; rfl
 | ref a => cases (show u = Value.ref a from r); rfl
 | ty n => cases (show u = Value.type n from r); rfl
section
variable {P : Program} {w : World} {H H' : Hp} {h h' : Heap} {a C dx : Addr} {fs fs' : List (Str × V)}
theorem x6b (hok : HOk P w H h) (e : H a = some (.ins C dx fs)) : ∃ mA, ObjM h a dx C mA ∧ (∀ f, z3s (fs.lookup f) (mA f)) ∧ PySem.Within mA (fs.map (·.1)) ∧ fs.length ≤ 1000 ∧ H dx = some (.own a) := by
 obtain ⟨d, z, ne, ob, mA, n, r, q⟩ := (show q5m P w H h a (.ins C dx fs) from hok a _ e)
 exact ⟨mA, ⟨ob, n, ne⟩, r, q, z, d⟩
end
structure Cls (K : PySem.W.Frag) (C : Addr) : Prop where
 pg : PySem.W.plainGet K C Str.empty = true
 hd : PySem.W.hasDictIn K C = true
 po : PySem.W.plainOver K C = true
 sa : PySem.W.findIn K (.ref C) "__setattr__" = some (some (.builtin "object.__setattr__"))
theorem Cls.get {K : PySem.W.Frag} {C : Addr} (c : Cls K C) (f : Str) : PySem.W.plainGet K C f = true := c.pg
noncomputable def x2m (K : PySem.W.Frag) (C : Addr) (f : Str) : Prop := PySem.W.findIn K (.ref C) f = some none
theorem x2m.taker {K : PySem.W.Frag} {C : Addr} {f : Str} (n : x2m K C f) : PySem.W.takerIn K C f = some none := by
 unfold PySem.W.takerIn
 rw [show PySem.W.findIn K (.ref C) f = some none from n]
 rfl
structure Meth (K : PySem.W.Frag) (C : Addr) (m : Str) (f : Addr) : Prop where
 at_ : PySem.W.findIn K (.ref C) m = some (some (.ref f))
 fn : PySem.W.isFn K (.ref f) = true
 kp : PySem.W.keepIn K (.ref f) = true
section
variable {X : Cx} {pins : List (Addr × Obj)} {σ : St} {H : Hp} {s : Shared} {a C dx : Addr} {fs : List (Str × V)} {f : Str} {v : V} {A : Around} {E : Value → Shared → Prop}
theorem z4x {b : Bool} {Q : Value → Shared → Prop} (I : Inv X pins σ H s) (e : H a = some (.ins C dx fs)) (c : Cls X.K C) (n : x2m X.K C f) (l : fs.lookup f = some v)
  (h : ∀ u s', Inv X pins σ H s' → q5d v u → Q u s') : wpAny (model X.prog X.w) A (getAttr (.ref a) f b) Q E s := by
 obtain ⟨mA, O, r, _, _, _⟩ := x6b I.hok e
 obtain ⟨u, hu, ru⟩ := z3s.some_of (v := v) (o := mA f) (by rw [← l]; exact r f)
 exact j5k I.kIn O (c.get f) c.hd n hu (z7d ru) (h u _ (I.tok _) ru)
theorem z3x {m : Str} {g : Addr} {pl : Sem Bool} {Q : Value × List Value → Shared → Prop} (I : Inv X pins σ H s) (e : H a = some (.ins C dx fs)) (c : Cls X.K C) (k : Meth X.K C m g) (l : fs.lookup m = none)
  (h : Q (.ref g, [.ref a]) s) : wpAny (model X.prog X.w) A (getMethod (.ref a) m pl) Q E s := by
 obtain ⟨mA, O, r, _, _, _⟩ := x6b I.hok e
 have hn : mA m = none := z3s.none_of (by rw [← l]; exact r m)
 exact j1r I.kIn O (c.get m) k.at_ k.fn hn h
theorem z4q {y : V} {u : Value} {Q : Unit → Shared → Prop} (I : Inv X pins σ H s) (e : H a = some (.ins C dx fs)) (c : Cls X.K C) (n : x2m X.K C f) (hl : fs.length < 1000) (ry : q5d y u)
  (h : ∀ s', Inv X pins σ (upd H a (.ins C dx (z0e f y fs))) s' → Q () s') : wpAny (model X.prog X.w) A (setAttr (.ref a) f u) Q E s := by
 obtain ⟨mA, O, r, wi, _, ho⟩ := x6b I.hok e
 have hz : (fs.map (·.1)).length ≤ sizeLine := by rw [List.length_map, sizeLine_eq]; omega
 refine j5t I.kIn O c.sa c.po n.taker c.hd wi hz fun h' O' sb => h _ ?_
 have hd : ∃ o, h'.get? dx = some o := let ⟨o, _, _, e', _⟩ := O'.ns; ⟨o, e'⟩
 refine I.write (x := a) (e := dx) (by rw [e]; exact True.intro) (.inr ho) (fun b q hb z => (sb.2 b hb).trans z) hd ?_
 refine ⟨by rw [q1b O.ne]; exact ho, ?_, O.ne, O'.obj, _, O'.ns, fun g => ?_, fun g hg => ?_⟩
 ·have := x4v f y fs; omega
 ·show z3s ((z0e f y fs).lookup g) (if g = f then some u else mA g)
  rw [x3t]
  by_cases q : g = f
  ·rw [if_pos q, if_pos q]; exact ry
  ·rw [if_neg q, if_neg q]; exact r g
 ·by_cases q : g = f
  ·rw [q]; exact (x3m f y fs).1
  ·refine (x3m f y fs).2 g (wi g fun z => hg ?_)
   show (if g = f then some u else mA g) = none
   rw [if_neg q]; exact z
theorem Inv.made (I : Inv X pins σ H s) : Inv X pins σ (upd (upd H s.heap.objs.size (.own (s.heap.objs.size + 1))) (s.heap.objs.size + 1) (.ins C s.heap.objs.size []))
  { s with heap := (s.heap.push PySem.W.emptyDict).push (PySem.W.instObj C s.heap.objs.size) } := by
 have e1 : (s.heap.push PySem.W.emptyDict).get? s.heap.objs.size = some PySem.W.emptyDict := Heap.get?_push_size s.heap rfl
 have e2 : ((s.heap.push PySem.W.emptyDict).push (PySem.W.instObj C s.heap.objs.size)).get? (s.heap.objs.size + 1) = some (PySem.W.instObj C s.heap.objs.size) := by
  have := Heap.get?_push_size (s.heap.push PySem.W.emptyDict) (o := PySem.W.instObj C s.heap.objs.size) rfl
  rwa [Heap.size_push] at this
 have e3 : (s.heap.push PySem.W.emptyDict).Ns s.heap.objs.size (fun _ => none) := ⟨PySem.W.emptyDict, #[], _, e1, rfl, (fun e he => absurd he (by simp)), fun _ => rfl⟩
 have I1 := I.laid (a := s.heap.objs.size) (o := .own (s.heap.objs.size + 1)) (h' := s.heap.push PySem.W.emptyDict) (t' := s.toks) (fun b u q => Heap.get?_push_of_some _ q) (Nat.le_refl _) ⟨_, e1⟩
 refine I1.laid (a := s.heap.objs.size + 1) (o := .ins C s.heap.objs.size []) (t' := s.toks) (fun b u q => Heap.get?_push_of_some _ q) (Nat.le_of_eq (Heap.size_push _ _)) ?_
 have ne : s.heap.objs.size ≠ s.heap.objs.size + 1 := Nat.ne_of_lt (Nat.lt_succ_self _)
 refine ⟨by rw [q1b ne, q0g], Nat.zero_le _, ne, e2, fun _ => none, (Heap.Ns1.of_empty e3).at fun o q => Heap.get?_push_of_some _ q, fun _ => True.intro, fun y hy => absurd rfl hy⟩
theorem j6i {prog : Program} {w : World} {env : Env} {e : Expr} {f : Str} {pos : Pos} {s : Shared} {Q : Value → Shared → Prop} (hb : attributeBase e f env (eval e env) = eval e env)
  (h : wpAny (model prog w) A (eval e env) (fun o s₁ => wpAny (model prog w) A (getAttr o f true) Q E s₁) E s) : wpAny (model prog w) A (eval (.Attribute e f pos) env) Q E s :=
 Attribute_any_ h (by rw [arm_eval_Attribute, hb])
end
noncomputable def w5m (K : PySem.W.Frag) (ta : TE) (f : Str) : TE := fun σ H Q => ta σ H fun x H1 => ∃ a C dx fs v, x = .ref a ∧ H1 a = some (.ins C dx fs) ∧ Cls K C ∧ x2m K C f ∧ fs.lookup f = some v ∧ Q v H1
noncomputable def w3l (K : PySem.W.Frag) (ta tv : TE) (f : Str) : TS := fun D σ H => tv σ H fun y H1 => ta σ H1 fun x H2 => ∃ a C dx fs, x = .ref a ∧ H2 a = some (.ins C dx fs) ∧ Cls K C ∧ x2m K C f ∧ fs.length < 1000 ∧
 D.nx σ (upd H2 a (.ins C dx (z0e f y fs)))
section
variable {X : Cx} {o e value : Expr} {f : Str} {pos pos' tpos : Pos} {ta tv : TE}
theorem x9o (he : PE X e ta) (hb : attributeBase e f X.env (eval e X.env) = eval e X.env) : PE X (.Attribute e f pos) (w5m X.K ta f) := by
 intro pins s σ H Q I h
 refine j6i hb (thn (he pins s σ H _ I h) fun u s1 ⟨x, H1, I1, rx, a, C, dx, fs, v, ex, ea, c, n, l, q⟩ => ?_)
 subst ex
 obtain rfl : u = Value.ref a := rx
 exact z4x I1 ea c n l fun u' s2 I2 ru => ⟨v, H1, I2, ru, q⟩
theorem z7k (ha : PE X o ta) (hv : PE X value tv) (hs : swapsWith value (some (.Attribute o f pos')) pos.line X.env = pure false) : PS X (.Assign [.Attribute o f pos'] value pos) (w3l X.K ta tv f) := by
 intro pins s σ H D I h
 refine plainObj_wpAny_Assign_Attribute (thn (hv pins s σ H _ I h) fun u s1 ⟨y, H1, I1, ry, q⟩ => thn (ha pins s1 σ H1 _ I1 q) fun ov s2 ⟨x, H2, I2, rx, a, C, dx, fs, ex, ea, c, n, l, q2⟩ => ?_) hs
 subst ex
 obtain rfl : ov = Value.ref a := rx
 exact z4q I2 ea c n l ry fun s3 I3 => ⟨σ, _, I3, q2⟩
end
section
variable {X : Cx} {pins : List (Addr × Obj)} {σ : St} {H : Hp} {s : Shared} {A : Around} {E : Value → Shared → Prop} {Q : Value → Shared → Prop} {c : Value} {b : Bool}
inductive TyOf (K : PySem.W.Frag) (H : Hp) : V → Value → Prop where
 | non : TyOf K H .non (.type "NoneType")
 | bl (x : Bool) : TyOf K H (.bl x) (.type "bool")
 | int (i : Int) : TyOf K H (.int i) (.type "int")
 | str (x : Str) : TyOf K H (.str x) (.type "str")
 | flt (x : UInt64) : TyOf K H (.flt x) (.type "float")
 | lst {a : Addr} {xs : List V} (e : H a = some (.lst xs)) : TyOf K H (.ref a) (.type "list")
 | frz {a : Addr} {o : Obj} {xs : List V} (e : H a = some (.frz o (.lst xs))) : TyOf K H (.ref a) (.type "list")
 | tup {a : Addr} {xs : List V} (e : H a = some (.tup xs)) : TyOf K H (.ref a) (.type "tuple")
 | dK {a : Addr} {kvs : List (Key × V)} (e : H a = some (.dK kvs)) : TyOf K H (.ref a) (.type "dict")
 | dT {a : Addr} {kvs : List (List Key × V)} (e : H a = some (.dT kvs)) : TyOf K H (.ref a) (.type "dict")
 | ins {a C dx : Addr} {fs : List (Str × V)} (e : H a = some (.ins C dx fs)) (cl : Cls K C) (ha : PySem.W.findIn K (.ref C) "__class__" = some (some (.builtin "object.__class__")))
   (hn : PySem.W.specialIn K (.builtin "object.__class__") "__get__" = some (some (.builtin "getset_descriptor.__get__"))) (htk : PySem.W.takesIn K (.builtin "object.__class__") = some true)
   (hm : PySem.W.mroIn K C (.type "object") = some true) : TyOf K H (.ref a) (.ref C)
theorem z7v {x : V} {u t : Value} (I : Inv X pins σ H s) (rx : q5d x u) (ty : TyOf X.K H x t) (e : PySem.W.kitOne X.K t c = some b) (h : ∀ tk, Q (.bool b) { s with toks := tk }) :
  wpAny (model X.prog X.w) A (call (.builtin "isinstance") [u, c]) Q E s := by
 cases ty with
 | non => cases (show u = Value.none from rx); exact PySem.W.kia_one PySem.W.kitx_none I.kIn True.intro e (fun z => nomatch z) h
 | bl y => cases (show u = Value.bool y from rx); exact PySem.W.kia_one PySem.W.kitx_bool I.kIn True.intro e (fun z => nomatch z) h
 | int i => obtain ⟨t, q⟩ := (show ∃ t, u = Value.int i t from rx); cases q; exact PySem.W.kia_one PySem.W.kitx_int I.kIn True.intro e (fun z => nomatch z) h
 | str y => obtain ⟨t, q⟩ := (show ∃ t, u = Value.str y t from rx); cases q; exact PySem.W.kia_one PySem.W.kitx_str I.kIn True.intro e (fun z => nomatch z) h
 | flt y => obtain ⟨t, q⟩ := (show ∃ t, u = Value.float y t from rx); cases q; exact PySem.W.kia_one PySem.W.kitx_float I.kIn True.intro e (fun z => nomatch z) h
 | @lst a xs ea =>
  cases (show u = Value.ref a from rx)
  obtain ⟨_, _, n, _, h1⟩ := (show q5m X.prog X.w H s.heap a (.lst xs) from I.hok a _ ea)
  exact PySem.W.kia_one PySem.W.kitx_list I.kIn ⟨_, h1, rfl⟩ e (fun z => nomatch z) h
 | @frz a ob xs ea =>
  cases (show u = Value.ref a from rx)
  obtain ⟨_, _, _, n, _, h1⟩ := (show q5m X.prog X.w H s.heap a (.frz ob (.lst xs)) from I.hok a _ ea)
  exact PySem.W.kia_one PySem.W.kitx_list I.kIn ⟨_, h1, rfl⟩ e (fun z => nomatch z) h
 | @tup a xs ea =>
  cases (show u = Value.ref a from rx)
  obtain ⟨_, _, _, p⟩ := (show q5m X.prog X.w H s.heap a (.tup xs) from I.hok a _ ea)
  obtain ⟨o, h1, h2, _⟩ := p
  exact PySem.W.kia_one PySem.W.kitx_tuple I.kIn ⟨o, h1, h2⟩ e (fun z => nomatch z) h
 | @dK a kvs ea =>
  cases (show u = Value.ref a from rx)
  obtain ⟨_, _, vs, _, p⟩ := (show q5m X.prog X.w H s.heap a (.dK kvs) from I.hok a _ ea)
  obtain ⟨o, es, ep, h1, h2, _⟩ := p
  exact PySem.W.kia_one PySem.W.kitx_dict I.kIn ⟨o, h1, h2.1⟩ e (fun z => nomatch z) h
 | @dT a kvs ea =>
  cases (show u = Value.ref a from rx)
  obtain ⟨_, _, xs, _, o, es, ep, h1, h2, _⟩ := (show q5m X.prog X.w H s.heap a (.dT kvs) from I.hok a _ ea)
  exact PySem.W.kia_one PySem.W.kitx_dict I.kIn ⟨o, h1, h2.1⟩ e (fun z => nomatch z) h
 | @ins a C dx fs ea cl ha hn htk hm =>
  cases (show u = Value.ref a from rx)
  obtain ⟨mA, O, _⟩ := x6b I.hok ea
  obtain ⟨od, J, _⟩ := O.look
  exact PySem.W.kia_one (PySem.W.kitx_own (cl.get _) cl.hd ha hn htk hm) I.kIn J e (fun z => nomatch z) h
end
structure Room (k : Nat) (A : Around) : Prop where
 hd : A.handled = none
 dp : A.depth + 3 * k + 5 < recursionLimit
 un : A.units + 16 * k + 200 < cLine
theorem Room.mono {j k : Nat} {A : Around} (r : Room k A) (h : j ≤ k) : Room j A := ⟨r.hd, by have := r.dp; omega, by have := r.un; omega⟩
theorem Room.deeper {k : Nat} {A : Around} (r : Room (k + 1) A) (env : Env) : Room k (A.deeper env) :=
 ⟨r.hd, by have := r.dp; show A.depth + 1 + 3 * k + 5 < _; omega, by have := r.un; show A.units + 3 + 16 * k + 200 < _; omega⟩
theorem z4k {A : Around} {C : Addr} {us : List Value} {kw : List (Str × Value)} : (A.under (.builtin "type.__call__" ⟨.ref C :: us, kw⟩)).depth = A.depth + 1 := by
 first | rfl | simp [Around.under, Code.weight, Code.isCreation, Code.isGuard, Code.isCaller, Code.frames, Code.isFrame, guardIds]
theorem z4p {A : Around} {C : Addr} {us : List Value} {kw : List (Str × Value)} : (A.under (.builtin "type.__call__" ⟨.ref C :: us, kw⟩)).units = A.units + 1 := by
 first | rfl | simp [Around.under, Code.cUnits, Code.frames, Code.isFrame]
theorem Room.make {k : Nat} {A : Around} (r : Room (k + 1) A) (C : Addr) (us : List Value) (kw : List (Str × Value)) : Room k (A.under (.builtin "type.__call__" ⟨.ref C :: us, kw⟩)) :=
 ⟨r.hd, by have := r.dp; rw [z4k]; omega, by have := r.un; rw [z4p]; omega⟩
theorem Room.depth {k : Nat} {A : Around} (r : Room k A) : A.depth < recursionLimit := by have := r.dp; omega
theorem Room.units {k : Nat} {A : Around} (r : Room k A) : A.units + 64 < cLine := by have := r.un; omega
theorem Room.units0 {k : Nat} {A : Around} (r : Room k A) : A.units < cLine := by have := r.un; omega
noncomputable def j8a : TA := fun _ H Q => Q [] H
noncomputable def q8g (ta : TE) (tr : TA) : TA := fun σ H Q => ta σ H fun x H1 => tr σ H1 fun xs H2 => Q (x :: xs) H2
section
variable {X : Cx} {e : Expr} {es : List Expr} {te : TE} {t : TA} {pos : Pos}
theorem q0b : PA X [] j8a := fun _ _ _ _ H Q I h => Calls.spliced_nil ⟨[], H, I, .nil, h⟩
theorem q0c (ha : PE X e te) (hr : PA X es t) (hs : starEach (e :: es) X.env = (false, eval e X.env) :: starEach es X.env := by rfl) : PA X (e :: es) (q8g te t) := by
 intro pos pins s σ H Q I h
 rw [hs]
 show wpAny _ _ (spliced ((false, eval e X.env) :: backTo pos (starEach es X.env))) _ _ s
 refine Calls.spliced_cons (thn (ha pins s σ H _ I h) fun u s1 ⟨x, H1, I1, r1, q1⟩ => ?_)
 exact thn (hr pos pins s1 σ H1 _ I1 q1) fun us s2 ⟨xs, H2, I2, r2, q2⟩ => ⟨x :: xs, H2, I2, .cons r1 r2, q2⟩
noncomputable def w2n (t : TA) : TE := fun σ H Q => t σ H fun xs H1 => xs.length ≤ sizeLine ∧ ∀ p, H1 p = none → Q (.ref p) (upd H1 p (.tup xs))
noncomputable def w2w (t : TA) : TE := fun σ H Q => t σ H fun xs H1 => xs.length ≤ sizeLine ∧ ∀ p, H1 p = none → Q (.ref p) (upd H1 p (.lst xs))
theorem q2v {x1} (h : PA X es t) : PE X (.Tuple es x1 pos) (w2n t) := by
 intro pins s σ H Q I hq
 refine wpAny_Tuple_spliced (thn (h pos pins s σ H _ I hq) fun us s1 ⟨xs, H1, I1, r, z, q⟩ => ⟨by rw [← r.length]; exact z, ?_⟩)
 have hf : H1 s1.heap.objs.size = none := I1.hok.fresh (Nat.le_refl _)
 refine ⟨.ref s1.heap.objs.size, upd H1 s1.heap.objs.size (.tup xs), I1.laid (t' := s1.toks) (fun b u e => Heap.get?_push_of_some _ e) (Nat.le_refl _) ?_, rfl, q _ hf⟩
 exact ⟨z, us, r, ⟨_, Heap.get?_push_size _ rfl, rfl, _, rfl⟩⟩
theorem x2l (h : PA X es t) : PE X (.List es pos) (w2w t) := by
 intro pins s σ H Q I hq
 refine wpAny_List_spliced (thn (h pos pins s σ H _ I hq) fun us s1 ⟨xs, H1, I1, r, z, q⟩ => ⟨by rw [← r.length]; exact z, ?_⟩)
 have hf : H1 s1.heap.objs.size = none := I1.hok.fresh (Nat.le_refl _)
 refine ⟨.ref s1.heap.objs.size, upd H1 s1.heap.objs.size (.lst xs), I1.laid (t' := s1.toks) (fun b u e => Heap.get?_push_of_some _ e) (Nat.le_refl _) ?_, rfl, q _ hf⟩
 exact ⟨z, us, 0, r, Heap.get?_push_size _ rfl⟩
end
noncomputable abbrev Sp := List V → Hp → VK → XK → Prop
noncomputable abbrev CXT := List Env → Hp → Shared → XK → Value → Shared → Prop
structure Env0 (P : Program) (w : World) (K : PySem.W.Frag) (mg : Str → Option Value) (base : Heap) (A : Around) (outer : List Env) (s : Shared) (H : Hp) : Prop where
 frames : A.frames = some outer
 mod : Mod K mg base
 bs : ∀ b o, base.get? b = some o → s.heap.get? b = some o ∧ H b = none
 bsz : base.objs.size ≤ s.heap.objs.size
 funs : s.heap.FunFrames base outer
 frf : ∀ b ∈ frs outer, H b = none
 hok : HOk P w H s.heap
 bare : AllBare s.gens
noncomputable def CE (outer : List Env) (P : Program) (w : World) (H : Hp) (s : Shared) (Q : VK) (u : Value) (s' : Shared) : Prop :=
 ∃ v H', s'.os = s.os ∧ AllBare s'.gens ∧ Un (frs outer) [] H H' s.heap s'.heap ∧ HOk P w H' s'.heap ∧ q5d v u ∧ Q v H'
noncomputable def CR (CX : CXT) (outer : List Env) (P : Program) (w : World) (H : Hp) (s : Shared) (Q : VK) (E : XK) (r : Result) (s' : Shared) : Prop :=
 match r with
 | .ok (.ret u) => CE outer P w H s Q u s'
 | .ok _ => False
 | .error e => CX outer H s E e s'
structure FnOk (P : Program) (w : World) (K : PySem.W.Frag) (mg : Str → Option Value) (base : Heap) (CX : CXT) (k : Nat) (f : Addr) (fd : FuncData) (ps : List Str) (sp : Sp) : Prop where
 len : ∀ vs H Q E, sp vs H Q E → vs.length = ps.length
 run : ∀ (A : Around) (outer : List Env) (s : Shared) (H : Hp) (args : Args) (us : List Value) (vs : List V) (Q : VK) (E : XK), Room k A → Env0 P w K mg base A outer s H → BindsTo s fd args (ps.zip us) → q3r vs us → sp vs H Q E →
  codeAny (model P w) A (.call (.ref f) args) (CR CX outer P w H s Q E) s
theorem FnOk.mono {P : Program} {w : World} {K : PySem.W.Frag} {mg : Str → Option Value} {base : Heap} {CX : CXT} {j k : Nat} {f : Addr} {fd : FuncData} {ps : List Str} {sp : Sp} (F : FnOk P w K mg base CX j f fd ps sp) (h : j ≤ k) :
  FnOk P w K mg base CX k f fd ps sp := ⟨F.len, fun A outer s H args us vs Q E hr => F.run A outer s H args us vs Q E (hr.mono h)⟩
theorem Env0.make {P : Program} {w : World} {K : PySem.W.Frag} {mg : Str → Option Value} {base : Heap} {A : Around} {outer : List Env} {s : Shared} {H : Hp} (e : Env0 P w K mg base A outer s H) (C : Addr) (us : List Value) (kw : List (Str × Value)) :
  Env0 P w K mg base (A.under (.builtin "type.__call__" ⟨.ref C :: us, kw⟩)) outer s H := ⟨by first | exact e.frames | (simpa [Around.under, Code.envs, Code.isFrame, pushEnvs] using e.frames), e.mod, e.bs, e.bsz, e.funs, e.frf, e.hok, e.bare⟩
section
variable {X : Cx} {pins : List (Addr × Obj)} {σ : St} {H : Hp} {s s' : Shared}
theorem Inv.env0 (I : Inv X pins σ H s) : Env0 X.prog X.w X.K X.mg X.base X.A X.stack s H :=
 ⟨I.ok.frames, I.ok.mod, I.bs, Nat.le_trans I.ok.bsz I.sz, I.stack, I.stkFree, I.hok, I.bare⟩
theorem Inv.after {Q : VK} {u : Value} (I : Inv X pins σ H s) (h : CE X.stack X.prog X.w H s Q u s') : EP X pins σ Q u s' := by
 obtain ⟨v, H', os, bare, un, hok, r, q⟩ := h
 obtain ⟨hh, g, d, t, os'⟩ := s'
 obtain rfl : os' = s.os := os
 exact ⟨v, H', I.call (h' := hh) (g' := g) (d' := d) (t' := t) (ch := []) un hok bare (fun b z => absurd z (by simp)), r, q⟩
end
noncomputable def j4w (sp : Sp) (dvs : List V) (E : XK) (t : TA) : TE := fun σ H Q => t σ H fun vs H1 => sp (vs ++ dvs) H1 Q E
noncomputable def w1s (C : Addr) (m : Str) (sp : Sp) (dvs : List V) (E : XK) (ta : TE) (t : TA) : TE := fun σ H Q => ta σ H fun x H1 => ∃ a dx fs, x = .ref a ∧ H1 a = some (.ins C dx fs) ∧ fs.lookup m = none ∧
 t σ H1 fun vs H2 => sp (x :: (vs ++ dvs)) H2 Q E
noncomputable def w0p (C : Addr) (sp : Sp) (dvs : List V) (E : XK) (t : TA) : TE := fun σ H Q => t σ H fun vs H1 => ∀ x dx, H1 x = none → H1 dx = none → dx ≠ x →
 sp (.ref x :: (vs ++ dvs)) (upd (upd H1 dx (.own x)) x (.ins C dx [])) (fun v H2 => v = .non ∧ Q (.ref x) H2) E
noncomputable def q3p (K : PySem.W.Frag) (fd : FuncData) (ps : List Str) (ds : List Value) : Prop :=
 ∀ (s : Shared) (us : List Value), K.In s.heap → (us ++ ds).length = ps.length → BindsTo s fd ⟨us, []⟩ (ps.zip (us ++ ds))
theorem q3p.all {K : PySem.W.Frag} {fd : FuncData} {ps : List Str} (h : ∀ us : List Value, us.length = ps.length → bindArgs fd ⟨us, []⟩ = pure (ps.zip us)) : q3p K fd ps [] := fun s us _ hl => by
 rw [List.append_nil] at hl ⊢
 exact .of_eq (h us hl)
noncomputable def x1n (CX : CXT) (X : Cx) (E : XK) : Prop := ∀ (pins : List (Addr × Obj)) (σ : St) (H : Hp) (s : Shared) (e : Value) (s' : Shared), Inv X pins σ H s → CX X.stack H s E e s' → X.xe e s'
section
variable {X : Cx} {CX : CXT} {k : Nat} {f C : Addr} {fd : FuncData} {ps : List Str} {sp : Sp} {dvs : List V} {ds : List Value} {E : XK} {x m : Str} {p pos apos : Pos} {e o : Expr} {es : List Expr} {ta : TE} {t : TA}
theorem x9r {pins : List (Addr × Obj)} {σ : St} {H : Hp} {s : Shared} {Q : VK} {us : List Value} {vs : List V} (F : FnOk X.prog X.w X.K X.mg X.base CX k f fd ps sp) (hr : Room k X.A) (hb : q3p X.K fd ps ds) (hd : q3r dvs ds) (hx : x1n CX X E)
  (I : Inv X pins σ H s) (r : q3r vs us) (h : sp (vs ++ dvs) H Q E) : wpAny (model X.prog X.w) X.A (call (.ref f) us) (EP X pins σ Q) X.xe s := by
 have r2 : q3r (vs ++ dvs) (us ++ ds) := r.append hd
 have hl : (us ++ ds).length = ps.length := by rw [← r2.length]; exact F.len _ _ _ _ h
 refine wpAny_call (codeAny_mono (F.run X.A X.stack s H ⟨us, []⟩ (us ++ ds) (vs ++ dvs) Q E hr I.env0 (hb s us I.kIn hl) r2 h) fun r s' hq => ?_)
 cases r with
 | error e => exact hx pins σ H s e s' I hq
 | ok fl =>
  cases fl with
  | ret u => exact I.after hq
  | next => exact False.elim hq
  | brk => exact False.elim hq
  | cont => exact False.elim hq
theorem x2i (F : FnOk X.prog X.w X.K X.mg X.base CX k f fd ps sp) (hr : Room k X.A) (hg : Gl X x) (hm : X.mg x = some (.ref f)) (hk : PySem.W.keepIn X.K (.ref f) = true) (hb : q3p X.K fd ps ds) (hd : q3r dvs ds) (hx : x1n CX X E)
  (ha : PA X (e :: es) t) (hdb : (x == ("__debug__" : Str)) = false := by decide) (he : starEach (e :: es) X.env = (false, eval e X.env) :: starEach es X.env := by rfl) (hpl : (backTo pos (starEach es X.env)).any (·.1) = false := by rfl) :
  PE X (.Call (.Name x p) (e :: es) [] pos) (j4w sp dvs E t) := by
 intro pins s σ H Q I h
 refine wpAny_Call_Name_kw (x4b I hg hm ?_ hdb)
 refine PySem.W.callWith_K (h₀ := X.base) I.ok.mod.kin hk (thn (ha pos pins s σ H _ I h) fun us s1 ⟨vs, H1, I1, r, q⟩ => ⟨I1.kIn, ?_⟩) he hpl
 exact x9r F hr hb hd hx I1 r q
theorem q5v {pl : Sem Bool} (he : PE X o ta) (c : Cls X.K C) (hm : Meth X.K C m f) (F : FnOk X.prog X.w X.K X.mg X.base CX k f fd ps sp) (hr : Room k X.A) (hb : q3p X.K fd ps ds) (hd : q3r dvs ds) (hx : x1n CX X E)
  (ht : eval (.Call (.Attribute o m apos) [] [] pos) X.env = (do
   let ov ← eval o X.env
   standAt apos.atName
   let (f, first) ← holding [ov] (getMethod ov m pl)
   callWith pos f first (backTo pos (starEach [] X.env)) (backToKw pos (keywordEach [] X.env))) := by rfl) :
  PE X (.Call (.Attribute o m apos) [] [] pos) (w1s C m sp dvs E ta j8a) := by
 intro pins s σ H Q I h
 refine PySem.W.methodCall_KW (pl := pl) (thn (he pins s σ H _ I h) fun u s1 ⟨x, H1, I1, rx, a, dx, fs, ex, ea, l, q⟩ => ?_) ht
 subst ex
 obtain rfl : u = Value.ref a := rx
 refine z3x I1 ea c hm l ?_
 exact PySem.W.callWith_K0 (first := [.ref a]) I1.kIn hm.kp (x9r (us := [.ref a]) (vs := [.ref a]) F hr hb hd hx I1 (.cons rfl .nil) q)
structure Mk (K : PySem.W.Frag) (C f : Addr) : Prop where
 makes : PySem.W.makesIn K C = true
 init : PySem.W.findIn K (.ref C) "__init__" = some (some (.ref f))
 fn : PySem.W.isFn K (.ref f) = true
 kp : PySem.W.keepIn K (.ref C) = true
theorem j3g {pins : List (Addr × Obj)} {σ : St} {H : Hp} {s : Shared} {Q : VK} {us : List Value} {vs : List V} (M : Mk X.K C f) (F : FnOk X.prog X.w X.K X.mg X.base CX k f fd ps sp) (hr : Room (k + 1) X.A) (hb : q3p X.K fd ps ds) (hd : q3r dvs ds)
  (hx : x1n CX X E) (I : Inv X pins σ H s) (r : q3r vs us)
  (h : ∀ x dx, H x = none → H dx = none → dx ≠ x → sp (.ref x :: (vs ++ dvs)) (upd (upd H dx (.own x)) x (.ins C dx [])) (fun v H2 => v = .non ∧ Q (.ref x) H2) E) :
  wpAny (model X.prog X.w) X.A (call (.ref C) us) (EP X pins σ Q) X.xe s := by
 have hq := h (s.heap.objs.size + 1) s.heap.objs.size (I.hok.fresh (Nat.le_succ _)) (I.hok.fresh (Nat.le_refl _)) (Nat.ne_of_lt (Nat.lt_succ_self _))
 have I2 := Inv.made (C := C) I
 have r2 : q3r (V.ref (s.heap.objs.size + 1) :: (vs ++ dvs)) (Value.ref (s.heap.objs.size + 1) :: (us ++ ds)) := .cons rfl (r.append hd)
 have hl : (Value.ref (s.heap.objs.size + 1) :: us ++ ds).length = ps.length := by
  have e := r2.length
  rw [F.len _ _ _ _ hq] at e
  exact e.symm
 refine wpAny_call (j0p (f := f) I.kIn M.makes M.init (beq_iff_eq.mp M.fn) (codeAny_mono (F.run _ X.stack _ _ ⟨Value.ref (s.heap.objs.size + 1) :: us, []⟩ (Value.ref (s.heap.objs.size + 1) :: (us ++ ds)) _ _ E (hr.make C us [])
  (I2.env0.make C us []) (hb _ (Value.ref (s.heap.objs.size + 1) :: us) I2.kIn hl) r2 hq) fun r s' hq' => ?_))
 cases r with
 | error e => exact hx pins σ _ _ e s' I2 hq'
 | ok fl =>
  cases fl with
  | ret u =>
   obtain ⟨v, H', I3, rv, ev, q3⟩ := I2.after hq'
   subst ev
   exact ⟨rv, ⟨V.ref (s.heap.objs.size + 1), H', I3, rfl, q3⟩⟩
  | next => exact False.elim hq'
  | brk => exact False.elim hq'
  | cont => exact False.elim hq'
theorem j6g (M : Mk X.K C f) (F : FnOk X.prog X.w X.K X.mg X.base CX k f fd ps sp) (hr : Room (k + 1) X.A) (hg : Gl X x) (hm : X.mg x = some (.ref C)) (hb : q3p X.K fd ps ds) (hd : q3r dvs ds) (hx : x1n CX X E)
  (ha : PA X (e :: es) t) (hdb : (x == ("__debug__" : Str)) = false := by decide) (he : starEach (e :: es) X.env = (false, eval e X.env) :: starEach es X.env := by rfl) (hpl : (backTo pos (starEach es X.env)).any (·.1) = false := by rfl) :
  PE X (.Call (.Name x p) (e :: es) [] pos) (w0p C sp dvs E t) := by
 intro pins s σ H Q I h
 refine wpAny_Call_Name_kw (x4b I hg hm ?_ hdb)
 refine PySem.W.callWith_K (h₀ := X.base) I.ok.mod.kin M.kp (thn (ha pos pins s σ H _ I h) fun us s1 ⟨vs, H1, I1, r, q⟩ => ⟨I1.kIn, ?_⟩) he hpl
 exact j3g M F hr hb hd hx I1 r q
end
section
variable {X : Cx} {CX : CXT} {k : Nat} {f C : Addr} {fd : FuncData} {ps ks : List Str} {sp : Sp} {E : XK} {x m : Str} {p pos apos kpos : Pos} {e o : Expr} {es : List Expr} {kws : List Keyword} {te ta : TE} {t tk : TA} {nm : Option Str}
variable {g : List Value → List Value → List Value} {gV : List V → List V → List V}
end
structure FnScope (N P : List Str) (sc : Scope) : Prop where
 kind : sc.kind = .function
 co : sc.isCoroutine = false
 gen : sc.isGenerator = false
 nd : N.Nodup
 pre : N.take P.length = P
 par : ∀ x ∈ P, sc.names.lookup x = some .local ∨ sc.names.lookup x = some .cell
 nofree : ∀ y ∈ sc.names, y.2 ≠ .free
theorem fSc {N P : List Str} {sc : Scope} (h1 : sc.kind = .function := by rfl) (h2 : sc.isCoroutine = false := by rfl) (h3 : sc.isGenerator = false := by rfl) (h4 : N.Nodup := by decide +kernel) (h5 : N.take P.length = P := by rfl) (h6 : ∀ x ∈ P, sc.names.lookup x = some .local ∨ sc.names.lookup x = some .cell := by decide +kernel) (h7 : ∀ y ∈ sc.names, y.2 ≠ .free := by decide +kernel) : FnScope N P sc := ⟨h1, h2, h3, h4, h5, h6, h7⟩
theorem x7w {kindOf : Str → Option NameKind} {x : Str} : ∀ {binds : List (Str × Value)} {m : Str → Option Value}, (∀ v, (x, v) ∉ binds) → bindL kindOf binds m x = m x
 | [], _, _ => rfl
 | (n, v) :: r, m, h => by
  unfold bindL
  rw [x7w fun w hw => h w (List.mem_cons_of_mem _ hw)]
  split
  ·have : x ≠ n := by rintro rfl; exact h v List.mem_cons_self
   simp [this]
  ·rfl
theorem x8l {kindOf : Str → Option NameKind} {x : Str} : ∀ {binds : List (Str × Value)} {m : Str → Option Value}, (∀ v, (x, v) ∉ binds) → bindC kindOf binds m x = m x
 | [], _, _ => rfl
 | (n, v) :: r, m, h => by
  unfold bindC
  rw [x8l fun w hw => h w (List.mem_cons_of_mem _ hw)]
  split
  ·rfl
  ·have : x ≠ n := by rintro rfl; exact h v List.mem_cons_self
   simp [this]
theorem x9m {kindOf : Str → Option NameKind} {x : Str} {v : Value} : ∀ {P : List Str} {vs : List Value} {i : Nat} {m : Str → Option Value}, P.Nodup → P[i]? = some x → vs[i]? = some v → kindOf x = some .local →
  bindL kindOf (P.zip vs) m x = some v
 | [], _, _, _, _, h, _, _ => by simp at h
 | _ :: _, [], _, _, _, _, h, _ => by simp at h
 | p :: P, w :: vs, 0, m, nd, h1, h2, hk => by
  simp at h1 h2; subst h1; subst h2
  show bindL kindOf ((p, w) :: P.zip vs) m p = _
  unfold bindL
  rw [x7w fun v hv => (List.nodup_cons.mp nd).1 (List.of_mem_zip hv).1, if_pos hk]
  simp
 | p :: P, w :: vs, i + 1, m, nd, h1, h2, hk => by
  show bindL kindOf ((p, w) :: P.zip vs) m x = _
  unfold bindL
  exact x9m (i := i) (List.nodup_cons.mp nd).2 (by simpa using h1) (by simpa using h2) hk
theorem x9a {kindOf : Str → Option NameKind} {x : Str} {v : Value} : ∀ {P : List Str} {vs : List Value} {i : Nat} {m : Str → Option Value}, P.Nodup → P[i]? = some x → vs[i]? = some v → kindOf x ≠ some .local →
  bindC kindOf (P.zip vs) m x = some v
 | [], _, _, _, _, h, _, _ => by simp at h
 | _ :: _, [], _, _, _, _, h, _ => by simp at h
 | p :: P, w :: vs, 0, m, nd, h1, h2, hk => by
  simp at h1 h2; subst h1; subst h2
  show bindC kindOf ((p, w) :: P.zip vs) m p = _
  unfold bindC
  rw [x8l fun v hv => (List.nodup_cons.mp nd).1 (List.of_mem_zip hv).1, if_neg hk]
  simp
 | p :: P, w :: vs, i + 1, m, nd, h1, h2, hk => by
  show bindC kindOf ((p, w) :: P.zip vs) m x = _
  unfold bindC
  exact x9a (i := i) (List.nodup_cons.mp nd).2 (by simpa using h1) (by simpa using h2) hk
noncomputable def x6s (N : List Str) (vs : List V) : St := vs.map some ++ List.replicate (N.length - vs.length) none
noncomputable def j5q (CX : CXT) (P : Program) (w : World) (K : PySem.W.Frag) (mg : Str → Option Value) (base : Heap) (N : List Str) (qual : Str) (scope : Scope) (f : Addr) (cd : Value) (A : Around) (outer : List Env) (s : Shared) (H : Hp) (E : XK) : Cx where
 prog := P
 w := w
 K := K
 mg := mg
 base := base
 A := A.deeper (envOfC qual scope s.heap.objs.size f cd)
 N := N
 s₀ := s
 H₀ := H
 env := envOfC qual scope s.heap.objs.size f cd
 outer := outer
 stack := envOfC qual scope s.heap.objs.size f cd :: outer
 ex := []
 calm := true
 fn := fun _ => true
 pn := []
 xe := fun e s' => wpAny (model P w) (A.deeper (envOfC qual scope s.heap.objs.size f cd)) (leaving (envOfC qual scope s.heap.objs.size f cd) e) (fun _ s'' => CX outer H s E e s'') (fun e' s'' => CX outer H s E e' s'') s'
theorem z2y {sc : Scope} {n : Nat} {x : Str} (h : sc.names.lookup x = some .cell) : ∃ c, (cellsFrom n sc.names []).lookup x = some c := by
 have q := PySem.W.cellsFrom_some sc.names n [] (.inl h)
 exact Option.isSome_iff_exists.mp q
theorem z8w {CX : CXT} {P : Program} {w : World} {K : PySem.W.Frag} {mg : Str → Option Value} {base : Heap} {N ps : List Str} {qual : Str} {scope : Scope} {f : Addr} {cd : Value} {A : Around} {outer : List Env} {s s1 : Shared} {H : Hp} {E : XK} {us : List Value} {vs : List V}
  (S : FnScope N ps scope) (hd : A.handled = none) (e0 : Env0 P w K mg base A outer s H) (hl : vs.length = ps.length) (r : q3r vs us)
  (x : InCallC s s.heap.objs.size (bindL (envOfC qual scope s.heap.objs.size f cd).kindOf (ps.zip us) fun _ => none) (cellsFrom (s.heap.objs.size + 1) scope.names []) (bindC (envOfC qual scope s.heap.objs.size f cd).kindOf (ps.zip us) fun _ => none) s1) :
  Inv (j5q CX P w K mg base N qual scope f cd A outer s H E) [] (x6s N vs) H s1 := by
 have hpl : ps.length ≤ N.length := by have := congrArg List.length S.pre; rw [List.length_take] at this; omega
 obtain ⟨h1, tk, rfl, hk⟩ := x.done
 have noA : ∀ b : Addr, b ∉ (j5q CX P w K mg base N qual scope f cd A outer s H E).ex := fun b z => absurd (show b ∈ ([] : List Addr) from z) (by simp)
 refine ⟨⟨e0.mod, S.kind, rfl, rfl, Nat.le_refl _, fun y z c h1 h2 => ?_, fun y hy => ?_, fun y c _ h => ?_, fun _ => hd, Around.frames_deeper e0.frames, .inr ⟨rfl, rfl⟩, fun b z => absurd z (noA b), e0.bs, e0.bsz, fun b _ _ => noA b, fun b z => absurd z (noA b), e0.funs, e0.frf⟩,
  rfl, e0.bare, Un.kept hk, ⟨_, x.toInCall.ns, fun i y v h1 h2 h3 => ?_⟩, fun y c h => ⟨_, x.cell y c h⟩, e0.hok.fresh (Nat.le_refl _), fun y c h => ?_, fun p hp => absurd (show p ∈ ([] : List (Addr × Obj)) from hp) (by simp), e0.hok.kept hk, ?_⟩
 ·exact name_of_addr x.apart (PySem.mem_of_lookup h1) (PySem.mem_of_lookup h2)
 ·have hy : scope.names.lookup y = some .cell ∨ scope.names.lookup y = some .free := hy
  rcases hy with hy | hy
  ·exact z2y hy
  ·exact absurd rfl (S.nofree _ (PySem.mem_of_lookup hy))
 ·exact Nat.le_of_lt (x.above y c (PySem.mem_of_lookup h))
 ·have hi : i < vs.length := by
   unfold x6s at h2
   by_cases hi : i < vs.length
   ·exact hi
   ·rw [List.getElem?_append_right (by simpa using hi)] at h2
    rw [List.getElem?_replicate] at h2
    split at h2 <;> cases h2
  have ha : vs[i]? = some v := by
   unfold x6s at h2
   rw [List.getElem?_append_left (by simpa using hi), List.getElem?_map] at h2
   cases e : vs[i]? with
   | none => rw [e] at h2; cases h2
   | some a => rw [e] at h2; cases h2; rfl
  obtain ⟨u, hu, rv⟩ := r.get ha
  have hp : ps[i]? = some y := by
   rw [← S.pre, List.getElem?_take_of_lt (by omega)]; exact h1
  have ndP : ps.Nodup := by rw [← S.pre]; exact S.nd.sublist (List.take_sublist _ _)
  refine ⟨u, rv, ?_⟩
  rcases S.par y (List.mem_of_getElem? hp) with k | k
  ·exact .inl ⟨k, x9m ndP hp hu k⟩
  ·obtain ⟨c, e⟩ := z2y (n := s.heap.objs.size + 1) k
   refine .inr ⟨.inl k, c, e, ?_⟩
   have q := x.cell y c e
   rw [x9a ndP hp hu (by show scope.names.lookup y ≠ _; rw [k]; decide)] at q
   exact q
 ·exact e0.hok.fresh (Nat.le_of_lt (x.above y c (PySem.mem_of_lookup h)))
 ·unfold x6s
  show _ = N.length
  rw [List.length_append, List.length_map, List.length_replicate]
  omega
theorem j8g {CX : CXT} {P : Program} {w : World} {K : PySem.W.Frag} {mg : Str → Option Value} {base : Heap} {k : Nat} {f : Addr} {name qual : Str} {params : Arguments} {body : List Stmt} {scope : Scope} {dV kV doc pm cdv ct oc : Value} {an od : Option Addr}
  {osl : Array (Option Value)} {N ps : List Str} {sp : Sp} (lk : K.lookup f = some ⟨oc, od, .func (PySem.W.fnOf name qual params body scope dV kV doc pm an cdv ct), osl⟩) (hcd : PySem.W.codeIn K cdv qual = true) (S : FnScope N ps scope)
  (len : ∀ vs H Q E, sp vs H Q E → vs.length = ps.length)
  (hbody : ∀ (A : Around) (outer : List Env) (s : Shared) (H : Hp) (vs : List V) (Q : VK) (E : XK), Room k (A.deeper (envOfC qual scope s.heap.objs.size f cdv)) → sp vs H Q E →
   ∃ t, PSs (j5q CX P w K mg base N qual scope f cdv A outer s H E) body t ∧ t { nx := fun _ H' => Q .non H', rt := Q } (x6s N vs) H) :
  FnOk P w K mg base CX (k + 1) f (PySem.W.fnOf name qual params body scope dV kV doc pm an cdv ct) ps sp := by
 refine ⟨len, fun A outer s H args us vs Q E hr e0 hb r hsp => ?_⟩
 have hl := len _ _ _ _ hsp
 have KX : K.In s.heap := e0.mod.kin.keeps fun b o e => (e0.bs b o e).1
 have lim : s.heap.NoLimit := e0.mod.nolimit.keeps fun b o e => (e0.bs b o e).1
 have hkind : ∀ y ∈ ps.zip us, scope.names.lookup y.1 = some .local ∨ (scope.names.lookup y.1 = some .cell ∧ ((cellsFrom (s.heap.objs.size + 1) scope.names []).lookup y.1).isSome = true) := fun ⟨n, v⟩ hy => by
  rcases S.par n (List.of_mem_zip hy).1 with q | q
  ·exact .inl q
  ·exact .inr ⟨q, PySem.W.cellsFrom_some _ _ _ (.inl q)⟩
 refine codeAny_call_function hr.depth (KX _ _ lk) rfl S.co S.gen rfl (PySem.W.codeRec_of KX hcd) (hb _ _ _ _ ?_)
 refine wpAny_newFunctionEnv_cells S.kind hkind fun env he s1 x => ?_
 subst he
 refine ⟨lim.keeps x.toInCall.keep, codeAny_func ?_⟩
 obtain ⟨t, ht, hq⟩ := hbody A outer s H vs Q E (hr.deeper _) hsp
 have I : Inv (j5q CX P w K mg base N qual scope f cdv A outer s H E) [] (x6s N vs) H s1 := z8w S hr.hd e0 hl r x
 refine wpAny_mono (ht [] s1 (x6s N vs) H _ I hq) (fun fl s' hs => ?_) fun e s' hs => hs
 have fin : ∀ {σ' : St} {H' : Hp} {v : V} {u : Value}, Inv (j5q CX P w K mg base N qual scope f cdv A outer s H E) [] σ' H' s' → q5d v u → Q v H' → CE outer P w H s Q u s' :=
  fun {σ' H' v u} J rv q => ⟨v, H', J.os, J.bare, J.base, J.hok, rv, q⟩
 cases fl with
 | ret u =>
  obtain ⟨v, σ', H', J, rv, q⟩ := hs
  exact fin J rv q
 | next =>
  obtain ⟨σ', H', J, q⟩ := hs
  exact fin (v := V.non) (u := Value.none) J rfl q
 | brk =>
  obtain ⟨_, _, _, q⟩ := hs
  exact False.elim q
 | cont =>
  obtain ⟨_, _, _, q⟩ := hs
  exact False.elim q
section
variable {X : Cx} {x : Str} {p pos : Pos} {e : Expr} {es : List Expr} {t : TA} {id T : String} {r : List V → Hp → VK → Prop}
noncomputable def tCB (r : List V → Hp → VK → Prop) (t : TA) : TE := fun σ H Q => t σ H fun vs H1 => r vs H1 Q
theorem q0p (hc : x4h X (.builtin id) r) (hg : Gl X x) (hm : X.mg x = none) (hv : bootBuiltins x = some (.builtin id)) (ha : PA X (e :: es) t) (hn : x ≠ "__name__" := by decide) (hdb : (x == ("__debug__" : Str)) = false := by decide)
  (he : starEach (e :: es) X.env = (false, eval e X.env) :: starEach es X.env := by rfl) (hpl : (backTo pos (starEach es X.env)).any (·.1) = false := by rfl) : PE X (.Call (.Name x p) (e :: es) [] pos) (tCB r t) := by
 intro pins s σ H Q I h
 refine wpAny_Call_Name_kw (x5h I hg hm hv ?_ hn hdb)
 exact PyProof.Rows.callWith_builtin1 (thn (ha pos pins s σ H _ I h) fun us s1 ⟨vs, H1, I1, r1, q1⟩ => hc pins s1 σ H1 vs us Q I1 r1 q1) he hpl
theorem q4g (hc : x4h X (.type T) r) (hg : Gl X x) (hm : X.mg x = none) (hv : bootBuiltins x = some (.type T)) (ha : PA X (e :: es) t) (hn : x ≠ "__name__" := by decide) (hdb : (x == ("__debug__" : Str)) = false := by decide)
  (he : starEach (e :: es) X.env = (false, eval e X.env) :: starEach es X.env := by rfl) (hpl : (backTo pos (starEach es X.env)).any (·.1) = false := by rfl) : PE X (.Call (.Name x p) (e :: es) [] pos) (tCB r t) := by
 intro pins s σ H Q I h
 refine wpAny_Call_Name_kw (x5h I hg hm hv ?_ hn hdb)
 exact PyProof.Rows.callWith_type1 (thn (ha pos pins s σ H _ I h) fun us s1 ⟨vs, H1, I1, r1, q1⟩ => hc pins s1 σ H1 vs us Q I1 r1 q1) he hpl
end
end L2
namespace HT
open PySem PyProof.Rows
section
open PySem.SeqAt
open PySem.AutoSeq1 (wpAny_loadPart')
open PySem.MeetsSeq PySem.MeetsSeq2 PySem.MeetsSeq3
end
section
variable {prog : Program} {w : World} {A : Around} {E : Value → Shared → Prop} {s : Shared}
theorem cat_tup {t b : Addr} {vs ws : List Value} {Q : Value → Shared → Prop} (ht : IsTup s.heap t vs.toArray) (hb : IsTup s.heap b ws.toArray) (hv : vs ≠ [])
  (h1 : ws = [] → Q (.ref t) s) (h2 : ws ≠ [] → Q (.ref s.heap.objs.size) { s with heap := s.heap.push { cls := .type "tuple", data := .seq (vs ++ ws).toArray } })
  (hsz : vs.length + ws.length ≤ sizeLine) : wpAny (model prog w) A (binaryOp .Add (.ref t) (.ref b)) Q E s := by
 obtain ⟨⟨cls, dd, data, sl⟩, ho, hc, n, hd⟩ := id ht
 obtain ⟨⟨cls2, dd2, data2, sl2⟩, ho2, hc2, n2, hd2⟩ := id hb
 simp only at hc hd hc2 hd2
 subst hc hd hc2 hd2
 have e : vs.toArray ++ ws.toArray = (vs ++ ws).toArray := by simp
 by_cases hw : ws = []
 ·exact concat_meets ⟨_, ho, rfl⟩ ⟨_, ho2, rfl⟩ noFill_tuple_add seq_tuple_add PySem.F.slot_tuple_add PySem.F.entry_tuple_add (PySem.F.args_tuple_add_2 _ _)
   (tuple_addW1 t b vs.toArray ws.toArray n n2 dd dd2 sl sl2 (by simpa using hv) (by simp [hw])) ⟨ho, ho2, h1 hw⟩
 ·refine concat_meets ⟨_, ho, rfl⟩ ⟨_, ho2, rfl⟩ noFill_tuple_add seq_tuple_add PySem.F.slot_tuple_add PySem.F.entry_tuple_add (PySem.F.args_tuple_add_2 _ _)
   (tuple_addW2 t b vs.toArray ws.toArray n n2 dd dd2 sl sl2 (by simpa using hv) (by simpa using hw) (by rw [List.size_toArray, List.size_toArray]; exact hsz)) ⟨ho, ho2, ?_⟩
  rw [e]
  exact h2 hw
noncomputable def sIx (n d : Nat) : Option Int → Nat
 | none => d
 | some v => if v < 0 then (v + (n : Int)).toNat else min v.toNat n
theorem sIx_none (n d : Nat) : sIx n d none = d := rfl
theorem sIx_nat (n d k : Nat) : sIx n d (some (k : Int)) = min k n := by
 show (if (k : Int) < 0 then ((k : Int) + (n : Int)).toNat else min (k : Int).toNat n) = min k n
 rw [if_neg (by omega), Int.toNat_natCast]
theorem j8o (n d : Nat) (hd : d ≤ n) (o : Option Int) : sIx n d o ≤ n := by
 cases o with
 | none => exact hd
 | some v =>
  show (if v < 0 then (v + (n : Int)).toNat else min v.toNat n) ≤ n
  by_cases hv : v < 0
  ·rw [if_pos hv]; omega
  ·rw [if_neg hv]; exact Nat.min_le_right _ _
theorem z6q (v : Int) (n d : Nat) : (if v < 0 then max (v + (n : Int)) 0 else min v (n : Int)) = ((sIx n d (some v) : Nat) : Int) := by
 show (if v < 0 then max (v + (n : Int)) 0 else min v (n : Int)) = (((if v < 0 then (v + (n : Int)).toNat else min v.toNat n) : Nat) : Int)
 by_cases hv : v < 0
 ·simp only [if_pos hv]; omega
 ·simp only [if_neg hv]; omega
theorem z4n (lo hi : Option Int) (n : Nat) : Builtin.Slice.sliceAdjust lo hi 1 (n : Int) = (((sIx n 0 lo : Nat) : Int), ((sIx n n hi : Nat) : Int)) := by
 have h1 : ¬ ((1 : Int) < 0) := by omega
 unfold Builtin.Slice.sliceAdjust
 simp only [h1, if_false]
 refine Prod.ext ?_ ?_
 ·cases lo with
  | none => rfl
  | some v => exact z6q v n 0
 ·cases hi with
  | none => rfl
  | some v => exact z6q v n n
theorem z5f (i j : Nat) : Builtin.Slice.slicePlaces (i : Int) (j : Int) 1 = j - i := by
 unfold Builtin.Slice.slicePlaces
 have h1 : (1 : Int) > 0 := by omega
 simp only [h1, if_true, Int.ediv_one]
 split <;> omega
theorem x5f {v : Value} {o : Option Int} {Q : Option Int → Shared → Prop} (p : IsPart v o) (h : Q o s) : wpAny (model prog w) A (Builtin.Slice.slicePartIndex v) Q E s := by
 cases p with
 | none => exact slicePart_none h
 | int i t => exact slicePart_int h
theorem q7w {sl : Addr} {vl vu : Value} {lo hi : Option Int} {n : Nat} {Q : Int × Int × Nat → Shared → Prop} (hs : s.heap.IsSliceOf sl vl vu .none) (pl : IsPart vl lo) (pu : IsPart vu hi)
  (h : Q (((sIx n 0 lo : Nat) : Int), 1, sIx n n hi - sIx n 0 lo) s) : wpAny (model prog w) A (Builtin.Slice.sliceApplied (.ref sl) (pure (n : Int))) Q E s := by
 obtain ⟨os, hos, hcs, hds⟩ := id hs
 unfold Builtin.Slice.sliceApplied Builtin.Slice.sliceFields
 refine wpAny_bind (wpAny_bind (wpAny_field hos hds (x := vl) rfl (wpAny_bind (wpAny_field hos hds (x := vu) rfl (wpAny_bind (wpAny_field hos hds (x := .none) rfl (wpAny_pure ?_)))))))
 refine wpAny_bind (slicePart_none ?_)
 show wpAny _ _ (if ((1 : Int) == 0) = true then _ else _) _ _ s
 rw [if_neg (by decide)]
 refine wpAny_bind (x5f pl (wpAny_bind (x5f pu (wpAny_bind (wpAny_pure ?_)))))
 show wpAny _ _ (match Builtin.Slice.sliceAdjust lo hi 1 (n : Int) with | (lo, hi) => pure (lo, (1 : Int), Builtin.Slice.slicePlaces lo hi 1)) _ _ s
 rw [z4n lo hi n]
 show wpAny _ _ (pure (((sIx n 0 lo : Nat) : Int), (1 : Int), Builtin.Slice.slicePlaces ((sIx n 0 lo : Nat) : Int) ((sIx n n hi : Nat) : Int) 1)) _ _ s
 rw [z5f]
 exact wpAny_pure h
theorem j3b (xs : Array Value) (i k : Nat) : ((List.range k).filterMap fun (m : Nat) => xs[((i : Int) + (m : Int) * 1).toNat]?).toArray = ((xs.toList.drop i).take k).toArray := by
 have e : (fun (m : Nat) => xs[((i : Int) + (m : Int) * 1).toNat]?) = fun m => xs[i + m]? := by
  funext m
  have : ((i : Int) + (m : Int) * 1).toNat = i + m := by omega
  rw [this]
 rw [e]
 have := pick_run xs i k
 rw [List.filterMap_map] at this
 have e2 : ((fun x => xs[x]?) ∘ fun x => i + x) = fun m => xs[i + m]? := rfl
 rw [e2] at this
 rw [this]
theorem getItem_tuple_cut {t sl : Addr} {items : Array Value} {vl vu : Value} {lo hi : Option Int} {Q : Value → Shared → Prop} (ht : IsTup s.heap t items) (hs : s.heap.IsSliceOf sl vl vu .none) (pl : IsPart vl lo) (pu : IsPart vu hi)
  (hw : ¬ (sIx items.size 0 lo = 0 ∧ sIx items.size items.size hi = items.size))
  (h : Q (.ref s.heap.objs.size) { s with heap := s.heap.push { cls := .type "tuple", data := .seq ((items.toList.drop (sIx items.size 0 lo)).take (sIx items.size items.size hi - sIx items.size 0 lo)).toArray } })
  (hsz : items.size ≤ sizeLine) : wpAny (model prog w) A (getItem (.ref t) (.ref sl)) Q E s := by
 have htake : sizeOk (.seq ((items.toList.drop (sIx items.size 0 lo)).take (sIx items.size items.size hi - sIx items.size 0 lo)).toArray) := by
  show ((items.toList.drop (sIx items.size 0 lo)).take (sIx items.size items.size hi - sIx items.size 0 lo)).toArray.size ≤ sizeLine
  rw [List.size_toArray, List.length_take, List.length_drop, Array.length_toList]
  omega
 have hj : sIx items.size items.size hi ≤ items.size := j8o _ _ (Nat.le_refl _) hi
 obtain ⟨os, hos, hcs, hds⟩ := id hs
 have hTs : s.TypeIs (.ref sl) "slice" := ⟨os, hos, hcs⟩
 unfold getItem
 try with_reducible refine wpAny_holding ?_
 first | refine wpAny_bind (wpAny_pure ?_) | skip
 refine wpAny_bind (wpAny_sequenceKey ht.typeIs (by decide) ?_)
 refine wpAny_bind (wpAny_callSpecial?_slot (name := Str.ofString "__getitem__") ht.typeIs PyProof.Rows.slot_tuple_getitem
  (wpAny_call_entry PyProof.Rows.slot_tuple_getitem ht.typeIs entry_tuple_getitem ?_ (args_tuple_getitem _ _)))
 show wpAny _ _ (Builtin.Tuple.tupleItemsOf (.ref t) >>= _) _ _ s
 refine wpAny_bind (tupleItemsOf_ ht ?_)
 refine wpAny_bind (wpAny_typeOf hTs ?_)
 rw [if_pos (by decide)]
 refine wpAny_bind (q7w hs pl pu ?_)
 have hno : ¬ ((((sIx items.size 0 lo : Nat) : Int) == 0 && (1 : Int) == 1 && (sIx items.size items.size hi - sIx items.size 0 lo) == items.size) = true) := by
  intro q
  rw [Bool.and_eq_true, Bool.and_eq_true] at q
  have q1 : ((sIx items.size 0 lo : Nat) : Int) = 0 := eq_of_beq q.1.1
  have q2 : sIx items.size items.size hi - sIx items.size 0 lo = items.size := eq_of_beq q.2
  exact hw ⟨by omega, by omega⟩
 show wpAny _ _ (if (((sIx items.size 0 lo : Nat) : Int) == 0 && (1 : Int) == 1 && (sIx items.size items.size hi - sIx items.size 0 lo) == items.size) = true then _ else _) _ _ s
 rw [if_neg hno, j3b]
 first
  | exact wpAny_bind (m := Builtin.Tuple.tupleExact _) (wpAny_newObj_type (wpAny_pure ⟨_, rfl, wpAny_pure h⟩) htake)
  | exact wpAny_bind (m := Builtin.Tuple.tupleExact _) (wpAny_newObj_type (wpAny_bind (wpAny_pure (wpAny_pure ⟨_, rfl, wpAny_pure h⟩))) htake)
  | exact wpAny_bind (wpAny_bind (m := Builtin.Tuple.tupleExact _) (wpAny_newObj_type (wpAny_pure (wpAny_pure ⟨_, rfl, wpAny_pure h⟩)) htake))
  | exact wpAny_bind (wpAny_bind (m := Builtin.Tuple.tupleExact _) (wpAny_newObj_type (wpAny_pure ⟨_, rfl, wpAny_pure h⟩) htake))
end
end HT
namespace L2
open PySem PySem.Spec PyProof.Rows
noncomputable abbrev TO := St → Hp → (Option Int → Hp → Prop) → Prop
noncomputable def PO (X : Cx) (e : Option Expr) (t : TO) : Prop :=
 ∀ (pins : List (Addr × Obj)) (s : Shared) (σ : St) (H : Hp) (Q : Option Int → Hp → Prop), Inv X pins σ H s → t σ H Q →
  wpAny (model X.prog X.w) X.A (evalPart e X.env) (fun u s' => ∃ o H', Inv X pins σ H' s' ∧ IsPart u o ∧ Q o H') X.xe s
noncomputable def j6h : TO := fun _ H Q => Q none H
noncomputable def w0x (t : TE) : TO := fun σ H Q => t σ H fun x H1 => ∃ i, x = .int i ∧ Q (some i) H1
section
variable {X : Cx} {e : Expr} {te : TE} {lo hi : Option Expr} {tl th : TO} {pos p2 : Pos}
theorem x4f : PO X none j6h := by
 intro pins s σ H Q I h
 rw [evalPart_none]
 exact wpAny_pure ⟨none, H, I, .none, h⟩
theorem x0b (h : PE X e te) : PO X (some e) (w0x te) := by
 intro pins s σ H Q I hw
 rw [evalPart_some]
 refine thn (h pins s σ H _ I hw) fun u s1 ⟨x, H1, I1, r1, q1⟩ => ?_
 obtain ⟨i, rfl, q⟩ := q1
 obtain ⟨t, rfl⟩ := r1
 exact ⟨some i, H1, I1, .int i t, q⟩
noncomputable def SlR (X : Cx) (r : V → Option Int → Option Int → Hp → VK → Prop) : Prop :=
 ∀ (pins : List (Addr × Obj)) (s : Shared) (σ : St) (H : Hp) (x : V) (v vl vu : Value) (lo hi : Option Int) (sl : Addr) (Q : VK), Inv X pins σ H s → q5d x v → s.heap.IsSliceOf sl vl vu .none → IsPart vl lo → IsPart vu hi → r x lo hi H Q →
  ∃ T id, typeLookup (.type T) "__getitem__" = pure (some (.builtin id)) ∧ s.TypeIs v T ∧ wpAny (model X.prog X.w) X.A (getItem v (.ref sl)) (EP X pins σ Q) X.xe s
noncomputable def tSl (r : V → Option Int → Option Int → Hp → VK → Prop) (te : TE) (tl th : TO) : TE := fun σ H Q => te σ H fun x H1 => tl σ H1 fun l H2 => th σ H2 fun u H3 => r x l u H3 Q
theorem q9u {r : V → Option Int → Option Int → Hp → VK → Prop} (hr : SlR X r) (he : PE X e te) (hl : PO X lo tl) (hu : PO X hi th) : PE X (.Subscript e (.Slice lo hi none p2) pos) (tSl r te tl th) := by
 intro pins s σ H Q I h
 refine Subscript_ (thn (he pins s σ H _ I h) fun v s1 ⟨x, H1, I1, r1, q1⟩ => ?_)
 refine wpAny_Slice (thn (hl pins s1 σ H1 _ I1 q1) fun vl s2 ⟨l, H2, I2, pl, q2⟩ => thn (hu pins s2 σ H2 _ I2 q2) fun vu s3 ⟨u, H3, I3, pu, q3⟩ => ?_)
 rw [evalPart_none]
 refine wpAny_pure ?_
 have I4 : Inv X pins σ H3 { s3 with heap := s3.heap.push { cls := .type "slice", data := .fields #[vl, vu, .none] } } := I3.kept (t' := s3.toks) fun b ob q => Heap.get?_push_of_some _ q
 obtain ⟨T, id, hT, ht, hg⟩ := hr pins { s3 with heap := s3.heap.push { cls := .type "slice", data := .fields #[vl, vu, .none] } } σ H3 x v vl vu l u s3.heap.objs.size Q I4 r1 (Heap.IsSliceOf.new ..) pl pu q3
 show wpAny (model X.prog X.w) X.A (subscriptTail e (.Slice lo hi none p2) v (.ref s3.heap.objs.size)) (EP X pins σ Q) X.xe { s3 with heap := s3.heap.push { cls := .type "slice", data := .fields #[vl, vu, .none] } }
 exact tail_any (ops := [.ref s3.heap.objs.size, v]) ht hT hg (by with_unfolding_all rfl)
noncomputable def z0f (xs : List V) (lo hi : Option Int) : List V := (xs.drop (HT.sIx xs.length 0 lo)).take (HT.sIx xs.length xs.length hi - HT.sIx xs.length 0 lo)
theorem x3s (xs : List V) (lo hi : Option Int) : (z0f xs lo hi).length ≤ xs.length := by
 unfold z0f
 rw [List.length_take, List.length_drop]
 omega
noncomputable def w5k (K : PySem.W.Frag) : V → Option Int → Option Int → Hp → VK → Prop := fun x lo hi H Q => ∃ a xs, x = .ref a ∧ SqT K H a xs ∧
 ¬ (HT.sIx xs.length 0 lo = 0 ∧ HT.sIx xs.length xs.length hi = xs.length) ∧ ∀ p, H p = none → Q (.ref p) (upd H p (.tup (z0f xs lo hi)))
theorem z8p : SlR X (w5k X.K) := by
 intro pins s σ H x v vl vu lo hi sl Q I rx hs pl pu h
 obtain ⟨a, xs, rfl, hx, hw, q⟩ := h
 cases rx
 obtain ⟨its, r, ht, hz⟩ := I.tuple hx
 have hlen : its.toArray.size = xs.length := by rw [List.size_toArray]; exact r.length.symm
 refine ⟨"tuple", _, PyProof.Rows.slot_tuple_getitem.lookup, ht.typeIs, ?_⟩
 refine HT.getItem_tuple_cut ht hs pl pu (by rw [hlen]; exact hw) ?_ (by rw [hlen]; exact hz)
 rw [hlen]
 refine ⟨.ref s.heap.objs.size, _, I.laid (t' := s.toks) (o := .tup (z0f xs lo hi)) (fun b ob q => Heap.get?_push_of_some _ q) (Nat.le_refl _) ?_, rfl, q _ (I.hok.fresh (Nat.le_refl _))⟩
 exact ⟨Nat.le_trans (x3s xs lo hi) hz, _, (r.drop (HT.sIx xs.length 0 lo)).take (HT.sIx xs.length xs.length hi - HT.sIx xs.length 0 lo), IsTup.new _ _⟩
noncomputable def w0k (K : PySem.W.Frag) : R2 := fun x y H Q => ∃ a b xs ys, x = .ref a ∧ y = .ref b ∧ SqT K H a xs ∧ SqT K H b ys ∧ xs ≠ [] ∧ xs.length + ys.length ≤ sizeLine ∧
 (ys = [] → Q (.ref a) H) ∧ (ys ≠ [] → ∀ p, H p = none → Q (.ref p) (upd H p (.tup (xs ++ ys))))
theorem q3r.nil_iff {xs : List V} {us : List Value} (r : q3r xs us) : us = [] ↔ xs = [] := by
 cases r with
 | nil => simp
 | cons _ _ => simp
theorem j5i : OpR X (binaryOp .Add) (w0k X.K) := by
 intro pins s σ H x y v u Q I rx ry h
 obtain ⟨a, b, xs, ys, rfl, rfl, ha, hb, hx, hz, q1, q2⟩ := h
 cases rx
 cases ry
 obtain ⟨its, r1, p1, _⟩ := I.tuple ha
 obtain ⟨its2, r2, p2, _⟩ := I.tuple hb
 refine HT.cat_tup p1 p2 (fun z => hx (r1.nil_iff.mp z)) (fun z => ⟨.ref a, H, I, rfl, q1 (r2.nil_iff.mp z)⟩) (fun z => ?_) (by rw [← r1.length, ← r2.length]; exact hz)
 refine ⟨.ref s.heap.objs.size, _, I.laid (t' := s.toks) (o := .tup (xs ++ ys)) (fun b ob q => Heap.get?_push_of_some _ q) (Nat.le_refl _) ?_, rfl, q2 (fun w => z (r2.nil_iff.mpr w)) _ (I.hok.fresh (Nat.le_refl _))⟩
 exact ⟨by rw [List.length_append]; exact hz, _, r1.append r2, IsTup.new _ _⟩
end
noncomputable def ixN (n : Nat) (i : Int) : Option Nat := if 0 ≤ i then (if i < n then some i.toNat else none) else if -(n : Int) ≤ i then some (i + n).toNat else none
noncomputable def atI {α : Type} (xs : List α) (i : Int) : Option α := (ixN xs.length i).bind fun j => xs[j]?
theorem j7g {n : Nat} {i : Int} {j : Nat} (h : ixN n i = some j) : seqIndex? i n = some j ∧ j < n ∧ -(n : Int) ≤ i ∧ i < n := by
 unfold ixN at h
 by_cases h0 : 0 ≤ i
 ·rw [if_pos h0] at h
  by_cases h1 : i < n
  ·rw [if_pos h1] at h
   have e : i.toNat = j := Option.some.inj h
   exact ⟨by rw [seqIndex_of h0 h1, e], by omega, by omega, h1⟩
  ·rw [if_neg h1] at h; cases h
 ·rw [if_neg h0] at h
  by_cases h1 : -(n : Int) ≤ i
  ·rw [if_pos h1] at h
   have e : (i + n).toNat = j := Option.some.inj h
   exact ⟨by rw [seqIndex_neg (by omega) h1, e], by omega, h1, by omega⟩
  ·rw [if_neg h1] at h; cases h
theorem z1y {α : Type} {xs : List α} {i : Int} {v : α} (h : atI xs i = some v) : ∃ j, seqIndex? i xs.length = some j ∧ xs[j]? = some v ∧ j < xs.length ∧ -(xs.length : Int) ≤ i ∧ i < xs.length := by
 unfold atI at h
 cases e : ixN xs.length i with
 | none => rw [e] at h; cases h
 | some j =>
  rw [e] at h
  obtain ⟨h1, h2, h3, h4⟩ := j7g e
  exact ⟨j, h1, h, h2, h3, h4⟩
theorem q0m {α : Type} {xs : List α} {j : Nat} {v : α} (h : xs[j]? = some v) : atI xs (j : Int) = some v := by
 have hj : j < xs.length := (List.getElem?_eq_some_iff.mp h).1
 have e : ixN xs.length (j : Int) = some j := by
  unfold ixN
  rw [if_pos (by omega), if_pos (by omega)]; simp
 unfold atI; rw [e]; exact h
noncomputable def x2g (b : Expr) : Prop := ∀ o i, subscripted b false o i = operate [o, i] (getItem o i)
noncomputable def IxR (X : Cx) (r : R2) : Prop :=
 ∀ (value slice : Expr) (pins : List (Addr × Obj)) (s : Shared) (σ : St) (H : Hp) (x y : V) (v u : Value) (Q : VK), Inv X pins σ H s → q5d x v → q5d y u → r x y H Q →
  subscripted slice false v u = operate [v, u] (getItem v u) → wpAny (model X.prog X.w) X.A (subscriptTail value slice v u) (EP X pins σ Q) X.xe s
noncomputable def MtR (X : Cx) (id : String) (r : V → List V → Hp → VK → Prop) : Prop :=
 ∀ (pins : List (Addr × Obj)) (s : Shared) (σ : St) (H : Hp) (x : V) (xs : List V) (v : Value) (us : List Value) (Q : VK), Inv X pins σ H s → q5d x v → q3r xs us → r x xs H Q →
  wpAny (model X.prog X.w) X.A (call (.builtin id) (v :: us)) (EP X pins σ Q) X.xe s
section
variable {X : Cx} {a b : Expr} {ta tb : TE} {pos : Pos}
theorem q0w {r : R2} (hr : IxR X r) (ha : PE X a ta) (hb : PE X b tb) (hs : x2g b) : PE X (.Subscript a b pos) (tOp r ta tb) := by
 intro pins s σ H Q I h
 exact Subscript_ (w0s ha hb I h fun v u s2 x y H2 I2 rx ry q => hr a b pins s2 σ H2 x y v u Q I2 rx ry q (hs _ _))
noncomputable def w3a (K : PySem.W.Frag) : R2 := fun x y H Q => ∃ p xs i v, x = .ref p ∧ y = .int i ∧ SqL K H p xs ∧ atI xs i = some v ∧ Q v H
noncomputable def w2q (K : PySem.W.Frag) : R2 := fun x y H Q => ∃ p xs i v, x = .ref p ∧ y = .int i ∧ SqT K H p xs ∧ atI xs i = some v ∧ Q v H
noncomputable def w3t : R2 := fun x y H Q => ∃ z i c, x = .str z ∧ y = .int i ∧ z.length ≤ sizeLine ∧ atI z.cps.toList i = some c ∧ Q (.str ⟨#[c]⟩) H
theorem q7v : IxR X (w3a X.K) := by
 intro value slice pins s σ H x y v u Q I rx ry h hs
 obtain ⟨p, xs, i, z, rfl, rfl, hq, he, q⟩ := h
 cases rx
 obtain ⟨t, rfl⟩ := ry
 obtain ⟨its, r, pl, hz⟩ := I.list hq
 obtain ⟨j, h1, h2, h3, h4, h5⟩ := z1y he
 obtain ⟨w, ew, rw'⟩ := r.get h2
 have hl := r.length
 have hn := x7t
 have fin : EP X pins σ Q w s := ⟨z, H, I, rw', q⟩
 by_cases h0 : 0 ≤ i
 ·have hj : i.toNat = j := by
   rw [seqIndex_of h0 h5] at h1
   exact Option.some.inj h1
  exact item_listR pl.isList h0 (by omega) (by rw [hj]; simpa using ew) fin hs
 ·have hj : (i + (its.toArray.size : Int)).toNat = j := by
   rw [seqIndex_neg (by omega) h4] at h1
   rw [List.size_toArray, ← hl]
   exact Option.some.inj h1
  exact subscriptTail_builtinR (x := w) pl.isList.typeIs slot_list_getitem.lookup
   (wpAny_getItem_list_neg (Q := fun r s' => r = w ∧ EP X pins σ Q r s') pl.isList (by omega) (by rw [List.size_toArray] <;> omega) (by omega) (by rw [hj]; simpa using ew) ⟨rfl, fin⟩) hs
theorem q0n : IxR X (w2q X.K) := by
 intro value slice pins s σ H x y v u Q I rx ry h hs
 obtain ⟨p, xs, i, z, rfl, rfl, hq, he, q⟩ := h
 cases rx
 obtain ⟨t, rfl⟩ := ry
 obtain ⟨its, r, pl, hz⟩ := I.tuple hq
 obtain ⟨j, h1, h2, h3, h4, h5⟩ := z1y he
 obtain ⟨w, ew, rw'⟩ := r.get h2
 have hl := r.length
 have hn := x7t
 have fin : EP X pins σ Q w s := ⟨z, H, I, rw', q⟩
 exact subscriptTail_builtinR (x := w) pl.typeIs slot_tuple_getitem.lookup
  (getItem_tuple (j := j) (Q := fun r s' => r = w ∧ EP X pins σ Q r s') pl (by omega) (by omega) (by rw [List.size_toArray, ← hl]; exact h1) (by simpa using ew) ⟨rfl, fin⟩) hs
theorem x3g : IxR X w3t := by
 intro value slice pins s σ H x y v u Q I rx ry h hs
 obtain ⟨z, i, c, rfl, rfl, hz, he, q⟩ := h
 obtain ⟨t, rfl⟩ := rx
 obtain ⟨t', rfl⟩ := ry
 obtain ⟨j, h1, h2, h3, h4, h5⟩ := z1y he
 have hl : z.cps.toList.length = z.length := by simp [Str.length]
 rw [hl] at h1 h4 h5
 have hn := x7t
 exact tail_any (typeIs_str s z t) slot_str_getitem.lookup (getItem_str (c := c) (by
  have e1 : decide (i < -(2 ^ 63 : Int)) = false := decide_eq_false (by omega)
  have e2 : decide (i ≥ 2 ^ 63) = false := decide_eq_false (by omega)
  rw [e1, e2, Bool.or_false]) (by rw [h1]; simpa using h2) ⟨.str ⟨#[c]⟩, H, I.tok _, ⟨_, rfl⟩, q⟩) hs
theorem x9n (lo hi : Option Int) (n : Nat) : (sliceBounds lo hi none n).1 = ((HT.sIx n 0 lo : Nat) : Int) ∧ (sliceBounds lo hi none n).2.1 = ((HT.sIx n n hi : Nat) : Int) ∧ (sliceBounds lo hi none n).2.2 = 1 := by
 refine ⟨?_, ?_, rfl⟩
 ·cases lo with
  | none => simp [sliceBounds, HT.sIx]
  | some i =>
   simp only [sliceBounds, HT.sIx, Option.getD_none, show (1 : Int) > 0 by decide, if_true]
   by_cases h : i < 0
   ·simp only [h, if_true] <;> omega
   ·simp only [h, if_false] <;> omega
 ·cases hi with
  | none => simp [sliceBounds, HT.sIx]
  | some i =>
   simp only [sliceBounds, HT.sIx, Option.getD_none, show (1 : Int) > 0 by decide, if_true]
   by_cases h : i < 0
   ·simp only [h, if_true] <;> omega
   ·simp only [h, if_false] <;> omega
theorem x6r (its : List Value) (lo hi : Option Int) : slicePick its.toArray lo hi none = ((its.drop (HT.sIx its.length 0 lo)).take (HT.sIx its.length its.length hi - HT.sIx its.length 0 lo)).toArray := by
 obtain ⟨h1, h2, h3⟩ := x9n lo hi its.toArray.size
 unfold slicePick
 rw [h1, h2, h3]
 simp only [sliceRange_one, pick_run, List.size_toArray] <;> rfl
noncomputable def w5i (K : PySem.W.Frag) : V → Option Int → Option Int → Hp → VK → Prop := fun x lo hi H Q => ∃ a xs, x = .ref a ∧ SqL K H a xs ∧ ∀ p, H p = none → Q (.ref p) (upd H p (.lst (z0f xs lo hi)))
theorem j5z : SlR X (w5i X.K) := by
 intro pins s σ H x v vl vu lo hi sl Q I rx hs pl pu h
 obtain ⟨a, xs, rfl, hx, q⟩ := h
 cases rx
 obtain ⟨its, r, ht, hz⟩ := I.list hx
 have hlen := r.length
 refine ⟨"list", _, slot_list_getitem.lookup, ht.isList.typeIs, ?_⟩
 refine wpAny_getItem_list_slice ht.isList hs pl pu .none (by simp) ?_ (by rw [List.size_toArray] <;> omega)
 rw [x6r, ← hlen]
 refine ⟨.ref s.heap.objs.size, _, I.laid (t' := s.toks) (o := .lst (z0f xs lo hi)) (fun b ob q => Heap.get?_push_of_some _ q) (Nat.le_refl _) ?_, rfl, q _ (I.hok.fresh (Nat.le_refl _))⟩
 exact ⟨Nat.le_trans (x3s xs lo hi) hz, _, 0, (r.drop (HT.sIx xs.length 0 lo)).take (HT.sIx xs.length xs.length hi - HT.sIx xs.length 0 lo), Heap.get?_push_size _ rfl⟩
noncomputable def x3v : V → Bool
 | .non => true
 | .bl _ => true
 | .int _ => true
 | .str _ => true
 | _ => false
noncomputable def eqV : V → V → Bool
 | .non, .non => true
 | .bl a, .bl b => a == b
 | .bl a, .int b => (if a then 1 else 0) == b
 | .int a, .bl b => a == (if b then 1 else 0)
 | .int a, .int b => a == b
 | .str a, .str b => a == b
 | _, _ => false
theorem q9z {A : Around} {s : Shared} {y x : V} {u v : Value} (ry : q5d y u) (rx : q5d x v) (fy : x3v y = true) (fx : x3v x = true) : SeqAt.EqAt A s u v (eqV y x) := by
 cases y with
 | non =>
  cases ry
  cases x with
  | non => cases rx; exact SeqAt.EqAt.same _
  | bl b => cases rx; exact SeqAt.EqAt.none_bool b
  | int b => obtain ⟨t, rfl⟩ := rx; exact SeqAt.EqAt.none_int b t
  | str b => obtain ⟨t, rfl⟩ := rx; exact SeqAt.EqAt.none_str b t
  | _ => exact absurd (show false = true from fx) Bool.false_ne_true
 | bl a =>
  cases ry
  cases x with
  | non => cases rx; exact SeqAt.EqAt.bool_none a
  | bl b => cases rx; exact SeqAt.EqAt.bool_bool a b
  | int b => obtain ⟨t, rfl⟩ := rx; exact SeqAt.EqAt.bool_int a b t
  | str b => obtain ⟨t, rfl⟩ := rx; exact SeqAt.EqAt.bool_str a b t
  | _ => exact absurd (show false = true from fx) Bool.false_ne_true
 | int a =>
  obtain ⟨t', rfl⟩ := ry
  cases x with
  | non => cases rx; exact SeqAt.EqAt.int_none a t'
  | bl b => cases rx; exact SeqAt.EqAt.int_bool a t' b
  | int b => obtain ⟨t, rfl⟩ := rx; exact SeqAt.EqAt.int_int a t' b t
  | str b => obtain ⟨t, rfl⟩ := rx; exact SeqAt.EqAt.int_str a t' b t
  | _ => exact absurd (show false = true from fx) Bool.false_ne_true
 | str a =>
  obtain ⟨t', rfl⟩ := ry
  cases x with
  | non => cases rx; exact SeqAt.EqAt.str_none a t'
  | bl b => cases rx; exact SeqAt.EqAt.str_bool a t' b
  | int b => obtain ⟨t, rfl⟩ := rx; exact SeqAt.EqAt.str_int a t' b t
  | str b => obtain ⟨t, rfl⟩ := rx; exact SeqAt.EqAt.str_str a t' b t
  | _ => exact absurd (show false = true from fx) Bool.false_ne_true
 | _ => exact absurd (show false = true from fy) Bool.false_ne_true
noncomputable def eqU (x : V) (u : Value) : Bool := match u with
 | .none => eqV .non x
 | .bool b => eqV (.bl b) x
 | .int i _ => eqV (.int i) x
 | .str z _ => eqV (.str z) x
 | _ => false
theorem j3v {x y : V} {u : Value} (r : q5d y u) (f : x3v y = true) : eqU x u = eqV y x := by
 cases y with
 | non => cases r; rfl
 | bl b => cases r; rfl
 | int i => obtain ⟨t, rfl⟩ := r; rfl
 | str z => obtain ⟨t, rfl⟩ := r; rfl
 | _ => exact absurd (show false = true from f) Bool.false_ne_true
theorem x4w {x : V} : ∀ {xs : List V} {us : List Value}, q3r xs us → xs.all x3v = true → us.any (eqU x) = xs.any fun y => eqV y x
 | _, _, .nil, _ => rfl
 | y :: xs, u :: us, .cons r t, f => by
  rw [List.all_cons, Bool.and_eq_true] at f
  rw [List.any_cons, List.any_cons, j3v r f.1, x4w t f.2]
theorem x1m {A : Around} {s : Shared} {x : V} {v : Value} (rx : q5d x v) (fx : x3v x = true) : ∀ {xs : List V} {us : List Value}, q3r xs us → xs.all x3v = true → ∀ u ∈ us, SeqAt.EqAt A s u v (eqU x u)
 | _, _, .nil, _ => fun u hu => by cases hu
 | y :: xs, u :: us, .cons r t, f => fun u' hu => by
  rw [List.all_cons, Bool.and_eq_true] at f
  rcases List.mem_cons.mp hu with rfl | hu
  ·rw [j3v r f.1]; exact q9z r rx f.1 fx
  ·exact x1m rx fx t f.2 u' hu
noncomputable def inV (x : V) (xs : List V) : Bool := xs.any fun y => eqV y x
noncomputable def rIn (K : PySem.W.Frag) (neg : Bool) : R2 := fun x y H Q => ∃ p xs, y = .ref p ∧ (SqL K H p xs ∨ SqT K H p xs) ∧ x3v x = true ∧ xs.all x3v = true ∧ Q (.bl (if neg then !inV x xs else inV x xs)) H
theorem x9i : OpR X (compareOp .In) (rIn X.K false) := by
 intro pins s σ H x y v u Q I rx ry h
 obtain ⟨p, xs, rfl, hq, fx, fs, q⟩ := h
 cases ry
 rcases hq with hq | hq
 ·obtain ⟨its, r, pl, hz⟩ := I.list hq
  refine SeqAt.in_listAt (eqU x) pl.isList (fun w hw => x1m rx fx r fs w (by simpa using hw)) ⟨.bl _, H, I, rfl, ?_⟩
  rw [show its.toArray.any (eqU x) = its.any (eqU x) by simp, x4w r fs]
  exact q
 ·obtain ⟨its, r, pl, hz⟩ := I.tuple hq
  refine SeqAt.in_tupleAt (eqU x) pl (fun w hw => x1m rx fx r fs w (by simpa using hw)) ⟨.bl _, H, I, rfl, ?_⟩
  rw [show its.toArray.any (eqU x) = its.any (eqU x) by simp, x4w r fs]
  exact q
theorem q6i : OpR X (compareOp .NotIn) (rIn X.K true) := by
 intro pins s σ H x y v u Q I rx ry h
 obtain ⟨p, xs, rfl, hq, fx, fs, q⟩ := h
 cases ry
 rcases hq with hq | hq
 ·obtain ⟨its, r, pl, hz⟩ := I.list hq
  refine SeqAt.notIn_listAt (eqU x) pl.isList (fun w hw => x1m rx fx r fs w (by simpa using hw)) ⟨.bl _, H, I, rfl, ?_⟩
  rw [show its.toArray.any (eqU x) = its.any (eqU x) by simp, x4w r fs]
  exact q
 ·obtain ⟨its, r, pl, hz⟩ := I.tuple hq
  refine SeqAt.notIn_tupleAt (eqU x) pl (fun w hw => x1m rx fx r fs w (by simpa using hw)) ⟨.bl _, H, I, rfl, ?_⟩
  rw [show its.toArray.any (eqU x) = its.any (eqU x) by simp, x4w r fs]
  exact q
theorem q0y : x4h X (.builtin "len") (fun xs H Q => ∃ p ys, xs = [.ref p] ∧ (SqL X.K H p ys ∨ SqT X.K H p ys) ∧ Q (.int ys.length) H) := by
 intro pins s σ H xs us Q I r h
 obtain ⟨p, ys, rfl, hq, q⟩ := h
 obtain ⟨u, rfl, rx⟩ := x0z r
 cases rx
 have hn := x7t
 rcases hq with hq | hq
 ·obtain ⟨its, r', pl, hz⟩ := I.list hq
  have hlen := r'.length
  exact Calls.call_len_list pl.isList (by simp only [List.size_toArray] <;> omega) ⟨.int ys.length, H, I.tok _, ⟨s.toks + 1, by rw [List.size_toArray, hlen]⟩, q⟩
 ·obtain ⟨its, r', pl, hz⟩ := I.tuple hq
  have hlen := r'.length
  exact len_tuple pl (by simp only [List.size_toArray] <;> omega) ⟨.int ys.length, H, I.tok _, ⟨s.toks + 1, by rw [List.size_toArray, hlen]⟩, q⟩
theorem q3u : x4h X (.builtin "len") (fun xs H Q => ∃ z, xs = [.str z] ∧ z.length ≤ sizeLine ∧ Q (.int z.length) H) := by
 intro pins s σ H xs us Q I r h
 obtain ⟨z, rfl, hz, q⟩ := h
 obtain ⟨u, rfl, t, rfl⟩ := x0z r
 have hn := x7t
 exact len_str (by omega) ⟨.int z.length, H, I.tok _, ⟨_, rfl⟩, q⟩
theorem q3z : x4h X (.type "tuple") (fun xs H Q => ∃ p ys, xs = [.ref p] ∧ ((SqL X.K H p ys ∧ ∀ l, H l = none → Q (.ref l) (upd H l (.tup ys))) ∨ (SqT X.K H p ys ∧ Q (.ref p) H))) := by
 intro pins s σ H xs us Q I r h
 obtain ⟨p, ys, rfl, h⟩ := h
 obtain ⟨u, rfl, rx⟩ := x0z r
 cases rx
 rcases h with ⟨hq, q⟩ | ⟨hq, q⟩
 ·obtain ⟨its, r', pl, hz⟩ := I.list hq
  have hlen := r'.length
  refine call_tuple_list pl.isList (fun h' kp => ?_) (by simp only [List.size_toArray] <;> omega)
  have I1 : Inv X pins σ H { s with heap := h' } := I.kept (t' := s.toks) kp
  have I2 : Inv X pins σ (upd H h'.objs.size (.tup ys)) { s with heap := h'.push { cls := .type "tuple", data := .seq its.toArray } } :=
   I1.laid (t' := s.toks) (fun b o e => Heap.get?_push_of_some _ e) (Nat.le_refl _) (show q5m X.prog X.w _ _ _ (.tup ys) from ⟨hz, its, r', IsTup.new _ _⟩)
  exact ⟨.ref h'.objs.size, _, I2, rfl, q _ (I1.hok.fresh (Nat.le_refl _))⟩
 ·obtain ⟨its, r', pl, hz⟩ := I.tuple hq
  exact call_tuple_same pl ⟨.ref p, H, I, rfl, q⟩
noncomputable def tyV (K : PySem.W.Frag) (T : String) (x : V) (H : Hp) : Prop := match x with
 | .str _ => T = "str"
 | .int _ => T = "int"
 | .ref p => (T = "list" ∧ ∃ xs, SqL K H p xs) ∨ (T = "tuple" ∧ ∃ o, K.lookup p = some o ∧ o.cls = .type "tuple" ∧ o.dict = none) ∨
   (T = "dict" ∧ ((∃ kvs, H p = some (.dK kvs)) ∨ ∃ kvs, H p = some (.dT kvs))) ∨ (T = "set" ∧ ∃ S n, H p = some (.set S n))
 | _ => False
theorem j8z {pins : List (Addr × Obj)} {σ : St} {H : Hp} {s : Shared} {T : String} {x : V} {v : Value} (I : Inv X pins σ H s) (r : q5d x v) (ty : tyV X.K T x H) :
  s.TypeIs v T ∧ ∀ a, v = .ref a → ∃ ob, s.heap.get? a = some ob ∧ ob.dict = none := by
 cases x with
 | str z =>
  obtain ⟨t, rfl⟩ := r
  cases (show T = "str" from ty)
  exact ⟨typeIs_str s z t, fun _ e => nomatch e⟩
 | int i =>
  obtain ⟨t, rfl⟩ := r
  cases (show T = "int" from ty)
  exact ⟨typeIs_int s i t, fun _ e => nomatch e⟩
 | ref p =>
  cases r
  rcases ty with ⟨rfl, xs, hq⟩ | ⟨rfl, o, hk, hc, hd⟩ | ⟨rfl, hk⟩ | ⟨rfl, S, n, hk⟩
  ·obtain ⟨its, _, pl, _⟩ := I.list hq
   refine ⟨pl.isList.typeIs, fun a e => ?_⟩
   cases e
   obtain ⟨o, n, e, c, hd, _⟩ := pl
   exact ⟨o, e, hd⟩
  ·refine ⟨⟨o, I.kIn p o hk, hc⟩, fun a e => ?_⟩
   cases e
   exact ⟨o, I.kIn _ o hk, hd⟩
  ·have z : ∃ o, s.heap.get? p = some o ∧ o.ExactDict := by
    rcases hk with ⟨kvs, hk⟩ | ⟨kvs, hk⟩
    ·obtain ⟨_, _, _, _, o, _, _, e, ex, _⟩ := I.hok p _ hk
     exact ⟨o, e, ex⟩
    ·obtain ⟨_, _, _, _, o, _, _, e, ex, _⟩ := I.hok p _ hk
     exact ⟨o, e, ex⟩
   obtain ⟨o, e, ex⟩ := z
   refine ⟨⟨o, e, ex.1⟩, fun a e2 => ?_⟩
   cases e2
   exact ⟨o, e, ex.2.1⟩
  ·obtain ⟨o, _, _, _, e, ex, _⟩ := I.hok p _ hk
   refine ⟨⟨o, e, ex.1⟩, fun a e2 => ?_⟩
   cases e2
   exact ⟨o, e, ex.2.1⟩
 | _ => exact False.elim ty
noncomputable def tBM (K : PySem.W.Frag) (T : String) (r : V → List V → Hp → VK → Prop) (to : TE) (t : TA) : TE := fun σ H Q => to σ H fun x H1 => tyV K T x H1 ∧ t σ H1 fun xs H2 => r x xs H2 Q
variable {o e : Expr} {es : List Expr} {to : TE} {t : TA} {name : Str} {apos cpos : Pos} {T id : String} {r : V → List V → Hp → VK → Prop}
theorem x2x (pa : PlainAttrs T) (slot : Slot T name id) (hty : typeOf (.builtin id) = pure (.type "method_descriptor")) (hm : MtR X id r) (ho : PE X o to) (ha : PA X (e :: es) t)
  (hbase : attributeBase o name X.env (eval o X.env) = eval o X.env := by rfl)
  (hfew : ((backTo cpos (starEach (e :: es) X.env)).all (fun x => !x.1) && (backToKw cpos (keywordEach [] X.env)).all (fun x => x.1.isSome)
   && decide ((e :: es).length + ([] : List Keyword).length + (if ([] : List Keyword).isEmpty then 0 else 1) < 30)) = true := by rfl)
  (hline : (apos.endLine == cpos.line) = true := by rfl) (hs : starEach (e :: es) X.env = (false, eval e X.env) :: starEach es X.env := by rfl) (hplain : (backTo cpos (starEach es X.env)).any (·.1) = false := by rfl) :
  PE X (.Call (.Attribute o name apos) (e :: es) [] cpos) (tBM X.K T r to t) := by
 intro pins s σ H Q I h
 refine wpAny_Call_method_late hbase hfew hline rfl (thn (ho pins s σ H _ I h) fun v s1 ⟨x, H1, I1, r1, ty, q1⟩ => ?_)
 obtain ⟨h1, h2⟩ := j8z I1 r1 ty
 refine ⟨T, id, pa, slot, hty, h1, h2, ?_⟩
 have hA := ha cpos pins s1 σ H1 _ I1 q1
 rw [hs] at hA ⊢
 refine Calls.callWith_builtin (by show (false || (backTo cpos (starEach es X.env)).any (·.1)) = false; rw [hplain] <;> rfl) (Calls.evalArgs_plain ?_)
 exact thn hA fun us s2 ⟨vs, H2, I2, r2, q2⟩ => hm pins s2 σ H2 x vs v us Q I2 r1 r2 q2
end
noncomputable def MtM (X : Cx) (id : String) (r : V → List V → Hp → VK → Prop) : Prop :=
 ∀ (pins : List (Addr × Obj)) (s : Shared) (σ : St) (H : Hp) (x : V) (xs : List V) (v : Value) (us : List Value) (Q : VK), Inv X pins σ H s → q5d x v → q3r xs us → r x xs H Q →
  wpAny (model X.prog X.w) X.A (call (.builtin id) (v :: us)) (EP X pins σ Q) X.xe s
theorem q3r.one : ∀ {x : V} {us : List Value}, q3r [x] us → ∃ u, us = [u] ∧ q5d x u
 | _, _, .cons r .nil => ⟨_, rfl, r⟩
section
variable {X : Cx} {pins : List (Addr × Obj)} {σ : St} {H : Hp} {s : Shared} {l b : Addr} {xs ys zs : List V}
theorem Inv.lset {its its' : List Value} {n : Nat} {f : Array Value → Array Value} {t' : Nat} (I : Inv X pins σ H s) (hH : H l = some (.lst xs))
  (e : s.heap.get? l = some { cls := .type "list", data := .seq its.toArray n }) (hf : f its.toArray = its'.toArray) (hv : q3r ys its') (hz : ys.length ≤ sizeLine) :
  Inv X pins σ (upd H l (.lst ys)) { s with heap := s.heap.update l (Obj.mapSeq f), toks := t' } := by
 have q := PySem.IsL.update e f
 rw [hf] at q
 refine I.write (x := l) (e := l) (by rw [hH]; exact trivial) (.inl rfl) (fun b' u hb hu => (Heap.get?_update_other s.heap (Obj.mapSeq f) (Ne.symm hb)).trans hu) ⟨_, q⟩ ?_
 exact ⟨hz, its', _, hv, q⟩
theorem Inv.lnew {its : List Value} {t' : Nat} (I : Inv X pins σ H s) (hv : q3r ys its) (hz : ys.length ≤ sizeLine) :
  Inv X pins σ (upd H s.heap.objs.size (.lst ys)) { s with heap := s.heap.push { cls := .type "list", data := .seq its.toArray }, toks := t' } :=
 I.laid (fun _ _ q => Heap.get?_push_of_some _ q) (Nat.le_refl _) ⟨hz, its, 0, hv, Heap.get?_push_size _ rfl⟩
theorem Inv.fresh (I : Inv X pins σ H s) : H s.heap.objs.size = none := I.hok.fresh (Nat.le_refl _)
theorem Inv.lstM (I : Inv X pins σ H s) (hH : H l = some (.lst xs)) : xs.length ≤ sizeLine ∧ ∃ (its : List Value) (n : Nat), q3r xs its ∧ xs.length = its.length ∧ s.heap.get? l = some { cls := .type "list", data := .seq its.toArray n } := by
 obtain ⟨z, its, n, r, e⟩ := I.hok l _ hH
 exact ⟨z, its, n, r, r.length, e⟩
end
section
variable {X : Cx}
noncomputable def j4t : V → List V → Hp → VK → Prop := fun x vs H Q => ∃ l xs y, x = .ref l ∧ vs = [y] ∧ H l = some (.lst xs) ∧ xs.length < sizeLine ∧ Q .non (upd H l (.lst (xs ++ [y])))
theorem q9i : MtM X "list.append" j4t := by
 intro pins s σ H x vs v us Q I rx rv h
 obtain ⟨l, xs, y, rfl, rfl, hH, hz, q⟩ := h
 cases rx
 obtain ⟨u, rfl, ru⟩ := rv.one
 obtain ⟨z, its, n, r, hl, e⟩ := I.lstM hH
 refine call_meets F.slot_list_append ⟨_, e, rfl⟩ F.entry_list_append (F.args_list_append_2 _ _) (PySem.list_append l its.toArray n u (by rw [List.size_toArray]; omega)) ⟨e, ?_⟩
 refine ⟨.non, _, I.lset (its' := its ++ [u]) hH e (by simp) (r.append (.cons ru .nil)) ?_, rfl, q⟩
 rw [List.length_append, List.length_singleton]
 omega
noncomputable def w3c : R2 := fun x y H Q => ∃ l b xs zs, x = .ref l ∧ y = .ref b ∧ H l = some (.lst xs) ∧ H b = some (.lst zs) ∧ xs.length + zs.length ≤ sizeLine ∧ ∀ p, H p = none → Q (.ref p) (upd H p (.lst (xs ++ zs)))
theorem j9l : OpR X (binaryOp .Add) w3c := by
 intro pins s σ H x y v u Q I rx ry h
 obtain ⟨l, b, xs, zs, rfl, rfl, hH, hB, hz, q⟩ := h
 cases rx
 cases ry
 obtain ⟨z, its, n, r, hl, e⟩ := I.lstM hH
 obtain ⟨z2, its2, n2, r2, hl2, e2⟩ := I.lstM hB
 refine PySem.P.add_list e e2 ?_ (by rw [List.size_toArray, List.size_toArray]; omega)
 have ea : its.toArray ++ its2.toArray = (its ++ its2).toArray := by simp
 rw [ea]
 exact ⟨.ref _, _, I.lnew (t' := s.toks) (r.append r2) (by rw [List.length_append]; omega), rfl, q _ I.fresh⟩
end
section
variable {prog : Program} {w : World} {A : Around} {E : Value → Shared → Prop} {s : Shared}
set_option maxRecDepth 100000 in
end
section
variable {X : Cx}
end
end L2
namespace Att
open PySem PySem.W PySem.Calls PyProof.Rows
theorem x3r {P : Params} {h : Heap} : ∀ (ns : List Int) (vs : List Value), WellAll P h vs (ns.map WData.int) → IntsAre vs ns := by
 intro ns
 induction ns with
 | nil =>
  intro vs w
  rw [List.map_nil] at w
  cases w
  exact .nil
 | cons n ns ih =>
  intro vs w
  rw [List.map_cons] at w
  cases w with
  | cons a b =>
   cases a
   exact .cons _ _ (ih _ b)
theorem z9y {l : OpenLaw} {n : Nat} (hn : l.most = some n) {P : Params} {h : Heap} {args : List WData} {vals : List Value}
  (hpre : l.row.toRowW.claim.pre args = true) (hwl : WellAll P h vals args) :
  ∃ a vs ns, vals = [Value.ref a] ∧ args = [WData.list (ns.map WData.int)] ∧ h.get? a = some { cls := .type "list", data := .seq vs.toArray } ∧ IntsAre vs ns ∧ ns.length ≤ n := by
 have hsh : WShape.hasAll [] args [.list .int] = true := (pre_splitW hpre).1
 have hc : l.pre.holds [] { args := args } = true := (pre_splitW hpre).2
 obtain ⟨d, r, rfl, h1, h2⟩ := hasAllW_cons hsh
 obtain rfl := hasAllW_nil h2
 obtain ⟨xs, rfl, h3⟩ := hasW_list h1
 obtain ⟨ns, rfl⟩ := items_int h3
 have hlen : ns.length ≤ n := by
  unfold OpenLaw.pre at hc
  have h4 : (WTm.not (.lt (.lit (.int (n : Int))) (.len (.arg 0)))).holds [] { args := [.list (ns.map .int)] } = true := by
   have h4 := (holds_andW hc).1
   rw [hn] at h4
   exact h4
  have h5 := condW_of h4 (w_not (w_lt w_lit (w_len_list (w_arg rfl))))
  rw [List.length_map] at h5
  refine Nat.le_of_not_lt fun q => ?_
  have q' : (n : Int) < ((ns.length : Nat) : Int) := by omega
  first
   | (rw [decide_eq_true q'] at h5; exact absurd h5 (by decide))
   | (simp at h5; omega)
 cases hwl with
 | cons w1 w2 =>
  cases w2
  cases w1 with
  | list ho hall => exact ⟨_, _, ns, rfl, rfl, ho, x3r ns _ hall, hlen⟩
theorem z9j (l : OpenLaw) (args : List WData) : l.row.toRowW.claim.post args (.bool true) args = true :=
 postW_of (r := l.row.toRowW) (X := (true == true))
  (show WShape.has [] (.bool true) .bool = true by first | rfl | decide | simp [WShape.has, WShape.arms, WShape.armsAll])
  (show (WTm.eq .res (.lit (.bool true))).value [] { args := args, res := some (.bool true), after := args } = some (.bool (true == true)) from w_eq_bool (w_res rfl) w_lit) rfl
theorem attach_call {l : OpenLaw} {n : Nat} {q : Program} {loose : List Str} {XP : (Str → Option Value) → Heap → Prop} {YP : World → Heap → Prop} {d : DefRec}
  (hn : l.most = some n) (hdf : d.params.defaults = [])
  (call : ∀ (w : World) (s₀ s₁ : Shared) (mg mb : Str → Option Value) (fa : Addr) (o : Obj) (pm cd doc : Value) (a : Addr) (vs : List Value) (ns : List Int),
   Ground q loose [] XP w s₀ mg mb s₁.heap → YP w s₁.heap →
   s₁.heap.get? fa = some o → o.data = .func (docDef d.name d.params d.body d.scope pm cd doc) → s₁.heap.CodeRec cd d.name → mg d.name = some (.ref fa) →
   s₁.heap.get? a = some { cls := .type "list", data := .seq vs.toArray } → IntsAre vs ns → ns.length ≤ n → s₁.gens = #[] →
   codeAny (model l.prog w) callerA (.call (.ref fa) ⟨[.ref a], []⟩) (fun r s' => r = .ok (.ret (.bool true)) ∧ OldK s₁.heap s'.heap ∧ s'.os = s₁.os ∧ AllBare s'.gens) s₁) :
  WalkO q loose XP YP l.row.toRowW d [] (fun f vs => PySem.call f vs) := by
 intro w s₀ s₁ mg mb G Y fa o pm cd doc dV kV ho hd hcd hD hmg hg args vals as hpre hlay hrd hwl hlo
 obtain rfl : dV = .none := Dflts.none hD hdf
 obtain rfl : kV = .none := Dflts.noKw hD
 obtain ⟨a, vs, ns, rfl, rfl, hobj, hints, hlen⟩ := z9y hn hpre hwl
 refine enter_call (codeAny_mono (call w s₀ s₁ mg mb fa o pm cd doc a vs ns G Y ho (fd_plain hd) hcd hmg hobj hints hlen hg) fun r s' hq => ?_)
 obtain ⟨rfl, h2, h3, h4⟩ := hq
 exact ⟨.inl ⟨.bool true, .bool true, [], rfl, fun _ => rfl, .bool true, z9j l _, fun _ => ⟨List.Pairwise.nil, fun _ hm => (nomatch hm)⟩⟩, h2, h3, h4⟩
section
variable {prog : Program} {w : World} {A : Around} {E : Value → Shared → Prop} {s : Shared} {K : Frag}
noncomputable def w3b (h : Heap) (L d : Addr) : List (Addr × Obj) := (List.range h.objs.size).filterMap fun a => if a = L ∨ a = d then none else (h.get? a).map fun o => (a, o)
end
end Att
namespace L2
open PySem PySem.Spec PyProof.Rows
theorem x9h : ∀ {vs : List Value} {ns : List Int}, IntsAre vs ns → q3r (ns.map V.int) vs
 | _, _, .nil => .nil
 | _, _, .cons n t h => .cons ⟨t, rfl⟩ (x9h h)
noncomputable def w1r (H : Hp) : Prop := ∀ b, H b = none ∨ ∃ o xs, H b = some (.frz o (.lst xs))
theorem j1c {P : Program} {w : World} {K : PySem.W.Frag} {mg mb : Str → Option Value} {CX : CXT} {k : Nat} {fa a : Addr} {fd : FuncData} {x : Str} {sp : Sp} {s₁ : Shared} {vs : List Value} {ns : List Int}
  (KX : K.In s₁.heap) (hns : s₁.heap.Ns mainGlobals mg) (hb : s₁.heap.Ns builtinsNs mb) (hbb : ∀ x : Str, x ≠ "__name__" → mb x = bootBuiltins x) (hlim : s₁.heap.NoLimit) (hg : s₁.gens = #[])
  (ha : s₁.heap.get? a = some { cls := .type "list", data := .seq vs.toArray }) (hi : IntsAre vs ns) (hl : ns.length ≤ sizeLine) (hr : Room k callerA)
  (F : ∀ base : Heap, K.In base → base.Ns mainGlobals mg → FnOk P w K mg base CX k fa fd [x] sp) (hbind : ∀ (s : Shared) (u : Value), BindsTo s fd ⟨[u], []⟩ [(x, u)])
  (hsp : ∀ H : Hp, w1r H → SqL K H a (ns.map V.int) → sp [.ref a] H (fun v _ => v = .bl true) fun _ _ _ => False)
  (hCX : ∀ H e s', CX [] H s₁ (fun _ _ _ => False) e s' → False) :
  codeAny (model P w) callerA (.call (.ref fa) ⟨[.ref a], []⟩) (fun r s' => r = .ok (.ret (.bool true)) ∧ OldK s₁.heap s'.heap ∧ s'.os = s₁.os ∧ AllBare s'.gens) s₁ := by
 have rv := x9h hi
 have lenV := hi.length
 have core : ∀ H : Hp, w1r H → SqL K H a (ns.map V.int) → HOk P w H s₁.heap → (∀ b, H b ≠ none → b = a) → (H a ≠ none → K.lookup a = none) →
   codeAny (model P w) callerA (.call (.ref fa) ⟨[.ref a], []⟩) (fun r s' => r = .ok (.ret (.bool true)) ∧ OldK s₁.heap s'.heap ∧ s'.os = s₁.os ∧ AllBare s'.gens) s₁ := by
  intro H hO hS hok hA hK
  have base_of : ∀ {b : Addr} {o : Obj}, s₁.heap.get? b = some o → H b = none → (j1g s₁.heap H).get? b = some o := fun e n => j3i e n
  have noA : ∀ {b : Addr} {o : Obj} {es : Array DictEntry} {ep : Nat}, s₁.heap.get? b = some o → o.data = .dict es ep → H b = none := fun {b o es ep} e d => by
   cases q : H b with
   | none => rfl
   | some u =>
    have e' : b = a := hA b (by rw [q]; simp)
    subst e'
    rw [ha] at e; cases e
    have d' : Data.seq vs.toArray _ = Data.dict es ep := d
    cases d'
  have nsK : ∀ {b : Addr} {m : Str → Option Value}, s₁.heap.Ns b m → (j1g s₁.heap H).Ns b m := fun {b m} ⟨o, es, ep, e, d, r⟩ => ⟨o, es, ep, base_of e (noA e d), d, r⟩
  have hKb : K.In (j1g s₁.heap H) := fun b o e => base_of (KX b o e) (by
   cases q : H b with
   | none => rfl
   | some u =>
    have e' : b = a := hA b (by rw [q]; simp)
    subst e'
    rw [hK (by rw [q]; simp)] at e; cases e)
  have hM : Mod K mg (j1g s₁.heap H) := ⟨hKb, nsK hns, ⟨mb, nsK hb, hbb⟩, let ⟨mc, h1, h2⟩ := hlim; ⟨mc, nsK h1, h2⟩⟩
  have e0 : Env0 P w K mg (j1g s₁.heap H) callerA [] s₁ H := ⟨rfl, hM, fun b o e => j7c e, Nat.le_of_eq (z7u _ _), trivial, fun b hb => absurd (show b ∈ ([] : List Addr) from hb) (by simp), hok, .of_eq hg⟩
  refine codeAny_mono ((F _ hKb (nsK hns)).run callerA [] s₁ H ⟨[.ref a], []⟩ [.ref a] [.ref a] _ _ hr e0 (hbind s₁ (.ref a)) (.cons rfl .nil) (hsp H hO hS)) fun r s' h => ?_
  cases r with
  | error e => exact (hCX H e s' h).elim
  | ok fl =>
   cases fl with
   | next => exact False.elim h
   | brk => exact False.elim h
   | cont => exact False.elim h
   | ret u =>
    obtain ⟨v, H', os, bare, un, hok', r', q⟩ := h
    have q' : v = .bl true := q
    subst q'
    obtain rfl : u = Value.bool true := r'
    refine ⟨rfl, OldK.of_keep fun b o e => ?_, os, bare⟩
    cases q : H b with
    | none => exact un.keep b o e q (by intro z; exact absurd (show b ∈ ([] : List Addr) from z) (by simp)) (by simp)
    | some u =>
     rcases hO b with z | ⟨ob, xs, z⟩
     ·rw [q] at z; cases z
     ·have z2 := un.frzs b ob _ z
      obtain ⟨e1, _⟩ := hok b _ z
      obtain ⟨e2, _⟩ := hok' b _ z2
      rw [e] at e1; cases e1
      exact e2
 cases hk : K.lookup a with
 | some o =>
  have e := KX a o hk
  rw [ha] at e
  cases e
  refine core (fun _ => none) (fun _ => .inl rfl) (.inr ⟨_, vs.toArray, _, hk, rfl, rfl, rfl, by rw [List.size_toArray, lenV]; exact hl, by simpa using rv⟩) (fun b u z => by have z' : (none : Option HO) = some u := z; cases z') (fun b z => absurd rfl z) fun z => absurd rfl z
 | none =>
  refine core (fun b => if b = a then some (.frz { cls := .type "list", data := .seq vs.toArray } (.lst (ns.map V.int))) else none) (fun b => ?_) (.inl (.inr ⟨{ cls := .type "list", data := .seq vs.toArray }, if_pos rfl⟩)) (fun b u z => ?_) (fun b z => ?_) fun _ => hk
  ·by_cases hb : b = a
   ·exact .inr ⟨_, _, if_pos hb⟩
   ·exact .inl (if_neg hb)
  ·by_cases hb : b = a
   ·have z' := (if_pos hb).symm.trans z
    cases z'
    subst hb
    exact ⟨ha, by rw [List.length_map]; exact hl, vs, _, rv, ha⟩
   ·have z' := (if_neg hb).symm.trans z
    cases z'
  ·by_cases hb : b = a
   ·exact hb
   ·exact absurd (if_neg hb) z
noncomputable abbrev KOf {K : PySem.W.Frag} {h : Heap} (_ : K.In h) : PySem.W.Frag := K
theorem j5e {l : PySem.W.OpenLaw} {n k : Nat} {q : Program} {loose : List Str} {XP : (Str → Option Value) → Heap → Prop} {YP : World → Heap → Prop} {d : DefRec} {K : Params → PySem.W.Frag} {CX : World → CXT} {sp : World → Sp} {x : Str}
  (hn : l.most = some n) (hn2 : n ≤ sizeLine) (hdf : d.params.defaults = []) (hr : Room k callerA)
  (hY : ∀ (w : World) (h : Heap), YP w h → (K w.params).In h)
  (F : ∀ (w : World) (mg : Str → Option Value) (fa : Addr) (h : Heap), (K w.params).In h → h.Ns mainGlobals mg → mg d.name = some (.ref fa) →
   ∃ fd : FuncData, (∀ (s : Shared) (u : Value), BindsTo s fd ⟨[u], []⟩ [(x, u)]) ∧
    ∀ base : Heap, (K w.params).In base → base.Ns mainGlobals mg → FnOk l.prog w (K w.params) mg base (CX w) k fa fd [x] (sp w))
  (hsp : ∀ (w : World) (H : Hp) (a : Addr) (ns : List Int), ns.length ≤ n → w1r H → SqL (K w.params) H a (ns.map V.int) → sp w [.ref a] H (fun v _ => v = .bl true) fun _ _ _ => False)
  (hCX : ∀ (w : World) (H : Hp) (s : Shared) (e : Value) (s' : Shared), CX w [] H s (fun _ _ _ => False) e s' → False) :
  PySem.W.WalkO q loose XP YP l.row.toRowW d [] (fun f vs => PySem.call f vs) := by
 refine Att.attach_call hn hdf fun w s₀ s₁ mg mb fa o pm cd doc a vs ns G Y ho hd hcd hmg hobj hints hlen hg => ?_
 have KX := hY w _ Y
 obtain ⟨fd, hb, hF⟩ := F w mg fa _ KX G.T.g hmg
 exact j1c KX G.T.g G.T.b G.T.builtins G.T.nolimit hg hobj hints (Nat.le_trans hlen hn2) hr hF hb (fun H hO hS => hsp w H a ns hlen hO hS) fun H e s' => hCX w H s₁ e s'
noncomputable def z0z (s : Stmt) (j : Nat) : Stmt := match s with
 | .ClassDef _ _ _ body _ _ _ _ _ _ _ => body.getD j (.Pass ⟨0, 0, 0, 0⟩)
 | _ => .Pass ⟨0, 0, 0, 0⟩
noncomputable def q9h (s : Stmt) : Arguments := match s with
 | .FunctionDef _ a _ _ _ _ _ _ _ _ => a
 | _ => { posonlyargs := [], args := [], vararg := none, kwonlyargs := [], kw_defaults := [], kwarg := none, defaults := [] }
noncomputable def q6o (s : Stmt) : List Stmt := match s with
 | .FunctionDef _ _ b _ _ _ _ _ _ _ => b
 | _ => []
noncomputable def q0d (s : Stmt) : Scope := match s with
 | .FunctionDef _ _ _ _ _ _ sc _ _ _ => sc
 | _ => { kind := .function, names := [], isGenerator := false, isCoroutine := false }
noncomputable abbrev CX0 : CXT := fun _ _ _ _ _ _ => False
noncomputable abbrev E0 : XK := fun _ _ _ => False
theorem q6z {X : Cx} : x1n CX0 X E0 := fun _ _ _ _ _ _ _ h => h.elim
structure Fun (K : PySem.W.Frag) (x qual : Str) (st : Stmt) (f : Addr) (fd : FuncData) : Prop where
 ex : ∃ (oc : Value) (od : Option Addr) (kV doc pm : Value) (an : Option Addr) (cdv ct : Value) (osl : Array (Option Value)),
  fd = PySem.W.fnOf x qual (q9h st) (q6o st) (q0d st) .none kV doc pm an cdv ct ∧ K.lookup f = some ⟨oc, od, .func fd, osl⟩ ∧ PySem.W.codeIn K cdv qual = true
 kp : PySem.W.keepIn K (.ref f) = true
section
variable {P : Program} {w : World} {K : PySem.W.Frag} {mg : Str → Option Value} {base : Heap}
theorem Fun.ok {x qual : Str} {st : Stmt} {f : Addr} {fd : FuncData} {N ps : List Str} {k : Nat} {sp : Sp} (F : Fun K x qual st f fd) (S : FnScope N ps (q0d st)) (len : ∀ vs H Q E, sp vs H Q E → vs.length = ps.length)
  (hbody : ∀ (cdv : Value) (A : Around) (outer : List Env) (s : Shared) (H : Hp) (vs : List V) (Q : VK) (E : XK), Room k (A.deeper (envOfC qual (q0d st) s.heap.objs.size f cdv)) → sp vs H Q E →
   ∃ t, PSs (j5q CX0 P w K mg base N qual (q0d st) f cdv A outer s H E).nox (q6o st) t ∧ t { nx := fun _ H' => Q .non H', rt := Q } (x6s N vs) H) : FnOk P w K mg base CX0 (k + 1) f fd ps sp := by
 obtain ⟨oc, od, kV, doc, pm, an, cdv, ct, osl, rfl, lk, hcd⟩ := F.ex
 refine j8g lk hcd S len fun A outer s H vs Q E hr hsp => ?_
 obtain ⟨t, h, q⟩ := hbody cdv A outer s H vs Q E hr hsp
 exact ⟨t, h.nox, q⟩
theorem Fun.binds {x qual : Str} {st : Stmt} {f : Addr} {fd : FuncData} {ps : List Str} (F : Fun K x qual st f fd)
  (h : ∀ (kV doc pm : Value) (an : Option Addr) (cdv ct : Value) (us : List Value), us.length = ps.length → bindArgs (PySem.W.fnOf x qual (q9h st) (q6o st) (q0d st) .none kV doc pm an cdv ct) ⟨us, []⟩ = pure (ps.zip us)) : q3p K fd ps [] := by
 obtain ⟨oc, od, kV, doc, pm, an, cdv, ct, osl, rfl, lk, hcd⟩ := F.ex
 exact .all (h kV doc pm an cdv ct)
theorem j9j {x qual : Str} {st : Stmt} {f : Addr} {oc : Value} {od an : Option Addr} {osl : Array (Option Value)} {kV doc pm cdv ct : Value} (l : K.lookup f = some ⟨oc, od, .func (PySem.W.fnOf x qual (q9h st) (q6o st) (q0d st) .none kV doc pm an cdv ct), osl⟩)
  (c : PySem.W.codeIn K cdv qual = true) (k : PySem.W.keepIn K (.ref f) = true) : Fun K x qual st f (PySem.W.fnOf x qual (q9h st) (q6o st) (q0d st) .none kV doc pm an cdv ct) := ⟨⟨oc, od, kV, doc, pm, an, cdv, ct, osl, rfl, l, c⟩, k⟩
end
theorem w1g {A : Around} {k : Nat} (hr : Room k A) : A.units + 1 < cLine := Nat.lt_of_le_of_lt (Nat.add_le_add_left (by decide : 1 ≤ 64) _) hr.units
section
variable {X : Cx}
theorem pv (i : Nat) {x : Str} {pos : Pos} (hN : X.N[i]? = some x := by rfl) (hv : Vis X.env.scope x := by first | exact Or.inl rfl | exact Or.inr (Or.inl rfl) | exact Or.inr (Or.inr rfl)) (hd : (x == ("__debug__" : Str)) = false := by decide)
  (hcd : (x == ("__classdict__" : Str)) = false := by decide) : PE X (.Name x pos) (w0c i) := j8w hN hv hd hcd
end
theorem q0z {A B : Prop} (h : B) : if false = true then A else B := by
 rw [if_neg Bool.false_ne_true]
 exact h
theorem q1o {A B : Prop} (h : A) : if true = true then A else B := by
 rw [if_pos rfl]
 exact h
theorem x9q {c A B : Prop} [Decidable c] (h1 : c → A) (h2 : ¬ c → B) : if c then A else B := by
 by_cases h : c
 ·rw [if_pos h]
  exact h1 h
 ·rw [if_neg h]
  exact h2 h
noncomputable def q1a (H H' : Hp) : Prop := ∀ b o, H b = some o → H' b = some o
theorem q1a.refl (H : Hp) : q1a H H := fun _ _ h => h
theorem q1a.trans {H H1 H2 : Hp} (a : q1a H H1) (b : q1a H1 H2) : q1a H H2 := fun c o h => b c o (a c o h)
end L2
set_option maxHeartbeats 4000000
namespace L2
open PySem PySem.Spec PyProof.Rows
noncomputable def clo (cells : List (Str × Addr)) : List (Str × NameKind) → List (Str × Addr) → List (Str × Addr)
 | [], cs => cs
 | p :: r, cs => clo cells r (if (p.2 == NameKind.free) = true then (match cells.lookup p.1 with | some a => (p.1, a) :: cs | none => cs) else cs)
theorem j5b {env : Env} {f : Str × NameKind → List (Str × Addr) → Sem (ForInStep (List (Str × Addr)))}
  (hf : ∀ p cs, f p cs = if (p.2 == NameKind.free) = true then (cellOf env p.1 >>= fun a => pure (ForInStep.yield ((p.1, a) :: cs))) else pure (ForInStep.yield cs)) :
  ∀ (names : List (Str × NameKind)) (cs : List (Str × Addr)), (∀ p ∈ names, p.2 = .free → ∃ a, env.cells.lookup p.1 = some a) →
   (forIn names cs f : Sem (List (Str × Addr))) = pure (clo env.cells names cs) := by
 intro names
 induction names with
 | nil => intro cs _; rfl
 | cons p r ih =>
  intro cs h
  have hr := fun cs => ih cs fun q hq => h q (List.mem_cons_of_mem _ hq)
  rw [List.forIn_cons, hf]
  by_cases hk : p.2 = .free
  ·obtain ⟨a, ha⟩ := h p List.mem_cons_self hk
   have hb : (p.2 == NameKind.free) = true := by rw [hk]; rfl
   rw [if_pos hb]
   have hc : cellOf env p.1 = pure a := by unfold cellOf; rw [ha]
   rw [hc]
   show (forIn r ((p.1, a) :: cs) f : Sem _) = _
   rw [hr, clo, if_pos hb, ha]
  ·have hb : ¬ (p.2 == NameKind.free) = true := by simpa using hk
   rw [if_neg hb]
   show (forIn r cs f : Sem _) = _
   rw [hr, clo, if_neg hb]
theorem j6z {env : Env} {scope : Scope} (h : ∀ p ∈ scope.names, p.2 = .free → ∃ a, env.cells.lookup p.1 = some a) : closureFor scope env = pure (clo env.cells scope.names []) := by
 simp only [closureFor]
 rw [j5b (env := env) (fun p cs => by obtain ⟨n, k⟩ := p; cases hk : (k == NameKind.free) <;> simp [hk] <;> rfl) scope.names [] h]
 rfl
theorem x4i {cells : List (Str × Addr)} {x : Str} {c : Addr} : ∀ (names : List (Str × NameKind)) (cs : List (Str × Addr)), (clo cells names cs).lookup x = some c → cells.lookup x = some c ∨ cs.lookup x = some c := by
 intro names
 induction names with
 | nil => intro cs h; exact .inr h
 | cons p r ih =>
  intro cs h
  rw [clo] at h
  rcases ih _ h with e | e
  ·exact .inl e
  ·split at e
   ·cases ha : cells.lookup p.1 with
    | none => rw [ha] at e; exact .inr e
    | some a =>
     rw [ha] at e
     rw [List.lookup_cons] at e
     cases hx : x == p.1 with
     | true =>
      rw [hx] at e
      have : x = p.1 := by simpa using hx
      subst this
      left
      rw [ha]; exact e
     | false => rw [hx] at e; exact .inr e
   ·exact .inr e
theorem z8u {cells : List (Str × Addr)} {x : Str} {a : Addr} (ha : cells.lookup x = some a) : ∀ (names : List (Str × NameKind)) (cs : List (Str × Addr)),
  ((x, NameKind.free) ∈ names ∨ cs.lookup x = some a) → (clo cells names cs).lookup x = some a := by
 intro names
 induction names with
 | nil =>
   intro cs h; rcases h with h | h
   ·cases h
   ·exact h
 | cons p r ih =>
  intro cs h
  rw [clo]
  by_cases hr : (x, NameKind.free) ∈ r
  ·exact ih _ (.inl hr)
  ·refine ih _ (.inr ?_)
   by_cases hb : (p.2 == NameKind.free) = true
   ·rw [if_pos hb]
    by_cases hx : x = p.1
    ·subst hx
     rw [ha]
     simp [List.lookup_cons]
    ·have h2 : cs.lookup x = some a := by
      rcases h with h | h
      ·rcases List.mem_cons.mp h with e | e
       ·exact absurd (congrArg Prod.fst e) hx
       ·exact absurd e hr
      ·exact h
     cases hc : cells.lookup p.1 with
     | none => exact h2
     | some b =>
      have hx' : (x == p.1) = false := by simpa using hx
      simp [List.lookup_cons, hx', h2]
   ·rw [if_neg hb]
    rcases h with h | h
    ·rcases List.mem_cons.mp h with e | e
     ·exact absurd (by rw [← e]; rfl) hb
     ·exact absurd e hr
    ·exact h
theorem q7d {α β : Type} [BEq α] [LawfulBEq α] {x : α} {y : β} : ∀ {l : List (α × β)}, l.lookup x = some y → (x, y) ∈ l
 | [], h => by cases h
 | p :: r, h => by
  rw [List.lookup_cons] at h
  cases hx : x == p.1 with
  | true =>
   rw [hx] at h
   have e : x = p.1 := by simpa using hx
   cases h
   rw [e]
   exact List.mem_cons_self
  | false => rw [hx] at h; exact List.mem_cons_of_mem _ (q7d h)
theorem j4f {f : Str × NameKind → Str × NameKind} (hf : ∀ p, f p = p ∨ (p.2 = .free ∧ f p = (p.1, .cell))) {x : Str} : ∀ {names : List (Str × NameKind)}, (names.map f).lookup x = names.lookup x ∨ (names.lookup x = some .free ∧ (names.map f).lookup x = some .cell)
 | [] => .inl rfl
 | p :: r => by
  have ih := @j4f f hf x r
  rw [List.map_cons]
  rcases hf p with e | ⟨e1, e2⟩
  ·rw [e, List.lookup_cons, List.lookup_cons]
   cases hx : x == p.1 with
   | true => exact .inl rfl
   | false => exact ih
  ·rw [e2, List.lookup_cons, List.lookup_cons]
   cases hx : x == p.1 with
   | true => exact .inr ⟨congrArg some e1, rfl⟩
   | false => exact ih
theorem j8k {env : Env} {x : Str} {names : List (Str × NameKind)} :
  ((names.map fun (n, k) => if (k == NameKind.free && env.scope.kind == .function && env.kindOf n == some .cell) then (n, NameKind.cell) else (n, k)).lookup x = names.lookup x) ∨
  (names.lookup x = some .free ∧ (names.map fun (n, k) => if (k == NameKind.free && env.scope.kind == .function && env.kindOf n == some .cell) then (n, NameKind.cell) else (n, k)).lookup x = some .cell) := by
 refine j4f (fun p => ?_)
 obtain ⟨n, k⟩ := p
 by_cases hc : (k == NameKind.free && env.scope.kind == .function && env.kindOf n == some .cell) = true
 ·right
  have hk : k = .free := by
   simp only [Bool.and_eq_true, beq_iff_eq] at hc
   exact hc.1.1
  exact ⟨hk, by show (if _ then _ else _) = _; rw [if_pos hc]⟩
 ·left
  show (if _ then _ else _) = _
  rw [if_neg hc]
noncomputable def cxB (X : Cx) (NB : List Str) (scope : Scope) (cl : List (Str × Addr)) (C : Addr) (fp : List Addr) (s : Shared) (H : Hp) : Cx where
 prog := X.prog
 w := X.w
 K := X.K
 mg := X.mg
 base := X.base
 A := X.A
 N := NB
 s₀ := s
 H₀ := H
 env := compEnvC scope cl C X.env
 outer := X.stack
 stack := X.stack
 ex := fp
 fn := fun _ => false
 calm := X.calm
 pn := []
 xe := fun _ _ => False
noncomputable def j7m (X : Cx) (ifs : List Expr) (t : TT) : Prop :=
 ∀ (pins : List (Addr × Obj)) (s : Shared) (σ : St) (H : Hp) (Q : Bool → Hp → Prop), Inv X pins σ H s → t σ H Q →
  wpAny (model X.prog X.w) X.A (forIn ifs true fun c r => if r = true then do let ok ← isTrue c X.env (eval c X.env); pure (ForInStep.yield ok) else pure (ForInStep.yield r)) (TP X pins σ Q) X.xe s
noncomputable def w5v : TT := fun _ H Q => Q true H
theorem q2t {X : Cx} : j7m X [] w5v := fun _ _ _ H _ I h => wpAny_tests_nil ⟨H, I, h⟩
theorem x3c {X : Cx} {c : Expr} {t : TT} (h : PT X c t) : j7m X [c] t := fun pins s σ H Q I q => wpAny_tests_one (h pins s σ H Q I q)
section
variable {prog : Program} {w : World} {A : Around} {R : Result → Shared → Prop} {s : Shared}
theorem z6v {elt target iter : Expr} {ifs : List Expr} {scope : Scope} {pos : Pos} {it acc : Value} {env : Env} (I : Nat → Shared → Prop)
  (turn : ∀ n s, I n s → wpAny (model prog w) A (pyNext it) (fun r s1 => (r = none ∧ R (.ok .next) s1) ∨ ∃ v, r = some v ∧
   wpAny (model prog w) A (letOwnedTupleGo target it v) (fun _ s2 => wpAny (model prog w) A (assign target env v) (fun _ s3 =>
    wpAny (model prog w) A (forIn ifs true fun c r => if r = true then do let ok ← isTrue c env (eval c env); pure (ForInStep.yield ok) else pure (ForInStep.yield r)) (fun ok s4 =>
     if ok = true then wpAny (model prog w) A (eval elt env) (fun x s5 => wpAny (model prog w) A (call (.builtin "list.append") [acc, x]) (fun _ s6 => ∃ m, m < n ∧ I m s6) (fun _ _ => False) s5) (fun _ _ => False) s4
     else ∃ m, m < n ∧ I m s4) (fun _ _ => False) s3) (fun _ _ => False) s2) (fun _ _ => False) s1) (fun _ _ => False) s)
  (n : Nat) (h : I n s) : codeAny (model prog w) A (.compLoop (.ListComp elt [⟨target, iter, ifs, 0⟩] scope pos) 0 it acc env) R s := by
 refine codeAny_loop rfl I (fun k s0 hk => ?_) n h
 show wpAny _ A (Sem.onRaise (compTurn (.ListComp elt [⟨target, iter, ifs, 0⟩] scope pos) 0 it acc env) (fun x => do noteFrame x env; theTreesLotGoes x)) _ _ s0
 refine wpAny_noted ?_
 rw [compTurn_list]
 refine wpAny_bind (wpAny_standAt (wpAny_bind (wpAny_mono (turn k s0 hk) (fun r s1 h1 => ?_) fun _ _ z => z.elim)))
 rcases h1 with ⟨rfl, h1⟩ | ⟨v, rfl, h1⟩
 ·exact wpAny_pure h1
 ·refine wpAny_bind (wpAny_mono h1 (fun _ s2 h2 => wpAny_bind (wpAny_mono h2 (fun _ s3 h3 => wpAny_bind (wpAny_mono h3 (fun ok s4 h4 => ?_) fun _ _ z => z.elim)) fun _ _ z => z.elim)) fun _ _ z => z.elim)
  cases ok with
  | false => exact wpAny_pure ⟨rfl, h4⟩
  | true => exact wpAny_bind (wpAny_bind (wpAny_mono h4 (fun x s5 h5 => wpAny_bind (wpAny_mono h5 (fun _ s6 h6 => wpAny_pure (wpAny_pure ⟨rfl, h6⟩)) fun _ _ z => z.elim)) fun _ _ z => z.elim))
end
theorem HOk.but {P : Program} {w : World} {H : Hp} {h h' : Heap} {C : Addr} (x : HOk P w H h) (hC : H C = none) (k : ∀ b o, b ≠ C → h.get? b = some o → h'.get? b = some o) : HOk P w H h' := fun b u e => by
 have nit : ∀ c v, H c = some v → c ≠ C := fun c v q z => by rw [z, hC] at q; cases q
 refine (x b u e).stay (fun c v hc q => k c v ?_ q) (fun _ q => q) fun _ _ q => q
 rcases hc with z | z
 ·rw [z]; exact nit b u e
 ·exact nit c _ z
noncomputable def x3y (frs : St) (g : TG) (tt : TT) (te : TE) (Q : VK) (J : It) (H1 : Hp) : Prop := ∀ D, H1 D = none →
 ∃ W : Nat → Nat → List V → St → Hp → Prop, (∃ m, W 0 m [] frs (upd H1 D (.lst []))) ∧
  ∀ i m ys σ' H', W i m ys σ' H' → H' D = some (.lst ys) →
   (J.stop i H' ∧ Q (.ref D) H') ∨
   (J.go i H' ∧ ys.length < sizeLine ∧ ∀ x H2, J.yld i H' x H2 → g x σ' H2 fun σ3 H3 => tt σ3 H3 fun b H4 =>
    if b = true then te σ3 H4 fun v H5 => H5 D = some (.lst ys) ∧ ∃ m', m' < m ∧ W (i + 1) m' (ys ++ [v]) σ3 (upd H5 D (.lst (ys ++ [v])))
    else H4 D = some (.lst ys) ∧ ∃ m', m' < m ∧ W (i + 1) m' ys σ3 H4)
noncomputable def j6t (n : Nat) (fr : List Nat) (wi : TI) (g : TG) (tt : TT) (te : TE) : TE := fun σ H Q => wi σ H (x3y (List.replicate n none ++ fr.map fun k => (σ[k]?).join) g tt te Q)
section
variable {X : Cx} {elt tg iter : Expr} {ifs : List Expr} {scope : Scope} {pos : Pos} {NB : List Str} {n : Nat} {fr : List Nat} {wi : TI} {g : TG} {tt : TT} {te : TE}
structure CompOk (X : Cx) (scope : Scope) (NB : List Str) (n : Nat) (fr : List Nat) : Prop where
 kind : scope.kind = .function
 nocell : ∀ y ∈ scope.names, y.2 ≠ .cell
 names : ∀ y ∈ scope.names, y.2 = .local → scope.names.lookup y.1 = some .local
 free : ∀ y ∈ scope.names, y.2 = .free → X.env.kindOf y.1 = some .cell ∨ X.env.kindOf y.1 = some .free
 len : NB.length = n + fr.length
 own : ∀ (j k : Nat), fr[j]? = some k → ∃ x, NB[n + j]? = some x ∧ X.N[k]? = some x ∧ scope.names.lookup x = some .free
theorem j8j {pins : List (Addr × Obj)} {σ : St} {H : Hp} {s : Shared} {fp : List Addr} {C : Addr} (O : CompOk X scope NB n fr) (I : Inv X pins σ H s) (hf : ∀ b ∈ fp, j0b X pins H b) (hfl : ∀ b ∈ fp, b < s.heap.objs.size) (hC : s.heap.objs.size ≤ C) :
  (cxB X NB scope (clo X.env.cells scope.names []) C fp s H).Ok where
 mod := I.ok.mod
 kind := O.kind
 glob := I.ok.glob
 blt := I.ok.blt
 above := hC
 inj := fun x y c h1 h2 => by
  have e1 := (x4i scope.names [] h1).resolve_right (by intro z; cases z)
  have e2 := (x4i scope.names [] h2).resolve_right (by intro z; cases z)
  exact I.ok.inj x y c e1 e2
 has := fun x hx => by
  have hx' : (relabel scope X.env).names.lookup x = some .cell ∨ (relabel scope X.env).names.lookup x = some .free := hx
  have hfree : scope.names.lookup x = some .free := by
   have r := @j8k X.env x scope.names
   rcases r with r | r
   ·have hx2 : scope.names.lookup x = some .cell ∨ scope.names.lookup x = some .free := by rw [← r]; exact hx'
    rcases hx2 with e | e
    ·exact absurd rfl (O.nocell _ (q7d e))
    ·exact e
   ·exact r.1
  have hm := q7d hfree
  obtain ⟨c, hc⟩ := I.ok.has x (O.free _ hm rfl)
  exact ⟨c, z8u hc scope.names [] (.inl hm)⟩
 cab := fun x c h => nomatch h
 hd := fun h => I.ok.hd h
 frames := I.ok.frames
 stk := .inl rfl
 exf := fun b hb => ⟨Nat.ne_of_lt (Nat.lt_of_lt_of_le (hfl b hb) hC), fun x c h => by
  have e1 := (x4i scope.names [] h).resolve_right (by intro z; cases z)
  exact (hf b hb).2.2.2.2.1 x c e1⟩
 bs := I.bs
 bsz := Nat.le_trans I.ok.bsz I.sz
 noex := fun b o e hb => by
  rcases (hf b hb).2.2.2.1 with z | z
  ·exact I.ok.noex b o e z
  ·exact absurd (Nat.lt_of_lt_of_le (Heap.lt_size e) (Nat.le_trans I.ok.bsz z)) (Nat.lt_irrefl _)
 exfs := fun b hb z => by
  rcases List.mem_cons.mp (I.stkSub b z) with e | e
  ·exact (hf b hb).2.1 e
  ·exact (hf b hb).2.2.1 e
 funs := I.stack
 frf := I.stkFree
theorem Inv.but {pins : List (Addr × Obj)} {σ : St} {H : Hp} {s : Shared} {C : Addr} {h' : Heap} (I : Inv X pins σ H s) (hC : X.s₀.heap.objs.size ≤ C) (hH : H C = none) (hL : C ≠ X.env.locals) (hcl : ∀ x c, X.env.cells.lookup x = some c → c ≠ C) (hpn : ∀ p ∈ X.pn ++ pins, p.1 ≠ C) (sb : Heap.SameBut C s.heap h') :
  Inv X pins σ H { s with heap := h' } := by
 refine I.call' (s' := { s with heap := h' }) (ch := [C]) rfl ?_ (HOk.but I.hok hH fun b o hb e => sb.extBut b o hb e) I.bare (fun b hb => ?_)
 ·have ne : ∀ {b : Addr}, b ∉ [C] → b ≠ C := fun {b} h z => h (by rw [z]; exact List.mem_cons_self)
  exact ⟨fun b o e _ _ hx => sb.extBut b o (ne hx) e, fun b o e _ _ hx => ⟨o.slots, sb.extBut b o (ne hx) e⟩, fun _ _ _ n _ => n, fun b o e hx => ⟨o, sb.extBut b o (ne hx) e⟩, fun _ _ q => q, fun _ _ _ q => q, fun _ ps q => ⟨#[], by rw [q]; simp⟩⟩
 ·have e : b = C := by simpa using hb
  subst e
  exact ⟨.inr hC, hL, hcl, hpn⟩
theorem x8h {use : Option (Value → Sem Unit)} {QQ : Value → Shared → Prop} {pins : List (Addr × Obj)} {s : Shared} {σ : St} {H : Hp} {Q : VK} {pos2 : Pos} (O : CompOk X scope NB n fr) (hc : X.calm = true) (hi : PI X tg iter wi)
  (hg : ∀ cl C fp s H, PG (cxB X NB scope cl C fp s H) tg g) (ht : ∀ cl C fp s H, j7m (cxB X NB scope cl C fp s H) ifs tt) (he : ∀ cl C fp s H, PE (cxB X NB scope cl C fp s H) elt te)
  (hs : ∀ x, foldedSetIterable iter X.env x = pure x) (I : Inv X pins σ H s) (h : j6t n fr wi g tt te σ H Q)
  (fin0 : ∀ (D C : Addr) (H' : Hp) (s' : Shared) (m : Str → Option Value), s'.heap.Ns C m → Inv X pins σ H' s' → X.s₀.heap.objs.size ≤ C → H' C = none → C ≠ X.env.locals → (∀ x c, X.env.cells.lookup x = some c → c ≠ C) → (∀ p ∈ X.pn ++ pins, p.1 ≠ C) → Q (.ref D) H' →
   compPost (model X.prog X.w) X.A X.xe use QQ (.ref D) C (.ok .next) s') :
  wpAny (model X.prog X.w) X.A (comprehension (.ListComp elt [⟨tg, iter, ifs, 0⟩] scope pos) scope X.env pos2 (newList []) false (eval iter X.env) use) QQ X.xe s := by
 have hcl : closureFor scope X.env = pure (clo X.env.cells scope.names []) := j6z fun p hp hk => I.ok.has p.1 (O.free p hp hk)
 refine wpAny_comprehension_free (use := use) rfl hs hcl O.kind O.names (thn (hi pins s σ H _ I h) fun v s1 h1 => thn h1 fun itv s2 h2 => ?_)
 obtain ⟨it, fp, tn, J, H2, e, I2, T, st2, f2, R⟩ := h2
 subst e
 have fpl : ∀ b ∈ fp, b < s2.heap.objs.size := fun b hb => by
  obtain ⟨o, ho, _⟩ := T.obj 0 _ st2 b hb
  exact Heap.lt_size ho
 refine wpAny_newObj_type (wpAny_newFunctionEnv O.nocell (fun y hy => absurd hy (by simp)) (fun h1 ns1 sb1 => ?_) O.kind)
 dsimp only at ns1 sb1 ⊢
 generalize hD2 : s2.heap.push { cls := .type "list", dict := none, data := .seq ([] : List Value).toArray } = hp2 at ns1 sb1 ⊢
 have zC : hp2.objs.size = s2.heap.objs.size + 1 := by rw [← hD2, Heap.size_push]
 have kept : ∀ b o, s2.heap.get? b = some o → h1.get? b = some o := fun b o q => by
  have lt := Heap.lt_size q
  refine sb1.extBut b o (by rw [zC]; exact Nat.ne_of_lt (Nat.lt_succ_of_lt lt)) (Heap.get?_push_of_some _ ?_)
  rw [← hD2]
  exact Heap.get?_push_of_some _ q
 have gD : h1.get? s2.heap.objs.size = some { cls := .type "list", data := .seq ([] : List Value).toArray 0 } := by
  refine sb1.extBut _ _ (by rw [zC]; exact Nat.ne_of_lt (Nat.lt_succ_self _)) (Heap.get?_push_of_some _ ?_)
  rw [← hD2]
  exact Heap.get?_push_size _ rfl
 generalize hD : s2.heap.objs.size = D at *
 have fD : H2 D = none := I2.hok.fresh (Nat.le_of_eq hD)
 have fC : H2 hp2.objs.size = none := I2.hok.fresh (by rw [hD, zC]; exact Nat.le_succ _)
 have nCD : hp2.objs.size ≠ D := by rw [zC]; exact Nat.succ_ne_self _
 have hCle : s2.heap.objs.size ≤ hp2.objs.size := by rw [hD, zC]; exact Nat.le_succ _
 have ok := j8j (C := hp2.objs.size) O I2 f2 (fun b hb => by rw [hD]; exact fpl b hb) hCle
 obtain ⟨W, ⟨m0, w0⟩, turn⟩ := R D fD
 generalize hY : cxB X NB scope (clo X.env.cells scope.names []) hp2.objs.size fp s2 H2 = Y at ok
 have eY : Y.env = compEnvC scope (clo X.env.cells scope.names []) hp2.objs.size X.env := by rw [← hY]; rfl
 have I0 : Inv Y [] (List.replicate n none ++ fr.map fun k => (σ[k]?).join) (upd H2 D (.lst [])) { s2 with heap := h1, toks := s2.toks + ([] : List (Str × Value)).length } := by
  subst hY
  refine ⟨ok, rfl, I2.bare, Un.laid kept (Nat.le_of_eq hD) fD, ⟨_, ns1, fun i x v e1 e2 e3 => ?_⟩, fun x c h => ?_, ?_, fun x c h => ?_, fun p hp => absurd (show p ∈ ([] : List (Addr × Obj)) from hp) (by simp), ?_, ?_⟩
  ·have hin : n ≤ i := by
    refine Nat.le_of_not_lt fun z => ?_
    rw [List.getElem?_append_left (by simpa using z), List.getElem?_replicate] at e2
    split at e2 <;> cases e2
   obtain ⟨j, rfl⟩ := Nat.exists_eq_add_of_le hin
   rw [List.getElem?_append_right (by simp)] at e2
   simp only [List.length_replicate, Nat.add_sub_cancel_left, List.getElem?_map] at e2
   cases hk : fr[j]? with
   | none => rw [hk] at e2; cases e2
   | some k =>
    rw [hk] at e2
    obtain ⟨x', n1, n2, n3⟩ := O.own j k hk
    have e1' : NB[n + j]? = some x := e1
    rw [n1] at e1'
    cases e1'
    have e4 : (σ[k]?).join = some v := Option.some.inj e2
    have e5 : σ[k]? = some (some v) := by
     cases q : σ[k]? with
     | none => rw [q] at e4; cases e4
     | some z => rw [q] at e4; exact congrArg some e4
    have hm := q7d n3
    have kd := O.free _ hm rfl
    obtain ⟨m, hn, hl⟩ := I2.loc
    obtain ⟨u, ru, lk⟩ := hl k x v n2 e5 (by rcases kd with z | z; exact .inr (.inl z); exact .inr (.inr z))
    refine ⟨u, ru, .inr ⟨?_, ?_⟩⟩
    ·show (relabel scope X.env).names.lookup x = some .cell ∨ (relabel scope X.env).names.lookup x = some .free
     rcases @j8k X.env x scope.names with r | r
     ·exact .inr (Eq.trans r n3)
     ·exact .inl r.2
    ·rcases lk with ⟨z, _⟩ | ⟨_, c, hc1, hc2⟩
     ·rcases kd with q | q <;> (rw [z] at q; cases q)
     ·refine ⟨c, z8u hc1 scope.names [] (.inl hm), ?_⟩
      obtain ⟨o, ho, hd⟩ := hc2
      exact ⟨o, kept c o ho, hd⟩
  ·have e1 := (x4i scope.names [] (show (clo X.env.cells scope.names []).lookup x = some c from h)).resolve_right (by intro z; cases z)
   obtain ⟨v, o, ho, hd⟩ := I2.cell x c e1
   exact ⟨v, o, kept c o ho, hd⟩
  ·show upd H2 D (.lst []) hp2.objs.size = none
   rw [q1b nCD]; exact fC
  ·have e1 := (x4i scope.names [] (show (clo X.env.cells scope.names []).lookup x = some c from h)).resolve_right (by intro z; cases z)
   obtain ⟨v, o, ho, hd⟩ := I2.cell x c e1
   rw [q1b (by rw [← hD]; exact Nat.ne_of_lt (Heap.lt_size ho))]
   exact I2.freeC x c e1
  ·exact I2.hok.laid kept (Nat.le_of_eq hD) ⟨by simp, [], 0, .nil, gD⟩
  ·show _ = NB.length
   rw [O.len]; simp
 have fY : ∀ {H' : Hp}, (∀ b ∈ fp, H' b = none) → ∀ b ∈ fp, j0b Y [] H' b := fun {H'} hn b hb => by
  subst hY
  refine ⟨hn b hb, (ok.exf b hb).1, ok.exfs b hb, .inl hb, fun x c z => (ok.exf b hb).2 x c z, fun p hp => absurd (show p ∈ ([] : List (Addr × Obj)) from hp) (by simp)⟩
 have pY : Y.prog = X.prog ∧ Y.w = X.w ∧ Y.K = X.K ∧ Y.A = X.A ∧ Y.calm = true ∧ Y.xe = fun _ _ => False := by subst hY; exact ⟨rfl, rfl, rfl, rfl, hc, rfl⟩
 obtain ⟨p1, p2, p3, p4, p5, p6⟩ := pY
 have fin : ∀ {σ' : St} {H' : Hp} {s' : Shared}, Inv Y [] σ' H' s' → Q (.ref D) H' → compPost (model X.prog X.w) X.A X.xe use QQ (.ref D) hp2.objs.size (.ok .next) s' := fun {σ' H' s'} J' q => by
  subst hY
  obtain ⟨m, hn, _⟩ := J'.loc
  have fr' : H' hp2.objs.size = none := J'.free
  have neC : ∀ b o, s2.heap.get? b = some o → b ≠ hp2.objs.size := fun b o e => Nat.ne_of_lt (Nat.lt_of_lt_of_le (Heap.lt_size e) hCle)
  have J : Inv X pins σ H' s' := I2.call' (s' := s') J'.os J'.base J'.hok J'.bare fun b hb => by
   obtain ⟨_, a2, _, a4, a5, a6⟩ := f2 b hb
   exact ⟨a4, a2, a5, a6⟩
  refine fin0 D _ H' s' m hn J (Nat.le_trans I2.sz hCle) fr' (Ne.symm (Nat.ne_of_lt (Nat.lt_of_lt_of_le I2.lt hCle))) (fun x c e => ?_) (fun p hp => ?_) q
  ·obtain ⟨v, o, ho, _⟩ := I2.cell x c e
   exact neC c o ho
  ·exact neC _ _ (I2.pin p hp).1
 have st0 : tn 0 h1 := T.keep 0 _ _ st2 fun b hb o q => kept b o q
 have fp0 : ∀ b ∈ fp, upd H2 D (.lst []) b = none := fun b hb => by
  rw [q1b (Nat.ne_of_lt (fpl b hb))]; exact (f2 b hb).1
 have loop : ∀ s3 : Shared, s3 = { s2 with heap := h1, toks := s2.toks + ([] : List (Str × Value)).length } →
   codeAny (model X.prog X.w) X.A (.compLoop (.ListComp elt [⟨tg, iter, ifs, 0⟩] scope pos) 0 (.ref it) (.ref D) (compEnvC scope (clo X.env.cells scope.names []) hp2.objs.size X.env))
    (compPost (model X.prog X.w) X.A X.xe use QQ (.ref D) hp2.objs.size) s3 := by
  rintro s3 rfl
  refine z6v (fun k s' => ∃ i ys σ' H', Inv Y [] σ' H' s' ∧ tn i s'.heap ∧ (∀ b ∈ fp, H' b = none) ∧ H' D = some (.lst ys) ∧ W i k ys σ' H') ?_ m0 ⟨0, [], _, _, I0, st0, fp0, q0g, w0⟩
  rintro k s4 ⟨i, ys, σ4, H4, I4, t4, fr4, d4, w4⟩
  have hgY : PG Y tg g := by subst hY; exact hg _ _ _ _ _
  have htY : j7m Y ifs tt := by subst hY; exact ht _ _ _ _ _
  have heY : PE Y elt te := by subst hY; exact he _ _ _ _ _
  rcases turn i k ys σ4 H4 w4 d4 with ⟨stop, q⟩ | ⟨go, hlen, step⟩
  ·have z := T.done Y p1 p2 p3 p5 i [] s4 σ4 H4 (fun _ _ => False) I4 (fY fr4) t4 stop
   rw [p4] at z
   exact thn z fun r s5 ⟨hr, I5⟩ => .inl ⟨hr, fin I5 q⟩
  ·have z := T.item Y p1 p2 p3 p5 i [] s4 σ4 H4 (fun _ _ => False) I4 (fY fr4) t4 go
   rw [p4] at z
   refine thn z fun r s5 ⟨u, hr, h5⟩ => .inr ⟨u, hr, thn h5 fun _ s6 ⟨x, H6, I6, r6, y6, t6, fr6⟩ => ?_⟩
   have I6' := I6.pinned (fY fr6) (T.obj _ _ t6)
   have back : ∀ {σ7 : St} {H7 : Hp} {s7 : Shared}, Inv Y ([] ++ x8a fp s6.heap) σ7 H7 s7 → Inv Y [] σ7 H7 s7 ∧ tn (i + 1) s7.heap ∧ ∀ b ∈ fp, H7 b = none := fun {σ7 H7 s7} I7 => by
    refine ⟨I7.unpinned, T.keep _ _ _ t6 fun b hb o e => (I7.pin (b, o) (List.mem_append_right _ (List.mem_append_right _ (q9v hb e)))).1, fun b hb => ?_⟩
    obtain ⟨o, e, _⟩ := T.obj _ _ t6 b hb
    exact (I7.pin (b, o) (List.mem_append_right _ (List.mem_append_right _ (q9v hb e)))).2.1
   have a7 := hgY _ s6 σ4 H6 x u _ I6' r6 (step x H6 y6)
   rw [p1, p2, p4, p6, eY] at a7
   refine thn a7 fun _ s7 ⟨σ7, H7, I7, q7⟩ => ?_
   have a8 := htY _ s7 σ7 H7 _ I7 q7
   rw [p1, p2, p4, p6, eY] at a8
   refine thn a8 fun b s8 ⟨H8, I8, q8⟩ => ?_
   cases b with
   | false =>
    obtain ⟨d8, m', hm, w8⟩ := q8
    rw [if_neg Bool.false_ne_true]
    obtain ⟨b1, b2, b3⟩ := back I8
    exact ⟨m', hm, i + 1, ys, σ7, H8, b1, b2, b3, d8, w8⟩
   | true =>
    rw [if_pos rfl]
    have a9 := heY _ s8 σ7 H8 _ I8 q8
    rw [p1, p2, p4, p6, eY] at a9
    refine thn a9 fun uv s9 ⟨v, H9, I9, r9, d9, m', hm, w9⟩ => ?_
    have a10 := q9i (X := Y) _ s9 σ7 H9 (.ref D) [v] (.ref D) [uv] (fun x H' => H' = upd H9 D (.lst (ys ++ [v]))) I9 rfl (.cons r9 .nil) ⟨D, ys, v, rfl, rfl, d9, hlen, rfl⟩
    rw [p1, p2, p4, p6] at a10
    refine thn a10 fun _ s10 ⟨_, H10, I10, _, e10⟩ => ?_
    subst e10
    obtain ⟨b1, b2, b3⟩ := back I10
    exact ⟨m', hm, i + 1, _, σ7, _, b1, b2, b3, q0g, w9⟩
 refine codeAny_compStart_list (loop _ rfl) ?_
 exact T.self _ 0 _ _ _ st0 (loop _ rfl)
theorem q3f (O : CompOk X scope NB n fr) (hc : X.calm = true) (hi : PI X tg iter wi)
  (hg : ∀ cl C fp s H, PG (cxB X NB scope cl C fp s H) tg g) (ht : ∀ cl C fp s H, j7m (cxB X NB scope cl C fp s H) ifs tt) (he : ∀ cl C fp s H, PE (cxB X NB scope cl C fp s H) elt te)
  (hs : ∀ x, foldedSetIterable iter X.env x = pure x := by intro _; rfl) : PE X (.ListComp elt [⟨tg, iter, ifs, 0⟩] scope pos) (j6t n fr wi g tt te) := by
 intro pins s σ H Q I h
 rw [eval_ListComp]
 exact x8h (QQ := EP X pins σ Q) O hc hi hg ht he hs I h fun D C H' s' m hn J h1 h2 h3 h4 h5 q => ⟨m, hn, fun h' sb => ⟨.ref D, H', J.but h1 h2 h3 h4 h5 sb, rfl, q⟩⟩
theorem z0y {i : Nat} {x : Str} {py spos : Pos} (hN : X.N.Nodup) (hi1 : X.N[i]? = some x) (hx : Loc X.env.scope x) (O : CompOk X scope NB n fr) (hc : X.calm = true) (hi : PI X tg iter wi)
  (hg : ∀ cl C fp s H, PG (cxB X NB scope cl C fp s H) tg g) (ht : ∀ cl C fp s H, j7m (cxB X NB scope cl C fp s H) ifs tt) (he : ∀ cl C fp s H, PE (cxB X NB scope cl C fp s H) elt te)
  (hs : ∀ x, foldedSetIterable iter X.env x = pure x := by intro _; rfl) (hsw : swapsWith (.ListComp elt [⟨tg, iter, ifs, 0⟩] scope pos) (some (.Name x py)) spos.line X.env = pure true := by rfl)
  (hf : X.fn x = true ∨ X.env.scope.names.lookup x = some .local := by first | exact .inl rfl | exact .inr rfl | assumption) :
  PS X (.Assign [.Name x py] (.ListComp elt [⟨tg, iter, ifs, 0⟩] scope pos) spos) (j9y (j6t n fr wi g tt te) (z6s i)) := by
 intro pins s σ H D I h
 rw [exec_Assign_Name_used _ _ _ _ hsw]
 refine wpAny_bind (wpAny_standAt (wpAny_bind ?_))
 show wpAny _ X.A (do let _ ← comprehension (.ListComp elt [⟨tg, iter, ifs, 0⟩] scope pos) scope X.env _ (newList []) false (eval iter X.env) (some (assign (.Name x py) X.env))) _ _ s
 refine wpAny_bind (wpAny_mono (x8h (QQ := fun _ s' => SP X pins D .next s') (use := some (assign (.Name x py) X.env)) O hc hi hg ht he hs I h fun D1 C H' s' m hn J h1 h2 h3 h4 h5 q => ?_) (fun _ s' hq => wpAny_pure (wpAny_pure hq)) fun _ _ e => e)
 show wpAny _ X.A (assign (.Name x py) X.env (.ref D1)) _ _ _
 refine wpAny_assign_Name (x9t (v := .ref D1) J hN hi1 hx rfl (fun s2 J2 ⟨a, sb, ha⟩ => ?_) hf)
 refine ⟨m, hn.sameBut sb ?_, fun h' sb2 => ⟨_, H', J2.but h1 h2 h3 h4 h5 sb2, q⟩⟩
 rcases ha with e | e
 ·rw [e]; exact h3
 ·exact Ne.symm (h4 _ _ e)
end
noncomputable def Src (t : Bool) (h : Heap) (it l : Addr) (xs : Array Value) (k : Nat) : Prop := match t with
 | true => h.IsTupleIter it l k ∧ h.IsTuple l xs
 | false => h.IsListIter it l k ∧ h.IsList l xs
theorem Src.keep {t : Bool} {h h' : Heap} {it l : Addr} {xs : Array Value} {k : Nat} (x : Src t h it l xs k) (a : ∀ o, h.get? it = some o → h'.get? it = some o) (b : ∀ o, h.get? l = some o → h'.get? l = some o) : Src t h' it l xs k := by
 cases t with
 | true => obtain ⟨⟨o, h1, r1⟩, ⟨o2, h2, r2⟩⟩ := x; exact ⟨⟨o, a o h1, r1⟩, ⟨o2, b o2 h2, r2⟩⟩
 | false => obtain ⟨⟨o, h1, r1⟩, ⟨o2, h2, r2⟩⟩ := x; exact ⟨⟨o, a o h1, r1⟩, ⟨o2, b o2 h2, r2⟩⟩
section
variable {prog : Program} {w : World} {A : Around} {E : Value → Shared → Prop} {st : Shared}
theorem j0g {it l : Addr} {i : Nat} {its : Array Value} {x : Value} {Q : Value → Shared → Prop} (hit : st.heap.IsTupleIter it l i) (hl : st.heap.IsTuple l its) (hx : its[i]? = some x)
  (hQ : ∀ h', h'.IsTupleIter it l (i + 1) → Heap.SameBut it st.heap h' → Q x { st with heap := h' }) : wpAny (model prog w) A (Builtin.SmallTypes.nextOf (.ref it)) Q E st := by
 obtain ⟨o, ho, hc, hd⟩ := id hit
 obtain ⟨o2, ho2, _, n2, hd2⟩ := hl
 unfold Builtin.SmallTypes.nextOf
 refine wpAny_bind (wpAny_callSpecial?_slot (name := Str.ofString "__next__") hit.typeIs F.slot_tuple_iterator_next (wpAny_call_entry F.slot_tuple_iterator_next hit.typeIs F.entry_tuple_iterator_next ?_ (F.args_tuple_iterator_next_1 _)))
 show wpAny _ A.in1 (field (.ref it) 0 >>= _) _ _ st
 refine wpAny_bind (wpAny_field ho hd (x := .ref l) rfl ?_)
 show wpAny _ A.in1 (if (Value.ref l == Value.none) = true then _ else _) _ _ st
 rw [if_neg (fun z : (Value.ref l == Value.none) = true => Bool.false_ne_true z)]
 show wpAny _ A.in1 (field (.ref it) 1 >>= _) _ _ st
 refine wpAny_bind (wpAny_field (x := .int i 0) ho hd rfl ?_)
 show wpAny _ A.in1 (seqItems? (.ref l) >>= _) _ _ st
 refine wpAny_bind (wpAny_seqItems ho2 hd2 ?_)
 simp only [Int.toNat_natCast, hx]
 refine wpAny_bind (wpAny_setField ho hd (by simp) (wpAny_pure ⟨x, rfl, wpAny_pure (hQ _ ⟨_, Heap.get?_update_self _ ho (Obj.isFreed_of_fields (Obj.data_mapFields hd _)), (Obj.cls_mapFields ..).trans hc, ?_⟩ (Heap.SameBut.update ..))⟩))
 rw [Obj.data_mapFields hd]; simp [rawInt]
theorem x8b {it l : Addr} {i : Nat} {its : Array Value} {Q : Value → Shared → Prop} (hh : A.handled = none) (hit : st.heap.IsTupleIter it l i) (hl : st.heap.IsTuple l its) (hx : its[i]? = none)
  (hE : ∀ h' e, Heap.ExtBut it st.heap h' → (∃ o, h'.get? e = some o ∧ o.cls = .type "StopIteration") → E (.ref e) { st with heap := h' }) : wpAny (model prog w) A (Builtin.SmallTypes.nextOf (.ref it)) Q E st := by
 obtain ⟨o, ho, hc, hd⟩ := id hit
 obtain ⟨o2, ho2, _, n2, hd2⟩ := hl
 unfold Builtin.SmallTypes.nextOf
 refine wpAny_bind (wpAny_callSpecial?_slot (name := Str.ofString "__next__") hit.typeIs F.slot_tuple_iterator_next (wpAny_call_entry F.slot_tuple_iterator_next hit.typeIs F.entry_tuple_iterator_next ?_ (F.args_tuple_iterator_next_1 _)))
 show wpAny _ A.in1 (field (.ref it) 0 >>= _) _ _ st
 refine wpAny_bind (wpAny_field ho hd (x := .ref l) rfl ?_)
 show wpAny _ A.in1 (if (Value.ref l == Value.none) = true then _ else _) _ _ st
 rw [if_neg (fun z : (Value.ref l == Value.none) = true => Bool.false_ne_true z)]
 show wpAny _ A.in1 (field (.ref it) 1 >>= _) _ _ st
 refine wpAny_bind (wpAny_field (x := .int i 0) ho hd rfl ?_)
 show wpAny _ A.in1 (seqItems? (.ref l) >>= _) _ _ st
 refine wpAny_bind (wpAny_seqItems ho2 hd2 ?_)
 simp only [Int.toNat_natCast, hx]
 refine wpAny_bind (wpAny_rule (wpAny_bind (wpAny_setField ho hd (by simp) (wpAny_bind ?_))))
 show wpAny _ A.in1 (newExc (.type "StopIteration") []) _ _ _
 simp only [newTuple, newExc]
 refine wpAny_bind (wpAny_newObj_type (wpAny_bind (m := firstArgMember _ _) (wpAny_of_eq (a := Value.none) (by first | rfl | (simp only [firstArgMember]; rfl)) (wpAny_newObj_type ?_ (by size_fits)))) (by size_fits))
 simp only [raiseNew]
 refine wpAny_bind (wpAny_handled ?_)
 first | rw [hh] | rw [show A.in1.handled = none from hh]
 exact wpAny_bind (wpAny_pure (wpAny_throw (hE _ _ (((Heap.SameBut.update ..).extBut.push _).push _) ⟨_, Heap.get?_push_size _ rfl, rfl⟩)))
theorem Src.draw {t : Bool} {it l : Addr} {i : Nat} {its : Array Value} {x : Value} {Q : Value → Shared → Prop} (S : Src t st.heap it l its i) (hne : l ≠ it) (hx : its[i]? = some x)
  (hQ : ∀ h', Src t h' it l its (i + 1) → Heap.SameBut it st.heap h' → Q x { st with heap := h' }) : wpAny (model prog w) A (Builtin.SmallTypes.nextOf (.ref it)) Q E st := by
 cases t with
 | true => exact j0g S.1 S.2 hx fun h' a b => hQ h' ⟨a, S.2.extBut b.extBut hne⟩ b
 | false => exact wpAny_nextOf_list_item S.1 S.2 hx fun h' a b => hQ h' ⟨a, S.2.extBut b.extBut hne⟩ b
theorem Src.none {t : Bool} {it l : Addr} {i : Nat} {its : Array Value} {Q : Value → Shared → Prop} (hh : A.handled = none) (S : Src t st.heap it l its i) (hx : its[i]? = none)
  (hE : ∀ h' e, Heap.ExtBut it st.heap h' → (∃ o, h'.get? e = some o ∧ o.cls = .type "StopIteration") → E (.ref e) { st with heap := h' }) : wpAny (model prog w) A (Builtin.SmallTypes.nextOf (.ref it)) Q E st := by
 cases t with
 | true => exact x8b hh S.1 S.2 hx hE
 | false => exact wpAny_nextOf_list_end hh S.1 S.2 hx hE
structure Apart (z TI TO i1 i2 l1 l2 : Addr) : Prop where
 a : TI ≠ z ∧ TO ≠ z ∧ i1 ≠ z ∧ i2 ≠ z
 b : TI ≠ TO ∧ TI ≠ i1 ∧ TI ≠ i2 ∧ TO ≠ i1 ∧ TO ≠ i2 ∧ i1 ≠ i2
 c : l1 ≠ z ∧ l1 ≠ TO ∧ l1 ≠ i1 ∧ l1 ≠ i2
 d : l2 ≠ z ∧ l2 ≠ TO ∧ l2 ≠ i1 ∧ l2 ≠ i2
theorem j2b {z TI TO i1 i2 l1 l2 : Addr} {t1 t2 : Bool} {k : Nat} {xs ys : Array Value} {x y a b : Value} {Q : Value → Shared → Prop} (D : Apart z TI TO i1 i2 l1 l2)
  (hz : IsZip st.heap z TI TO .none) (hTI : IsPair st.heap TI (.ref i1) (.ref i2)) (hTO : IsPair st.heap TO a b)
  (h1 : Src t1 st.heap i1 l1 xs k) (h2 : Src t2 st.heap i2 l2 ys k) (hx : xs[k]? = some x) (hy : ys[k]? = some y)
  (hQ : ∀ h', IsZip h' z TI TO (rawInt st.heap.objs.size) → IsPair h' TO x y → Src t1 h' i1 l1 xs (k + 1) → Src t2 h' i2 l2 ys (k + 1) → IsPair h' st.heap.objs.size x y →
   (∀ c o, c ≠ z → c ≠ TO → c ≠ i1 → c ≠ i2 → st.heap.get? c = some o → h'.get? c = some o) → Q (.ref st.heap.objs.size) { st with heap := h' }) :
  wpAny (model prog w) A (Builtin.«zip.__next__» ⟨[.ref z], []⟩) (fun fin s' => ∃ v, fin = .done (.ret v) ∧ Q v s') E st := by
 obtain ⟨⟨d1, d2, d3, d4⟩, ⟨d5, d6, d7, d8, d9, d10⟩, ⟨d11, d12, d13, d14⟩, ⟨d15, d16, d17, d18⟩⟩ := D
 show wpAny _ A (field (.ref z) 2 >>= _) _ _ st
 refine wpAny_bind (wpAny_field (x := .bool false) hz rfl rfl ?_)
 show wpAny _ A (field (.ref z) 3 >>= _) _ _ st
 refine wpAny_bind (wpAny_field (x := .ref TI) hz rfl rfl (wpAny_bind (wpAny_seqItems hTI rfl ?_)))
 show wpAny _ A (Builtin.SmallTypes.ownedTupleIsFree (.ref z) >>= _) _ _ st
 refine wpAny_bind ?_
 unfold Builtin.SmallTypes.ownedTupleIsFree
 refine wpAny_bind (wpAny_field (x := .none) hz rfl rfl (wpAny_pure ?_))
 simp only [if_true]
 refine wpAny_bind (wpAny_rule (wpAny_bind (wpAny_field (x := .ref TO) hz rfl rfl (wpAny_bind (wpAny_setField_rec hz (by simp) fun g1 z1 b1 => ?_)))))
 replace z1 : IsZip g1 z TI TO .ellipsis := z1
 refine wpAny_bind ?_
 simp only [List.zipIdx_nil, List.zipIdx_cons, List.forIn_nil, List.forIn_cons]
 refine wpAny_bind (wpAny_bind (wpAny_onRaise ?_))
 show wpAny _ A (Builtin.SmallTypes.nextOf (.ref i1) >>= _) _ _ _
 have s1 : Src t1 g1 i1 l1 xs k := h1.keep (fun o e => b1.extBut _ o d3 e) (fun o e => b1.extBut _ o d11 e)
 refine wpAny_bind (Src.draw (st := { st with heap := g1 }) s1 d13 hx fun g2 s2 b2 => wpAny_pure ?_)
 have p2 : IsPair g2 TO a b := b2.extBut _ _ d8 (b1.extBut _ _ d2 hTO)
 refine wpAny_bind (wpAny_seqItems p2 rfl (wpAny_bind (wpAny_updateSeq_pair p2 fun g3 p3 b3 => ?_)))
 replace p3 : IsPair g3 TO x b := p3
 refine wpAny_bind (wpAny_letGo (wpAny_pure ?_))
 refine wpAny_bind (wpAny_bind (wpAny_onRaise ?_))
 show wpAny _ A (Builtin.SmallTypes.nextOf (.ref i2) >>= _) _ _ _
 have s3 : Src t2 g3 i2 l2 ys k := h2.keep (fun o e => b3.extBut _ o d9.symm (b2.extBut _ o d10.symm (b1.extBut _ o d4 e))) (fun o e => b3.extBut _ o d16 (b2.extBut _ o d17 (b1.extBut _ o d15 e)))
 refine wpAny_bind (Src.draw (st := { st with heap := g3 }) s3 d18 hy fun g4 s4 b4 => wpAny_pure ?_)
 have p4 : IsPair g4 TO x b := b4.extBut _ _ d9 p3
 refine wpAny_bind (wpAny_seqItems p4 rfl (wpAny_bind (wpAny_updateSeq_pair p4 fun g5 p5 b5 => ?_)))
 replace p5 : IsPair g5 TO x y := p5
 refine wpAny_bind (wpAny_letGo (wpAny_pure (wpAny_pure ?_)))
 refine wpAny_bind (wpAny_seqItems p5 rfl (wpAny_bind (wpAny_newTuple ?_)))
 have sz : g5.objs.size = st.heap.objs.size := by rw [b5.1, b4.1, b3.1, b2.1, b1.1]
 have z5 : IsZip g5 z TI TO .ellipsis := b5.extBut _ _ d2.symm (b4.extBut _ _ d4.symm (b3.extBut _ _ d2.symm (b2.extBut _ _ d3.symm z1)))
 have kp : ∀ c o, c ≠ z → c ≠ TO → c ≠ i1 → c ≠ i2 → st.heap.get? c = some o → g5.get? c = some o := fun c o c1 c2 c3 c4 e => b5.extBut _ _ c2 (b4.extBut _ _ c4 (b3.extBut _ _ c2 (b2.extBut _ _ c3 (b1.extBut _ _ c1 e))))
 have s5 : Src t1 g5 i1 l1 xs (k + 1) := s2.keep (fun o e => b5.extBut _ o d8.symm (b4.extBut _ o d10 (b3.extBut _ o d8.symm e))) (fun o e => b5.extBut _ o d12 (b4.extBut _ o d14 (b3.extBut _ o d12 e)))
 have r5 : Src t2 g5 i2 l2 ys (k + 1) := s4.keep (fun o e => b5.extBut _ o d9.symm e) (fun o e => b5.extBut _ o d16 e)
 have zlt : z < g5.objs.size := Heap.lt_size z5
 show wpAny _ A (Builtin.SmallTypes.ownedTupleHandOut (.ref z) (.ref g5.objs.size) >>= _) _ _ _
 refine wpAny_bind ?_
 unfold Builtin.SmallTypes.ownedTupleHandOut
 have z6 : IsZip (g5.push { cls := .type "tuple", data := .seq #[x, y] }) z TI TO .ellipsis := Heap.get?_push_of_some _ z5
 refine wpAny_bind (wpAny_setField_rec z6 (by simp) fun g7 z7 b7 => ?_)
 replace z7 : IsZip g7 z TI TO (rawInt g5.objs.size) := z7
 refine wpAny_setField_rec z7 (by simp) fun g8 z8 b8 => ?_
 replace z8 : IsZip g8 z TI TO (rawInt g5.objs.size) := z8
 have up : ∀ c o, c ≠ z → g5.get? c = some o → g8.get? c = some o := fun c o c1 e => b8.extBut _ _ c1 (b7.extBut _ _ c1 (Heap.get?_push_of_some _ e))
 have t8 : IsPair g8 g5.objs.size x y := b8.extBut _ _ (Nat.ne_of_gt zlt) (b7.extBut _ _ (Nat.ne_of_gt zlt) (Heap.get?_push_size _ rfl))
 rw [sz] at z8 t8
 refine wpAny_pure ⟨_, rfl, ?_⟩
 show Q (.ref g5.objs.size) _
 rw [sz]
 exact hQ g8 z8 (up _ _ d2 p5) (s5.keep (fun o e => up _ o d3 e) fun o e => up _ o d11 e) (r5.keep (fun o e => up _ o d4 e) fun o e => up _ o d15 e) t8 fun c o c1 c2 c3 c4 e => up c o c1 (kp c o c1 c2 c3 c4 e)
theorem j7d {z TI TO i1 i2 l1 l2 : Addr} {t1 t2 : Bool} {k : Nat} {xs ys : Array Value} {a b : Value} {Q : Fin → Shared → Prop} (hh : A.handled = none) (D : Apart z TI TO i1 i2 l1 l2)
  (hz : IsZip st.heap z TI TO .none) (hTI : IsPair st.heap TI (.ref i1) (.ref i2)) (hTO : IsPair st.heap TO a b)
  (h1 : Src t1 st.heap i1 l1 xs k) (h2 : Src t2 st.heap i2 l2 ys k) (hend : xs[k]? = none ∨ ys[k]? = none)
  (hE : ∀ h' e, (∀ c o, c ≠ z → c ≠ TO → c ≠ i1 → c ≠ i2 → st.heap.get? c = some o → h'.get? c = some o) → (∃ o, h'.get? e = some o ∧ o.cls = .type "StopIteration") → E (.ref e) { st with heap := h' }) :
  wpAny (model prog w) A (Builtin.«zip.__next__» ⟨[.ref z], []⟩) Q E st := by
 obtain ⟨⟨d1, d2, d3, d4⟩, ⟨d5, d6, d7, d8, d9, d10⟩, ⟨d11, d12, d13, d14⟩, ⟨d15, d16, d17, d18⟩⟩ := D
 show wpAny _ A (field (.ref z) 2 >>= _) _ _ st
 refine wpAny_bind (wpAny_field (x := .bool false) hz rfl rfl ?_)
 show wpAny _ A (field (.ref z) 3 >>= _) _ _ st
 refine wpAny_bind (wpAny_field (x := .ref TI) hz rfl rfl (wpAny_bind (wpAny_seqItems hTI rfl ?_)))
 show wpAny _ A (Builtin.SmallTypes.ownedTupleIsFree (.ref z) >>= _) _ _ st
 refine wpAny_bind ?_
 unfold Builtin.SmallTypes.ownedTupleIsFree
 refine wpAny_bind (wpAny_field (x := .none) hz rfl rfl (wpAny_pure ?_))
 simp only [if_true]
 refine wpAny_bind (wpAny_rule (wpAny_bind (wpAny_field (x := .ref TO) hz rfl rfl (wpAny_bind (wpAny_setField_rec hz (by simp) fun g1 z1 b1 => ?_)))))
 replace z1 : IsZip g1 z TI TO .ellipsis := z1
 refine wpAny_bind ?_
 simp only [List.zipIdx_nil, List.zipIdx_cons, List.forIn_nil, List.forIn_cons]
 refine wpAny_bind (wpAny_bind (wpAny_onRaise ?_))
 show wpAny _ A (Builtin.SmallTypes.nextOf (.ref i1) >>= _) _ _ _
 have s1 : Src t1 g1 i1 l1 xs k := h1.keep (fun o e => b1.extBut _ o d3 e) (fun o e => b1.extBut _ o d11 e)
 cases hx : xs[k]? with
 | none =>
  refine wpAny_bind (Src.none (st := { st with heap := g1 }) hh s1 hx fun g2 e b2 he => ?_)
  obtain ⟨oe, hoe, hce⟩ := he
  have z2 : IsZip g2 z TI TO .ellipsis := b2 _ _ d3.symm z1
  have ez : e ≠ z := fun q => by subst q; rw [z2] at hoe; cases hoe; simp at hce
  refine wpAny_setField_rec z2 (by simp) fun g3 _ b3 => hE g3 e (fun c o c1 _ c3 _ q => b3.extBut _ _ c1 (b2 _ _ c3 (b1.extBut _ _ c1 q))) ⟨oe, b3.extBut _ _ ez hoe, hce⟩
 | some x =>
  have hy : ys[k]? = none := by rcases hend with h | h; rw [hx] at h; cases h; exact h
  refine wpAny_bind (Src.draw (st := { st with heap := g1 }) s1 d13 hx fun g2 s2 b2 => wpAny_pure ?_)
  have p2 : IsPair g2 TO a b := b2.extBut _ _ d8 (b1.extBut _ _ d2 hTO)
  refine wpAny_bind (wpAny_seqItems p2 rfl (wpAny_bind (wpAny_updateSeq_pair p2 fun g3 p3 b3 => ?_)))
  refine wpAny_bind (wpAny_letGo (wpAny_pure ?_))
  refine wpAny_bind (wpAny_bind (wpAny_onRaise ?_))
  show wpAny _ A (Builtin.SmallTypes.nextOf (.ref i2) >>= _) _ _ _
  have s3 : Src t2 g3 i2 l2 ys k := h2.keep (fun o e => b3.extBut _ o d9.symm (b2.extBut _ o d10.symm (b1.extBut _ o d4 e))) (fun o e => b3.extBut _ o d16 (b2.extBut _ o d17 (b1.extBut _ o d15 e)))
  refine wpAny_bind (Src.none (st := { st with heap := g3 }) hh s3 hy fun g4 e b4 he => ?_)
  obtain ⟨oe, hoe, hce⟩ := he
  have z4 : IsZip g4 z TI TO .ellipsis := b4 _ _ d4.symm (b3.extBut _ _ d2.symm (b2.extBut _ _ d3.symm z1))
  have ez : e ≠ z := fun q => by subst q; rw [z4] at hoe; cases hoe; simp at hce
  refine wpAny_setField_rec z4 (by simp) fun g5 _ b5 => hE g5 e (fun c o c1 c2 c3 c4 q => b5.extBut _ _ c1 (b4 _ _ c4 (b3.extBut _ _ c2 (b2.extBut _ _ c3 (b1.extBut _ _ c1 q))))) ⟨oe, b5.extBut _ _ ez hoe, hce⟩
end
section
noncomputable def SqK (t : Bool) (h : Heap) (l : Addr) (xs : Array Value) : Prop := match t with
 | true => h.IsTuple l xs
 | false => h.IsList l xs
noncomputable def z8k (t : Bool) (l : Addr) : Obj := { cls := .type (if t then "tuple_iterator" else "list_iterator"), data := .fields #[.ref l, .int 0 0] }
theorem SqK.push {t : Bool} {h : Heap} {l : Addr} {xs : Array Value} (x : SqK t h l xs) (o : Obj) : SqK t (h.push o) l xs := by
 cases t with
 | true => exact Heap.IsTuple.push x o
 | false => exact Heap.IsList.push x o
theorem Src.new {t : Bool} {h : Heap} {it l : Addr} {xs : Array Value} (e : h.get? it = some (z8k t l)) (q : SqK t h l xs) : Src t h it l xs 0 := by
 cases t with
 | true => exact ⟨⟨_, e, rfl, rfl⟩, q⟩
 | false => exact ⟨⟨_, e, rfl, rfl⟩, q⟩
variable {prog : Program} {w : World} {A : Around} {E : Value → Shared → Prop} {st : Shared}
theorem z6i {t : Bool} {l : Addr} {its : Array Value} {Q : Value → Shared → Prop} (hl : SqK t st.heap l its) (hQ : Q (.ref st.heap.objs.size) { st with heap := st.heap.push (z8k t l) }) : wpAny (model prog w) A (pyIter (.ref l)) Q E st := by
 cases t with
 | true => exact wpAny_pyIter_tuple hl hQ
 | false => exact wpAny_pyIter_list hl hQ
noncomputable abbrev zp1 (h : Heap) (t1 : Bool) (l1 : Addr) : Heap := h.push (z8k t1 l1)
noncomputable abbrev zp2 (h : Heap) (t1 t2 : Bool) (l1 l2 : Addr) : Heap := (zp1 h t1 l1).push (z8k t2 l2)
noncomputable abbrev zp3 (h : Heap) (t1 t2 : Bool) (l1 l2 : Addr) : Heap := (zp2 h t1 t2 l1 l2).push { cls := .type "tuple", data := .seq #[.ref h.objs.size, .ref (zp1 h t1 l1).objs.size] }
noncomputable abbrev zp4 (h : Heap) (t1 t2 : Bool) (l1 l2 : Addr) : Heap := (zp3 h t1 t2 l1 l2).push { cls := .type "tuple", data := .seq #[.none, .none] }
noncomputable abbrev zp5 (h : Heap) (t1 t2 : Bool) (l1 l2 : Addr) : Heap := (zp4 h t1 t2 l1 l2).push { cls := .type "zip", data := .fields #[.none, .bool false, .bool false, .ref (zp2 h t1 t2 l1 l2).objs.size, .ref (zp3 h t1 t2 l1 l2).objs.size] }
theorem z3u (t1 t2 : Bool) (l1 l2 : Addr) (xs ys : Array Value) :
  Meets (Builtin.«zip.__new__» ⟨[.type "zip", .ref l1, .ref l2], []⟩) (fun _ R s => SqK t1 s.heap l1 xs ∧ SqK t2 s.heap l2 ys ∧ R (.ok (.ret (.ref (zp4 s.heap t1 t2 l1 l2).objs.size))) { s with heap := zp5 s.heap t1 t2 l1 l2 }) :=
 .of_wp fun prog w A R s h => by
  obtain ⟨hp, g, d, tk, os⟩ := s
  obtain ⟨q1, q2, h⟩ := h
  have hsub := sub_zip
  have r1 : SqK t1 (Shared.heap ⟨hp, g, d, tk, os⟩) l1 xs := q1
  have r2 : SqK t2 (Shared.heap ⟨hp.push (z8k t1 l1), g, d, tk, os⟩) l2 ys := q2.push _
  wp_walk using z6i r1, z6i r2
  exact ⟨_, rfl, h⟩
theorem z9m {t1 t2 : Bool} {l1 l2 : Addr} {xs ys : Array Value} {Q : Value → Shared → Prop} (q1 : SqK t1 st.heap l1 xs) (q2 : SqK t2 st.heap l2 ys)
  (h : ∀ h', IsZip h' (st.heap.objs.size + 4) (st.heap.objs.size + 2) (st.heap.objs.size + 3) .none → IsPair h' (st.heap.objs.size + 2) (.ref st.heap.objs.size) (.ref (st.heap.objs.size + 1)) →
   IsPair h' (st.heap.objs.size + 3) .none .none → Src t1 h' st.heap.objs.size l1 xs 0 → Src t2 h' (st.heap.objs.size + 1) l2 ys 0 →
   (∀ c o, st.heap.get? c = some o → h'.get? c = some o) → Q (.ref (st.heap.objs.size + 4)) { st with heap := h' }) :
  wpAny (model prog w) A (call (.type "zip") [.ref l1, .ref l2]) Q E st := by
 refine callType_new F.called_zip (by decide) (F.typeCall_zip_2 _ _) (F.newCall_zip_2 _ _) (fun obj => F.args_object_init_3 obj _ _) F.entry_zip_new (z3u t1 t2 l1 l2 xs ys) ⟨q1, q2, ?_⟩
 have n1 : (zp1 st.heap t1 l1).objs.size = st.heap.objs.size + 1 := Heap.size_push ..
 have n2 : (zp2 st.heap t1 t2 l1 l2).objs.size = st.heap.objs.size + 2 := by rw [Heap.size_push, n1]
 have n3 : (zp3 st.heap t1 t2 l1 l2).objs.size = st.heap.objs.size + 3 := by rw [Heap.size_push, n2]
 have n4 : (zp4 st.heap t1 t2 l1 l2).objs.size = st.heap.objs.size + 4 := by rw [Heap.size_push, n3]
 have g5 : (zp5 st.heap t1 t2 l1 l2).get? (zp4 st.heap t1 t2 l1 l2).objs.size = some _ := Heap.get?_push_size _ rfl
 have g4 : (zp5 st.heap t1 t2 l1 l2).get? (zp3 st.heap t1 t2 l1 l2).objs.size = some _ := Heap.get?_push_of_some _ (Heap.get?_push_size _ rfl)
 have g3 : (zp5 st.heap t1 t2 l1 l2).get? (zp2 st.heap t1 t2 l1 l2).objs.size = some _ := Heap.get?_push_of_some _ (Heap.get?_push_of_some _ (Heap.get?_push_size _ rfl))
 have g2 : (zp5 st.heap t1 t2 l1 l2).get? (zp1 st.heap t1 l1).objs.size = some _ := Heap.get?_push_of_some _ (Heap.get?_push_of_some _ (Heap.get?_push_of_some _ (Heap.get?_push_size _ rfl)))
 have g1 : (zp5 st.heap t1 t2 l1 l2).get? st.heap.objs.size = some _ := Heap.get?_push_of_some _ (Heap.get?_push_of_some _ (Heap.get?_push_of_some _ (Heap.get?_push_of_some _ (Heap.get?_push_size _ rfl))))
 show _ ∧ _
 rw [n2, n3, n4] at g5
 rw [n1, n2] at g3
 rw [n3] at g4
 rw [n1] at g2
 rw [n4]
 exact ⟨⟨_, g5, rfl⟩, h _ g5 g3 g4 (Src.new g1 ((((q1.push _).push _).push _).push _ |>.push _)) (Src.new g2 ((((q2.push _).push _).push _).push _ |>.push _)) fun c o x =>
  Heap.get?_push_of_some _ (Heap.get?_push_of_some _ (Heap.get?_push_of_some _ (Heap.get?_push_of_some _ (Heap.get?_push_of_some _ x))))⟩
end
noncomputable def Its (x : Str) : It := ⟨fun i _ => i < x.cps.size, fun i H v H' => H' = H ∧ ∃ c, x.cps[i]? = some c ∧ v = .str ⟨#[c]⟩, fun i _ => i = x.cps.size⟩
theorem x8i {P : Program} {w : World} {K : PySem.W.Frag} {y : Str} {pos : Pos} (it : Addr) (x : Str) (t : Tok) (nm : String)
  (W : ∀ A' : Around, A'.handled = none → Walks P w A' it [it] [it] x.cps.size (SignAt x) (fun i h => h.IsStrIter it nm x t i))
  (self : ∀ (A : Around) (i : Nat) (s : Shared) (Q : Value → Shared → Prop) (E : Value → Shared → Prop), s.heap.IsStrIter it nm x t i → Q (.ref it) s → wpAny (model P w) A (pyIter (.ref it)) Q E s) :
  Turn P w K (.Name y pos) (Its x) [it] it (fun i h => h.IsStrIter it nm x t i) where
 mem := by simp
 obj := fun i h st b hb => by
  have e : b = it := by simpa using hb
  subst e
  obtain ⟨o, e, c, d⟩ := st
  exact ⟨o, e, fun v z => by rw [d] at z; cases z⟩
 keep := fun i h h' st k => let ⟨o, ho, r⟩ := st; ⟨o, k it (by simp) o ho, r⟩
 item := by
  intro X hP hw hK hc i pins s σ H E I hf st hg
  subst hP hw hK
  obtain ⟨f0, f1, f2, f3, f4, f5⟩ := hf it (by simp)
  refine (W X.A (I.ok.hd hc)).item i s _ _ hg st fun v h' tk hv st' kk => ?_
  obtain ⟨c, u, hcc, rfl⟩ := hv
  have I1 : Inv X pins σ H { s with heap := h', toks := tk } := I.turned (fun b o hb e => kk b o (by simpa using hb) e) f0 f1 f3 f4 f5
  exact ⟨_, rfl, wpAny_pure ⟨.str ⟨#[c]⟩, H, I1, ⟨u, rfl⟩, ⟨rfl, c, hcc, rfl⟩, st', fun b hb => (hf b hb).1⟩⟩
 done := by
  intro X hP hw hK hc i pins s σ H E I hf st hg
  subst hP hw hK
  have hg' : i = x.cps.size := hg
  subst hg'
  obtain ⟨f0, f1, f2, f3, f4, f5⟩ := hf it (by simp)
  exact (W X.A (I.ok.hd hc)).done s _ _ st fun h' tk kk => ⟨rfl, I.turned (t' := tk) (fun b o hb e => kk b o (by simpa using hb) e) f0 f1 f3 f4 f5⟩
 self := self
noncomputable def w4w (te : TE) : TI := fun σ H R => te σ H fun v H1 => ∃ x, v = .str x ∧ R (Its x) H1
theorem z7q {X : Cx} {l : Expr} {te : TE} {y : Str} {p : Pos} (hl : PE X l te) : PI X (.Name y p) l (w4w te) := by
 intro pins s σ H R I h
 refine thn (hl pins s σ H _ I h) fun v s1 ⟨z, H1, I1, r1, q1⟩ => ?_
 obtain ⟨x, e, q⟩ := q1
 subst e
 obtain ⟨t, rfl⟩ := r1
 have fp : ∀ b ∈ [s1.heap.objs.size], j0b X pins H1 b := fun b hb => by
  have e : b = s1.heap.objs.size := by simpa using hb
  subst e
  exact I1.fpOk (Nat.le_refl _) (I1.hok.fresh (Nat.le_refl _))
 cases ha : x.cps.all (· < 128)
 ·exact wpAny_pyIter_wide ha ⟨s1.heap.objs.size, [s1.heap.objs.size], _, _, H1, rfl, I1.kept (t' := s1.toks) fun b o e => Heap.get?_push_of_some _ e,
   x8i _ x t "str_iterator" (fun A' hA => Walks.strWide hA _ x t) (fun _ _ _ _ _ st h => wpAny_pyIter_striter_wide st h), ⟨_, Heap.get?_push_size _ rfl, rfl, rfl⟩, fp, q⟩
 ·exact wpAny_pyIter_ascii ha ⟨s1.heap.objs.size, [s1.heap.objs.size], _, _, H1, rfl, I1.kept (t' := s1.toks) fun b o e => Heap.get?_push_of_some _ e,
   x8i _ x t "str_ascii_iterator" (fun A' hA => Walks.strAscii hA _ x t) (fun _ _ _ _ _ st h => wpAny_pyIter_striter_ascii st h), ⟨_, Heap.get?_push_size _ rfl, rfl, rfl⟩, fp, q⟩
noncomputable def SqB (t : Bool) (K : PySem.W.Frag) (H : Hp) (a : Addr) (xs : List V) : Prop := match t with
 | true => SqT K H a xs
 | false => SqL K H a xs
section
variable {X : Cx} {pins : List (Addr × Obj)} {σ : St} {H : Hp} {s : Shared}
theorem Inv.sq {t : Bool} {a : Addr} {xs : List V} (I : Inv X pins σ H s) (h : SqB t X.K H a xs) : ∃ its : List Value, q3r xs its ∧ SqK t s.heap a its.toArray ∧ xs.length ≤ sizeLine := by
 cases t with
 | true => obtain ⟨its, r, p, z⟩ := I.tuple h; exact ⟨its, r, p, z⟩
 | false => obtain ⟨its, r, p, z⟩ := I.list h; exact ⟨its, r, p.isList, z⟩
theorem Inv.sq_inj {t : Bool} {a : Addr} {xs ys : List V} (I : Inv X pins σ H s) (h : SqB t X.K H a xs) (h' : SqB t X.K H a ys) : xs = ys := by
 cases t with
 | true => exact I.tuple_inj h h'
 | false => exact I.list_inj h h'
theorem Inv.sq_ne {t : Bool} {a b : Addr} {xs : List V} (I : Inv X pins σ H s) (h : SqB t X.K H a xs) (f : j0b X pins H b) : a ≠ b := by
 intro z
 subst z
 obtain ⟨f0, _, _, f3, _⟩ := f
 have nob : ∀ o, X.base.get? a = some o → False := fun o e => by
  rcases f3 with q | q
  ·exact I.ok.noex a o e q
  ·exact absurd (Nat.lt_of_lt_of_le (Heap.lt_size e) (Nat.le_trans I.ok.bsz q)) (Nat.lt_irrefl _)
 cases t with
 | true =>
  rcases (show SqT X.K H a xs from h) with (q | ⟨o, q⟩) | q
  ·rw [f0] at q; cases q
  ·rw [f0] at q; cases q
  ·obtain ⟨o, q⟩ := q
   first
    | exact nob _ (I.mod.kin a o q.1)
    | (obtain ⟨_, _, q, _⟩ := q; exact nob _ (I.mod.kin a _ q))
    | (obtain ⟨_, q, _⟩ := q; exact nob _ (I.mod.kin a _ q))
 | false =>
  rcases (show SqL X.K H a xs from h) with (q | ⟨o, q⟩) | q
  ·rw [f0] at q; cases q
  ·rw [f0] at q; cases q
  ·obtain ⟨o, q⟩ := q
   first
    | exact nob _ (I.mod.kin a o q.1)
    | (obtain ⟨_, _, q, _⟩ := q; exact nob _ (I.mod.kin a _ q))
    | (obtain ⟨_, q, _⟩ := q; exact nob _ (I.mod.kin a _ q))
end
noncomputable def Itz (K : PySem.W.Frag) (t1 t2 : Bool) (a b : Addr) : It :=
 ⟨fun i H => ∃ xs ys x y, SqB t1 K H a xs ∧ SqB t2 K H b ys ∧ xs[i]? = some x ∧ ys[i]? = some y,
  fun i H v H' => ∃ p x y, v = .ref p ∧ H p = none ∧ H' = upd H p (.tup [x, y]) ∧ (∀ xs, SqB t1 K H a xs → xs[i]? = some x) ∧ ∀ ys, SqB t2 K H b ys → ys[i]? = some y,
  fun i H => ∃ xs ys, SqB t1 K H a xs ∧ SqB t2 K H b ys ∧ (xs.length ≤ i ∨ ys.length ≤ i)⟩
noncomputable def ItB (t : Bool) (h : Heap) (it l : Addr) (k : Nat) : Prop := match t with
 | true => h.IsTupleIter it l k
 | false => h.IsListIter it l k
theorem ItB.src {t : Bool} {h : Heap} {it l : Addr} {k : Nat} {xs : Array Value} (a : ItB t h it l k) (b : SqK t h l xs) : Src t h it l xs k := by cases t <;> exact ⟨a, b⟩
theorem Src.it {t : Bool} {h : Heap} {it l : Addr} {k : Nat} {xs : Array Value} (a : Src t h it l xs k) : ItB t h it l k := by cases t <;> exact a.1
theorem ItB.ob {t : Bool} {h : Heap} {it l : Addr} {k : Nat} (a : ItB t h it l k) : ∃ o, h.get? it = some o ∧ ∀ v, o.data ≠ .cell v := by
 cases t <;> (obtain ⟨o, e, _, d⟩ := a; exact ⟨o, e, fun v z => by rw [d] at z; cases z⟩)
theorem ItB.keep {t : Bool} {h h' : Heap} {it l : Addr} {k : Nat} (a : ItB t h it l k) (e : ∀ o, h.get? it = some o → h'.get? it = some o) : ItB t h' it l k := by
 cases t <;> (obtain ⟨o, q, r⟩ := a; exact ⟨o, e o q, r⟩)
theorem j2k {P : Program} {w : World} {K : PySem.W.Frag} {es : List Expr} {k0 : Nat} {tp : Pos} {t1 t2 : Bool} {a b z TI TO i1 i2 : Addr}
  (D : (TI ≠ z ∧ TO ≠ z ∧ i1 ≠ z ∧ i2 ≠ z) ∧ TI ≠ TO ∧ TI ≠ i1 ∧ TI ≠ i2 ∧ TO ≠ i1 ∧ TO ≠ i2 ∧ i1 ≠ i2) :
  Turn P w K (.Tuple es k0 tp) (Itz K t1 t2 a b) [z, TI, TO, i1, i2] z (fun i h => IsZip h z TI TO .none ∧ IsPair h TI (.ref i1) (.ref i2) ∧ (∃ u v, IsPair h TO u v) ∧ ItB t1 h i1 a i ∧ ItB t2 h i2 b i) where
 mem := by simp
 obj := fun i h st c hc => by
  obtain ⟨h1, h2, ⟨u, v, h3⟩, h4, h5⟩ := st
  simp only [List.mem_cons, List.not_mem_nil, or_false] at hc
  rcases hc with rfl | rfl | rfl | rfl | rfl
  ·exact ⟨_, h1, fun v z => by cases z⟩
  ·exact ⟨_, h2, fun v z => by cases z⟩
  ·exact ⟨_, h3, fun v z => by cases z⟩
  ·exact h4.ob
  ·exact h5.ob
 keep := fun i h h' st k => by
  obtain ⟨h1, h2, ⟨u, v, h3⟩, h4, h5⟩ := st
  exact ⟨k z (by simp) _ h1, k TI (by simp) _ h2, ⟨u, v, k TO (by simp) _ h3⟩, h4.keep fun o e => k i1 (by simp) o e, h5.keep fun o e => k i2 (by simp) o e⟩
 item := by
  intro X hP hw hK hc i pins s σ H E I hf st hg
  subst hP hw hK
  obtain ⟨h1, h2, ⟨u, v, h3⟩, h4, h5⟩ := st
  obtain ⟨xs, ys, x, y, q1, q2, hx, hy⟩ := hg
  obtain ⟨its, r1, p1, _⟩ := I.sq q1
  obtain ⟨jts, r2, p2, _⟩ := I.sq q2
  obtain ⟨ux, ex, rx⟩ := r1.get hx
  obtain ⟨uy, ey, ry⟩ := r2.get hy
  have fz := hf z (by simp)
  have fTI := hf TI (by simp)
  have fTO := hf TO (by simp)
  have f1 := hf i1 (by simp)
  have f2 := hf i2 (by simp)
  have Dd : Apart z TI TO i1 i2 a b := ⟨D.1, D.2, ⟨I.sq_ne q1 fz, I.sq_ne q1 fTO, I.sq_ne q1 f1, I.sq_ne q1 f2⟩, ⟨I.sq_ne q2 fz, I.sq_ne q2 fTO, I.sq_ne q2 f1, I.sq_ne q2 f2⟩⟩
  have hT : s.TypeIs (.ref z) "zip" := ⟨_, h1, rfl⟩
  unfold pyNext
  refine wpAny_bind (wpAny_attempt (wpAny_callSpecial?_slot (name := Str.ofString "__next__") hT F.slot_zip_next (wpAny_call_entry F.slot_zip_next hT F.entry_zip_next (j2b Dd h1 h2 h3 (h4.src p1) (h5.src p2) (by simpa using ex) (by simpa using ey) fun h' a1 a2 a3 a4 a5 a6 => wpAny_pure ?_) (F.args_zip_next_1 _))))
  refine ⟨_, rfl, wpAny_letOwnedTupleGo_zip a1 fun h2' b1 b2 => ?_⟩
  have lt : ∀ {c o}, s.heap.get? c = some o → s.heap.objs.size ≠ c := fun e => Nat.ne_of_gt (Heap.lt_size e)
  have nz := lt h1
  have hk : ∀ c o, c ∉ [z, TI, TO, i1, i2] → s.heap.get? c = some o → h2'.get? c = some o := fun c o hcn e => by
   simp only [List.mem_cons, List.not_mem_nil, or_false, not_or] at hcn
   exact b2.extBut c o hcn.1 (a6 c o hcn.1 hcn.2.2.1 hcn.2.2.2.1 hcn.2.2.2.2 e)
  have hTI' : h2'.get? TI = s.heap.get? TI := by
   rw [h2]
   exact b2.extBut _ _ D.1.1 (a6 TI _ D.1.1 D.2.1 D.2.2.1 D.2.2.2.1 h2)
  have I1 : Inv X pins σ H { s with heap := h2' } := by
   refine I.step (g' := s.gens) (d' := s.drawn) (t' := s.toks) (ch := [z, TI, TO, i1, i2]) (fun c hcm => ?_) (fun c o _ _ hcn e _ => hk c o hcn e) (fun c o _ _ hcn e _ => ⟨o.slots, hk c o hcn e⟩) (fun _ _ _ _ n => n)
    (fun c o hcn e => ⟨o, hk c o hcn e⟩) (fun _ _ e => e) (fun _ _ _ e => e) (fun c ps e => ⟨#[], by rw [e]; simp⟩) (fun m hm => ?_) (fun c u' e => ?_) I.bare
   ·obtain ⟨_, g1, _, g3, g4, g5⟩ := hf c hcm
    exact ⟨g3, g1, g4, g5⟩
   ·obtain ⟨o, es', ep, ho, r⟩ := hm
    exact ⟨o, es', ep, hk _ o (fun hm' => (hf _ hm').2.1 rfl) ho, r⟩
   ·have nin : ∀ c' u'', H c' = some u'' → c' ∉ [z, TI, TO, i1, i2] := fun c' u'' e' hm' => by rw [(hf _ hm').1] at e'; cases e'
    refine (I.hok c u' e).stay (fun c' v' hc' q => hk c' v' ?_ q) (fun _ q => q) fun _ _ q => q
    rcases hc' with rfl | hc'
    ·exact nin _ _ e
    ·exact nin _ _ hc'
  have hp : IsPair h2' s.heap.objs.size ux uy := b2.extBut _ _ nz a5
  have fp0 : H s.heap.objs.size = none := I.hok.fresh (Nat.le_refl _)
  have nfp : s.heap.objs.size ∉ [z, TI, TO, i1, i2] := fun hm => by
   obtain ⟨o, e, _⟩ : ∃ o, s.heap.get? s.heap.objs.size = some o ∧ True := by
    simp only [List.mem_cons, List.not_mem_nil, or_false] at hm
    rcases hm with q | q | q | q | q
    ·exact ⟨_, by rw [q]; exact h1, trivial⟩
    ·exact ⟨_, by rw [q]; exact h2, trivial⟩
    ·exact ⟨_, by rw [q]; exact h3, trivial⟩
    ·obtain ⟨o, e, _⟩ := h4.ob; exact ⟨o, by rw [q]; exact e, trivial⟩
    ·obtain ⟨o, e, _⟩ := h5.ob; exact ⟨o, by rw [q]; exact e, trivial⟩
   exact absurd (Heap.lt_size e) (Nat.lt_irrefl _)
  have I2 : Inv X pins σ (upd H s.heap.objs.size (.tup [x, y])) { s with heap := h2' } := by
   refine I1.step (s := { s with heap := h2' }) (g' := s.gens) (d' := s.drawn) (t' := s.toks) (h' := h2') (ch := [s.heap.objs.size]) (fun c hcm => ?_) (fun c o _ _ _ e _ => e) (fun c o _ _ _ e _ => ⟨o.slots, e⟩) (fun c o hcn e n => ?_)
    (fun c o _ e => ⟨o, e⟩) (fun c xs' e => ?_) (fun c o u' e => ?_) (fun c ps e => ⟨#[], ?_⟩) (fun m hm => hm) (fun c u' e => ?_) I.bare
   ·have e : c = s.heap.objs.size := by simpa using hcm
    subst e
    obtain ⟨_, g1, _, g3, g4, g5⟩ := I.fpOk (Nat.le_refl _) fp0
    exact ⟨g3, g1, g4, g5⟩
   ·rw [q1b (by simpa using hcn)]; exact n
   ·rw [q1b (q1n e fp0)]; exact e
   ·rw [q1b (q1n e fp0)]; exact e
   ·rw [q1b (q1n e fp0), e]; simp
   ·by_cases hcs : c = s.heap.objs.size
    ·subst hcs
     rw [q0g] at e
     cases e
     exact ⟨by simp [sizeLine_eq], [ux, uy], .cons rx (.cons ry .nil), ⟨_, hp, rfl, _, rfl⟩⟩
    ·rw [q1b hcs] at e
     exact (I1.hok c u' e).stay (fun _ _ _ q => q) (fun c' q => by rw [q1b (q1n q fp0)]; exact q) fun c' xs' q => by rw [q1b (q1n q fp0)]; exact q
  refine ⟨.ref s.heap.objs.size, _, I2, rfl, ⟨s.heap.objs.size, x, y, rfl, fp0, rfl, fun xs' q' => by rw [I.sq_inj q' q1]; exact hx, fun ys' q' => by rw [I.sq_inj q' q2]; exact hy⟩, ?_, fun c hcm => ?_⟩
  ·exact ⟨b1, hTI'.trans h2, ⟨ux, uy, b2.extBut _ _ D.1.2.1 a2⟩, (Src.it a3).keep fun o e => b2.extBut _ o D.1.2.2.1 e, (Src.it a4).keep fun o e => b2.extBut _ o D.1.2.2.2 e⟩
  ·rw [q1b (fun q => nfp (by rw [← q]; exact hcm))]; exact (hf c hcm).1
 done := by
  intro X hP hw hK hc i pins s σ H E I hf st hg
  subst hP hw hK
  obtain ⟨h1, h2, ⟨u, v, h3⟩, h4, h5⟩ := st
  obtain ⟨xs, ys, q1, q2, he⟩ := hg
  obtain ⟨its, r1, p1, _⟩ := I.sq q1
  obtain ⟨jts, r2, p2, _⟩ := I.sq q2
  have Dd : Apart z TI TO i1 i2 a b := ⟨D.1, D.2, ⟨I.sq_ne q1 (hf z (by simp)), I.sq_ne q1 (hf TO (by simp)), I.sq_ne q1 (hf i1 (by simp)), I.sq_ne q1 (hf i2 (by simp))⟩, ⟨I.sq_ne q2 (hf z (by simp)), I.sq_ne q2 (hf TO (by simp)), I.sq_ne q2 (hf i1 (by simp)), I.sq_ne q2 (hf i2 (by simp))⟩⟩
  have l1 := r1.length
  have l2 := r2.length
  have hend : its.toArray[i]? = none ∨ jts.toArray[i]? = none := by
   rcases he with e | e
   ·exact .inl (by simp; omega)
   ·exact .inr (by simp; omega)
  have hT : s.TypeIs (.ref z) "zip" := ⟨_, h1, rfl⟩
  unfold pyNext
  refine wpAny_bind (wpAny_attempt (wpAny_callSpecial?_slot (name := Str.ofString "__next__") hT F.slot_zip_next (wpAny_call_entry F.slot_zip_next hT F.entry_zip_next (j7d (I.ok.hd hc) Dd h1 h2 h3 (h4.src p1) (h5.src p2) hend fun h' e kk hx => ?_) (F.args_zip_next_1 _))))
  obtain ⟨o, ho, hcl⟩ := hx
  refine wpAny_bind (wpAny_isInstance (T := "StopIteration") (b := true) ⟨o, ho, hcl⟩ isSubtype_stop (wpAny_pure ⟨rfl, ?_⟩))
  have hk : ∀ c o, c ∉ [z, TI, TO, i1, i2] → s.heap.get? c = some o → h'.get? c = some o := fun c o hcn e => by
   simp only [List.mem_cons, List.not_mem_nil, or_false, not_or] at hcn
   exact kk c o hcn.1 hcn.2.2.1 hcn.2.2.2.1 hcn.2.2.2.2 e
  refine I.step (g' := s.gens) (d' := s.drawn) (t' := s.toks) (ch := [z, TI, TO, i1, i2]) (fun c hcm => ?_) (fun c o _ _ hcn e _ => hk c o hcn e) (fun c o _ _ hcn e _ => ⟨o.slots, hk c o hcn e⟩) (fun _ _ _ _ n => n)
   (fun c o hcn e => ⟨o, hk c o hcn e⟩) (fun _ _ e => e) (fun _ _ _ e => e) (fun c ps e => ⟨#[], by rw [e]; simp⟩) (fun m hm => ?_) (fun c u' e => ?_) I.bare
  ·obtain ⟨_, g1, _, g3, g4, g5⟩ := hf c hcm
   exact ⟨g3, g1, g4, g5⟩
  ·obtain ⟨o, es', ep, ho, r⟩ := hm
   exact ⟨o, es', ep, hk _ o (fun hm' => (hf _ hm').2.1 rfl) ho, r⟩
  ·have nin : ∀ c' u'', H c' = some u'' → c' ∉ [z, TI, TO, i1, i2] := fun c' u'' e' hm' => by rw [(hf _ hm').1] at e'; cases e'
   refine (I.hok c u' e).stay (fun c' v' hc' q => hk c' v' ?_ q) (fun _ q => q) fun _ _ q => q
   rcases hc' with rfl | hc'
   ·exact nin _ _ e
   ·exact nin _ _ hc'
 self := fun _ _ _ _ _ st h => wpAny_pyIter_zip st.1 h
noncomputable def w5x (K : PySem.W.Frag) (t1 t2 : Bool) (ta : TA) : TI := fun σ H R => ta σ H fun vs H1 => ∃ a b xs ys, vs = [.ref a, .ref b] ∧ SqB t1 K H1 a xs ∧ SqB t2 K H1 b ys ∧ R (Itz K t1 t2 a b) H1
theorem z8x (n : Nat) : (n + 2 ≠ n + 4 ∧ n + 3 ≠ n + 4 ∧ n ≠ n + 4 ∧ n + 1 ≠ n + 4) ∧ n + 2 ≠ n + 3 ∧ n + 2 ≠ n ∧ n + 2 ≠ n + 1 ∧ n + 3 ≠ n ∧ n + 3 ≠ n + 1 ∧ n ≠ n + 1 := by omega
theorem z9p (n x : Nat) (h : x = n + 4 ∨ x = n + 2 ∨ x = n + 3 ∨ x = n ∨ x = n + 1) : n ≤ x := by omega
theorem j0e : bootBuiltins "zip" = some (.type "zip") := by decide +kernel
theorem z6x {X : Cx} {es0 : List Expr} {k0 : Nat} {tp : Pos} {a b : Expr} {ta : TA} {p pos : Pos} {t1 t2 : Bool} (hg : Gl X "zip") (hm : X.mg "zip" = none) (ha : PA X [a, b] ta)
  (hs : starEach [a, b] X.env = [(false, eval a X.env), (false, eval b X.env)] := by rfl) (hs2 : starEach [b] X.env = [(false, eval b X.env)] := by rfl) :
  PI X (.Tuple es0 k0 tp) (.Call (.Name "zip" p) [a, b] [] pos) (w5x X.K t1 t2 ta) := by
 intro pins s σ H R I h
 refine Call_ (x5h I hg hm j0e (PyProof.Rows.callWith_type1 (thn (ha pos pins s σ H _ I h) fun us s1 ⟨vs, H1, I1, r1, q1⟩ => ?_) (by rw [hs, hs2]) (by rw [hs2]; rfl)))
 obtain ⟨c, d, xs, ys, e, q1, q2, q⟩ := q1
 subst e
 obtain ⟨u, u', rfl, ru, ru'⟩ := j6m r1
 cases ru
 cases ru'
 obtain ⟨its, _, p1, _⟩ := I1.sq q1
 obtain ⟨jts, _, p2, _⟩ := I1.sq q2
 refine z9m p1 p2 fun h' a1 a2 a3 a4 a5 kk => ?_
 refine wpAny_pyIter_zip (s := { s1 with heap := h' }) a1 ?_
 have I2 : Inv X pins σ H1 { s1 with heap := h' } := I1.kept (t' := s1.toks) kk
 refine ⟨_, [s1.heap.objs.size + 4, s1.heap.objs.size + 2, s1.heap.objs.size + 3, s1.heap.objs.size, s1.heap.objs.size + 1], _, _, H1, rfl, I2, j2k (t1 := t1) (t2 := t2) (a := c) (b := d) (z8x _),
  ⟨a1, a2, ⟨_, _, a3⟩, Src.it a4, Src.it a5⟩, fun x hx => ?_, q⟩
 have hge : s1.heap.objs.size ≤ x := by
  simp only [List.mem_cons, List.not_mem_nil, or_false] at hx
  exact z9p _ _ hx
 exact I1.fpOk hge (I1.hok.fresh hge)
section
variable {X : Cx} {a b : Expr} {ta tb : TE} {pos : Pos}
theorem q9p (hc : X.calm = true) : x4h X (.builtin "all") (fun xs H Q => ∃ p, ∃ bs : List Bool, xs = [.ref p] ∧ SqL X.K H p (bs.map V.bl) ∧ Q (.bl (bs.all id)) H) := by
 intro pins s σ H xs us Q I r h
 obtain ⟨p, bs, rfl, hq, q⟩ := h
 obtain ⟨u, rfl, rx⟩ := x0z r
 cases rx
 obtain ⟨its, rv, pl, hz⟩ := I.list hq
 have hl := pl.isList
 have hlt : p < s.heap.objs.size := by obtain ⟨_, e, _⟩ := hl; exact Heap.lt_size e
 have hlen : bs.length = its.length := by rw [← rv.length, List.length_map]
 refine call_all_walk (wpAny_pyIter_list hl ?_)
 refine ⟨s.heap.objs.size, [s.heap.objs.size, p], [s.heap.objs.size], its.toArray.size, _, _, fun i => (bs[i]?).getD true, rfl, Walks.list (A := X.A.in1) (I.ok.hd hc) _ p (Nat.ne_of_lt hlt) its.toArray,
  ⟨⟨_, Heap.get?_push_size _ rfl, rfl, rfl⟩, hl.push _⟩, fun i v s' Q' E' hP hQ => ?_, fun h' tk hk => ?_⟩
 ·have hP' : its[i]? = some v := by simpa using hP
  have hi : i < bs.length := by rw [hlen]; exact (List.getElem?_eq_some_iff.mp hP').1
  obtain ⟨u', e', r'⟩ := rv.get (i := i) (x := V.bl bs[i]) (by simp [hi])
  rw [hP'] at e'
  cases e'
  cases r'
  have e2 : (bs[i]?).getD true = bs[i] := by simp [hi]
  have hQ2 : Q' ((bs[i]?).getD true) s' := hQ
  rw [e2] at hQ2
  exact wpAny_truthy_bool hQ2
 ·have e : ((List.range its.toArray.size).all fun i => (bs[i]?).getD true) = bs.all id := by
   rw [List.size_toArray, ← hlen]
   rw [Bool.eq_iff_iff]
   simp only [List.all_eq_true, List.mem_range, id]
   constructor
   ·intro h x hx
    obtain ⟨i, hi, rfl⟩ := List.mem_iff_getElem.mp hx
    have := h i hi
    simpa [hi] using this
   ·intro h i hi
    have := h bs[i] (List.getElem_mem hi)
    simpa [hi] using this
  rw [e]
  refine ⟨.bl (bs.all id), H, I.kept (t' := tk) fun b x e => ?_, rfl, q⟩
  exact hk b x (fun hm => by rw [List.mem_singleton.mp hm] at e; exact Nat.lt_irrefl _ (Heap.lt_size e)) (Heap.get?_push_of_some _ e)
noncomputable def w3d (K : PySem.W.Frag) : List V → Hp → VK → Prop := fun xs H Q => ∃ x c t k, xs = [x, .ty c] ∧ TyOf K H x t ∧ PySem.W.kitOne K t (.type c) = some k ∧ Q (.bl k) H
theorem q2f : x4h X (.builtin "isinstance") (w3d X.K) := by
 intro pins s σ H xs us Q I r h
 obtain ⟨x, c, t, k, rfl, ty, e, q⟩ := h
 obtain ⟨u, u', rfl, rx, rc⟩ := j6m r
 cases rc
 exact z7v I rx ty e fun tk => ⟨.bl k, H, I.tok tk, rfl, q⟩
noncomputable def j9t (f : Addr) (sp : Sp) (E : XK) (tf : TE) (t : TA) : TE := fun σ H Q => tf σ H fun x H1 => x = .ref f ∧ t σ H1 fun vs H2 => sp (vs ++ []) H2 Q E
theorem j1v {CX : CXT} {k : Nat} {f : Addr} {fd : FuncData} {ps : List Str} {sp : Sp} {E : XK} {x : Str} {p : Pos} {e : Expr} {es : List Expr} {tf : TE} {t : TA} (F : FnOk X.prog X.w X.K X.mg X.base CX k f fd ps sp) (hr : Room k X.A)
  (hk : PySem.W.keepIn X.K (.ref f) = true) (hb : q3p X.K fd ps []) (hx : x1n CX X E) (hf : PE X (.Name x p) tf) (ha : PA X (e :: es) t)
  (he : starEach (e :: es) X.env = (false, eval e X.env) :: starEach es X.env := by rfl) (hpl : (backTo pos (starEach es X.env)).any (·.1) = false := by rfl) :
  PE X (.Call (.Name x p) (e :: es) [] pos) (j9t f sp E tf t) := by
 intro pins s σ H Q I h
 refine wpAny_Call_Name_kw (thn (hf pins s σ H _ I h) fun u s0 ⟨v, H0, I0, r0, e0, q0⟩ => ?_)
 subst e0
 cases r0
 refine PySem.W.callWith_K (h₀ := X.base) I.ok.mod.kin hk (thn (ha pos pins s0 σ H0 _ I0 q0) fun us s1 ⟨vs, H1, I1, r, q⟩ => ⟨I1.kIn, ?_⟩) he hpl
 exact x9r F hr hb .nil hx I1 r q
theorem q8s : OpR X (compareOp .LtE) (fun x y H Q => ∃ i j, x = .str i ∧ y = .str j ∧ Q (.bl (!decide (j.cps.toList < i.cps.toList))) H) := by
 intro pins s σ H x y v u Q I rx ry h
 obtain ⟨i, j, rfl, rfl, q⟩ := h
 obtain ⟨t, rfl⟩ := rx
 obtain ⟨t', rfl⟩ := ry
 exact PySem.P.le_str ⟨.bl _, H, I, rfl, q⟩
theorem j4q : MtR X "str.find" (fun x xs H Q => ∃ z y, x = .str z ∧ xs = [.str y] ∧ Q (.int (Txt.find z y)) H) := by
 intro pins s σ H x xs v us Q I rx rv h
 obtain ⟨z, y, rfl, rfl, q⟩ := h
 obtain ⟨t, rfl⟩ := rx
 obtain ⟨u, rfl, t', rfl⟩ := x0z rv
 exact SC.find ⟨.int _, H, I.tok _, ⟨_, rfl⟩, q⟩
theorem x5e : OpR X (binaryOp .Mult) (fun x y H Q => ∃ z n, x = .str z ∧ y = .int n ∧ z.length ≤ 1000 ∧ n ≤ 1000 ∧ -1000 ≤ n ∧ Q (.str (Txt.mul z n)) H) := by
 intro pins s σ H x y v u Q I rx ry h
 obtain ⟨z, n, rfl, rfl, hz, hn, hn2, q⟩ := h
 obtain ⟨t, rfl⟩ := rx
 obtain ⟨t', rfl⟩ := ry
 refine SB.mul ⟨?_, fun h1 _ => ?_, fun h1 _ => ?_⟩ fun t' k => ⟨.str _, H, I.tok _, ⟨_, rfl⟩, q⟩
 ·rw [decide_eq_false (by omega), decide_eq_false (by omega)]; rfl
 ·have h2 : (1000000 : Int) ≤ (2 ^ 63 - 1) / n := by
   rw [Int.le_ediv_iff_mul_le (by omega)]
   omega
  omega
 ·unfold Builtin.Str.tooLong
  have : z.length * n.toNat ≤ 1000 * 1000 := Nat.mul_le_mul hz (by omega)
  have e := sizeLine_eq
  exact decide_eq_false (by omega)
noncomputable def w4i : V → Option Int → Option Int → Hp → VK → Prop := fun x lo hi H Q => ∃ z, x = .str z ∧ z.length ≤ sizeLine ∧ ∀ y, y.length ≤ z.length → y = Txt.slice z lo hi → Q (.str y) H
theorem j8y : SlR X w4i := by
 intro pins s σ H x v vl vu lo hi sl Q I rx hs pl pu h
 obtain ⟨z, rfl, hz, q⟩ := h
 obtain ⟨t, rfl⟩ := rx
 refine ⟨"str", _, F.slot_str_getitem.lookup, typeIs_str _ _ _, ?_⟩
 have fin : ∀ y, y = Txt.slice z lo hi → y.length ≤ z.length → ∀ t' k, EP X pins σ Q (.str y t') { s with toks := k } := fun y e hy t' k => ⟨.str y, H, I.tok _, ⟨_, rfl⟩, q y hy e⟩
 have le := Txt.slice_le z lo hi
 cases pl with
 | none =>
  cases pu with
  | none => exact wpAny_getItem_str_slice (l := none) (u := none) (st := none) hs rfl (post_val_or_str ⟨Nat.le_trans le hz, fin _ rfl le⟩)
  | int j uj => exact wpAny_getItem_str_slice (l := none) (u := some (j, uj)) (st := none) hs rfl (post_val_or_str ⟨Nat.le_trans le hz, fin _ rfl le⟩)
 | int i ui =>
  cases pu with
  | none => exact wpAny_getItem_str_slice (l := some (i, ui)) (u := none) (st := none) hs rfl (post_val_or_str ⟨Nat.le_trans le hz, fin _ rfl le⟩)
  | int j uj => exact wpAny_getItem_str_slice (l := some (i, ui)) (u := some (j, uj)) (st := none) hs rfl (post_val_or_str ⟨Nat.le_trans le hz, fin _ rfl le⟩)
noncomputable def j1y : List V → List V → Bool
 | [], [] => true
 | x :: xs, y :: ys => eqV x y && j1y xs ys
 | _, _ => false
theorem z3k : ∀ {xs ys : List V}, xs.length ≠ ys.length → j1y xs ys = false
 | [], [], h => absurd rfl h
 | [], _ :: _, _ => rfl
 | _ :: _, [], _ => rfl
 | x :: xs, y :: ys, h => by
  rw [j1y, z3k (fun e => h (by simp [e])), Bool.and_false]
theorem x5s : ∀ {xs ys : List V}, xs.length = ys.length → (List.range xs.length).all (fun j => eqV (xs.getD j .non) (ys.getD j .non)) = j1y xs ys
 | [], [], _ => rfl
 | x :: xs, y :: ys, h => by
  have h' : xs.length = ys.length := by simpa using h
  rw [j1y, ← x5s h', List.length_cons, List.range_succ_eq_map, List.all_cons, List.all_map]
  rfl
theorem j3m (hu : X.A.units < cLine) : OpR X (compareOp .Eq) (fun x y H Q => ∃ p q xs ys, x = .ref p ∧ y = .ref q ∧ SqL X.K H p xs ∧ SqL X.K H q ys ∧ xs.all x3v = true ∧ ys.all x3v = true ∧ Q (.bl (j1y xs ys)) H) := by
 intro pins s σ H x y v u Q I rx ry h
 obtain ⟨p, q', xs, ys, rfl, rfl, h1, h2, f1, f2, q⟩ := h
 cases rx
 cases ry
 obtain ⟨its, r1, pl1, _⟩ := I.list h1
 obtain ⟨jts, r2, pl2, _⟩ := I.list h2
 by_cases hl : xs.length = ys.length
 ·refine SeqAt.eq_listAt (e := fun j => eqV (xs.getD j .non) (ys.getD j .non)) pl1.isList pl2.isList (by simp [← r1.length, ← r2.length, hl]) hu (fun j g1 g2 => ?_) ⟨.bl (j1y xs ys), H, I, ?_, q⟩
  ·have j1 : j < xs.length := by rw [r1.length]; simpa using g1
   have j2 : j < ys.length := by rw [r2.length]; simpa using g2
   obtain ⟨u1, e1, ru1⟩ := r1.get (i := j) (x := xs[j]) (by simp [j1])
   obtain ⟨u2, e2, ru2⟩ := r2.get (i := j) (x := ys[j]) (by simp [j2])
   have z1 : its.toArray[j] = u1 := by
    have := (List.getElem?_eq_some_iff.mp e1).2
    simpa using this
   have z2 : jts.toArray[j] = u2 := by
    have := (List.getElem?_eq_some_iff.mp e2).2
    simpa using this
   rw [z1, z2]
   have w1 : xs.getD j .non = xs[j] := by simp [j1]
   have w2 : ys.getD j .non = ys[j] := by simp [j2]
   show SeqAt.EqAt _ _ _ _ (eqV (xs.getD j .non) (ys.getD j .non))
   rw [w1, w2]
   exact q9z ru1 ru2 (List.all_eq_true.mp f1 _ (List.getElem_mem j1)) (List.all_eq_true.mp f2 _ (List.getElem_mem j2))
  ·rw [List.size_toArray, ← r1.length, x5s hl]; rfl
 ·refine SeqAt.eq_list_lengthsAt pl1.isList pl2.isList (by simp [← r1.length, ← r2.length, hl]) hu ⟨.bl (j1y xs ys), H, I, ?_, q⟩
  rw [z3k hl]; rfl
end
section
variable {prog : Program} {w : World} {A : Around} {E : Value → Shared → Prop} {s : Shared}
end
noncomputable def j9v : R2 := fun x y H Q => ∃ a b xs ys, x = .ref a ∧ y = .ref b ∧ H a = some (.tup xs) ∧ H b = some (.tup ys) ∧ xs.length + ys.length ≤ sizeLine ∧ ∀ p H', H' p = some (.tup (xs ++ ys)) → q1a H H' → Q (.ref p) H'
theorem q8t {X : Cx} : OpR X (binaryOp .Add) j9v := by
 intro pins s σ H x y v u Q I rx ry h
 obtain ⟨a, b, xs, ys, rfl, rfl, ha, hb, hz, q⟩ := h
 by_cases hx : xs = []
 ·subst hx
  cases rx
  cases ry
  obtain ⟨its, r1, p1, _⟩ := I.tuple (SqT.of ha)
  obtain ⟨its2, r2, p2, _⟩ := I.tuple (SqT.of hb)
  have e1 : its = [] := r1.nil_iff.mpr rfl
  obtain ⟨⟨cls, dd, data, sl⟩, ho, hc, n, hd⟩ := id p1
  obtain ⟨⟨cls2, dd2, data2, sl2⟩, ho2, hc2, n2, hd2⟩ := id p2
  simp only at hc hd hc2 hd2
  subst hc hd hc2 hd2
  exact concat_meets ⟨_, ho, rfl⟩ ⟨_, ho2, rfl⟩ noFill_tuple_add seq_tuple_add PySem.F.slot_tuple_add PySem.F.entry_tuple_add (PySem.F.args_tuple_add_2 _ _)
   (tuple_addW0 a b its.toArray its2.toArray n n2 dd dd2 sl sl2 (by simp [e1])) ⟨ho, ho2, ⟨.ref b, H, I, rfl, q b H (by simpa using hb) (q1a.refl _)⟩⟩
 ·refine j5i pins s σ H (.ref a) (.ref b) v u Q I rx ry ⟨a, b, xs, ys, rfl, rfl, SqT.of ha, SqT.of hb, hx, hz, fun e => ?_, fun _ p hp => ?_⟩
  ·subst e
   exact q a H (by simpa using ha) (q1a.refl _)
  ·exact q p _ q0g fun c o e => by rw [q1b (q1n e hp)]; exact e
theorem PT.weak {X : Cx} {e : Expr} {t t' : TT} (h : PT X e t) (w : ∀ σ H Q, t' σ H Q → t σ H Q) : PT X e t' := fun pins s σ H Q I q => h pins s σ H Q I (w σ H Q q)
end L2
namespace Kp
open PySem PyProof.Rows
noncomputable def q3k (c : Nat) : Bool := decide (97 ≤ c) && decide (c ≤ 122)
noncomputable def abc : Str := "abcdefghijklmnopqrstuvwxyz"
theorem j5u : abc.cps = #[97,98,99,100,101,102,103,104,105,106,107,108,109,110,111,112,113,114,115,116,117,118,119,120,121,122] := by decide +kernel
theorem z9s : ∀ (i : Nat), i < 26 → abc.cps[i]? = some (97 + i) := by rw [j5u]; decide
theorem j4u : abc.length = 26 := by decide +kernel
theorem j6j (x : Str) (c i : Nat) : Builtin.Str.subAt x ⟨#[c]⟩ i = true ↔ x.cps[i]? = some c := by
 unfold Builtin.Str.subAt
 have l1 : (⟨#[c]⟩ : Str).length = 1 := rfl
 rw [l1, beq_iff_eq]
 show x.cps.extract i (i + 1) = #[c] ↔ _
 by_cases h : i < x.cps.size
 ·have e : x.cps.extract i (i + 1) = #[x.cps[i]] := by
   apply Array.ext
   ·simp; omega
   ·intro j h1 h2
    have : j = 0 := by simp at h2; omega
    subst this
    simp
  rw [e, Array.getElem?_eq_getElem h]
  simp
 ·have e : x.cps.extract i (i + 1) = #[] := by
   apply Array.ext
   ·simp; omega
   ·intro j h1 h2; simp at h2
  rw [e, Array.getElem?_eq_none (by omega)]
  simp
theorem z2r (c : Nat) : (Txt.find abc ⟨#[c]⟩ < 0) ↔ q3k c = false := by
 have at_iff : ∀ i, StrLaws.At abc ⟨#[c]⟩ abc.length i ↔ i < 26 ∧ c = 97 + i := by
  intro i
  unfold StrLaws.At
  rw [j6j, j4u]
  constructor
  ·rintro ⟨h1, h2⟩
   have h3 : i < 26 := by have : (⟨#[c]⟩ : Str).length = 1 := rfl; omega
   rw [z9s i h3] at h2
   exact ⟨h3, (Option.some.inj h2).symm⟩
  ·rintro ⟨h1, rfl⟩
   exact ⟨by have : (⟨#[97 + i]⟩ : Str).length = 1 := rfl; omega, z9s i h1⟩
 have low : q3k c = true ↔ 97 ≤ c ∧ c ≤ 122 := by unfold q3k; simp
 rcases find_whole abc ⟨#[c]⟩ with ⟨e, h⟩ | ⟨i, e, h, _⟩
 ·rw [e]
  constructor
  ·intro _
   cases hl : q3k c with
   | false => rfl
   | true =>
    obtain ⟨a, b⟩ := low.mp hl
    exact absurd ((at_iff (c - 97)).mpr ⟨by omega, by omega⟩) (h _)
  ·intro _; decide
 ·rw [e]
  obtain ⟨h1, h2⟩ := (at_iff i).mp h
  constructor
  ·intro z; omega
  ·intro z
   have : q3k c = true := low.mpr ⟨by omega, by omega⟩
   rw [this] at z; cases z
theorem w5f (c : Nat) : (!decide ((⟨#[c]⟩ : Str).cps.toList < ("a" : Str).cps.toList)) = decide (97 ≤ c) := by
 have e : ("a" : Str).cps.toList = [97] := by decide +kernel
 rw [e]
 show (!decide ([c] < [97])) = _
 have : ([c] < [97]) ↔ c < 97 := by
  constructor
  ·intro h
   cases h with
   | rel h => exact h
   | cons h => cases h
  ·intro h; exact List.Lex.rel h
 rw [Bool.eq_iff_iff]
 simp only [Bool.not_eq_true', decide_eq_false_iff_not, decide_eq_true_eq, this]
 omega
theorem w3p (c : Nat) : (!decide (("z" : Str).cps.toList < (⟨#[c]⟩ : Str).cps.toList)) = decide (c ≤ 122) := by
 have e : ("z" : Str).cps.toList = [122] := by decide +kernel
 rw [e]
 show (!decide ([122] < [c])) = _
 have : ([122] < [c]) ↔ 122 < c := by
  constructor
  ·intro h
   cases h with
   | rel h => exact h
   | cons h => cases h
  ·intro h; exact List.Lex.rel h
 rw [Bool.eq_iff_iff]
 simp only [Bool.not_eq_true', decide_eq_false_iff_not, decide_eq_true_eq, this]
 omega
inductive D where
 | non | bl (b : Bool) | int (i : Int) | str (x : Str) | tup (xs : List D) | lst (xs : List D)
noncomputable def q2b : D → Bool
 | .str x => (decide (1 ≤ x.length) && decide (x.length ≤ 8)) && x.cps.toList.all q3k
 | _ => false
noncomputable def q1w : D → Bool
 | .str x => if x = "" ∨ 8 < x.length then false else (x.cps.toList.filter fun c => !q3k c).isEmpty
 | _ => false
theorem z9a (x : Str) : x = "" ↔ x.length = 0 := by
 constructor
 ·rintro rfl; rfl
 ·intro h
  obtain ⟨c⟩ := x
  have : c = #[] := Array.eq_empty_of_size_eq_zero h
  subst this
  rfl
theorem j5r : ∀ d, q2b d = q1w d
 | .str x => by
  unfold q2b q1w
  dsimp only
  have e := z9a x
  by_cases h0 : x.length = 0
  ·have h1 : ¬ 1 ≤ x.length := by omega
   rw [if_pos (.inl (e.mpr h0)), decide_eq_false h1]
   rfl
  ·by_cases h8 : 8 < x.length
   ·have h1 : ¬ x.length ≤ 8 := by omega
    rw [if_pos (.inr h8), decide_eq_false h1]
    simp
   ·have h1 : 1 ≤ x.length := by omega
    have h2 : x.length ≤ 8 := by omega
    rw [if_neg (by rintro (z | z); exact h0 (e.mp z); exact h8 z), decide_eq_true h1, decide_eq_true h2]
    generalize x.cps.toList = l
    rw [Bool.eq_iff_iff]
    simp [List.isEmpty_iff, List.filter_eq_nil_iff]
 | .non => rfl
 | .bl _ => rfl
 | .int _ => rfl
 | .tup _ => rfl
 | .lst _ => rfl
noncomputable def q0h : D → Bool
 | .int i => decide (0 ≤ i) && decide (i ≤ 8)
 | _ => false
noncomputable def q8f : List Int → Bool
 | a :: b :: r => decide (a < b) && q8f (b :: r)
 | _ => true
noncomputable def q3s : List D → List Int
 | .int i :: r => i :: q3s r
 | _ :: r => q3s r
 | [] => []
noncomputable def q2z : D → Bool
 | .tup ds => ds.all q0h && ((decide (1 ≤ ds.length) && decide (ds.length ≤ 9)) && q8f (q3s ds))
 | _ => false
noncomputable def goL : List D → Int → Bool
 | [], _ => true
 | .int i :: r, l => (decide (l ≤ i) && decide (i ≤ 8)) && goL r (i + 1)
 | _ :: _, _ => false
noncomputable def q4l : D → Bool
 | .tup ds => if ds.length = 0 then false else goL ds 0
 | _ => false
theorem z8y : ∀ (ds : List D) (l : Int), l ≤ 9 → goL ds l = true → (ds.length : Int) ≤ 9 - l
 | [], l, h, _ => by simp; omega
 | .int i :: r, l, h, g => by
  simp only [goL, Bool.and_eq_true, decide_eq_true_eq] at g
  have := z8y r (i + 1) (by omega) g.2
  simp only [List.length_cons]; omega
 | .non :: _, _, _, g => by cases g
 | .bl _ :: _, _, _, g => by cases g
 | .str _ :: _, _, _, g => by cases g
 | .tup _ :: _, _, _, g => by cases g
 | .lst _ :: _, _, _, g => by cases g
theorem z0m : ∀ (ds : List D) (l : Int), 0 ≤ l → (goL ds l = true ↔ ds.all q0h = true ∧ q8f (q3s ds) = true ∧ ∀ i, (q3s ds).head? = some i → l ≤ i)
 | [], l, h => by simp [goL, q8f, q3s]
 | .int i :: r, l, h => by
  simp only [goL, Bool.and_eq_true, decide_eq_true_eq, List.all_cons, q0h, q3s, List.head?_cons, Option.some.injEq]
  constructor
  ·rintro ⟨⟨a, b⟩, c⟩
   obtain ⟨c1, c2, c3⟩ := (z0m r (i + 1) (by omega)).mp c
   refine ⟨⟨⟨by omega, b⟩, c1⟩, ?_, fun j hj => by omega⟩
   cases hr : q3s r with
   | nil => rfl
   | cons j t =>
    have := c3 j (by rw [hr]; rfl)
    rw [hr] at c2
    simp only [q8f, Bool.and_eq_true, decide_eq_true_eq]
    exact ⟨by omega, c2⟩
  ·rintro ⟨⟨⟨a, b⟩, c⟩, d, e⟩
   refine ⟨⟨e i rfl, b⟩, (z0m r (i + 1) (by omega)).mpr ⟨c, ?_, ?_⟩⟩
   ·cases hr : q3s r with
    | nil => rfl
    | cons j t =>
     rw [hr] at d
     simp only [q8f, Bool.and_eq_true, decide_eq_true_eq] at d
     exact d.2
   ·intro j hj
    cases hr : q3s r with
    | nil => rw [hr] at hj; cases hj
    | cons k t =>
     rw [hr] at hj d
     cases hj
     simp only [q8f, Bool.and_eq_true, decide_eq_true_eq] at d
     omega
 | .non :: _, _, _ => by simp [goL, q0h]
 | .bl _ :: _, _, _ => by simp [goL, q0h]
 | .str _ :: _, _, _ => by simp [goL, q0h]
 | .tup _ :: _, _, _ => by simp [goL, q0h]
 | .lst _ :: _, _, _ => by simp [goL, q0h]
theorem z0w : ∀ (ds : List D), ds.all q0h = true → ∀ i, (q3s ds).head? = some i → 0 ≤ i
 | [], _, _, h => by cases h
 | .int i :: r, h, j, e => by
  simp only [List.all_cons, q0h, Bool.and_eq_true, decide_eq_true_eq] at h
  cases e
  exact h.1.1
 | .non :: _, h, _, _ => by simp [q0h] at h
 | .bl _ :: _, h, _, _ => by simp [q0h] at h
 | .str _ :: _, h, _, _ => by simp [q0h] at h
 | .tup _ :: _, h, _, _ => by simp [q0h] at h
 | .lst _ :: _, h, _, _ => by simp [q0h] at h
theorem j0o : ∀ d, q2z d = q4l d
 | .tup ds => by
  unfold q2z q4l
  dsimp only
  by_cases h0 : ds.length = 0
  ·rw [if_pos h0, decide_eq_false (by omega : ¬ 1 ≤ ds.length)]
   simp
  ·rw [if_neg h0, Bool.eq_iff_iff]
   simp only [Bool.and_eq_true, decide_eq_true_eq]
   have g := z0m ds 0 (by omega)
   constructor
   ·rintro ⟨a, ⟨b, c⟩, d⟩
    exact g.mpr ⟨a, d, z0w ds a⟩
   ·intro h
    obtain ⟨a, d, _⟩ := g.mp h
    have := z8y ds 0 (by omega) h
    exact ⟨a, ⟨by omega, by omega⟩, d⟩
 | .non => rfl
 | .bl _ => rfl
 | .int _ => rfl
 | .str _ => rfl
 | .lst _ => rfl
theorem x4a : ∀ (ds : List D), ds.all q0h = true → ds = (q3s ds).map D.int
 | [], _ => rfl
 | .int i :: r, h => by
  rw [List.all_cons, Bool.and_eq_true] at h
  rw [q3s, List.map_cons, ← x4a r h.2]
 | .non :: _, h => by simp [q0h] at h
 | .bl _ :: _, h => by simp [q0h] at h
 | .str _ :: _, h => by simp [q0h] at h
 | .tup _ :: _, h => by simp [q0h] at h
 | .lst _ :: _, h => by simp [q0h] at h
theorem z2l : ∀ (ns : List Int), ((ns.zip ns.tail).map fun p => decide (p.1 < p.2)).all id = q8f ns
 | [] => rfl
 | [_] => rfl
 | a :: b :: r => by
  have ih := z2l (b :: r)
  simp only [List.tail_cons] at ih ⊢
  rw [List.zip_cons_cons, List.map_cons, List.all_cons, q8f, ← ih]
  rfl
end Kp
namespace Kp
open PySem L2
mutual
inductive Is (B : Nat) (H : Hp) : V → D → Prop
 | non : Is B H .non .non
 | bl (b : Bool) : Is B H (.bl b) (.bl b)
 | int (i : Int) : Is B H (.int i) (.int i)
 | str (x : Str) (h : x.length ≤ B) : Is B H (.str x) (.str x)
 | tup {a : Addr} {vs : List V} {ds : List D} (e : H a = some (.tup vs)) (l : vs.length ≤ B) (r : IsL B H vs ds) : Is B H (.ref a) (.tup ds)
 | lst {a : Addr} {vs : List V} {ds : List D} (e : H a = some (.lst vs)) (l : vs.length ≤ B) (r : IsL B H vs ds) : Is B H (.ref a) (.lst ds)
inductive IsL (B : Nat) (H : Hp) : List V → List D → Prop
 | nil : IsL B H [] []
 | cons {v : V} {d : D} {vs : List V} {ds : List D} (h : Is B H v d) (t : IsL B H vs ds) : IsL B H (v :: vs) (d :: ds)
end
mutual
theorem Is.mono {B B' : Nat} {H H' : Hp} (hB : B ≤ B') (s : q1a H H') : ∀ {v d}, Is B H v d → Is B' H' v d
 | _, _, .non => .non
 | _, _, .bl b => .bl b
 | _, _, .int i => .int i
 | _, _, .str x h => .str x (Nat.le_trans h hB)
 | _, _, .tup e l r => .tup (s _ _ e) (Nat.le_trans l hB) (IsL.mono hB s r)
 | _, _, .lst e l r => .lst (s _ _ e) (Nat.le_trans l hB) (IsL.mono hB s r)
theorem IsL.mono {B B' : Nat} {H H' : Hp} (hB : B ≤ B') (s : q1a H H') : ∀ {vs ds}, IsL B H vs ds → IsL B' H' vs ds
 | _, _, .nil => .nil
 | _, _, .cons h t => .cons (Is.mono hB s h) (IsL.mono hB s t)
end
theorem Is.same {B : Nat} {H H' : Hp} {v : V} {d : D} (h : Is B H v d) (s : q1a H H') : Is B H' v d := h.mono (Nat.le_refl _) s
theorem IsL.same {B : Nat} {H H' : Hp} {v : List V} {d : List D} (h : IsL B H v d) (s : q1a H H') : IsL B H' v d := h.mono (Nat.le_refl _) s
theorem IsL.length {B : Nat} {H : Hp} : ∀ {vs ds}, IsL B H vs ds → vs.length = ds.length
 | _, _, .nil => rfl
 | _, _, .cons _ t => by simp [IsL.length t]
theorem IsL.get {B : Nat} {H : Hp} : ∀ {vs ds} {i : Nat} {v : V}, IsL B H vs ds → vs[i]? = some v → ∃ d, ds[i]? = some d ∧ Is B H v d
 | _, _, _, _, .nil, h => by simp at h
 | _, _, 0, _, .cons h _, e => by simp at e; subst e; exact ⟨_, rfl, h⟩
 | _, _, i + 1, v, .cons _ t, e => by
  obtain ⟨d, e', h⟩ := IsL.get (i := i) (v := v) t (by simpa using e)
  exact ⟨d, by simpa using e', h⟩
theorem IsL.append {B : Nat} {H : Hp} : ∀ {vs ds vs' ds'}, IsL B H vs ds → IsL B H vs' ds' → IsL B H (vs ++ vs') (ds ++ ds')
 | _, _, _, _, .nil, h => h
 | _, _, _, _, .cons h t, h' => .cons h (IsL.append t h')
noncomputable def Th (B : Nat) (H : Hp) (v : V) : Prop := ∃ d, Is B H v d
noncomputable def ThL (B : Nat) (H : Hp) (vs : List V) : Prop := ∃ ds, IsL B H vs ds
theorem ThL.nil {B : Nat} {H : Hp} : ThL B H [] := ⟨[], .nil⟩
theorem ThL.cons {B : Nat} {H : Hp} {v : V} {vs : List V} (h : Th B H v) (t : ThL B H vs) : ThL B H (v :: vs) := let ⟨d, q⟩ := h; let ⟨ds, r⟩ := t; ⟨d :: ds, .cons q r⟩
theorem Th.tup {B : Nat} {H : Hp} {a : Addr} {vs : List V} (e : H a = some (.tup vs)) (l : vs.length ≤ B) (h : ThL B H vs) : Th B H (.ref a) := let ⟨_, q⟩ := h; ⟨_, .tup e l q⟩
theorem Th.int {B : Nat} {H : Hp} (i : Int) : Th B H (.int i) := ⟨_, .int i⟩
theorem Th.bl {B : Nat} {H : Hp} (i : Bool) : Th B H (.bl i) := ⟨_, .bl i⟩
theorem Th.non {B : Nat} {H : Hp} : Th B H .non := ⟨_, .non⟩
theorem Th.str {B : Nat} {H : Hp} (x : Str) (h : x.length ≤ B) : Th B H (.str x) := ⟨_, .str x h⟩
theorem q0i {H : Hp} {p : Addr} {o : HO} (h : H p = none) : q1a H (upd H p o) := fun b u e => by rw [q1b (q1n e h)]; exact e
noncomputable def tyN : D → String
 | .non => "NoneType" | .bl _ => "bool" | .int _ => "int" | .str _ => "str" | .tup _ => "tuple" | .lst _ => "list"
theorem Is.ty {B : Nat} {H : Hp} {K : PySem.W.Frag} {v : V} {d : D} (h : Is B H v d) : TyOf K H v (.type (tyN d)) := by
 cases h with
 | non => exact .non
 | bl b => exact .bl b
 | int i => exact .int i
 | str x _ => exact .str x
 | tup e _ _ => exact .tup e
 | lst e _ _ => exact .lst e
noncomputable def isInt : D → Bool | .int _ => true | .bl _ => true | _ => false
noncomputable def z7l : D → Bool | .bl _ => true | _ => false
noncomputable def z9o : D → Bool | .str _ => true | _ => false
noncomputable def w0m : D → Bool | .tup _ => true | _ => false
theorem z1p (K : PySem.W.Frag) : ∀ d : D, PySem.W.kitOne K (.type (tyN d)) (.type "int") = some (isInt d)
 | .non => by with_unfolding_all rfl
 | .bl _ => by with_unfolding_all rfl
 | .int _ => by with_unfolding_all rfl
 | .str _ => by with_unfolding_all rfl
 | .tup _ => by with_unfolding_all rfl
 | .lst _ => by with_unfolding_all rfl
theorem q7n (K : PySem.W.Frag) : ∀ d : D, PySem.W.kitOne K (.type (tyN d)) (.type "bool") = some (z7l d)
 | .non => by with_unfolding_all rfl
 | .bl _ => by with_unfolding_all rfl
 | .int _ => by with_unfolding_all rfl
 | .str _ => by with_unfolding_all rfl
 | .tup _ => by with_unfolding_all rfl
 | .lst _ => by with_unfolding_all rfl
theorem x6t (K : PySem.W.Frag) : ∀ d : D, PySem.W.kitOne K (.type (tyN d)) (.type "str") = some (z9o d)
 | .non => by with_unfolding_all rfl
 | .bl _ => by with_unfolding_all rfl
 | .int _ => by with_unfolding_all rfl
 | .str _ => by with_unfolding_all rfl
 | .tup _ => by with_unfolding_all rfl
 | .lst _ => by with_unfolding_all rfl
theorem q8o (K : PySem.W.Frag) : ∀ d : D, PySem.W.kitOne K (.type (tyN d)) (.type "tuple") = some (w0m d)
 | .non => by with_unfolding_all rfl
 | .bl _ => by with_unfolding_all rfl
 | .int _ => by with_unfolding_all rfl
 | .str _ => by with_unfolding_all rfl
 | .tup _ => by with_unfolding_all rfl
 | .lst _ => by with_unfolding_all rfl
theorem q2e : bootBuiltins "isinstance" = some (.builtin "isinstance") := by decide +kernel
theorem q7r : bootBuiltins "int" = some (.type "int") := by decide +kernel
theorem q7c : bootBuiltins "bool" = some (.type "bool") := by decide +kernel
theorem x3d : bootBuiltins "str" = some (.type "str") := by decide +kernel
theorem q2i : bootBuiltins "tuple" = some (.type "tuple") := by decide +kernel
theorem q6y : bootBuiltins "all" = some (.builtin "all") := by decide +kernel
theorem q6p {X : Cx} {x : Str} {n : String} {pos : Pos} (hg : Gl X x) (hm : X.mg x = none) (hv : bootBuiltins x = some (.type n)) (hn : x ≠ "__name__" := by decide) (hd : (x == ("__debug__" : Str)) = false := by decide) : PE X (.Name x pos) (tC (.ty n)) := j6x (v := .ty n) hg hm hv rfl hn hd
section
variable {X : Cx} {K : PySem.W.Frag} {pos : Pos}
theorem x3n {es : List Expr} {k : Nat} {t : TGs} {n : Nat} (hK : X.K = K) (hc : X.calm = true) (h : PGs X es t) (hn : (assignEach es X.env).length = n := by rfl) (hst : (assignEach es X.env).findIdx? (·.1) = none := by rfl) : PG X (.Tuple es k pos) (w2k K n t) := by
 subst hK
 exact x3p hc h hn hst
theorem j2m (hK : X.K = K) : IxR X (w3a K) := by subst hK; exact q7v
theorem j4e {o e : Expr} {es : List Expr} {to : TE} {t : TA} {name : Str} {apos cpos : Pos} {T id : String} {r : V → List V → Hp → VK → Prop} (hK : X.K = K) (pa : PlainAttrs T) (slot : Slot T name id) (hty : typeOf (.builtin id) = pure (.type "method_descriptor")) (hm : MtR X id r) (ho : PE X o to) (ha : PA X (e :: es) t)
  (hbase : attributeBase o name X.env (eval o X.env) = eval o X.env := by rfl)
  (hfew : ((backTo cpos (starEach (e :: es) X.env)).all (fun x => !x.1) && (backToKw cpos (keywordEach [] X.env)).all (fun x => x.1.isSome) && decide ((e :: es).length + ([] : List Keyword).length + (if ([] : List Keyword).isEmpty then 0 else 1) < 30)) = true := by rfl)
  (hline : (apos.endLine == cpos.line) = true := by rfl) (hs : starEach (e :: es) X.env = (false, eval e X.env) :: starEach es X.env := by rfl) (hplain : (backTo cpos (starEach es X.env)).any (·.1) = false := by rfl) :
  PE X (.Call (.Attribute o name apos) (e :: es) [] cpos) (tBM K T r to t) := by
 subst hK
 exact x2x pa slot hty hm ho ha hbase hfew hline hs hplain
theorem q3d {x : Str} {f : Addr} (hg : Gl X x) (hm : X.mg x = some (.ref f)) (hd : (x == ("__debug__" : Str)) = false := by decide) : PE X (.Name x pos) (tC (.ref f)) := j5m (v := .ref f) hg hm rfl hd
end
noncomputable def x4m (outer scope : Scope) : Bool := scope.kind == .function && scope.names.all fun y => y.2 != .cell && (y.2 != .local || scope.names.lookup y.1 == some .local) && (y.2 != .free || outer.names.lookup y.1 == some .cell)
theorem z1m {X : Cx} {outer scope : Scope} {NB : List Str} {n : Nat} {fr : List Nat} (hX : X.env.scope = outer) (h : x4m outer scope = true) (hl : NB.length = n + fr.length)
  (ho : ∀ (j k : Nat), fr[j]? = some k → ∃ x, NB[n + j]? = some x ∧ X.N[k]? = some x ∧ scope.names.lookup x = some .free) : CompOk X scope NB n fr := by
 unfold x4m at h
 rw [Bool.and_eq_true, List.all_eq_true] at h
 obtain ⟨h1, h2⟩ := h
 refine ⟨by simpa using h1, fun y hy => ?_, fun y hy hk => ?_, fun y hy hk => ?_, hl, ho⟩
 ·have := h2 y hy
  simp only [Bool.and_eq_true, bne_iff_ne, ne_eq] at this
  exact this.1.1
 ·have := h2 y hy
  simp only [Bool.and_eq_true, Bool.or_eq_true, bne_iff_ne, ne_eq, beq_iff_eq] at this
  exact this.1.2.resolve_left (fun z => z hk)
 ·have := h2 y hy
  simp only [Bool.and_eq_true, Bool.or_eq_true, bne_iff_ne, ne_eq, beq_iff_eq] at this
  refine .inl ?_
  show X.env.scope.names.lookup y.1 = some .cell
  rw [hX]
  exact this.2.resolve_left (fun z => z hk)
theorem q5u {X : Cx} {outer scope : Scope} {NB : List Str} {n : Nat} (hX : X.env.scope = outer) (h : x4m outer scope = true) (hl : NB.length = n + 0) : CompOk X scope NB n [] :=
 z1m hX h hl fun j k e => by simp at e
theorem x7j {X : Cx} {outer scope : Scope} {NB : List Str} {n k0 : Nat} {x : Str} (hX : X.env.scope = outer) (h : x4m outer scope = true) (hl : NB.length = n + 1) (h1 : NB[n]? = some x) (h2 : X.N[k0]? = some x) (h3 : scope.names.lookup x = some .free) : CompOk X scope NB n [k0] :=
 z1m hX h hl fun j k e => by
  cases j with
  | zero => cases e; exact ⟨x, h1, h2, h3⟩
  | succ j => simp at e
theorem x1p {X : Cx} {outer scope : Scope} {NB : List Str} {n k0 k1 : Nat} {x y : Str} (hX : X.env.scope = outer) (h : x4m outer scope = true) (hl : NB.length = n + 2) (h1 : NB[n]? = some x) (h2 : X.N[k0]? = some x) (h3 : scope.names.lookup x = some .free)
  (g1 : NB[n + 1]? = some y) (g2 : X.N[k1]? = some y) (g3 : scope.names.lookup y = some .free) : CompOk X scope NB n [k0, k1] :=
 z1m hX h hl fun j k e => by
  match j, e with
  | 0, e => cases e; exact ⟨x, h1, h2, h3⟩
  | 1, e => cases e; exact ⟨y, g1, g2, g3⟩
  | j + 2, e => simp at e
theorem q2y {J : It} {H1 : Hp} {n k : Nat} {frs : St} {g : TG} {tt : TT} {te : TE} {Q : VK} (p : Nat → Bool) (f : Nat → V) (hn : n < sizeLine)
  (go : ∀ i H, i < n → q1a H1 H → J.go i H) (stop : ∀ H, q1a H1 H → J.stop n H)
  (turn : ∀ i H t x H2 (R : St → Hp → Option V → Prop), i < n → q1a H1 H → t.length = k → J.yld i H x H2 →
   (∀ t' H', t'.length = k → q1a H H' → R (t' ++ frs) H' (if p i = true then some (f i) else none)) →
   g x (t ++ frs) H2 fun σ3 H3 => tt σ3 H3 fun b H4 => if b = true then te σ3 H4 fun v H5 => R σ3 H5 (some v) else R σ3 H4 none)
  (hq : ∀ D H', q1a H1 H' → H1 D = none → H' D = some (.lst (((List.range n).filter p).map f)) → Q (.ref D) H') : x3y (List.replicate k none ++ frs) g tt te Q J H1 := by
 intro D hD
 refine ⟨fun i m ys σ H => i ≤ n ∧ m = n - i ∧ ys = ((List.range i).filter p).map f ∧ q1a H1 H ∧ ∃ t, t.length = k ∧ σ = t ++ frs, ⟨n, Nat.zero_le _, rfl, rfl, q0i hD, _, by simp, rfl⟩, ?_⟩
 rintro i m ys σ H ⟨hi, rfl, rfl, s1, t, ht, rfl⟩ hd
 by_cases hlt : i < n
 ·right
  refine ⟨go i H hlt s1, ?_, fun x H2 y => ?_⟩
  ·refine Nat.lt_of_le_of_lt ?_ hn
   rw [List.length_map]
   exact Nat.le_trans (List.length_filter_le _ _) (by simpa using hi)
  ·have h := turn i H t x H2 (fun σ3 H5 r => match r with
    | some v => H5 D = some (.lst (((List.range i).filter p).map f)) ∧ ∃ m', m' < n - i ∧ (i + 1 ≤ n ∧ m' = n - (i + 1) ∧ ((List.range i).filter p).map f ++ [v] = ((List.range (i + 1)).filter p).map f ∧ q1a H1 (upd H5 D (.lst (((List.range i).filter p).map f ++ [v]))) ∧ ∃ t, t.length = k ∧ σ3 = t ++ frs)
    | none => H5 D = some (.lst (((List.range i).filter p).map f)) ∧ ∃ m', m' < n - i ∧ (i + 1 ≤ n ∧ m' = n - (i + 1) ∧ ((List.range i).filter p).map f = ((List.range (i + 1)).filter p).map f ∧ q1a H1 H5 ∧ ∃ t, t.length = k ∧ σ3 = t ++ frs)) hlt s1 ht y ?_
   ·exact h
   ·intro t' H' ht' s2
    cases hp : p i with
    | true =>
     rw [if_pos rfl]
     refine ⟨s2 _ _ hd, n - (i + 1), by omega, by omega, rfl, ?_, fun b o e => ?_, t', ht', rfl⟩
     ·rw [List.range_succ, List.filter_append, List.map_append]
      simp [hp]
     ·rw [q1b (q1n e hD)]; exact s2 _ _ (s1 _ _ e)
    | false =>
     rw [if_neg Bool.false_ne_true]
     refine ⟨s2 _ _ hd, n - (i + 1), by omega, by omega, rfl, ?_, s1.trans s2, t', ht', rfl⟩
     rw [List.range_succ, List.filter_append, List.map_append]
     simp [hp]
 ·have e : i = n := by omega
  subst e
  exact .inl ⟨stop H s1, hq D H s1 hD hd⟩
noncomputable def spP (f : D → Bool) : Sp := fun vs H Q _ => ∃ B v d, B ≤ 1000 ∧ vs = [v] ∧ Is B H v d ∧ ∀ H', q1a H H' → Q (.bl (f d)) H'
theorem q2c {f : D → Bool} : ∀ vs H Q E, spP f vs H Q E → vs.length = 1 := fun vs H Q E ⟨_, _, _, _, e, _⟩ => by subst e; rfl
structure Cal (P : Program) (w : World) (K : PySem.W.Frag) (mg : Str → Option Value) (base : Heap) (name : Str) (k : Nat) (ps : List Str) (sp : Sp) : Prop where
 ex : ∃ f fd, FnOk P w K mg base CX0 k f fd ps sp ∧ mg name = some (.ref f) ∧ PySem.W.keepIn K (.ref f) = true ∧ q3p K fd ps []
theorem q0f {X : Cx} {x : Str} {k : Nat} {ps : List Str} {sp : Sp} {e : Expr} {es : List Expr} {t : TA} {p pos : Pos} (C : Cal X.prog X.w X.K X.mg X.base x k ps sp) (hr : Room k X.A) (ha : PA X (e :: es) t) (hg : Gl X x := by rfl) (hdb : (x == ("__debug__" : Str)) = false := by decide) (he : starEach (e :: es) X.env = (false, eval e X.env) :: starEach es X.env := by rfl) (hpl : (backTo pos (starEach es X.env)).any (·.1) = false := by rfl) :
  PE X (.Call (.Name x p) (e :: es) [] pos) (j4w sp [] E0 t) := let ⟨_, _, F, hm, hk, hb⟩ := C.ex; x2i F hr hg hm hk hb .nil q6z ha hdb he hpl
theorem j3z {n B : Nat} (h : n ≤ B) (hB : B ≤ 1000) : n ≤ sizeLine := by rw [sizeLine_eq]; omega
noncomputable def whole (d : D) : Bool := isInt d && !z7l d
theorem x4e {d : D} (h : whole d = true) : ∃ i, d = .int i := by
 cases d with
 | int i => exact ⟨i, rfl⟩
 | _ => cases h
section
variable {X : Cx} {es : List Expr} {te : TE} {t : TA} {pos : Pos}
theorem q8e {c : Const} {k : Nat} (ha : PE X (.Constant c k pos) te) (hr : PA X es t) : PA X (.Constant c k pos :: es) (q8g te t) := q0c ha hr rfl
theorem q1i {x : Str} (ha : PE X (.Name x pos) te) (hr : PA X es t) : PA X (.Name x pos :: es) (q8g te t) := q0c ha hr rfl
theorem j7l {l : List Expr} {k : Nat} (ha : PE X (.Tuple l k pos) te) (hr : PA X es t) : PA X (.Tuple l k pos :: es) (q8g te t) := q0c ha hr rfl
theorem q9r {o : Operator} {a b : Expr} (ha : PE X (.BinOp a o b pos) te) (hr : PA X es t) : PA X (.BinOp a o b pos :: es) (q8g te t) := q0c ha hr rfl
theorem q7f {f : Expr} {as : List Expr} {ks : List Keyword} (ha : PE X (.Call f as ks pos) te) (hr : PA X es t) : PA X (.Call f as ks pos :: es) (q8g te t) := q0c ha hr rfl
theorem q4n {a b : Expr} (ha : PE X (.Subscript a b pos) te) (hr : PA X es t) : PA X (.Subscript a b pos :: es) (q8g te t) := q0c ha hr rfl
theorem w2o {a : Expr} {o : List CmpOp} {b : List Expr} (ha : PE X (.Compare a o b pos) te) (hr : PA X es t) : PA X (.Compare a o b pos :: es) (q8g te t) := q0c ha hr rfl
end
theorem j3x {a b : Expr} {o : Operator} {pos : Pos} : x2g (.BinOp a o b pos) := fun _ _ => rfl
theorem w5z {x : Str} {pos : Pos} : x2g (.Name x pos) := fun _ _ => rfl
theorem q2q {c : Const} {k : Nat} {pos : Pos} : x2g (.Constant c k pos) := fun _ _ => rfl
theorem w2r {o : UnaryOp} {a : Expr} {pos : Pos} : x2g (.UnaryOp o a pos) := fun _ _ => rfl
theorem w4q {l : List Expr} {p : Pos} {t : Option Expr} {n : Nat} {env : Env} : swapsWith (.List l p) t n env = pure false := rfl
structure QA (X : Cx) (es : List Expr) (t : TA) : Prop where
 h : PA X es t
section
variable {X : Cx} {es l : List Expr} {t u : TA} {p p' : Pos} {j : Nat}
theorem q5k : QA X [] j8a := ⟨q0b⟩
theorem x1b {i : Int} (r : QA X es t) : QA X (.Constant (.int i) j p :: es) (q8g (tC (.int i)) t) := ⟨q0c q0a r.h rfl⟩
theorem q2u {i : Str} (r : QA X es t) : QA X (.Constant (.str i) j p :: es) (q8g (tC (.str i)) t) := ⟨q0c q0r r.h rfl⟩
theorem j8r (r : QA X es t) : QA X (.Constant .none j p :: es) (q8g (tC .non) t) := ⟨q0c x2r r.h rfl⟩
end
structure QE (X : Cx) (e : Expr) (t : TE) : Prop where
 h : PE X e t
structure QS (X : Cx) (st : Stmt) (t : TS) : Prop where
 h : PS X st t
section
variable {X : Cx} {es : List Expr} {t : TA} {p p' pos : Pos} {j : Nat}
theorem z9q (a : QA X es t) : QE X (.List es p) (w2w t) := ⟨x2l a.h⟩
theorem j8q {i : Nat} {x : Str} {e : Expr} {te : TE} (hN : X.N.Nodup) (hi : X.N[i]? = some x) (hx : Loc X.env.scope x) (he : QE X e te) (hs : swapsWith e (some (.Name x p')) pos.line X.env = pure false) (hf : X.fn x = true ∨ X.env.scope.names.lookup x = some .local := by first | exact .inl rfl | exact .inr rfl | assumption) :
  QS X (.Assign [.Name x p'] e pos) (j9y te (z6s i)) := ⟨q1c hN hi hx he.h hs hf⟩
end
end Kp
namespace Kp
open PySem L2 PyProof.Rows
noncomputable def w0i (K : PySem.W.Frag) (w : World) (to : TE) (t : TA) : TE := fun σ H Q => to σ H fun x H1 => ∃ a es n, x = .ref a ∧ K.lookup a = some ⟨.type "dict", none, .dict es n, #[]⟩ ∧ PySem.W.KeysLit w.params es.toList ∧ (a == sysModules) = false ∧
 t σ H1 fun xs H2 => ∃ k v, xs = [.str k] ∧ q5d v ((findBy Value.isStrOf es k).getD .none) ∧ Q v H2
theorem x2j {X : Cx} {o e : Expr} {to : TE} {t : TA} {apos cpos : Pos} (ho : PE X o to) (ha : PA X [e] t)
  (hbase : attributeBase o "get" X.env (eval o X.env) = eval o X.env := by rfl)
  (hfew : ((backTo cpos (starEach [e] X.env)).all (fun x => !x.1) && (backToKw cpos (keywordEach [] X.env)).all (fun x => x.1.isSome)
   && decide ([e].length + ([] : List Keyword).length + (if ([] : List Keyword).isEmpty then 0 else 1) < 30)) = true := by rfl)
  (hline : (apos.endLine == cpos.line) = true := by rfl) (hs : starEach [e] X.env = (false, eval e X.env) :: starEach [] X.env := by rfl) :
  PE X (.Call (.Attribute o "get" apos) [e] [] cpos) (w0i X.K X.w to t) := by
 intro pins s σ H Q I h
 refine wpAny_Call_method_late hbase hfew hline rfl (thn (ho pins s σ H _ I h) fun v s1 ⟨x, H1, I1, r1, a, es, n, ex, hl, hk, hsys, q1⟩ => ?_)
 subst ex
 cases r1
 have hm := PySem.W.mapOf_K (prog := X.prog) (w := X.w) I1.kIn hl hk
 refine ⟨"dict", "dict.get", PySem.F.plainAttrs_dict, PySem.F.slot_dict_get, PySem.F.type_dict_get, hm.typeIs, fun b e => ?_, ?_⟩
 ·cases e
  exact ⟨_, I1.kIn _ _ hl, rfl⟩
 have hA := ha cpos pins s1 σ H1 _ I1 q1
 rw [hs] at hA ⊢
 refine Calls.callWith_builtin rfl (Calls.evalArgs_plain ?_)
 refine thn hA fun us s2 ⟨vs, H2, I2, r2, k, vv, e2, rv, q2⟩ => ?_
 subst e2
 obtain ⟨u, rfl, t', rfl⟩ := x0z r2
 have hm2 := PySem.W.mapOf_K (prog := X.prog) (w := X.w) I2.kIn hl hk
 exact call_meetsIn PySem.F.slot_dict_get hm2.typeIs PySem.F.entry_dict_get (PySem.F.args_dict_get_2 _ _) (meets_dict_get (strKind X.prog X.w) a (strKind_is X.prog X.w k t') hsys) ⟨_, hm2, vv, H2, I2.tok _, rv, q2⟩
structure Tl (P : Program) (w : World) (K : PySem.W.Frag) (mg : Str → Option Value) (base : Heap) (k : Nat) (g : Addr) (p : D → Bool) : Prop where
 ex : ∃ k' fd px, k' ≤ k ∧ FnOk P w K mg base CX0 k' g fd [px] (spP p) ∧ PySem.W.keepIn K (.ref g) = true ∧ q3p K fd [px] []
noncomputable def j9f (P : Program) (w : World) (K : PySem.W.Frag) (mg : Str → Option Value) (base : Heap) (k : Nat) (E : XK) (tf : TE) (t : TA) : TE := fun σ H Q => tf σ H fun x H1 => ∃ g p, x = .ref g ∧ Tl P w K mg base k g p ∧ t σ H1 fun vs H2 => spP p (vs ++ []) H2 Q E
theorem j0v {X : Cx} {P : Program} {w : World} {K : PySem.W.Frag} {mg : Str → Option Value} {base : Heap} {k : Nat} {E : XK} {x : Str} {p pos : Pos} {e : Expr} {es : List Expr} {tf : TE} {t : TA} (h1 : X.prog = P) (h2 : X.w = w) (h3 : X.K = K) (h4 : X.mg = mg) (h5 : X.base = base) (hr : Room k X.A)
  (hx : x1n CX0 X E) (hf : PE X (.Name x p) tf) (ha : PA X (e :: es) t)
  (he : starEach (e :: es) X.env = (false, eval e X.env) :: starEach es X.env := by rfl) (hpl : (backTo pos (starEach es X.env)).any (·.1) = false := by rfl) :
  PE X (.Call (.Name x p) (e :: es) [] pos) (j9f P w K mg base k E tf t) := by
 subst h1 h2 h3 h4 h5
 intro pins s σ H Q I h
 refine wpAny_Call_Name_kw (thn (hf pins s σ H _ I h) fun u s0 ⟨v, H0, I0, r0, g, p, e0, T, q0⟩ => ?_)
 subst e0
 cases r0
 obtain ⟨k', fd, px, hk', F, hk, hb⟩ := T.ex
 refine PySem.W.callWith_K (h₀ := X.base) I.ok.mod.kin hk (thn (ha pos pins s0 σ H0 _ I0 q0) fun us s1 ⟨vs, H1, I1, r, q⟩ => ⟨I1.kIn, ?_⟩) he hpl
 exact x9r F (hr.mono hk') hb .nil hx I1 r q
section
variable {P : Program} {w : World} {K : PySem.W.Frag} {mg : Str → Option Value} {base : Heap}
inductive Tls (P : Program) (w : World) (K : PySem.W.Frag) (mg : Str → Option Value) (base : Heap) (k : Nat) : List V → List (D → Bool) → Prop
 | nil : Tls P w K mg base k [] []
 | cons {g : Addr} {p : D → Bool} {gs : List V} {ps : List (D → Bool)} (h : Tl P w K mg base k g p) (t : Tls P w K mg base k gs ps) : Tls P w K mg base k (.ref g :: gs) (p :: ps)
theorem Tls.length {k : Nat} : ∀ {gs ps}, Tls P w K mg base k gs ps → gs.length = ps.length
 | _, _, .nil => rfl
 | _, _, .cons _ t => by simp [Tls.length t]
theorem Tls.get {k : Nat} : ∀ {gs ps} {i : Nat} {v : V}, Tls P w K mg base k gs ps → gs[i]? = some v → ∃ g p, v = .ref g ∧ ps[i]? = some p ∧ Tl P w K mg base k g p
 | _, _, _, _, .nil, e => by simp at e
 | _, _, 0, _, .cons h _, e => by simp at e; subst e; exact ⟨_, _, rfl, rfl, h⟩
 | _, _, i + 1, v, .cons _ t, e => by
  obtain ⟨g, p, a, b, c⟩ := Tls.get (i := i) (v := v) t (by simpa using e)
  exact ⟨g, p, a, by simpa using b, c⟩
inductive Tbl (P : Program) (w : World) (K : PySem.W.Frag) (mg : Str → Option Value) (base : Heap) (k : Nat) : List DictEntry → List (Str × List (D → Bool)) → Prop
 | nil : Tbl P w K mg base k [] []
 | cons {x : Str} {tk : Tok} {t : Addr} {gs : List V} {ps : List (D → Bool)} {es : List DictEntry} {tb : List (Str × List (D → Bool))} (hs : ∀ H : Hp, SqT K H t gs) (ht : Tls P w K mg base k gs ps) (r : Tbl P w K mg base k es tb) :
   Tbl P w K mg base k (⟨PyData.keyHash w.params x, .str x tk, .ref t⟩ :: es) ((x, ps) :: tb)
theorem Tbl.keys {k : Nat} : ∀ {es tb}, Tbl P w K mg base k es tb → PySem.W.KeysLit w.params es
 | _, _, .nil => trivial
 | _, _, .cons _ _ r => ⟨⟨_, _, rfl, rfl⟩, Tbl.keys r⟩
theorem Tbl.find {k : Nat} {x : Str} : ∀ {es tb}, Tbl P w K mg base k es tb → ∃ v, q5d v (((es.find? fun e => Value.isStrOf x e.key).map (·.val)).getD .none) ∧
  ((tb.lookup x = none ∧ v = .non) ∨ ∃ ps t gs, tb.lookup x = some ps ∧ v = .ref t ∧ (∀ H : Hp, SqT K H t gs) ∧ Tls P w K mg base k gs ps)
 | _, _, .nil => ⟨.non, rfl, .inl ⟨rfl, rfl⟩⟩
 | _, _, @Tbl.cons _ _ _ _ _ _ y tk t gs ps es tb hs ht r => by
  rw [List.find?_cons, List.lookup_cons]
  have e : Value.isStrOf x (Value.str y tk) = (x == y) := by
   show (y == x) = (x == y)
   rw [Bool.eq_iff_iff, beq_iff_eq, beq_iff_eq]
   exact eq_comm
  dsimp only
  rw [e]
  cases hx : x == y with
  | true => exact ⟨.ref t, rfl, .inr ⟨ps, t, gs, rfl, rfl, hs, ht⟩⟩
  | false => exact Tbl.find r
end
end Kp
namespace Kp
open PySem
noncomputable def geD (l : Int) : D → Bool
 | .int i => decide (l ≤ i)
 | _ => false
noncomputable def q0v : List (D → Bool) → List D → Bool
 | [], [] => true
 | p :: ps, d :: ds => p d && q0v ps ds
 | _, _ => false
noncomputable def q9x (ps : List (D → Bool)) : D → Bool
 | .tup ds => q0v ps ds
 | _ => false
noncomputable def q1l : D → Str
 | .tup (.str x :: _) => x
 | _ => ""
noncomputable def q2g (tb : List (Str × List (D → Bool))) : D → Bool
 | .tup (.str x :: r) => match tb.lookup x with
  | some ps => q0v ps r
  | none => false
 | _ => false
theorem q6c {d : D} {x : Str} (h : q1l d = x) (hx : x ≠ "") : ∃ r, d = .tup (.str x :: r) := by
 unfold q1l at h
 split at h
 ·subst h; exact ⟨_, rfl⟩
 ·exact absurd h.symm hx
theorem x1j : ∀ {ps : List (D → Bool)} {ds : List D}, ds.length ≠ ps.length → q0v ps ds = false
 | [], [], h => absurd rfl h
 | [], _ :: _, _ => rfl
 | _ :: _, [], _ => rfl
 | p :: ps, d :: ds, h => by rw [q0v, x1j (fun e => h (by simp [e])), Bool.and_false]
theorem x4q : ∀ {ps : List (D → Bool)} {ds : List D}, ds.length = ps.length → ((List.range ps.length).map fun i => (ps.getD i fun _ => true) (ds.getD i .non)).all id = q0v ps ds
 | [], [], _ => rfl
 | p :: ps, d :: ds, h => by
  have h' : ds.length = ps.length := by simpa using h
  rw [q0v, ← x4q h', List.length_cons, List.range_succ_eq_map, List.map_cons, List.all_cons, List.map_map]
  rfl
theorem x0j {tb : List (Str × List (D → Bool))} {d : D} (h : tb.lookup (q1l d) = none) : q2g tb d = false := by
 unfold q2g
 split
 ·rename_i x r
  have h' : tb.lookup x = none := h
  rw [h']
 ·rfl
noncomputable def x6k (nm : D → Bool) : List (Str × List (D → Bool)) := [("set", [nm, whole]), ("add", [nm, whole]), ("get", [nm])]
noncomputable def q5j : D → Bool := q2g (x6k q2b)
noncomputable def x7l : List (Str × List (D → Bool)) := [("open", []), ("wish", [q2b, geD 1, q5j]), ("seats", [q2z])]
noncomputable def x0c : D → Bool := q2g x7l
noncomputable def q3m : D → Bool := q9x [geD 1, x0c]
noncomputable def one (p : D → Bool) : List D → Bool
 | [a] => p a
 | _ => false
noncomputable def two (p q : D → Bool) : List D → Bool
 | [a, b] => p a && q b
 | _ => false
noncomputable def x1k (p q s : D → Bool) : List D → Bool
 | [a, b, c] => p a && (q b && s c)
 | _ => false
noncomputable def q6a : D → Bool
 | .tup (.str x :: r) => if x = "get" then one q1w r else if x = "set" ∨ x = "add" then two q1w whole r else false
 | _ => false
noncomputable def x5b : D → Bool
 | .tup (.str x :: r) => match r with
  | [a, b, c] => if x = "wish" then q1w a && (geD 1 b && q6a c) else false
  | [a] => if x = "seats" then q4l a else false
  | [] => decide (x = "open")
  | _ => false
 | _ => false
noncomputable def q8a : D → Bool
 | .tup [a, b] => geD 1 a && x5b b
 | _ => false
theorem z4r (p q : D → Bool) : ∀ r : List D, q0v [p, q] r = two p q r
 | [] => rfl
 | [_] => by simp [q0v, one, two, x1k]
 | [a, b] => by simp [q0v, one, two, x1k]
 | _ :: _ :: _ :: _ => by simp [q0v, one, two, x1k]
theorem j7t (p : D → Bool) : ∀ r : List D, q0v [p] r = one p r
 | [] => rfl
 | [a] => by simp [q0v, one, two, x1k]
 | _ :: _ :: _ => by simp [q0v, one, two, x1k]
theorem j4s (p q s : D → Bool) : ∀ r : List D, q0v [p, q, s] r = x1k p q s r
 | [] => rfl
 | [_] => by simp [q0v, one, two, x1k]
 | [_, _] => by simp [q0v, one, two, x1k]
 | [a, b, c] => by simp [q0v, one, two, x1k]
 | _ :: _ :: _ :: _ :: _ => by simp [q0v, one, two, x1k]
theorem x0f : q2b = q1w := funext j5r
theorem z2i : q2z = q4l := funext j0o
theorem w1v : ("set" : Str) ≠ "get" := by decide +kernel
theorem w1f : ("add" : Str) ≠ "get" := by decide +kernel
theorem j5y (d : D) : q5j d = q6a d := by
 unfold q5j q2g q6a
 split
 ·rename_i x r
  unfold x6k
  rw [List.lookup_cons, List.lookup_cons, List.lookup_cons, List.lookup_nil, x0f]
  by_cases h1 : x = "set"
  ·have e1 : (x == ("set" : Str)) = true := by simp [h1]
   rw [e1, if_neg (by rw [h1]; exact w1v), if_pos (.inl h1)]
   exact z4r _ _ r
  ·have e1 : (x == ("set" : Str)) = false := by simp [h1]
   by_cases h2 : x = "add"
   ·have e2 : (x == ("add" : Str)) = true := by simp [h2]
    rw [e1, e2, if_neg (by rw [h2]; exact w1f), if_pos (.inr h2)]
    exact z4r _ _ r
   ·have e2 : (x == ("add" : Str)) = false := by simp [h2]
    by_cases h3 : x = "get"
    ·have e3 : (x == ("get" : Str)) = true := by simp [h3]
     rw [e1, e2, e3, if_pos h3]
     exact j7t _ r
    ·have e3 : (x == ("get" : Str)) = false := by simp [h3]
     rw [e1, e2, e3, if_neg h3, if_neg (by rintro (z | z); exact h1 z; exact h2 z)]
 ·rfl
theorem z6j : q5j = q6a := funext j5y
theorem w1q : ("open" : Str) ≠ "wish" := by decide +kernel
theorem w0g : ("open" : Str) ≠ "seats" := by decide +kernel
theorem w1l : ("wish" : Str) ≠ "seats" := by decide +kernel
theorem w1j : ("wish" : Str) ≠ "open" := by decide +kernel
theorem w0l : ("seats" : Str) ≠ "wish" := by decide +kernel
theorem w0n : ("seats" : Str) ≠ "open" := by decide +kernel
theorem j4l (d : D) : x0c d = x5b d := by
 unfold x0c q2g x5b
 split
 ·rename_i x r
  unfold x7l
  rw [List.lookup_cons, List.lookup_cons, List.lookup_cons, List.lookup_nil, x0f, z6j, z2i]
  by_cases h1 : x = "open"
  ·subst h1
   rw [show ((("open" : Str)) == ("open" : Str)) = true by simp]
   match r with
   | [] => simp [q0v]
   | [a] => exact (if_neg w0g).symm
   | [a, b] => rfl
   | [a, b, c] => exact (if_neg w1q).symm
   | _ :: _ :: _ :: _ :: _ => rfl
  ·have e1 : (x == ("open" : Str)) = false := by simp [h1]
   rw [e1]
   by_cases h2 : x = "wish"
   ·subst h2
    rw [show ((("wish" : Str)) == ("wish" : Str)) = true by simp]
    show q0v [q1w, geD 1, q6a] r = _
    rw [j4s]
    match r with
    | [] => exact (decide_eq_false w1j).symm
    | [a] => exact (if_neg w1l).symm
    | [a, b] => rfl
    | [a, b, c] => exact (if_pos rfl).symm
    | _ :: _ :: _ :: _ :: _ => rfl
   ·have e2 : (x == ("wish" : Str)) = false := by simp [h2]
    rw [e2]
    by_cases h3 : x = "seats"
    ·subst h3
     rw [show ((("seats" : Str)) == ("seats" : Str)) = true by simp]
     show q0v [q4l] r = _
     rw [j7t]
     match r with
     | [] => exact (decide_eq_false w0n).symm
     | [a] => exact (if_pos rfl).symm
     | [a, b] => rfl
     | [a, b, c] => exact (if_neg w0l).symm
     | _ :: _ :: _ :: _ :: _ => rfl
    ·have e3 : (x == ("seats" : Str)) = false := by simp [h3]
     rw [e3]
     match r with
     | [] => exact (decide_eq_false h1).symm
     | [a] => exact (if_neg h3).symm
     | [a, b] => rfl
     | [a, b, c] => exact (if_neg h2).symm
     | _ :: _ :: _ :: _ :: _ => rfl
 ·rfl
theorem j4o : x0c = x5b := funext j4l
theorem j0x (d : D) : q3m d = q8a d := by
 unfold q3m q9x q8a
 rw [j4o]
 split
 ·rename_i ds
  rw [z4r]
  match ds with
  | [] => rfl
  | [_] => rfl
  | [a, b] => rfl
  | _ :: _ :: _ :: _ => rfl
 ·rename_i h
  cases d with
  | tup ds => exact absurd rfl (h ds)
  | _ => rfl
theorem z8h (r : List D) : q6a (.tup (.str "get" :: r)) = one q1w r := by unfold q6a; exact if_pos rfl
noncomputable def z5q : D → Nat
 | .tup ds => ds.length
 | _ => 0
noncomputable def j2j : D → List D
 | .tup (_ :: r) => r
 | _ => []
noncomputable def z1a (d : D) : Bool := if q1l d = "wish" ∧ z5q d = 4 then x1k q1w (geD 1) q6a (j2j d) else if q1l d = "seats" ∧ z5q d = 2 then one q4l (j2j d) else decide (q1l d = "open" ∧ z5q d = 1)
theorem j0h {d : D} (h : q1l d = "") : z1a d = false := by
 unfold z1a
 rw [h, if_neg (fun z => absurd z.1 (by decide +kernel)), if_neg (fun z => absurd z.1 (by decide +kernel)), decide_eq_false (fun z => absurd z.1 (by decide +kernel))]
theorem j9g (d : D) : z1a d = x5b d := by
 by_cases h : q1l d = ""
 ·rw [j0h h]
  unfold x5b
  split
  ·rename_i x r
   have hx : x = "" := h
   subst hx
   match r with
   | [] => exact (decide_eq_false (by decide +kernel)).symm
   | [a] => exact (if_neg (by decide +kernel)).symm
   | [a, b] => rfl
   | [a, b, c] => exact (if_neg (by decide +kernel)).symm
   | _ :: _ :: _ :: _ :: _ => rfl
  ·rfl
 ·obtain ⟨r, e⟩ := q6c (d := d) rfl h
  generalize q1l d = x at e h
  subst e
  show (if x = "wish" ∧ r.length + 1 = 4 then x1k q1w (geD 1) q6a r else if x = "seats" ∧ r.length + 1 = 2 then one q4l r else decide (x = "open" ∧ r.length + 1 = 1)) = _
  match r with
  | [] =>
   rw [if_neg (fun z => absurd z.2 (by decide)), if_neg (fun z => absurd z.2 (by decide))]
   show decide (x = "open" ∧ 0 + 1 = 1) = decide (x = "open")
   simp
  | [a] =>
   rw [if_neg (fun z => absurd z.2 (by simp))]
   show _ = if x = "seats" then q4l a else false
   by_cases hs : x = "seats"
   ·rw [if_pos ⟨hs, rfl⟩, if_pos hs]; rfl
   ·rw [if_neg (fun z => hs z.1), if_neg hs, decide_eq_false (fun z => absurd z.2 (by simp))]
  | [a, b] =>
   rw [if_neg (fun z => absurd z.2 (by simp)), if_neg (fun z => absurd z.2 (by simp)), decide_eq_false (fun z => absurd z.2 (by simp))]
   rfl
  | [a, b, c] =>
   show _ = if x = "wish" then q1w a && (geD 1 b && q6a c) else false
   by_cases hs : x = "wish"
   ·rw [if_pos ⟨hs, rfl⟩, if_pos hs]; rfl
   ·rw [if_neg (fun z => hs z.1), if_neg hs, if_neg (fun z => absurd z.2 (by simp)), decide_eq_false (fun z => absurd z.2 (by simp))]
  | _ :: _ :: _ :: _ :: _ =>
   rw [if_neg (fun z => absurd z.2 (by simp)), if_neg (fun z => absurd z.2 (by simp)), decide_eq_false (fun z => absurd z.2 (by simp))]
   rfl
theorem j2u : z1a = x5b := funext j9g
end Kp
namespace K1
open PySem L2 Kp
noncomputable def top (i : Nat) : Stmt := PySem.Challenge.pw_keeplog_k06_whole_read_back.main.body.getD i (.Pass ⟨0, 0, 0, 0⟩)
noncomputable abbrev z7i : Stmt := top 4
noncomputable abbrev x2b : Stmt := top 5
noncomputable abbrev q5r : Stmt := top 6
noncomputable abbrev q7q : Stmt := top 7
noncomputable abbrev z0q : Stmt := top 8
noncomputable abbrev x4k : Stmt := top 9
noncomputable abbrev j1k : Stmt := top 10
noncomputable abbrev x1t : Stmt := top 11
noncomputable abbrev w0b : Stmt := top 12
noncomputable abbrev z3a : Stmt := top 13
noncomputable abbrev q8k : Stmt := top 14
noncomputable abbrev q5a : Stmt := top 15
noncomputable abbrev x3x : Stmt := top 17
noncomputable abbrev z9u : Stmt := top 18
noncomputable abbrev x4g : Stmt := top 20
noncomputable abbrev x1r : Stmt := top 21
noncomputable abbrev q9c : Stmt := top 22
noncomputable abbrev q6v : Stmt := top 23
noncomputable abbrev q4w : Stmt := top 24
noncomputable abbrev q4i : Stmt := top 25
noncomputable abbrev x1q : Stmt := top 26
noncomputable abbrev q9k : Stmt := top 27
noncomputable abbrev x2f : Stmt := top 28
noncomputable abbrev x6x : Stmt := top 29
noncomputable abbrev x3u : Stmt := top 30
noncomputable abbrev q5f : Stmt := top 31
noncomputable abbrev x0i : Stmt := top 33
noncomputable abbrev q4x : Stmt := top 35
noncomputable abbrev q5s : Stmt := z0z (top 37) 0
noncomputable abbrev q8l : Stmt := z0z (top 37) 1
noncomputable abbrev q4z : Stmt := z0z (top 37) 2
noncomputable abbrev q4j : Stmt := top 38
noncomputable abbrev q7m : Stmt := top 39
noncomputable abbrev x0o : Stmt := top 40
noncomputable abbrev q8u : Stmt := top 41
noncomputable abbrev x0w : Stmt := top 42
noncomputable abbrev q6h : Stmt := top 43
noncomputable abbrev q4s : Stmt := top 44
noncomputable abbrev q5i : Stmt := top 45
noncomputable abbrev q8p : Stmt := top 46
noncomputable abbrev x0n : Stmt := top 48
noncomputable abbrev x0x : Stmt := top 50
noncomputable abbrev q9e : Stmt := top 51
noncomputable abbrev q6r : Stmt := top 52
noncomputable abbrev q5p : Stmt := top 53
noncomputable abbrev q4d : Stmt := top 54
noncomputable abbrev q5g : Stmt := top 55
noncomputable abbrev q3q : Stmt := top 56
noncomputable abbrev q9g : Stmt := top 57
noncomputable abbrev x0p : Stmt := top 58
noncomputable abbrev z6o : Stmt := top 60
noncomputable abbrev j5a : Stmt := top 62
noncomputable abbrev z8a : Stmt := top 63
noncomputable abbrev z1r : Stmt := top 64
noncomputable abbrev q5q : Stmt := top 65
noncomputable abbrev q6b : Stmt := top 66
noncomputable abbrev q6m : Stmt := top 67
noncomputable abbrev x2z : Stmt := top 68
noncomputable abbrev q6l : Stmt := top 69
noncomputable abbrev q5y : Stmt := top 70
noncomputable abbrev q3c : Stmt := top 71
noncomputable abbrev q3v : Stmt := top 72
noncomputable abbrev q5z : Stmt := top 73
noncomputable abbrev q6k : Stmt := top 74
noncomputable abbrev q4a : Stmt := top 75
noncomputable abbrev q5t : Stmt := top 76
noncomputable abbrev j7h : Stmt := top 77
noncomputable abbrev x1w : Stmt := top 78
noncomputable abbrev q9f : Stmt := top 79
noncomputable abbrev q7p : Stmt := top 80
noncomputable abbrev z3c : Stmt := top 81
noncomputable abbrev x0d : Stmt := top 82
noncomputable abbrev x0y : Stmt := top 83
noncomputable abbrev z1s : Stmt := top 84
noncomputable abbrev x0v : Stmt := top 85
noncomputable abbrev q8n : Stmt := top 86
noncomputable abbrev q9a : Stmt := top 87
noncomputable abbrev q9m : Stmt := top 88
noncomputable abbrev q8m : Stmt := top 89
noncomputable abbrev x0u : Stmt := top 90
noncomputable abbrev q5h : Stmt := top 91
noncomputable abbrev q7t : Stmt := top 92
noncomputable abbrev q4h : Stmt := top 93
noncomputable abbrev q5e : Stmt := top 94
noncomputable abbrev q3n : Stmt := top 95
noncomputable abbrev q5b : Stmt := top 96
noncomputable abbrev q4o : Stmt := top 97
noncomputable abbrev q2d : Stmt := top 98
noncomputable abbrev q6s : Stmt := top 99
noncomputable abbrev x0k : Stmt := top 100
noncomputable abbrev j0q : Stmt := top 101
structure Txt (mg : Str → Option Value) : Prop where
 isi : mg "isinstance" = none
 int : mg "int" = none
 bool : mg "bool" = none
 str : mg "str" = none
 tuple : mg "tuple" = none
 list : mg "list" = none
 all : mg "all" = none
 zip : mg "zip" = none
 len : mg "len" = none
 range : mg "range" = none
section
variable {P : Program} {w : World} {K : PySem.W.Frag} {mg : Str → Option Value} {base : Heap}
theorem scW : FnScope ["thing"] ["thing"] (q0d z7i) := fSc
theorem j2v {f : Addr} {fd : FuncData} (F : Fun K "is_whole" "is_whole" z7i f fd) (T : Txt mg) : FnOk P w K mg base CX0 1 f fd ["thing"] (spP whole) := by
 refine F.ok scW q2c (fun cdv A outer s H vs Q E hr h => ?_)
 obtain ⟨B, v, d, hB, rfl, I, k⟩ := h
 refine ⟨_, q0o (q0j (q1z (q0p q2f rfl T.isi q2e (q0c (pv 0) (q0c (q6p rfl T.int q7r) q0b)))
  (q2h (z2c (q0p q2f rfl T.isi q2e (q0c (pv 0) (q0c (q6p rfl T.bool q7c) q0b))))))), ?_⟩
 refine ⟨_, rfl, _, _, _, _, rfl, I.ty, z1p K d, _, rfl, ?_⟩
 have k0 := k H (q1a.refl _)
 unfold whole at k0
 cases e : isInt d with
 | false => rw [e] at k0; exact q0z k0
 | true =>
  rw [e] at k0
  exact q1o ⟨_, rfl, _, _, _, _, rfl, I.ty, q7n K d, _, rfl, k0⟩
theorem scK : FnScope ["thing"] ["thing"] (q0d z0q) := fSc
theorem z5e {d : D} (h : whole d = false) : q0h d = false := by
 cases d with
 | int i => cases h
 | _ => rfl
theorem z9l {f : Addr} {fd : FuncData} (F : Fun K "is_keeper" "is_keeper" z0q f fd) (T : Txt mg) (CW : Cal P w K mg base "is_whole" 1 ["thing"] (spP whole)) : FnOk P w K mg base CX0 2 f fd ["thing"] (spP q0h) := by
 refine F.ok scK q2c (fun cdv A outer s H vs Q E hr h => ?_)
 obtain ⟨B, v, d, hB, rfl, I, k⟩ := h
 refine ⟨_, q0o (q0j (q1z (q0f CW hr (q0c (pv 0) q0b)) (q2h (x1i x5u x5u q0a (pv 0) q0a)))), ?_⟩
 refine ⟨_, rfl, B, v, d, hB, rfl, I, fun H' s' => ⟨_, rfl, ?_⟩⟩
 have k0 := k H' s'
 cases e : whole d with
 | false => rw [z5e e] at k0; exact q0z k0
 | true =>
  obtain ⟨i, rfl⟩ := x4e e
  cases I
  refine q1o ⟨_, rfl, _, _, rfl, rfl, _, rfl, ?_⟩
  have k0 : Q (.bl (decide (0 ≤ i) && decide (i ≤ 8))) H' := k0
  by_cases h0 : (0 : Int) ≤ i
  ·rw [decide_eq_true h0] at k0 ⊢
   exact q1o ⟨_, _, rfl, rfl, k0⟩
  ·rw [decide_eq_false h0] at k0 ⊢
   exact q0z k0
theorem scN : FnScope ["thing"] ["thing"] (q0d j1k) := fSc
theorem x9b {α : Type} (l : Array Nat) (p : Nat → Bool) : ((List.range l.size).map fun i => p (l.getD i 0)).all id = l.toList.all p := by
 rw [Bool.eq_iff_iff]
 simp only [List.all_eq_true, List.mem_map, List.mem_range, id, forall_exists_index, and_imp]
 constructor
 ·intro h x hx
  obtain ⟨i, hi, rfl⟩ := List.mem_iff_getElem.mp hx
  have hi' : i < l.size := by simpa using hi
  have := h _ i hi' rfl
  simpa [hi'] using this
 ·intro h b i hi e
  subst e
  have := h l[i] (by simp)
  simpa [hi] using this
theorem j6w {f : Addr} {fd : FuncData} (F : Fun K "is_name" "is_name" j1k f fd) (T : Txt mg) : FnOk P w K mg base CX0 1 f fd ["thing"] (spP q2b) := by
 refine F.ok scN q2c (fun cdv A outer s H vs Q E hr h => ?_)
 obtain ⟨B, v, d, hB, rfl, I, k⟩ := h
 refine ⟨_, q0o (q0j (q1z (q0p q2f rfl T.isi q2e (q0c (pv 0) (q0c (q6p rfl T.str x3d) q0b)))
  (q1z (x1i x5u x5u q0a (q0p q3u rfl T.len PySem.boot_len (q0c (pv 0) q0b)) q0a)
  (q2h (q0p (q9p rfl) rfl T.all q6y (q0c (q3f (NB := ["sign"]) (n := 1) (fr := []) (q5u (outer := q0d j1k) rfl (by decide +kernel) rfl) rfl (z7q (pv 0))
   (fun _ _ _ _ _ => q1h (i := 0) (show (["sign"] : List Str).Nodup by decide +kernel) rfl (Or.inl rfl)) (fun _ _ _ _ _ => q2t) (fun _ _ _ _ _ => x1i q8s q8s q0r (pv 0) q0r)) q0b)))))), ?_⟩
 refine ⟨_, rfl, _, _, _, _, rfl, I.ty, x6t K d, _, rfl, ?_⟩
 cases d with
 | str x =>
  cases I with
  | str _ hx =>
  refine q1o ⟨_, rfl, x, rfl, j3z hx hB, 1, _, rfl, rfl, _, rfl, ?_⟩
  have k1 : ∀ H', q1a H H' → Q (.bl ((decide (1 ≤ x.length) && decide (x.length ≤ 8)) && x.cps.toList.all q3k)) H' := k
  by_cases h1 : 1 ≤ x.length
  ·rw [decide_eq_true (show (1 : Int) ≤ (x.length : Int) by omega)]
   refine q1o ⟨_, 8, rfl, rfl, _, rfl, ?_⟩
   by_cases h8 : x.length ≤ 8
   ·rw [decide_eq_true (show (x.length : Int) ≤ 8 by omega)]
    refine q1o ⟨_, rfl, x, rfl, q2y (J := Its x) (k := 1) (fun _ => true) (fun i => .bl (q3k (x.cps.getD i 0))) (show x.cps.size < sizeLine by rw [sizeLine_eq]; have : x.cps.size = x.length := rfl; omega) (fun i H hi _ => hi) (fun H _ => rfl) ?_ ?_⟩
    ·intro i H2 t v H3 R hi s1 ht y hR
     obtain ⟨rfl, c, hc, rfl⟩ := y
     have ht' : ∃ t0, t = [t0] := by
      match t, ht with
      | [t0], _ => exact ⟨t0, rfl⟩
     obtain ⟨t0, rfl⟩ := ht'
     have ec : x.cps.getD i 0 = c := by rw [Array.getD_eq_getD_getElem?, hc]; rfl
     have hR' := hR [some (.str ⟨#[c]⟩)] H3 rfl (q1a.refl _)
     rw [ec] at hR'
     refine ⟨_, rfl, _, _, rfl, rfl, _, rfl, ?_⟩
     rw [w5f]
     unfold q3k at hR'
     by_cases h97 : 97 ≤ c
     ·rw [decide_eq_true h97] at hR' ⊢
      refine q1o ⟨_, _, rfl, rfl, ?_⟩
      rw [w3p]
      exact hR'
     ·rw [decide_eq_false h97] at hR' ⊢
      exact q0z hR'
    ·intro D H' s1 hD hd
     refine ⟨D, (List.range x.cps.size).map fun i => q3k (x.cps.getD i 0), rfl, SqL.of ?_, ?_⟩
     ·rw [hd, List.filter_eq_self.mpr (fun _ _ => rfl), List.map_map]
      rfl
     ·have k2 := k1 H' s1
      rw [decide_eq_true h1, decide_eq_true h8] at k2
      rw [x9b (α := Nat)]
      exact k2
   ·rw [decide_eq_false (show ¬ (x.length : Int) ≤ 8 by omega)]
    have k2 := k1 H (q1a.refl _)
    rw [decide_eq_true h1, decide_eq_false h8] at k2
    exact q0z k2
  ·rw [decide_eq_false (show ¬ (1 : Int) ≤ (x.length : Int) by omega)]
   have k2 := k1 H (q1a.refl _)
   rw [decide_eq_false h1] at k2
   exact q0z ⟨_, rfl, q0z k2⟩
 | non => exact q0z (k H (q1a.refl _))
 | bl _ => exact q0z (k H (q1a.refl _))
 | int _ => exact q0z (k H (q1a.refl _))
 | tup _ => exact q0z (k H (q1a.refl _))
 | lst _ => exact q0z (k H (q1a.refl _))
noncomputable def w1m (p : D → Bool) : D → Bool
 | .tup ds => ds.all p
 | _ => false
noncomputable def j2e (f : Addr) (p : D → Bool) : Sp := fun vs H Q _ => ∃ B v d, B ≤ 1000 ∧ vs = [v, .ref f] ∧ Is B H v d ∧ ∀ H', q1a H H' → Q (.bl (w1m p d)) H'
theorem scR : FnScope ["thing", "teller"] ["thing", "teller"] (q0d w0b) := fSc
theorem z5b (l : List D) (p : D → Bool) : ((List.range l.length).map fun i => p (l.getD i .non)).all id = l.all p := by
 rw [Bool.eq_iff_iff]
 simp only [List.all_eq_true, List.mem_map, List.mem_range, id, forall_exists_index, and_imp]
 constructor
 ·intro h x hx
  obtain ⟨i, hi, rfl⟩ := List.mem_iff_getElem.mp hx
  have := h _ i hi rfl
  simpa [hi] using this
 ·intro h b i hi e
  subst e
  have := h l[i] (List.getElem_mem hi)
  simpa [hi] using this
theorem z2g {f g : Addr} {fd gd : FuncData} {p : D → Bool} {kk : Nat} {px : Str} (F : Fun K "is_row_of" "is_row_of" w0b f fd) (T : Txt mg) (G : FnOk P w K mg base CX0 kk g gd [px] (spP p)) (kp : PySem.W.keepIn K (.ref g) = true) (b : q3p K gd [px] []) :
  FnOk P w K mg base CX0 (kk + 1) f fd ["thing", "teller"] (j2e g p) := by
 refine F.ok scR (fun vs H Q E ⟨_, _, _, _, e, _⟩ => by subst e; rfl) (fun cdv A outer s H vs Q E hr h => ?_)
 obtain ⟨B, v, d, hB, rfl, I, k⟩ := h
 refine ⟨_, q0o (q0j (q1z (q0p q2f rfl T.isi q2e (q0c (pv 0) (q0c (q6p rfl T.tuple q2i) q0b)))
  (q2h (q0p (q9p rfl) rfl T.all q6y (q0c (q3f (NB := ["part", "teller"]) (n := 1) (fr := [1]) (x7j (outer := q0d w0b) (x := "teller") rfl (by decide +kernel) rfl rfl rfl rfl) rfl (q7a (pv 0))
   (fun _ _ _ _ _ => q1h (i := 0) (show (["part", "teller"] : List Str).Nodup by decide +kernel) rfl (Or.inl rfl)) (fun _ _ _ _ _ => q2t) (fun _ _ _ _ _ => j1v G hr kp b q6z (pv 1) (q0c (pv 0) q0b))) q0b))))), ?_⟩
 refine ⟨_, rfl, _, _, _, _, rfl, I.ty, q8o K d, _, rfl, ?_⟩
 cases d with
 | tup ds =>
  cases I with
  | @tup a xs _ ea hl r =>
  have k1 : ∀ H', q1a H H' → Q (.bl (ds.all p)) H' := k
  have hlen := r.length
  refine q1o ⟨_, rfl, a, rfl, ⟨xs, SqT.of ea⟩, q2y (J := Itt K a) (k := 1) (n := xs.length) (fun _ => true) (fun i => .bl (p (ds.getD i .non))) (show xs.length < sizeLine by rw [sizeLine_eq]; omega)
   (fun i H2 hi s1 => ⟨xs, xs[i], SqT.of (s1 _ _ ea), by simp [hi]⟩) (fun H2 s1 => ⟨xs, SqT.of (s1 _ _ ea), Nat.le_refl _⟩) ?_ ?_⟩
  ·intro i H2 t v H3 R hi s1 ht y hR
   obtain ⟨rfl, hy⟩ := y
   have hv := hy xs (SqT.of (s1 _ _ ea))
   obtain ⟨di, hdi, Ii⟩ := r.get hv
   have ht' : ∃ t0, t = [t0] := by
    match t, ht with
    | [t0], _ => exact ⟨t0, rfl⟩
   obtain ⟨t0, rfl⟩ := ht'
   refine ⟨_, rfl, rfl, _, rfl, B, v, di, hB, rfl, Ii.same s1, fun H' s2 => ?_⟩
   have hR' := hR [some v] H' rfl s2
   have ed : ds.getD i .non = di := by rw [List.getD_eq_getElem?_getD, hdi]; rfl
   rw [ed] at hR'
   exact hR'
  ·intro D H' s1 hD hd
   refine ⟨D, (List.range xs.length).map fun i => p (ds.getD i .non), rfl, SqL.of ?_, ?_⟩
   ·rw [hd, List.filter_eq_self.mpr (fun _ _ => rfl), List.map_map]
    rfl
   ·rw [hlen, z5b]
    exact k1 H' s1
 | non => exact q0z (k H (q1a.refl _))
 | bl _ => exact q0z (k H (q1a.refl _))
 | int _ => exact q0z (k H (q1a.refl _))
 | str _ => exact q0z (k H (q1a.refl _))
 | lst _ => exact q0z (k H (q1a.refl _))
noncomputable def j4d : Sp := fun vs H Q _ => ∃ a ns, vs = [.ref a] ∧ H a = some (.tup (ns.map V.int)) ∧ 1 ≤ ns.length ∧ ns.length ≤ 1000 ∧ ∀ H', q1a H H' → Q (.bl (q8f ns)) H'
theorem w2x : FnScope ["parts"] ["parts"] (q0d x1t) := fSc
theorem j3d (ns : List Int) (h : 1 ≤ ns.length) : z0f (ns.map V.int) (some 1) none = ns.tail.map V.int := by
 unfold z0f
 have e1 : HT.sIx (ns.map V.int).length 0 (some 1) = 1 := by
  have := HT.sIx_nat (ns.map V.int).length 0 1
  rw [show ((1 : Nat) : Int) = 1 from rfl] at this
  rw [this, List.length_map]
  omega
 rw [e1, HT.sIx_none, List.length_map, List.take_of_length_le (by simp)]
 cases ns with
 | nil => simp at h
 | cons a r => rfl
theorem z4s (ns : List Int) : ((List.range (ns.length - 1)).map fun i => decide (ns.getD i 0 < ns.getD (i + 1) 0)).all id = q8f ns := by
 rw [← z2l]
 congr 1
 apply List.ext_getElem?
 intro i
 by_cases hi : i < ns.length - 1
 ·have h1 : i < ns.length := by omega
  have h2 : i + 1 < ns.length := by omega
  simp [hi, List.getElem?_zip_eq_some, h1, h2, List.getElem?_tail]
 ·rw [List.getElem?_eq_none (by simpa using hi), List.getElem?_eq_none]
  simp
  omega
theorem z8c {f : Addr} {fd : FuncData} (F : Fun K "is_rising" "is_rising" x1t f fd) (T : Txt mg) : FnOk P w K mg base CX0 1 f fd ["parts"] j4d := by
 refine F.ok w2x (fun vs H Q E ⟨_, _, e, _⟩ => by subst e; rfl) (fun cdv A outer s H vs Q E hr h => ?_)
 obtain ⟨a, ns, rfl, ha, h1, h2, k⟩ := h
 refine ⟨_, q0o (q0j (q0p (q9p rfl) rfl T.all q6y (q0c (q3f (NB := ["part", "later"]) (n := 2) (fr := []) (q5u (outer := q0d x1t) rfl (by decide +kernel) rfl) rfl
   (z6x (t1 := true) (t2 := true) rfl T.zip (q0c (pv 0) (q0c (q9u z8p (pv 0) (x0b q0a) x4f) q0b)))
   (fun _ _ _ _ _ => x3n (K := K) (n := 2) rfl rfl (q1v (q1h (i := 0) (show (["part", "later"] : List Str).Nodup by decide +kernel) rfl (Or.inl rfl)) (q1v (q1h (i := 1) (show (["part", "later"] : List Str).Nodup by decide +kernel) rfl (Or.inl rfl)) q5x))) (fun _ _ _ _ _ => q2t) (fun _ _ _ _ _ => q1r x6e (pv 0) (pv 1) (q0q _))) q0b))), ?_⟩
 have hcut := j3d ns h1
 have hs1 : HT.sIx (ns.map V.int).length 0 (some 1) = 1 := by
  have := HT.sIx_nat (ns.map V.int).length 0 1
  rw [show ((1 : Nat) : Int) = 1 from rfl] at this
  rw [this, List.length_map]
  omega
 refine ⟨_, rfl, _, rfl, 1, rfl, a, ns.map V.int, rfl, SqT.of ha, fun z => by rw [hs1] at z; exact absurd z.1 (by decide), fun p hp => ?_⟩
 rw [hcut]
 have sp : q1a H (upd H p (.tup (ns.tail.map V.int))) := q0i hp
 refine ⟨a, p, ns.map V.int, ns.tail.map V.int, rfl, SqT.of (sp _ _ ha), SqT.of q0g, q2y (J := Itz K true true a p) (k := 2) (n := ns.length - 1) (fun _ => true) (fun i => .bl (decide (ns.getD i 0 < ns.getD (i + 1) 0))) (by rw [sizeLine_eq]; omega) ?_ ?_ ?_ ?_⟩
 ·intro i H2 hi s1
  have i1 : i < ns.length := by omega
  have i2 : i < ns.tail.length := by rw [List.length_tail]; omega
  exact ⟨ns.map V.int, ns.tail.map V.int, .int ns[i], .int ns.tail[i], SqT.of (s1 _ _ (sp _ _ ha)), SqT.of (s1 _ _ q0g), by simp [i1], by rw [List.getElem?_map, List.getElem?_eq_getElem i2]; rfl⟩
 ·intro H2 s1
  exact ⟨ns.map V.int, ns.tail.map V.int, SqT.of (s1 _ _ (sp _ _ ha)), SqT.of (s1 _ _ q0g), .inr (by simp)⟩
 ·intro i H2 t v H3 R hi s1 ht y hR
  obtain ⟨q, x, y, rfl, hq, rfl, e1, e2⟩ := y
  have i1 : i < ns.length := by omega
  have i2 : i + 1 < ns.length := by omega
  have e1' := e1 _ (SqT.of (s1 _ _ (sp _ _ ha)))
  have e2' := e2 _ (SqT.of (s1 _ _ q0g))
  rw [List.getElem?_map, List.getElem?_eq_getElem i1] at e1'
  rw [List.getElem?_map, List.getElem?_tail, List.getElem?_eq_getElem i2] at e2'
  cases e1'
  cases e2'
  have ht' : ∃ t0 t1, t = [t0, t1] := by
   match t, ht with
   | [t0, t1], _ => exact ⟨t0, t1, rfl⟩
  obtain ⟨t0, t1, rfl⟩ := ht'
  refine ⟨q, _, rfl, SqT.of q0g, rfl, _, _, rfl, _, _, rfl, rfl, ⟨_, rfl, _, rfl, _, _, rfl, rfl, ?_⟩⟩
  have hR' := hR [some (.int ns[i]), some (.int ns[i + 1])] _ rfl (q0i (o := .tup [.int ns[i], .int ns[i + 1]]) hq)
  have g1 : ns.getD i 0 = ns[i] := by simp [i1]
  have g2 : ns.getD (i + 1) 0 = ns[i + 1] := by simp [i2]
  rw [g1, g2] at hR'
  exact hR'
 ·intro D H' s1 hD hd
  refine ⟨D, (List.range (ns.length - 1)).map fun i => decide (ns.getD i 0 < ns.getD (i + 1) 0), rfl, SqL.of ?_, ?_⟩
  ·rw [hd, List.filter_eq_self.mpr (fun _ _ => rfl), List.map_map]
   rfl
  ·rw [z4s]
   exact k H' (sp.trans s1)
theorem scS : FnScope ["thing"] ["thing"] (q0d z9u) := fSc
theorem x7h {B : Nat} {H : Hp} : ∀ {ns : List Int} {vs : List V}, IsL B H vs (ns.map D.int) → vs = ns.map V.int
 | [], _, h => by cases h; rfl
 | n :: r, _, h => by
  cases h with
  | cons h t => cases h; rw [x7h t]; rfl
theorem j1b {f : Addr} {fd : FuncData} (F : Fun K "is_seats" "is_seats" z9u f fd) (T : Txt mg) (CK : Cal P w K mg base "is_keeper" 2 ["thing"] (spP q0h))
  (CR : ∀ g gd, FnOk P w K mg base CX0 2 g gd ["thing"] (spP q0h) → PySem.W.keepIn K (.ref g) = true → q3p K gd ["thing"] [] → Cal P w K mg base "is_row_of" 3 ["thing", "teller"] (j2e g q0h))
  (CI : Cal P w K mg base "is_rising" 1 ["parts"] j4d) : FnOk P w K mg base CX0 4 f fd ["thing"] (spP q2z) := by
 refine F.ok scS q2c (fun cdv A outer s H vs Q E hr h => ?_)
 obtain ⟨B, v, d, hB, rfl, I, k⟩ := h
 obtain ⟨g, gd, G, m, kp, b⟩ := CK.ex
 obtain ⟨g2, gd2, G2, m2, kp2, b2⟩ := (CR g gd G kp b).ex
 refine ⟨_, q0o (q0j (q1z (x2i G2 hr rfl m2 kp2 b2 .nil q6z (q0c (pv 0) (q0c (q3d rfl m) q0b)))
  (q1z (x1i x5u x5u q0a (q0p q0y rfl T.len PySem.boot_len (q0c (pv 0) q0b)) q0a)
  (q2h (q0f CI (hr.mono (by decide)) (q0c (pv 0) q0b)))))), ?_⟩
 refine ⟨_, rfl, B, v, d, hB, rfl, I, fun H' s' => ⟨_, rfl, ?_⟩⟩
 cases d with
 | tup ds =>
  have k1 : ∀ H', q1a H H' → Q (.bl (ds.all q0h && ((decide (1 ≤ ds.length) && decide (ds.length ≤ 9)) && q8f (q3s ds)))) H' := k
  show if ds.all q0h = true then _ else _
  cases hall : ds.all q0h with
  | false =>
   have k2 := k1 H' s'
   rw [hall] at k2
   exact q0z k2
  | true =>
   cases I with
   | @tup a xs _ ea hl r =>
   have hlen := r.length
   refine q1o ⟨_, rfl, a, xs, rfl, .inr (SqT.of (s' _ _ ea)), 1, _, rfl, rfl, _, rfl, ?_⟩
   by_cases h1 : 1 ≤ ds.length
   ·rw [decide_eq_true (show (1 : Int) ≤ (xs.length : Int) by omega)]
    refine q1o ⟨_, 9, rfl, rfl, _, rfl, ?_⟩
    by_cases h9 : ds.length ≤ 9
    ·rw [decide_eq_true (show (xs.length : Int) ≤ 9 by omega)]
     have eds := x4a ds hall
     have exs : xs = (q3s ds).map V.int := by
      rw [eds] at r
      exact x7h r
     have eln : (q3s ds).length = ds.length := by
      have := congrArg List.length eds
      rw [List.length_map] at this
      exact this.symm
     refine q1o ⟨_, rfl, a, q3s ds, rfl, by rw [← exs]; exact s' _ _ ea, by omega, by omega, fun H2 s2 => ?_⟩
     have k2 := k1 H2 (s'.trans s2)
     rw [hall, decide_eq_true h1, decide_eq_true h9] at k2
     exact k2
    ·rw [decide_eq_false (show ¬ (xs.length : Int) ≤ 9 by omega)]
     have k2 := k1 H' s'
     rw [hall, decide_eq_true h1, decide_eq_false h9] at k2
     exact q0z k2
   ·rw [decide_eq_false (show ¬ (1 : Int) ≤ (xs.length : Int) by omega)]
    have k2 := k1 H' s'
    rw [hall, decide_eq_false h1] at k2
    exact q0z ⟨_, rfl, q0z k2⟩
 | non => exact q0z (k H' s')
 | bl _ => exact q0z (k H' s')
 | int _ => exact q0z (k H' s')
 | str _ => exact q0z (k H' s')
 | lst _ => exact q0z (k H' s')
noncomputable def j3p (K : PySem.W.Frag) : Sp := fun vs H Q _ => ∃ (a : Addr) (ns : List Int) (k : Int), vs = [.ref a, .int k] ∧ SqL K H a (ns.map V.int) ∧ 0 ≤ k ∧ ∀ z, Q (.int z) H
theorem scC : FnScope ["_law_script", "_law_k"] ["_law_script", "_law_k"] (q0d j5a) := fSc
theorem j4y {f : Addr} {fd : FuncData} (F : Fun K "_law_cell_at" "_law_cell_at" j5a f fd) (T : Txt mg) : FnOk P w K mg base CX0 1 f fd ["_law_script", "_law_k"] (j3p K) := by
 refine F.ok scC (fun vs H Q E ⟨_, _, _, e, _⟩ => by subst e; rfl) (fun cdv A outer s H vs Q E hr h => ?_)
 obtain ⟨a, ns, k, rfl, hS, h0, q⟩ := h
 refine ⟨_, q1d (q1q (q0s x6e (pv 1) (q0p q0y rfl T.len PySem.boot_len (q0c (pv 0) q0b)) (q0q _)) (q0o (q0j (q0w q7v (pv 0) (pv 1) (fun _ _ => rfl)))) q0t) (q0o (q0j q0a)), ?_⟩
 refine ⟨_, rfl, _, rfl, a, _, rfl, .inl hS, k, _, rfl, rfl, _, rfl, x9q (fun hlt => ?_) (fun _ => q 0)⟩
 have hlt' : k < ((ns.map V.int).length : Int) := of_decide_eq_true hlt
 obtain ⟨j, rfl⟩ := Int.eq_ofNat_of_zero_le h0
 have hj : j < ns.length := by rw [List.length_map] at hlt'; omega
 exact ⟨_, rfl, _, rfl, a, _, _, .int ns[j], rfl, rfl, hS, q0m (by simp [hj]), q _⟩
noncomputable def q7u (K : PySem.W.Frag) : Sp := fun vs H Q _ => ∃ (a : Addr) (ns : List Int) (k : Int), vs = [.ref a, .int k] ∧ SqL K H a (ns.map V.int) ∧ 0 ≤ k ∧ k ≤ 100000 ∧ ∀ z, 0 ≤ z → z < 2147483629 → Q (.int z) H
theorem scM : FnScope ["_law_script", "_law_k", "_law_number"] ["_law_script", "_law_k"] (q0d z8a) := fSc
theorem j2i {f : Addr} {fd : FuncData} (F : Fun K "_law_mixed" "_law_mixed" z8a f fd) (CC : Cal P w K mg base "_law_cell_at" 1 ["_law_script", "_law_k"] (j3p K)) : FnOk P w K mg base CX0 2 f fd ["_law_script", "_law_k"] (q7u K) := by
 refine F.ok scM (fun vs H Q E ⟨_, _, _, e, _⟩ => by subst e; rfl) (fun cdv A outer s H vs Q E hr h => ?_)
 obtain ⟨a, ns, k, rfl, hS, h0, h1, q⟩ := h
 refine ⟨_, q1d (q1c (i := 2) scM.nd rfl (Or.inl rfl) (q0l q1t (q0l q7x (q0l q1s (q0l q1s (q0f CC hr (q0c (pv 0) (q0c (pv 1) q0b))) (q0l q7x q0a (pv 1))) q0a) q0a) q0a))
  (q0o (q0j (q0l q1t (q0l q1s (q0l q1s (q0l q7x (pv 2) (pv 2)) (q0l q7x q0a (pv 2))) (pv 1)) q0a))), ?_⟩
 refine ⟨_, rfl, _, rfl, a, ns, k, rfl, hS, h0, fun z => ?_⟩
 refine ⟨_, rfl, _, _, rfl, rfl, .inl ⟨by decide, by decide⟩, _, _, rfl, rfl, _, _, rfl, rfl, _, _, rfl, rfl, .inr ⟨by decide, by decide⟩, _, _, rfl, rfl, (by show (0 : Int) < 2147483647; decide), ?_⟩
 generalize hn : (z + 7919 * k + 1) * 48271 % 2147483647 = n
 have n0 : 0 ≤ n := by rw [← hn]; exact Int.emod_nonneg _ (by decide)
 have n1 : n < 2147483647 := by rw [← hn]; exact Int.emod_lt_of_pos _ (by decide)
 refine ⟨_, rfl, _, rfl, _, _, rfl, rfl, .inl ⟨by omega, by omega⟩, _, rfl, _, _, rfl, rfl, .inl ⟨by decide, by decide⟩, _, _, rfl, rfl, _, rfl, _, _, rfl, rfl, _, _, rfl, rfl, (by show (0 : Int) < 2147483629; decide), ?_⟩
 exact q _ (Int.emod_nonneg _ (by decide)) (Int.emod_lt_of_pos _ (by decide))
theorem x0r {α : Type} {xs : List α} {i : Int} (h0 : 0 ≤ i) (h1 : i < xs.length) : ∃ v, atI xs i = some v ∧ v ∈ xs := by
 obtain ⟨j, rfl⟩ := Int.eq_ofNat_of_zero_le h0
 have hj : j < xs.length := by omega
 exact ⟨xs[j], q0m (by simp [hj]), List.getElem_mem hj⟩
theorem q2w (x : Int) {m : Int} (h : 0 < m) : 0 ≤ x % m ∧ x % m < m := ⟨Int.emod_nonneg _ (Int.ne_of_gt h), Int.emod_lt_of_pos _ h⟩
theorem z2n (a : Array Nat) : ∀ (k : Nat) (b : Array Nat), (List.foldl (fun x y => x ++ y) b (List.replicate k a)).size = b.size + k * a.size
 | 0, b => by simp
 | k + 1, b => by
  rw [List.replicate_succ, List.foldl_cons, z2n a k]
  simp [Nat.succ_mul]
  omega
theorem z8o (z : Str) (n : Int) : (Txt.mul z n).length ≤ z.length * n.toNat := by
 unfold Txt.mul
 split
 ·exact Nat.zero_le _
 ·split
  ·rename_i h1 h2
   have : 1 ≤ n.toNat := by omega
   exact Nat.le_trans (by omega) (Nat.mul_le_mul_left z.length this)
  ·show (List.foldl (fun x y => x ++ y) #[] (List.replicate n.toNat z.cps)).size ≤ _
   rw [z2n]
   show 0 + n.toNat * z.length ≤ _
   rw [Nat.zero_add, Nat.mul_comm]
   exact Nat.le_refl _
theorem x1u (x y : Str) : (x ++ y).length = x.length + y.length := by
 show (x.cps ++ y.cps).size = _
 rw [Array.size_append]
 rfl
noncomputable def z7m : List Int := [1, 2, 4, 8, 16, 32, 64, 128, 256]
theorem j1j : ∀ x ∈ z7m, 0 < x ∧ x < 1073741824 := by decide
end
end K1
namespace Kp
open PySem L2
theorem q4m {n : Nat} (h : n ≤ 1000) : n ≤ sizeLine := by rw [sizeLine_eq]; omega
section
variable {X : Cx} {es l : List Expr} {te : TE} {t u : TA} {p p' pos : Pos} {j : Nat}
theorem j7p {x : Str} (ha : PE X (.Name x p) te) (r : QA X es t) : QA X (.Name x p :: es) (q8g te t) := ⟨q1i ha r.h⟩
theorem j4j {f : Expr} {as : List Expr} {ks : List Keyword} (ha : PE X (.Call f as ks p) te) (r : QA X es t) : QA X (.Call f as ks p :: es) (q8g te t) := ⟨q7f ha r.h⟩
theorem j9z {a b : Expr} (ha : PE X (.Subscript a b p) te) (r : QA X es t) : QA X (.Subscript a b p :: es) (q8g te t) := ⟨q4n ha r.h⟩
theorem w4s {o : Operator} {a b : Expr} (ha : PE X (.BinOp a o b p) te) (r : QA X es t) : QA X (.BinOp a o b p :: es) (q8g te t) := ⟨q9r ha r.h⟩
theorem q6g (a : QA X es t) : QE X (.Tuple es j p) (w2n t) := ⟨q2v a.h⟩
theorem j8h {a b : Expr} {ta tb : TE} {r : R2} (hx : IxR X r) (ha : QE X a ta) (hb : PE X b tb) (px : x2g b) : QE X (.Subscript a b pos) (tOp r ta tb) := ⟨q0w hx ha.h hb px⟩
end
section
variable {X : Cx} {es l : List Expr} {n m : Nat} {p p' : Pos} {j : Nat}
end
section
variable {es l : List Expr} {te : TE} {t u : TA} {p p' pos : Pos} {j : Nat}
theorem w1o {X : Cx} {st : Stmt} {q3y : List Stmt} {t u : TS} (h1 : QS X st t) (h2 : PSs X q3y u) : PSs X (st :: q3y) (w1z t u) := q1d h1.h h2
theorem q0x {X : Cx} {st : Stmt} {q3y : List Stmt} {t u : TS} (h1 : PS X st t) (h2 : PSs X q3y u) : PSs X (st :: q3y) (w1z t u) := q1d h1 h2
theorem q1m {X : Cx} {st : Stmt} {t : TS} (h1 : PS X st t) : PSs X [st] t := q0o h1
theorem j5l {X : Cx} {e : Expr} (h : QE X e te) : PS X (.Return (some e) pos) (w2m te) := q0j h.h
theorem w2c {X : Cx} {a b : Expr} (ha : QE X (.Subscript a b p) te) (r : QA X es t) : QA X (.Subscript a b p :: es) (q8g te t) := ⟨q4n ha.h r.h⟩
end
end Kp
namespace L2
open PySem PySem.Spec PyProof.Rows
noncomputable def Ite (a : Addr) : It :=
 ⟨fun i H => ∃ xs x, H a = some (.lst xs) ∧ xs[i]? = some x,
  fun i H v H' => ∃ p x, v = .ref p ∧ H p = none ∧ H' = upd H p (.tup [.int i, x]) ∧ ∀ xs, H a = some (.lst xs) → xs[i]? = some x,
  fun i H => ∃ xs, H a = some (.lst xs) ∧ xs.length ≤ i⟩
theorem z8l {P : Program} {w : World} {K : PySem.W.Frag} {es : List Expr} {k0 : Nat} {tp : Pos} {a e it : Addr} (D : e ≠ it) :
  Turn P w K (.Tuple es k0 tp) (Ite a) [e, it] e (fun i h => (∃ old, IsEnum h e it i old) ∧ h.IsListIter it a i) where
 mem := by simp
 obj := fun i h st c hc => by
  obtain ⟨⟨old, h1⟩, o, h2, _, h3⟩ := st
  simp only [List.mem_cons, List.not_mem_nil, or_false] at hc
  rcases hc with rfl | rfl
  ·exact ⟨_, h1, fun v z => by cases z⟩
  ·exact ⟨o, h2, fun v z => by rw [h3] at z; cases z⟩
 keep := fun i h h' st k => by
  obtain ⟨⟨old, h1⟩, o, h2, h3⟩ := st
  exact ⟨⟨old, k e (by simp) _ h1⟩, o, k it (by simp) o h2, h3⟩
 item := by
  intro X hP hw hK hc i pins s σ H E I hf st hg
  subst hP hw hK
  obtain ⟨⟨old, h1⟩, h2⟩ := st
  obtain ⟨xs, x, q1, hx⟩ := hg
  obtain ⟨z1, its, n1, r1, p1⟩ := I.hok a _ q1
  have pl : s.heap.IsList a its.toArray := ⟨_, p1, rfl, _, rfl⟩
  obtain ⟨ux, ex, rx⟩ := r1.get hx
  have fe := hf e (by simp)
  have fi := hf it (by simp)
  have nea : a ≠ e := fun z => by subst z; rw [fe.1] at q1; cases q1
  have nia : a ≠ it := fun z => by subst z; rw [fi.1] at q1; cases q1
  refine wpAny_pyNext_enum_item h1 h2 pl (x := ux) (by simpa using ex) D fun h' heo hit' ht hz hk => ⟨_, rfl, wpAny_letOwnedTupleGo_enum heo fun h2' he2 hs2 => ?_⟩
  have lt : ∀ {c o}, s.heap.get? c = some o → s.heap.objs.size ≠ c := fun q => Nat.ne_of_gt (Heap.lt_size q)
  have hk2 : ∀ c o, c ∉ [e, it] → s.heap.get? c = some o → h2'.get? c = some o := fun c o hcn q => by
   simp only [List.mem_cons, List.not_mem_nil, or_false, not_or] at hcn
   exact hs2.extBut c o hcn.1 (hk c o hcn.1 hcn.2 q)
  have I1 : Inv X pins σ H { s with heap := h2', toks := s.toks + 1 } := by
   refine I.step (g' := s.gens) (d' := s.drawn) (t' := s.toks + 1) (ch := [e, it]) (fun c hcm => ?_) (fun c o _ _ hcn q _ => hk2 c o hcn q) (fun c o _ _ hcn q _ => ⟨o.slots, hk2 c o hcn q⟩) (fun _ _ _ _ n => n)
    (fun c o hcn q => ⟨o, hk2 c o hcn q⟩) (fun _ _ q => q) (fun _ _ _ q => q) (fun c ps q => ⟨#[], by rw [q]; simp⟩) (fun m hm => ?_) (fun c u' q => ?_) I.bare
   ·obtain ⟨_, g1, _, g3, g4, g5⟩ := hf c hcm
    exact ⟨g3, g1, g4, g5⟩
   ·obtain ⟨o, es', ep, ho, r⟩ := hm
    exact ⟨o, es', ep, hk2 _ o (fun hm' => (hf _ hm').2.1 rfl) ho, r⟩
   ·have nin : ∀ c' u'', H c' = some u'' → c' ∉ [e, it] := fun c' u'' e' hm' => by rw [(hf _ hm').1] at e'; cases e'
    refine (I.hok c u' q).stay (fun c' v' hc' q => hk2 c' v' ?_ q) (fun _ q => q) fun _ _ q => q
    rcases hc' with rfl | hc'
    ·exact nin _ _ q
    ·exact nin _ _ hc'
  have ne0 : s.heap.objs.size ≠ e := lt h1
  have ni0 : s.heap.objs.size ≠ it := by obtain ⟨o, q, _⟩ := h2; exact lt q
  have hp : h2'.get? s.heap.objs.size = some { cls := .type "tuple", data := .seq #[.int i s.toks, ux] } := hs2.extBut _ _ ne0 ht
  have fp0 : H s.heap.objs.size = none := I.hok.fresh (Nat.le_refl _)
  have I2 : Inv X pins σ (upd H s.heap.objs.size (.tup [.int i, x])) { s with heap := h2', toks := s.toks + 1 } := by
   refine I1.step (s := { s with heap := h2', toks := s.toks + 1 }) (g' := s.gens) (d' := s.drawn) (t' := s.toks + 1) (h' := h2') (ch := [s.heap.objs.size]) (fun c hcm => ?_) (fun c o _ _ _ q _ => q) (fun c o _ _ _ q _ => ⟨o.slots, q⟩) (fun c o hcn q n => ?_)
    (fun c o _ q => ⟨o, q⟩) (fun c xs' q => ?_) (fun c o u' q => ?_) (fun c ps q => ⟨#[], ?_⟩) (fun m hm => hm) (fun c u' q => ?_) I.bare
   ·have q : c = s.heap.objs.size := by simpa using hcm
    subst q
    obtain ⟨_, g1, _, g3, g4, g5⟩ := I.fpOk (Nat.le_refl _) fp0
    exact ⟨g3, g1, g4, g5⟩
   ·rw [q1b (by simpa using hcn)]; exact n
   ·rw [q1b (q1n q fp0)]; exact q
   ·rw [q1b (q1n q fp0)]; exact q
   ·rw [q1b (q1n q fp0), q]; simp
   ·by_cases hcs : c = s.heap.objs.size
    ·subst hcs
     rw [q0g] at q
     cases q
     exact ⟨by simp [sizeLine_eq], [.int i s.toks, ux], .cons ⟨_, rfl⟩ (.cons rx .nil), ⟨_, hp, rfl, _, rfl⟩⟩
    ·rw [q1b hcs] at q
     exact (I1.hok c u' q).stay (fun _ _ _ q => q) (fun c' q => by rw [q1b (q1n q fp0)]; exact q) fun c' xs' q => by rw [q1b (q1n q fp0)]; exact q
  refine ⟨.ref s.heap.objs.size, _, I2, rfl, ⟨s.heap.objs.size, x, rfl, fp0, rfl, fun xs' q' => by rw [q1] at q'; cases q'; exact hx⟩, ⟨⟨ux, he2⟩, ?_⟩, fun c hcm => ?_⟩
  ·obtain ⟨o, q, r⟩ := hit'
   exact ⟨o, hs2.extBut _ o (Ne.symm D) q, r⟩
  ·rw [q1b (fun q => by
    simp only [List.mem_cons, List.not_mem_nil, or_false] at hcm
    rcases hcm with z | z
    ·exact ne0 (by rw [← q]; exact z)
    ·exact ni0 (by rw [← q]; exact z))]
   exact (hf c hcm).1
 done := by
  intro X hP hw hK hc i pins s σ H E I hf st hg
  subst hP hw hK
  obtain ⟨⟨old, h1⟩, h2⟩ := st
  obtain ⟨xs, q1, hx⟩ := hg
  obtain ⟨z1, its, n1, r1, p1⟩ := I.hok a _ q1
  have pl : s.heap.IsList a its.toArray := ⟨_, p1, rfl, _, rfl⟩
  have l1 := r1.length
  refine wpAny_pyNext_enum_end (I.ok.hd hc) h1 h2 pl (by simp; omega) fun h' hk => ⟨rfl, ?_⟩
  have hk2 : ∀ c o, c ∉ [e, it] → s.heap.get? c = some o → h'.get? c = some o := fun c o hcn q => by
   simp only [List.mem_cons, List.not_mem_nil, or_false, not_or] at hcn
   exact hk c o hcn.2 q
  refine I.step (g' := s.gens) (d' := s.drawn) (t' := s.toks) (ch := [e, it]) (fun c hcm => ?_) (fun c o _ _ hcn q _ => hk2 c o hcn q) (fun c o _ _ hcn q _ => ⟨o.slots, hk2 c o hcn q⟩) (fun _ _ _ _ n => n)
   (fun c o hcn q => ⟨o, hk2 c o hcn q⟩) (fun _ _ q => q) (fun _ _ _ q => q) (fun c ps q => ⟨#[], by rw [q]; simp⟩) (fun m hm => ?_) (fun c u' q => ?_) I.bare
  ·obtain ⟨_, g1, _, g3, g4, g5⟩ := hf c hcm
   exact ⟨g3, g1, g4, g5⟩
  ·obtain ⟨o, es', ep, ho, r⟩ := hm
   exact ⟨o, es', ep, hk2 _ o (fun hm' => (hf _ hm').2.1 rfl) ho, r⟩
  ·have nin : ∀ c' u'', H c' = some u'' → c' ∉ [e, it] := fun c' u'' e' hm' => by rw [(hf _ hm').1] at e'; cases e'
   refine (I.hok c u' q).stay (fun c' v' hc' q => hk2 c' v' ?_ q) (fun _ q => q) fun _ _ q => q
   rcases hc' with rfl | hc'
   ·exact nin _ _ q
   ·exact nin _ _ hc'
 self := fun _ _ _ _ _ st h => let ⟨_, h1⟩ := st.1; wpAny_pyIter_enum h1 h
noncomputable def w2e (ta : TA) : TI := fun σ H R => ta σ H fun vs H1 => ∃ a xs, vs = [.ref a] ∧ H1 a = some (.lst xs) ∧ R (Ite a) H1
theorem z4d (n : Nat) : n + 1 ≠ n := by omega
theorem z3w (n x : Nat) (h : x = n + 1 ∨ x = n) : n ≤ x := by omega
theorem z6u : bootBuiltins "enumerate" = some (.type "enumerate") := by decide +kernel
theorem z7n {X : Cx} {es0 : List Expr} {k0 : Nat} {tp : Pos} {a : Expr} {ta : TA} {p pos : Pos} (hg : Gl X "enumerate") (hm : X.mg "enumerate" = none) (ha : PA X [a] ta)
  (hs : starEach [a] X.env = [(false, eval a X.env)] := by rfl) : PI X (.Tuple es0 k0 tp) (.Call (.Name "enumerate" p) [a] [] pos) (w2e ta) := by
 intro pins s σ H R I h
 refine Call_ (x5h I hg hm z6u (PyProof.Rows.callWith_type1 (thn (ha pos pins s σ H _ I h) fun us s1 ⟨vs, H1, I1, r1, q1⟩ => ?_) (by rw [hs]; rfl) (by rfl)))
 obtain ⟨c, xs, e, q1, q⟩ := q1
 subst e
 obtain ⟨u, rfl, ru⟩ := x0z r1
 cases ru
 obtain ⟨z1, its, n1, rr, p1⟩ := I1.hok c _ q1
 refine call_enumerate_1 p1 fun h' a1 a2 a3 kk => ?_
 refine wpAny_pyIter_enum (s := { s1 with heap := h' }) a1 ?_
 have I2 : Inv X pins σ H1 { s1 with heap := h' } := I1.kept (t' := s1.toks) kk
 refine ⟨_, [s1.heap.objs.size + 1, s1.heap.objs.size], _, _, H1, rfl, I2, z8l (a := c) (z4d _), ⟨⟨_, a1⟩, a2⟩, fun x hx => ?_, q⟩
 have hge : s1.heap.objs.size ≤ x := by
  simp only [List.mem_cons, List.not_mem_nil, or_false] at hx
  exact z3w _ _ hx
 exact I1.fpOk hge (I1.hok.fresh hge)
section
variable {X : Cx}
theorem x6u : ∀ {xs : List Str} {us : List Value}, q3r (xs.map V.str) us → StrsAre us xs
 | [], _, h => by cases h; exact .nil
 | x :: xs, _, h => by
  cases h with
  | cons r t => obtain ⟨tk, rfl⟩ := r; exact .cons _ _ (x6u t)
theorem x9j : ∀ {xs : List Str} {us : List Value}, StrsAre us xs → q3r (xs.map V.str) us
 | [], _, h => by cases h; exact .nil
 | x :: xs, _, h => by
  cases h with
  | cons _ _ t => exact .cons ⟨_, rfl⟩ (x9j t)
end
end L2
namespace Kp
open PySem
noncomputable def ltS (a b : Str) : Bool := decide (a.cps.toList < b.cps.toList)
noncomputable def q8c : List Str → Bool
 | a :: b :: r => ltS a b && q8c (b :: r)
 | _ => true
noncomputable def x4u (p : D → Bool) : D → Bool
 | .tup ds => ds.all p && q8c (ds.map q1l)
 | _ => false
noncomputable def x0l : D → Bool := q9x [q2b, whole]
noncomputable def q4c : D → Bool := q9x [q2b, geD 1, whole]
noncomputable def x2q : D → Bool := x4u x0l
noncomputable def q6f : D → Bool := x4u q4c
noncomputable def q3o : D → Bool := q9x [x2q, q6f]
noncomputable def z0c : D → Bool
 | .tup (.int a :: .int b :: _) => decide (decide (a = 0) = decide (b = 0))
 | _ => false
noncomputable def x6a (d : D) : Bool := q9x [geD 0, geD 0, q2z, q3o] d && z0c d
noncomputable def goR (p : D → Bool) : List D → Str → Bool
 | [], _ => true
 | d :: r, ah => (p d && ltS ah (q1l d)) && goR p r (q1l d)
noncomputable def q8q (p : D → Bool) : D → Bool
 | .tup ds => goR p ds ""
 | _ => false
noncomputable def x7n : D → Bool := q9x [q1w, whole]
noncomputable def q7g : D → Bool := q9x [q1w, geD 1, whole]
noncomputable def q7z : D → Bool
 | .tup [a, b] => q8q x7n a && q8q q7g b
 | _ => false
noncomputable def q4u (a b : D) : Bool := (geD 0 a && geD 0 b) && (match a, b with
 | .int i, .int j => (decide (i = 0) && decide (j = 0)) || (decide (0 < i) && decide (0 < j))
 | _, _ => false)
noncomputable def x0q : D → Bool
 | .tup [a, b, c, d] => q4u a b && (q4l c && q7z d)
 | _ => false
theorem z8m : x0l = x7n := by unfold x0l x7n; rw [x0f]
theorem x9k : q4c = q7g := by unfold q4c q7g; rw [x0f]
theorem z9n (p : D → Bool) : ∀ (ds : List D) (ah : Str), goR p ds ah = (ds.all p && q8c (ah :: ds.map q1l))
 | [], ah => rfl
 | d :: r, ah => by
  rw [goR, z9n p r, List.all_cons, List.map_cons, q8c]
  cases p d <;> cases ltS ah (q1l d) <;> simp
theorem j9s (x : Str) (h : x ≠ "") : ltS "" x = true := by
 unfold ltS
 rw [decide_eq_true_eq]
 have e : ("" : Str).cps.toList = [] := by decide +kernel
 rw [e]
 obtain ⟨c⟩ := x
 cases hc : c.toList with
 | nil =>
  exfalso
  apply h
  have : c = #[] := by simpa using hc
  subst this
  rfl
 | cons a r =>
  exact List.Lex.nil
theorem x5i {d : D} {r : List D} (h : q1w d = true) : q1l (.tup (d :: r)) ≠ "" := by
 cases d with
 | str x =>
  intro z
  have z' : x = "" := z
  rw [q1w, if_pos (.inl z')] at h
  cases h
 | _ => cases h
theorem x8o {d : D} (h : x7n d = true) : ∃ x y, d = .tup [x, y] ∧ q1w x = true ∧ whole y = true := by
 cases d with
 | tup ds =>
  have h' : q0v [q1w, whole] ds = true := h
  rw [z4r] at h'
  match ds, h' with
  | [x, y], h' =>
   have h2 : (q1w x && whole y) = true := h'
   rw [Bool.and_eq_true] at h2
   exact ⟨x, y, rfl, h2⟩
 | _ => cases h
theorem x3f {d : D} (h : q7g d = true) : ∃ x y z, d = .tup [x, y, z] ∧ q1w x = true ∧ geD 1 y = true ∧ whole z = true := by
 cases d with
 | tup ds =>
  have h' : q0v [q1w, geD 1, whole] ds = true := h
  rw [j4s] at h'
  match ds, h' with
  | [x, y, z], h' =>
   have h2 : (q1w x && (geD 1 y && whole z)) = true := h'
   rw [Bool.and_eq_true, Bool.and_eq_true] at h2
   exact ⟨x, y, z, rfl, h2⟩
 | _ => cases h
theorem z2j {p : D → Bool} (hp : ∀ d, p d = true → q1l d ≠ "") (d : D) : x4u p d = q8q p d := by
 cases d with
 | tup ds =>
  show (ds.all p && q8c (ds.map q1l)) = goR p ds ""
  rw [z9n]
  cases ds with
  | nil => rfl
  | cons a r =>
   rw [List.all_cons, List.map_cons, q8c]
   cases h : p a with
   | false => rfl
   | true => rw [j9s _ (hp a h), Bool.true_and, Bool.true_and]
 | _ => rfl
theorem j4x : ∀ d, x7n d = true → q1l d ≠ "" := fun d h => by
 obtain ⟨x, y, rfl, hx, _⟩ := x8o h
 exact x5i hx
theorem z8d : ∀ d, q7g d = true → q1l d ≠ "" := fun d h => by
 obtain ⟨x, y, z, rfl, hx, _⟩ := x3f h
 exact x5i hx
theorem j0f : x2q = q8q x7n := by unfold x2q; rw [z8m]; exact funext (z2j j4x)
theorem z4h : q6f = q8q q7g := by unfold q6f; rw [x9k]; exact funext (z2j z8d)
theorem j1n (d : D) : q3o d = q7z d := by
 unfold q3o
 rw [j0f, z4h]
 cases d with
 | tup ds =>
  show q0v [q8q x7n, q8q q7g] ds = _
  rw [z4r]
  match ds with
  | [] => rfl
  | [_] => rfl
  | [a, b] => rfl
  | _ :: _ :: _ :: _ => rfl
 | _ => rfl
theorem j1t : q3o = q7z := funext j1n
theorem x6d (a b : D) (r : List D) : ((geD 0 a && geD 0 b) && z0c (.tup (a :: b :: r))) = q4u a b := by
 unfold q4u
 cases ha : geD 0 a with
 | false => rfl
 | true =>
  cases hb : geD 0 b with
  | false => rfl
  | true =>
   cases a with
   | int i =>
    cases b with
    | int j =>
     have hi : 0 ≤ i := of_decide_eq_true ha
     have hj : 0 ≤ j := of_decide_eq_true hb
     show (true && true && decide (decide (i = 0) = decide (j = 0))) = (true && true && ((decide (i = 0) && decide (j = 0)) || (decide (0 < i) && decide (0 < j))))
     by_cases h1 : i = 0
     ·by_cases h2 : j = 0
      ·simp [h1, h2]
      ·simp [h1, h2]
     ·have h1' : 0 < i := by omega
      by_cases h2 : j = 0
      ·simp [h1, h2]
      ·have h2' : 0 < j := by omega
       simp [h1, h2, h1', h2']
    | _ => cases hb
   | _ => cases ha
theorem z8n (d : D) : x6a d = x0q d := by
 unfold x6a
 rw [j1t, z2i]
 cases d with
 | tup ds =>
  show (q0v [geD 0, geD 0, q4l, q7z] ds && z0c (.tup ds)) = _
  match ds with
  | [] => rfl
  | [_] => simp [q0v, x0q]
  | [_, _] => simp [q0v, x0q]
  | [_, _, _] => simp [q0v, x0q]
  | [a, b, c, e] =>
   show ((geD 0 a && (geD 0 b && (q4l c && (q7z e && true)))) && z0c (.tup [a, b, c, e])) = (q4u a b && (q4l c && q7z e))
   rw [← x6d a b [c, e]]
   cases geD 0 a <;> cases geD 0 b <;> cases q4l c <;> cases q7z e <;> simp
  | _ :: _ :: _ :: _ :: _ :: _ => simp [q0v, x0q]
 | _ => rfl
end Kp
namespace Kp
open PySem L2
noncomputable def x0g (H H' : Hp) : Prop := ∀ b xs, H b = some (.tup xs) → H' b = some (.tup xs)
theorem z8q {J : It} {H1 : Hp} {n k : Nat} {frs : St} {g : TG} {tt : TT} {te : TE} {Q : VK} (R : Hp → V → Prop) (mono : ∀ H H' v, x0g H H' → R H v → R H' v) (hn : n < sizeLine)
  (go : ∀ i H, i < n → q1a H1 H → J.go i H) (stop : ∀ H, q1a H1 H → J.stop n H)
  (turn : ∀ i H t x H2 (S : St → Hp → Option V → Prop), i < n → q1a H1 H → t.length = k → J.yld i H x H2 →
   (∀ t' H' v, t'.length = k → q1a H H' → R H' v → S (t' ++ frs) H' (some v)) → (∀ t' H', t'.length = k → q1a H H' → S (t' ++ frs) H' none) →
   g x (t ++ frs) H2 fun σ3 H3 => tt σ3 H3 fun b H4 => if b = true then te σ3 H4 fun v H5 => S σ3 H5 (some v) else S σ3 H4 none)
  (hq : ∀ D H' ys, q1a H1 H' → H1 D = none → H' D = some (.lst ys) → ys.length ≤ n → (∀ v ∈ ys, R H' v) → Q (.ref D) H') : x3y (List.replicate k none ++ frs) g tt te Q J H1 := by
 intro D hD
 refine ⟨fun i m ys σ H => i ≤ n ∧ m = n - i ∧ ys.length ≤ i ∧ (∀ v ∈ ys, R H v) ∧ q1a H1 H ∧ ∃ t, t.length = k ∧ σ = t ++ frs, ⟨n, Nat.zero_le _, rfl, Nat.le_refl _, fun v hv => (List.not_mem_nil hv).elim, q0i hD, _, by simp, rfl⟩, ?_⟩
 rintro i m ys σ H ⟨hi, rfl, hl, hR, s1, t, ht, rfl⟩ hd
 by_cases hlt : i < n
 ·right
  refine ⟨go i H hlt s1, by omega, fun x H2 y => ?_⟩
  have keep : ∀ (H5 : Hp) (zs : List V), H5 D = some (.lst ys) → x0g H5 (upd H5 D (.lst zs)) := fun H5 zs h5 b xs e => by
   rw [q1b (fun q => by rw [q, h5] at e; cases e)]; exact e
  have tup : ∀ {H H' : Hp}, q1a H H' → x0g H H' := fun s b xs e => s _ _ e
  refine turn i H t x H2 (fun σ3 H5 r => match r with
   | some v => H5 D = some (.lst ys) ∧ ∃ m', m' < n - i ∧ (i + 1 ≤ n ∧ m' = n - (i + 1) ∧ (ys ++ [v]).length ≤ i + 1 ∧ (∀ u ∈ ys ++ [v], R (upd H5 D (.lst (ys ++ [v]))) u) ∧ q1a H1 (upd H5 D (.lst (ys ++ [v]))) ∧ ∃ t, t.length = k ∧ σ3 = t ++ frs)
   | none => H5 D = some (.lst ys) ∧ ∃ m', m' < n - i ∧ (i + 1 ≤ n ∧ m' = n - (i + 1) ∧ ys.length ≤ i + 1 ∧ (∀ u ∈ ys, R H5 u) ∧ q1a H1 H5 ∧ ∃ t, t.length = k ∧ σ3 = t ++ frs)) hlt s1 ht y ?_ ?_
  ·intro t' H' v ht' s2 rv
   have h5 := s2 _ _ hd
   refine ⟨h5, n - (i + 1), by omega, by omega, rfl, by rw [List.length_append]; show ys.length + 1 ≤ _; omega, fun u hu => ?_, fun b o e => ?_, t', ht', rfl⟩
   ·rcases List.mem_append.mp hu with z | z
    ·exact mono _ _ _ (keep H' _ h5) (mono _ _ _ (tup s2) (hR u z))
    ·rw [List.mem_singleton.mp z]
     exact mono _ _ _ (keep H' _ h5) rv
   ·rw [q1b (q1n e hD)]; exact s2 _ _ (s1 _ _ e)
  ·intro t' H' ht' s2
   exact ⟨s2 _ _ hd, n - (i + 1), by omega, by omega, rfl, by omega, fun u hu => mono _ _ _ (tup s2) (hR u hu), s1.trans s2, t', ht', rfl⟩
 ·have e : i = n := by omega
  subst e
  exact .inl ⟨stop H s1, hq D H ys s1 hD hd hl hR⟩
theorem q4v {t : St} (h : t.length = 1) : ∃ t0, t = [t0] := by
 match t, h with
 | [t0], _ => exact ⟨t0, rfl⟩
theorem x8n {t : St} (h : t.length = 2) : ∃ t0 t1, t = [t0, t1] := by
 match t, h with
 | [t0, t1], _ => exact ⟨t0, t1, rfl⟩
end Kp
namespace L2
open PySem PySem.Spec PyProof.Rows
section
variable {κ : Type} [DecidableEq κ]
noncomputable def z5r (kvs : List (κ × V)) (k : κ) : Option V := (kvs.find? fun kv => decide (kv.1 = k)).map (·.2)
noncomputable def j3l (kvs : List (κ × V)) (k : κ) (v : V) : List (κ × V) :=
 if (kvs.any fun kv => decide (kv.1 = k)) = true then kvs.map (fun kv => if kv.1 = k then (kv.1, v) else kv) else kvs ++ [(k, v)]
theorem z3n {p : κ × V} {r : List (κ × V)} {k : κ} (e : p.1 = k) : z5r (p :: r) k = some p.2 := by simp [z5r, List.find?_cons, e]
theorem z3i {p : κ × V} {r : List (κ × V)} {k : κ} (e : ¬ p.1 = k) : z5r (p :: r) k = z5r r k := by simp [z5r, List.find?_cons, e]
theorem z1d (kvs : List (κ × V)) (k : κ) (v : V) : (j3l kvs k v).length ≤ kvs.length + 1 := by
 unfold j3l
 split
 ·rw [List.length_map]; omega
 ·rw [List.length_append, List.length_cons, List.length_nil]; omega
theorem KV.val {kvs : List (κ × V)} {vs : List (κ × Value)} (r : KV kvs vs) (k : κ) : z3s (z5r kvs k) (valueAt vs k) := by
 unfold KV at r
 induction r with
 | nil => exact True.intro
 | @cons p q ps qs h t ih =>
  obtain ⟨h1, h2⟩ := h
  by_cases e : p.1 = k
  ·have e' : q.1 = k := h1.symm.trans e
   have b : valueAt (q :: qs) k = some q.2 := by simp [valueAt, List.find?_cons, e']
   rw [z3n e, b]; exact h2
  ·have e' : ¬ q.1 = k := fun z => e (h1.trans z)
   have b : valueAt (q :: qs) k = valueAt qs k := by simp [valueAt, List.find?_cons, e']
   rw [z3i e, b]; exact ih
theorem KV.any {kvs : List (κ × V)} {vs : List (κ × Value)} (r : KV kvs vs) (k : κ) : (kvs.any fun kv => decide (kv.1 = k)) = vs.any fun kv => decide (kv.1 = k) := by
 unfold KV at r
 induction r with
 | nil => rfl
 | cons h t ih => rw [List.any_cons, List.any_cons, ih, h.1]
theorem KV.repl {kvs : List (κ × V)} {vs : List (κ × Value)} (r : KV kvs vs) (k : κ) {y : V} {u : Value} (ry : q5d y u) :
  KV (kvs.map fun kv => if kv.1 = k then (kv.1, y) else kv) (vs.map fun kv => if kv.1 = k then (kv.1, u) else kv) := by
 unfold KV at r ⊢
 induction r with
 | nil => exact .nil
 | @cons p q ps qs h t ih =>
  rw [List.map_cons, List.map_cons]
  refine .cons ?_ ih
  obtain ⟨h1, h2⟩ := h
  by_cases e : p.1 = k
  ·rw [if_pos e, if_pos (h1.symm.trans e)]; exact ⟨h1, ry⟩
  ·rw [if_neg e, if_neg (fun z => e (h1.trans z))]; exact ⟨h1, h2⟩
theorem KV.put {kvs : List (κ × V)} {vs : List (κ × Value)} (r : KV kvs vs) (k : κ) {y : V} {u : Value} (ry : q5d y u) : KV (j3l kvs k y) (stored vs k u) := by
 unfold j3l stored
 rw [r.any k]
 by_cases e : (vs.any fun kv => decide (kv.1 = k)) = true
 ·rw [if_pos e, if_pos e]; exact r.repl k ry
 ·rw [if_neg e, if_neg e]; exact Paired.snoc r ⟨rfl, ry⟩
end
theorem j5s {P : Program} {w : World} {k : Key} {u : Value} (r : q5d (kV k) u) : (q5c P w).is k u = true := by
 cases k with
 | inl i => obtain ⟨t, e⟩ := (show ∃ t, u = Value.int i t from r); subst e; exact z1o P w i t
 | inr x => obtain ⟨t, e⟩ := (show ∃ t, u = Value.str x t from r); subst e; exact z1w P w x t
theorem x8m {P : Program} {w : World} : ∀ {ks : List Key} {us : List Value}, q3r (ks.map kV) us → ItemsAre (q5c P w) ks us
 | [], _, r => by rw [List.map_nil] at r; cases r; exact .nil
 | k :: ks, _, r => by
  rw [List.map_cons] at r
  cases r with
  | cons h t => exact .cons (j5s h) (x8m t)
noncomputable abbrev KT (H : Hp) : List (List Key × V) → List (List Key × Addr × Value) → Prop := Paired fun p q => p.1 = q.1 ∧ H q.2.1 = some (.tup (p.1.map kV)) ∧ q5d p.2 q.2.2
theorem KT.val {H : Hp} {kvs : List (List Key × V)} {xs : List (List Key × Addr × Value)} (r : KT H kvs xs) (k : List Key) : z3s (z5r kvs k) ((atKey xs k).map (·.2)) := by
 induction r with
 | nil => exact True.intro
 | @cons p q ps qs h t ih =>
  obtain ⟨h1, _, h2⟩ := h
  by_cases e : p.1 = k
  ·have e' : q.1 = k := h1.symm.trans e
   have b : atKey (q :: qs) k = some q.2 := by simp [atKey, List.find?_cons, e']
   rw [z3n e, b]; exact h2
  ·have e' : ¬ q.1 = k := fun z => e (h1.trans z)
   have b : atKey (q :: qs) k = atKey qs k := by simp [atKey, List.find?_cons, e']
   rw [z3i e, b]; exact ih
section
variable {P : Program} {w : World} {H : Hp} {h : Heap} {a : Addr}
theorem j8m {u : HO} (ok : HOk P w H h) (e : Rd H a u) : q5m P w H h a u := e.ok ok
theorem j4n {kvs : List (Key × V)} (ok : HOk P w H h) (e : Rd H a (.dK kvs)) : kvs.length ≤ sizeLine ∧ (a == sysModules) = false ∧ ∃ vs, KV kvs vs ∧ h.DictOf (q5c P w) a vs :=
 show q5m P w H h a (.dK kvs) from j8m ok e
theorem w1h {kvs : List (Key × V)} (ok : HOk P w H h) (e : H a = some (.dK kvs)) : kvs.length ≤ sizeLine ∧ (a == sysModules) = false ∧ ∃ vs, KV kvs vs ∧ h.DictOf (q5c P w) a vs := j4n ok (.inl e)
theorem j3y {ks : List Key} (ok : HOk P w H h) (e : H a = some (.tup (ks.map kV))) : (tupleKind (q5c P w)).is h ks a := by
 obtain ⟨_, its, r, o, h1, h2, n, h3⟩ := (show q5m P w H h a (.tup (ks.map kV)) from ok a _ e)
 exact ⟨o, its.toArray, n, h1, h2, h3, by simpa using x8m r⟩
theorem j8t {kvs : List (List Key × V)} (ok : HOk P w H h) (e : Rd H a (.dT kvs)) : kvs.length ≤ sizeLine ∧ (a == sysModules) = false ∧
  ∃ xs, KT H kvs xs ∧ h.DictOfH (tupleKind (q5c P w)) a xs := by
 obtain ⟨z, y, xs, r, o, es, ep, h1, h2, h3, h4, h5⟩ := (show q5m P w H h a (.dT kvs) from j8m ok e)
 refine ⟨z, y, xs, r, o, es, ep, h1, h2, h3, h4, fun x hx => ?_, h5⟩
 have all : ∀ {l : List (List Key × V)} {m : List (List Key × Addr × Value)}, KT H l m → ∀ x ∈ m, (tupleKind (q5c P w)).is h x.1 x.2.1 := by
  intro l m q
  induction q with
  | nil => intro x hx; exact nomatch hx
  | @cons p q ps qs hq t ih =>
   intro x hx
   rcases List.mem_cons.mp hx with e | hx
   ·subst e
    exact j3y ok (by rw [← hq.1]; exact hq.2.1)
   ·exact ih x hx
 exact all r x hx
end
noncomputable def j3t (H : Hp) (a : Addr) (y : V) (r : Option V) : Prop :=
 (∃ kvs k, Rd H a (.dK kvs) ∧ y = kV k ∧ r = z5r kvs k) ∨ ∃ kvs k b, Rd H a (.dT kvs) ∧ y = .ref b ∧ H b = some (.tup (k.map kV)) ∧ r = z5r kvs k
theorem j3t.k {H : Hp} {a : Addr} {kvs : List (Key × V)} {k : Key} (e : H a = some (.dK kvs)) : j3t H a (kV k) (z5r kvs k) := .inl ⟨kvs, k, .inl e, rfl, rfl⟩
section
variable {X : Cx} {pins : List (Addr × Obj)} {σ : St} {H : Hp} {s : Shared} {a : Addr} {y v : V} {u r : Value} {o : Option V} {A : Around} {E : Value → Shared → Prop}
theorem Inv.big (I : Inv X pins σ H s) : sysModules < s.heap.objs.size := by
 have h : mainGlobals < s.heap.objs.size := (I.mod.glob.keeps I.bk).lt
 exact Nat.lt_trans (by decide) h
theorem z9b {Q : Value → Shared → Prop} (hu : A.units + 1 < cLine) (I : Inv X pins σ H s) (g : j3t H a y (some v)) (ry : q5d y u) (h : ∀ w' s', Inv X pins σ H s' → q5d v w' → Q w' s') :
  wpAny (model X.prog X.w) A (getItem (.ref a) u) Q E s := by
 rcases g with ⟨kvs, k, e, ey, l⟩ | ⟨kvs, k, b, e, ey, eb, l⟩
 ·subst ey
  obtain ⟨z, hd, vs, rel, dd⟩ := j4n I.hok e
  obtain ⟨w', hw, rw'⟩ := z3s.some_of (v := v) (o := valueAt vs k) (by rw [l]; exact rel.val k)
  exact wpAny_getItem_of (j5s ry) dd.mapOf hw (h w' _ (I.tok _) rw')
 ·subst ey
  cases (show u = Value.ref b from ry)
  obtain ⟨z, hd, xs, rel, dd⟩ := j8t I.hok e
  obtain ⟨w', hw, rw'⟩ := z3s.some_of (v := v) (o := (atKey xs k).map (·.2)) (by rw [l]; exact rel.val k)
  obtain ⟨p, hp, hp2⟩ := Option.map_eq_some_iff.mp hw
  refine wpAny_getItem_heap (tupleKind_room_in1 hu) (j3y I.hok eb) dd hp ?_
  rw [hp2]
  exact h w' _ (I.tok _) rw'
theorem j5x {h' : Heap} {t' : Nat} {ob : HO} (I : Inv X pins σ H s) (mu : Mut (H a)) (hs : Heap.SameBut a s.heap h') (he : ∃ q, h'.get? a = some q) (new : q5m X.prog X.w (upd H a ob) h' a ob) :
  Inv X pins σ (upd H a ob) { s with heap := h', toks := t' } :=
 I.write (x := a) (e := a) mu (.inl rfl) (fun b q hb z => (hs.2 b hb).trans z) he new
theorem j8c {P : Program} {w : World} {H' : Hp} {h' : Heap} {kvs : List (Key × V)} {vs : List (Key × Value)} (z : kvs.length ≤ sizeLine) (hd : (a == sysModules) = false) (rel : KV kvs vs) (dd : h'.DictOf (q5c P w) a vs) :
  q5m P w H' h' a (.dK kvs) := ⟨z, hd, vs, rel, dd⟩
end
section
variable {X : Cx} {pins : List (Addr × Obj)} {σ : St} {H : Hp} {s : Shared} {a : Addr} {kvs : List (Key × V)} {k : Key} {u : Value} {A : Around} {E : Value → Shared → Prop}
end
noncomputable def w2v (i : Expr) : Prop := ∀ ov iv, subscripted i false ov iv = operate [ov, iv] (getItem ov iv)
theorem j5w {prog : Program} {w : World} {A : Around} {E : Value → Shared → Prop} {s : Shared} {env : Env} {value slice : Expr} {pos : Pos} {T id : String} {Q : Value → Shared → Prop}
  (hl : typeLookup (.type T) "__getitem__" = pure (some (.builtin id))) (hs : w2v slice)
  (h : wpAny (model prog w) A (eval value env) (fun o s₁ => wpAny (model prog w) A (eval slice env) (fun i s₂ => s₂.TypeIs o T ∧ wpAny (model prog w) A (getItem o i) Q E s₂) E s₁) E s) :
  wpAny (model prog w) A (eval (.Subscript value slice pos) env) Q E s := by
 refine Subscript_ (wpAny_mono h (fun o s₁ h₁ => wpAny_mono h₁ (fun i s₂ h₂ => ?_) fun _ _ x => x) fun _ _ x => x)
 obtain ⟨hT, h₂⟩ := h₂
 unfold subscriptTail
 refine wpAny_bind ?_
 rw [getitemInPython_of_ne hT.not_modules]
 refine wpAny_bind (wpAny_specialOf hT hl ?_)
 have fin : wpAny (model prog w) A (subscripted slice false o i) (fun r s₃ => wpAny (model prog w) A (letTemporaryGo value o r >>= fun _ => pure r) Q E s₃) E s₂ := by
  rw [hs o i]
  exact wpAny_operating (wpAny_mono h₂ (fun r s₃ h₃ => wpAny_bind (wpAny_letTemporaryGo (wpAny_pure h₃))) fun _ _ x => x)
 first
  | exact wpAny_pure (wpAny_bind fin)
  | exact wpAny_bind (wpAny_pure (wpAny_bind fin))
  | exact wpAny_bind fin
theorem z1i {X : Cx} {pins : List (Addr × Obj)} {σ : St} {H : Hp} {s : Shared} {a : Addr} {y : V} {o : Option V} (I : Inv X pins σ H s) (g : j3t H a y o) : s.TypeIs (.ref a) "dict" := by
 rcases g with ⟨kvs, k, e, _, _⟩ | ⟨kvs, k, b, e, _, _, _⟩
 ·obtain ⟨_, _, vs, _, dd⟩ := j4n I.hok e
  exact dd.typeIs
 ·obtain ⟨_, _, xs, _, dd⟩ := j8t I.hok e
  exact dd.typeIs
noncomputable def w1b (td ty : TE) : TE := fun σ H Q => td σ H fun x H1 => ty σ H1 fun y H2 => ∃ a v, x = .ref a ∧ j3t H2 a y (some v) ∧ Q v H2
section
variable {X : Cx} {o i e value : Expr} {pos pos' tpos : Pos} {td ty tv : TE}
theorem j6b (hu : X.A.units + 1 < cLine) (ho : PE X o td) (hi : PE X i ty) (hs : w2v i) : PE X (.Subscript o i pos) (w1b td ty) := by
 intro pins s σ H Q I h
 refine j5w PySem.F.slot_dict_getitem.lookup hs (thn (ho pins s σ H _ I h) fun u s1 ⟨x, H1, I1, rx, q1⟩ => thn (hi pins s1 σ H1 _ I1 q1) fun iv s2 ⟨y, H2, I2, ry, a, v, ex, g, q2⟩ => ?_)
 subst ex
 obtain rfl : u = Value.ref a := rx
 exact ⟨z1i I2 g, z9b hu I2 g ry fun w' s3 I3 rw' => ⟨v, H2, I3, rw', q2⟩⟩
end
theorem j1w {P : Program} {w : World} {H : Hp} (h : Heap) (hb : sysModules < h.objs.size) : q5m P w H (h.push { cls := .type "dict", data := .dict #[] }) h.objs.size (.dK []) :=
 ⟨Nat.zero_le _, beq_eq_false_iff_ne.mpr (Ne.symm (Nat.ne_of_lt hb)), [], .nil, Heap.DictOf.new h⟩
section
variable {X : Cx} {pos : Pos}
end
noncomputable def z7j : List (TE × TE) → St → Hp → (List (V × V) → Hp → Prop) → Prop
 | [], _, H, Q => Q [] H
 | (tk, tv) :: r, σ, H, Q => tk σ H fun x H1 => tv σ H1 fun y H2 => z7j r σ H2 fun ps H3 => Q ((x, y) :: ps) H3
noncomputable abbrev VV : List (V × V) → List (Value × Value) → Prop := Paired fun p q => q5d p.1 q.1 ∧ q5d p.2 q.2
noncomputable def PPs (X : Cx) (pos : Pos) (keys : List (Option Expr)) (values : List Expr) (trs : List (TE × TE)) : Prop :=
 ∀ (pins : List (Addr × Obj)) (s : Shared) (σ : St) (H : Hp) (Q : List (V × V) → Hp → Prop), Inv X pins σ H s → z7j trs σ H Q →
  wpAny (model X.prog X.w) X.A (evalPairs (pairTrees keys values X.env pos)) (fun vs s' => ∃ ps H', Inv X pins σ H' s' ∧ VV ps vs ∧ Q ps H') X.xe s
theorem j6u {X : Cx} {pos : Pos} : PPs X pos [] [] [] := fun pins s σ H Q I h => pairTrees_nil_walk ⟨[], H, I, .nil, h⟩
theorem x1e {X : Cx} {pos : Pos} {k v : Expr} {ks : List (Option Expr)} {vs : List Expr} {tk tv : TE} {trs : List (TE × TE)} (hk : PE X k tk) (hv : PE X v tv) (hr : PPs X pos ks vs trs) :
  PPs X pos (some k :: ks) (v :: vs) ((tk, tv) :: trs) := fun pins s σ H Q I h =>
 pairTrees_cons_walk (thn (hk pins s σ H _ I h) fun u s1 ⟨x, H1, I1, rx, q1⟩ => thn (hv pins s1 σ H1 _ I1 q1) fun w2 s2 ⟨y, H2, I2, ry, q2⟩ =>
  thn (hr pins s2 σ H2 _ I2 q2) fun ws s3 ⟨ps, H3, I3, rel, q3⟩ => ⟨(x, y) :: ps, H3, I3, .cons ⟨rx, ry⟩ rel, q3⟩)
noncomputable def q8r (kvs more : List (Key × V)) : List (Key × V) := more.foldl (fun acc kv => j3l acc kv.1 kv.2) kvs
theorem KV.merge : ∀ {more : List (Key × V)} {rs : List (Key × Value)} {kvs : List (Key × V)} {vs : List (Key × Value)}, KV more rs → KV kvs vs → KV (q8r kvs more) (merged vs rs) := by
 intro more rs kvs vs r
 unfold KV at r
 induction r generalizing kvs vs with
 | nil => intro q; exact q
 | @cons p q ps qs h t ih =>
  intro r0
  have e : KV (j3l kvs p.1 p.2) (stored vs q.1 q.2) := by
   have := r0.put p.1 h.2
   rw [← h.1]; exact this
  exact ih e
theorem x1f : ∀ (more kvs : List (Key × V)), (q8r kvs more).length ≤ kvs.length + more.length
 | [], kvs => by show kvs.length ≤ kvs.length + 0; omega
 | p :: r, kvs => by
  have h1 := x1f r (j3l kvs p.1 p.2)
  have h2 := z1d kvs p.1 p.2
  show (q8r (j3l kvs p.1 p.2) r).length ≤ _
  rw [List.length_cons]; omega
theorem x5r {P : Program} {w : World} : ∀ {kvs : List (Key × V)} {ws : List (Value × Value)}, VV (kvs.map fun kv => (kV kv.1, kv.2)) ws → ∃ rs, Carries (q5c P w) ws rs ∧ KV kvs rs
 | [], _, r => by rw [List.map_nil] at r; cases r; exact ⟨[], True.intro, .nil⟩
 | p :: kvs, _, r => by
  rw [List.map_cons] at r
  cases r with
  | @cons a b as bs h t =>
   obtain ⟨rs, c, q⟩ := x5r (P := P) (w := w) t
   obtain ⟨b1, b2⟩ := b
   exact ⟨(p.1, b2) :: rs, ⟨j5s h.1, rfl, c⟩, .cons ⟨rfl, h.2⟩ q⟩
noncomputable def w0v (trs : List (TE × TE)) : TE := fun σ H Q => ∀ p, H p = none → z7j trs σ (upd H p (.dK [])) fun ps H2 => H2 p = some (.dK []) ∧ ∃ kvs : List (Key × V), ps = kvs.map (fun kv => (kV kv.1, kv.2)) ∧ kvs.length ≤ 15 ∧ Q (.ref p) (upd H2 p (.dK (q8r [] kvs)))
theorem j6r {X : Cx} {pos : Pos} {keys : List (Option Expr)} {values : List Expr} {trs : List (TE × TE)} (h : PPs X pos keys values trs) (hall : keys.all (·.isSome) = true) (hl : keys.length = values.length) (h0 : keys ≠ [])
  (h15 : keys.length ≤ 15) : PE X (.Dict keys values pos) (w0v trs) := by
 intro pins s σ H Q I q
 have hn := I.hok.fresh (Nat.le_refl s.heap.objs.size)
 have I1 := I.laid (a := s.heap.objs.size) (o := .dK []) (h' := s.heap.push { cls := .type "dict", data := .dict #[] }) (t' := s.toks) (fun _ _ q => Heap.get?_push_of_some _ q) (Nat.le_refl _) (j1w s.heap I.big)
 refine wpAny_Dict_walk (knd := q5c X.prog X.w) hall hl h0 h15 (thn (h pins _ σ _ _ I1 (q _ hn)) fun ws s2 ⟨ps, H2, I2, rel, e, kvs, ep, lk, q2⟩ => ?_)
 subst ep
 obtain ⟨rs, c, rk⟩ := x5r (P := X.prog) (w := X.w) rel
 obtain ⟨z, hd, vs0, r0, dd⟩ := w1h I2.hok e
 cases r0
 refine ⟨rs, c, dd, fun h' dd' hs => ⟨.ref s.heap.objs.size, _, ?_, rfl, q2⟩⟩
 have hz : (q8r [] kvs).length ≤ sizeLine := by
  have h1 := x1f kvs []
  rw [List.length_nil] at h1
  rw [sizeLine_eq]; omega
 have he : ∃ q, h'.get? s.heap.objs.size = some q := let ⟨q, _, _, hq, _⟩ := dd'; ⟨q, hq⟩
 exact j5x I2 (by rw [e]; exact True.intro) hs he (j8c hz hd (rk.merge .nil) dd')
end L2
namespace Kp
open PySem L2 PySem.Spec PyProof.Rows
theorem j7x {X : Cx} (hu : X.A.units < cLine) : OpR X (compareOp .Eq) (fun x y H Q => ∃ p q xs, x = .ref p ∧ y = .ref q ∧ SqL X.K H p xs ∧ SqL X.K H q [] ∧ Q (.bl xs.isEmpty) H) := by
 intro pins s σ H x y v u Q I rx ry h
 obtain ⟨p, q', xs, rfl, rfl, h1, h2, q⟩ := h
 cases xs with
 | nil => exact j3m hu pins s σ H _ _ _ _ Q I rx ry ⟨p, q', [], [], rfl, rfl, h1, h2, rfl, rfl, q⟩
 | cons a r =>
  cases rx
  cases ry
  obtain ⟨its, r1, pl1, _⟩ := I.list h1
  obtain ⟨jts, r2, pl2, _⟩ := I.list h2
  exact SeqAt.eq_list_lengthsAt pl1.isList pl2.isList (by simp [← r1.length, ← r2.length]) hu ⟨.bl false, H, I, rfl, q⟩
theorem q7b {kvs : List (Key × V)} {k : Key} {v : V} (h : decide (z5r (q8r [] kvs) k = some v) = true) : z5r (q8r [] kvs) k = some v := of_decide_eq_true h
end Kp
namespace Kp
open PySem L2
mutual
inductive ThN (B : Nat) (H : Hp) : V → Prop
 | non : ThN B H .non
 | bl (b : Bool) : ThN B H (.bl b)
 | int (i : Int) : ThN B H (.int i)
 | str (x : Str) (h : x.length ≤ B) : ThN B H (.str x)
 | tup {a : Addr} {vs : List V} (e : H a = some (.tup vs)) (l : vs.length ≤ B) (r : ThNL B H vs) : ThN B H (.ref a)
inductive ThNL (B : Nat) (H : Hp) : List V → Prop
 | nil : ThNL B H []
 | cons {v : V} {vs : List V} (h : ThN B H v) (t : ThNL B H vs) : ThNL B H (v :: vs)
end
mutual
theorem ThN.sameT {B B' : Nat} {H H' : Hp} (hB : B ≤ B') (s : x0g H H') : ∀ {v}, ThN B H v → ThN B' H' v
 | _, .non => .non
 | _, .bl b => .bl b
 | _, .int i => .int i
 | _, .str x h => .str x (Nat.le_trans h hB)
 | _, .tup e l r => .tup (s _ _ e) (Nat.le_trans l hB) (ThNL.sameT hB s r)
theorem ThNL.sameT {B B' : Nat} {H H' : Hp} (hB : B ≤ B') (s : x0g H H') : ∀ {vs}, ThNL B H vs → ThNL B' H' vs
 | _, .nil => .nil
 | _, .cons h t => .cons (ThN.sameT hB s h) (ThNL.sameT hB s t)
end
mutual
theorem ThN.th {B : Nat} {H : Hp} : ∀ {v}, ThN B H v → Th B H v
 | _, .non => Th.non
 | _, .bl b => Th.bl b
 | _, .int i => Th.int i
 | _, .str x h => Th.str x h
 | _, .tup e l r => Th.tup e l (ThNL.th r)
theorem ThNL.th {B : Nat} {H : Hp} : ∀ {vs}, ThNL B H vs → ThL B H vs
 | _, .nil => ThL.nil
 | _, .cons h t => ThL.cons (ThN.th h) (ThNL.th t)
end
theorem j2g {H H' : Hp} (s : q1a H H') : x0g H H' := fun b xs e => s _ _ e
end Kp
namespace HT
open PySem PySem.Spec PyProof.Rows L2
section
variable {prog : Program} {w : World} {A : Around} {E : Value → Shared → Prop} {s : Shared}
theorem getItem_tuple_whole {t sl : Addr} {items : Array Value} {vl vu : Value} {lo hi : Option Int} {Q : Value → Shared → Prop} (ht : IsTup s.heap t items) (hs : s.heap.IsSliceOf sl vl vu .none) (pl : IsPart vl lo) (pu : IsPart vu hi)
  (hw : sIx items.size 0 lo = 0 ∧ sIx items.size items.size hi = items.size) (h : Q (.ref t) s) : wpAny (model prog w) A (getItem (.ref t) (.ref sl)) Q E s := by
 obtain ⟨os, hos, hcs, hds⟩ := id hs
 have hTs : s.TypeIs (.ref sl) "slice" := ⟨os, hos, hcs⟩
 unfold getItem
 try with_reducible refine wpAny_holding ?_
 first | refine wpAny_bind (wpAny_pure ?_) | skip
 refine wpAny_bind (wpAny_sequenceKey ht.typeIs (by decide) ?_)
 refine wpAny_bind (wpAny_callSpecial?_slot (name := Str.ofString "__getitem__") ht.typeIs PyProof.Rows.slot_tuple_getitem
  (wpAny_call_entry PyProof.Rows.slot_tuple_getitem ht.typeIs entry_tuple_getitem ?_ (args_tuple_getitem _ _)))
 show wpAny _ _ (Builtin.Tuple.tupleItemsOf (.ref t) >>= _) _ _ s
 refine wpAny_bind (tupleItemsOf_ ht ?_)
 refine wpAny_bind (wpAny_typeOf hTs ?_)
 rw [if_pos (by decide)]
 refine wpAny_bind (q7w hs pl pu ?_)
 have hyes : (((sIx items.size 0 lo : Nat) : Int) == 0 && (1 : Int) == 1 && (sIx items.size items.size hi - sIx items.size 0 lo) == items.size) = true := by
  rw [hw.1, hw.2]; simp
 show wpAny _ _ (if (((sIx items.size 0 lo : Nat) : Int) == 0 && (1 : Int) == 1 && (sIx items.size items.size hi - sIx items.size 0 lo) == items.size) = true then _ else _) _ _ s
 rw [if_pos hyes]
 refine wpAny_bind (m := Builtin.Tuple.tupleIsExact _) (wpAny_bind (wpAny_typeOf ht.typeIs (wpAny_pure ?_)))
 rw [if_pos (by decide)]
 refine wpAny_bind (wpAny_rule ?_)
 first
  | exact wpAny_bind (wpAny_pure (wpAny_pure ⟨_, rfl, wpAny_pure h⟩))
  | exact wpAny_pure ⟨_, rfl, wpAny_pure h⟩
  | exact wpAny_bind (wpAny_pure ⟨_, rfl, wpAny_pure h⟩)
end
end HT
namespace L2
open PySem PySem.Spec PyProof.Rows L2
theorem z5g {xs : List V} {lo hi : Option Int} (h1 : HT.sIx xs.length 0 lo = 0) (h2 : HT.sIx xs.length xs.length hi = xs.length) : z0f xs lo hi = xs := by
 unfold z0f; rw [h1, h2]; simp
end L2
namespace L2
open PySem PySem.Spec PyProof.Rows
section
variable {X : Cx}
variable {o e : Expr} {es : List Expr} {to : TE} {t : TA} {name : Str} {apos cpos : Pos} {id : String} {r : V → List V → Hp → VK → Prop}
end
section
variable {X : Cx}
end
end L2
namespace K1
open PySem L2 Kp
end K1
namespace L2
open PySem PySem.Spec PyProof.Rows
section
variable {X : Cx}
end
end L2
namespace K1
open PySem L2 Kp
theorem SqT.same' {K : PySem.W.Frag} {H H' : Hp} {a : Addr} {xs : List V} (h : SqT K H a xs) (s : q1a H H') : SqT K H' a xs := by
 rcases h with h | h
 ·exact .inl (h.elim (fun e => .inl (s _ _ e)) fun ⟨o, e⟩ => .inr ⟨o, s _ _ e⟩)
 ·exact .inr h
end K1
set_option maxHeartbeats 1000000
namespace L2
open PySem PySem.Spec PyProof.Rows
section
variable {prog : Program} {w : World} {A : Around} {R : Result → Shared → Prop} {it : Addr} {fp wr : List Addr} {n : Nat} {Pv : Nat → Value → Prop} {St : Nat → Heap → Prop} {dv : Value}
end
section
variable {X : Cx}
end
end L2
namespace K1
open PySem L2 Kp
theorem j8p (ms : List Int) (p : Int → Bool) (f : Int → V) : (((List.range (ms.map V.int).length).filter fun i => p (ms.getD i 0)).map fun i => f (ms.getD i 0)) = (ms.filter p).map f := by
 have e0 : ms = (List.range ms.length).map fun i => ms.getD i 0 := by
  apply List.ext_getElem?
  intro i
  by_cases hi : i < ms.length
  ·simp [hi]
  ·rw [List.getElem?_eq_none (by omega), List.getElem?_eq_none (by simp; omega)]
 rw [List.length_map]
 conv => rhs; rw [e0]
 rw [List.filter_map, List.map_map]
 rfl
theorem x6y {K : PySem.W.Frag} {a : Addr} {ms : List Int} {H1 : Hp} {frs : St} {g : TG} {tt : TT} {te : TE} {Q : VK} (hS : SqT K H1 a (ms.map V.int)) (hn : ms.length ≤ 1000) (p : Int → Bool) (f : Int → V)
  (turn : ∀ (i : Nat) (hi : i < ms.length) t H2 (R : St → Hp → Option V → Prop), q1a H1 H2 → t.length = 1 → (∀ t' H', t'.length = 1 → q1a H2 H' → R (t' ++ frs) H' (if p ms[i] = true then some (f ms[i]) else none)) →
   g (.int ms[i]) (t ++ frs) H2 fun σ3 H3 => tt σ3 H3 fun b H4 => if b = true then te σ3 H4 fun v H5 => R σ3 H5 (some v) else R σ3 H4 none)
  (hq : ∀ D H', q1a H1 H' → H1 D = none → H' D = some (.lst ((ms.filter p).map f)) → Q (.ref D) H') : x3y (List.replicate 1 none ++ frs) g tt te Q (Itt K a) H1 := by
 refine q2y (J := Itt K a) (k := 1) (n := (ms.map V.int).length) (fun i => p (ms.getD i 0)) (fun i => f (ms.getD i 0)) (by rw [List.length_map, sizeLine_eq]; omega) (fun i H3 hi s4 => ⟨_, .int (ms.getD i 0), SqT.same' hS s4, ?_⟩) (fun H3 s4 => ⟨_, SqT.same' hS s4, Nat.le_refl _⟩) ?_ ?_
 ·rw [List.length_map] at hi
  simp [hi]
 ·intro i H3 t v H4 R hi s4 ht y hR
  obtain ⟨rfl, hy⟩ := y
  have hi' : i < ms.length := by simpa using hi
  have hv := hy _ (SqT.same' hS s4)
  rw [List.getElem?_map, List.getElem?_eq_getElem hi'] at hv
  cases hv
  have eg : ms.getD i 0 = ms[i] := by simp [hi']
  rw [eg] at hR
  exact turn i hi' t H4 R s4 ht hR
 ·intro D1 H3 s4 hD hd
  rw [j8p] at hd
  exact hq D1 H3 s4 hD hd
end K1
namespace Kp
open PySem L2
end Kp
set_option maxHeartbeats 4000000
namespace Kp
open PySem L2
noncomputable def q3e (a : Addr) (H H' : Hp) : Prop := ∀ b o, b ≠ a → H b = some o → H' b = some o
theorem q3e.refl {a : Addr} (H : Hp) : q3e a H H := fun _ _ _ e => e
theorem q3e.trans {a : Addr} {H H1 H2 : Hp} (s : q3e a H H1) (t : q3e a H1 H2) : q3e a H H2 := fun b o n e => t b o n (s b o n e)
theorem q3e.of {a : Addr} {H H' : Hp} (s : q1a H H') : q3e a H H' := fun b o _ e => s b o e
theorem q3e.upd {a : Addr} {H : Hp} {o : HO} : q3e a H (upd H a o) := fun b _ n e => by rw [q1b n]; exact e
theorem z2q {J : It} {H1 : Hp} {a : Addr} {n k : Nat} {frs : St} {g : TG} {tt : TT} {te : TE} {Q : VK} (W : Nat → List V → Hp → Prop) (hn : n < sizeLine) (ha : ∃ o, H1 a = some o)
  (w0 : ∀ D, H1 D = none → W 0 [] (upd H1 D (.lst []))) (wst : ∀ i ys H D zs us, H1 D = none → D ≠ a → H D = some (.lst zs) → W i ys H → W i ys (upd H D (.lst us)))
  (go : ∀ i ys H, i < n → W i ys H → J.go i H) (stop : ∀ ys H, W n ys H → J.stop n H)
  (turn : ∀ i ys H t x H2 (R : St → Hp → Option V → Prop), i < n → ys.length = i → W i ys H → t.length = k → J.yld i H x H2 →
   (∀ t' H' v, t'.length = k → q3e a H H' → W (i + 1) (ys ++ [v]) H' → R (t' ++ frs) H' (some v)) →
   g x (t ++ frs) H2 fun σ3 H3 => tt σ3 H3 fun b H4 => if b = true then te σ3 H4 fun v H5 => R σ3 H5 (some v) else R σ3 H4 none)
  (hq : ∀ D H' ys, D ≠ a → ys.length = n → W n ys H' → H' D = some (.lst ys) → Q (.ref D) H') : x3y (List.replicate k none ++ frs) g tt te Q J H1 := by
 intro D hD
 have hDa : D ≠ a := fun z => by obtain ⟨o, e⟩ := ha; rw [← z, hD] at e; cases e
 refine ⟨fun i m ys σ H => i ≤ n ∧ m = n - i ∧ ys.length = i ∧ W i ys H ∧ ∃ t, t.length = k ∧ σ = t ++ frs, ⟨n, Nat.zero_le _, rfl, rfl, w0 D hD, _, by simp, rfl⟩, ?_⟩
 rintro i m ys σ H ⟨hi, rfl, hy, w, t, ht, rfl⟩ hd
 by_cases hlt : i < n
 ·right
  refine ⟨go i ys H hlt w, by omega, fun x H2 y => ?_⟩
  have h := turn i ys H t x H2 (fun σ3 H5 r => match r with
   | some v => H5 D = some (.lst ys) ∧ ∃ m', m' < n - i ∧ (i + 1 ≤ n ∧ m' = n - (i + 1) ∧ (ys ++ [v]).length = i + 1 ∧ W (i + 1) (ys ++ [v]) (upd H5 D (.lst (ys ++ [v]))) ∧ ∃ t, t.length = k ∧ σ3 = t ++ frs)
   | none => H5 D = some (.lst ys) ∧ ∃ m', m' < n - i ∧ (i + 1 ≤ n ∧ m' = n - (i + 1) ∧ ys.length = i + 1 ∧ W (i + 1) ys H5 ∧ ∃ t, t.length = k ∧ σ3 = t ++ frs)) hlt hy w ht y ?_
  ·exact h
  ·intro t' H' v ht' s2 w2
   have hd' := s2 _ _ hDa hd
   exact ⟨hd', n - (i + 1), by omega, by omega, rfl, by rw [List.length_append, hy]; rfl, wst _ _ _ _ _ _ hD hDa hd' w2, t', ht', rfl⟩
 ·have e : i = n := by omega
  subst e
  exact .inl ⟨stop ys H w, hq D H ys hDa hy w hd⟩
mutual
noncomputable def j1q : D → Bool
 | .tup ds => noLL ds
 | .lst _ => false
 | _ => true
noncomputable def noLL : List D → Bool
 | [] => true
 | d :: ds => j1q d && noLL ds
end
mutual
theorem Is.sameT {B : Nat} {H H' : Hp} (s : x0g H H') : ∀ {v d}, Is B H v d → j1q d = true → Is B H' v d
 | _, _, .non, _ => .non
 | _, _, .bl b, _ => .bl b
 | _, _, .int i, _ => .int i
 | _, _, .str x h, _ => .str x h
 | _, _, .tup e l r, h => .tup (s _ _ e) l (IsL.sameT s r h)
 | _, _, .lst _ _ _, h => by cases h
theorem IsL.sameT {B : Nat} {H H' : Hp} (s : x0g H H') : ∀ {vs ds}, IsL B H vs ds → noLL ds = true → IsL B H' vs ds
 | _, _, .nil, _ => .nil
 | _, _, .cons h t, e => by
  rw [noLL, Bool.and_eq_true] at e
  exact .cons (Is.sameT s h e.1) (IsL.sameT s t e.2)
end
theorem q4b : ∀ {ds : List D}, noLL ds = true ↔ ∀ d ∈ ds, j1q d = true
 | [] => by
  constructor
  ·intro _ d h
   cases h
  ·intro _
   rfl
 | d :: ds => by
  rw [noLL, Bool.and_eq_true, q4b]
  simp
theorem q3e.tups {a : Addr} {H H' : Hp} (s : q3e a H H') (h : ∀ xs, H a ≠ some (.tup xs)) : x0g H H' := fun b xs e => s b _ (fun z => by rw [z] at e; exact h xs e) e
theorem x8g {D : Addr} {H : Hp} {o : HO} (h : ∀ xs, H D ≠ some (.tup xs)) : x0g H (upd H D o) := fun b xs e => by
 have n : b ≠ D := fun z => by rw [z] at e; exact h xs e
 rw [q1b n]
 exact e
end Kp
namespace Kp
open PySem
noncomputable def q3l : D → Bool
 | .bl _ => true
 | _ => false
noncomputable def q6w : D → Bool
 | .non => true
 | d => q0h d
noncomputable def w0e (p : D → Bool) : D → Bool
 | .tup ds => ds.all p
 | _ => false
noncomputable def q1y (d : D) : Bool := w0e q3m d && decide (z5q d ≤ 5)
noncomputable def j3u : D → Bool
 | .tup (.int i :: _) => decide (1 ≤ i)
 | _ => false
noncomputable def q8d (d : D) : Bool := x6a d && j3u d
noncomputable def q2l : List (Str × List (D → Bool)) := [("ask", [q0h, q0h, geD 1, geD 0, geD 0]), ("voice", [q0h, q0h, geD 1, q3l]), ("hand", [q0h, q0h, geD 1, geD 0, geD 0, q1y, geD 0]), ("pack", [q0h, q0h, geD 1, q8d]),
 ("held", [q0h, q0h, geD 1, q3l, geD 0]), ("wish", [q2b, q0h, geD 1, q5j]), ("told", [q0h, q2b, geD 1, whole]), ("away", [q0h, q2b, geD 1, q6w])]
noncomputable def q9b : D → D → Bool
 | .int i, .int j => decide (i = j)
 | .str i, .str j => decide (i = j)
 | _, _ => false
noncomputable def j6q : D → Bool
 | .tup (_ :: a :: b :: _) => !q9b a b
 | _ => false
noncomputable def z5o : D → Bool
 | .tup (.str x :: _ :: _ :: _ :: a :: b :: r) => if x = "ask" ∨ x = "hand" then z0c (.tup (a :: b :: r)) else true
 | _ => true
noncomputable def q2p (d : D) : Bool := q2g q2l d && (j6q d && z5o d)
noncomputable def x2u (a b t : D) : Bool := ((q0h a && q0h b) && !q9b a b) && geD 1 t
noncomputable def x2y : D → Bool
 | .tup ds => decide (ds.length ≤ 5) && ds.all q8a
 | _ => false
noncomputable def nzD : D → Bool
 | .tup (.int i :: _) => !decide (i = 0)
 | _ => false
noncomputable def q7k (x : Str) (r : List D) : Bool :=
 if x = "ask" then (match r with | [a, b, t, p, l] => x2u a b t && q4u p l | _ => false)
 else if x = "voice" then (match r with | [a, b, t, v] => x2u a b t && q3l v | _ => false)
 else if x = "hand" then (match r with | [a, b, t, p, l, e, m] => x2u a b t && (q4u p l && (x2y e && geD 0 m)) | _ => false)
 else if x = "pack" then (match r with | [a, b, t, k] => x2u a b t && (x0q k && nzD k) | _ => false)
 else if x = "held" then (match r with | [a, b, t, v, m] => x2u a b t && (q3l v && geD 0 m) | _ => false)
 else if x = "wish" then (match r with | [n, k, c, d] => geD 1 c && (q1w n && (q0h k && q6a d)) | _ => false)
 else if x = "told" then (match r with | [k, n, c, v] => geD 1 c && ((q0h k && q1w n) && whole v) | _ => false)
 else if x = "away" then (match r with | [k, n, c, h] => geD 1 c && ((q0h k && q1w n) && q6w h) | _ => false)
 else false
noncomputable def z1k : D → Bool
 | .tup (.str x :: r) => q7k x r
 | _ => false
theorem z4l (p q s t : D → Bool) : ∀ r : List D, q0v [p, q, s, t] r = (match r with | [a, b, c, d] => p a && (q b && (s c && t d)) | _ => false)
 | [] => rfl
 | [_] => by simp [q0v]
 | [_, _] => by simp [q0v]
 | [_, _, _] => by simp [q0v]
 | [a, b, c, d] => by simp [q0v]
 | _ :: _ :: _ :: _ :: _ :: _ => by simp [q0v]
theorem j2s (p q s t u : D → Bool) : ∀ r : List D, q0v [p, q, s, t, u] r = (match r with | [a, b, c, d, e] => p a && (q b && (s c && (t d && u e))) | _ => false)
 | [] => rfl
 | [_] => by simp [q0v]
 | [_, _] => by simp [q0v]
 | [_, _, _] => by simp [q0v]
 | [_, _, _, _] => by simp [q0v]
 | [a, b, c, d, e] => by simp [q0v]
 | _ :: _ :: _ :: _ :: _ :: _ :: _ => by simp [q0v]
theorem j4k (p q s t u v w : D → Bool) : ∀ r : List D, q0v [p, q, s, t, u, v, w] r = (match r with | [a, b, c, d, e, f, g] => p a && (q b && (s c && (t d && (u e && (v f && w g))))) | _ => false)
 | [] => rfl
 | [_] => by simp [q0v]
 | [_, _] => by simp [q0v]
 | [_, _, _] => by simp [q0v]
 | [_, _, _, _] => by simp [q0v]
 | [_, _, _, _, _] => by simp [q0v]
 | [_, _, _, _, _, _] => by simp [q0v]
 | [a, b, c, d, e, f, g] => by simp [q0v]
 | _ :: _ :: _ :: _ :: _ :: _ :: _ :: _ :: _ => by simp [q0v]
theorem j2d : q3m = q8a := funext j0x
theorem z5m (d : D) : q1y d = x2y d := by
 unfold q1y
 rw [j2d]
 cases d with
 | tup ds =>
  show (ds.all q8a && decide (ds.length ≤ 5)) = (decide (ds.length ≤ 5) && ds.all q8a)
  rw [Bool.and_comm]
 | _ => rfl
theorem x6h {d : D} (h : x0q d = true) : ∃ i r, d = .tup (.int i :: r) ∧ 0 ≤ i := by
 cases d with
 | tup ds =>
  match ds, h with
  | [a, b, c, e], h =>
   have h' : (q4u a b && (q4l c && q7z e)) = true := h
   unfold q4u at h'
   rw [Bool.and_eq_true, Bool.and_eq_true, Bool.and_eq_true] at h'
   have ha := h'.1.1.1
   cases a with
   | int i => exact ⟨i, _, rfl, of_decide_eq_true ha⟩
   | _ => cases ha
 | _ => cases h
theorem j7j (d : D) : q8d d = (x0q d && nzD d) := by
 unfold q8d
 rw [z8n]
 cases h : x0q d with
 | false => rfl
 | true =>
  obtain ⟨i, r, rfl, hi⟩ := x6h h
  show (true && decide (1 ≤ i)) = (true && !decide (i = 0))
  rw [Bool.true_and, Bool.true_and, Bool.eq_iff_iff]
  simp only [decide_eq_true_eq, Bool.not_eq_true', decide_eq_false_iff_not]
  omega
theorem x4d {n k : D} (h1 : q1w n = true) (h2 : q0h k = true) : q9b n k = false ∧ q9b k n = false := by
 cases n with
 | str x =>
  cases k with
  | int i => exact ⟨rfl, rfl⟩
  | _ => cases h2
 | _ => cases h1
theorem z8s (d : D) : q2p d = z1k d := by
 unfold q2p z1k q2g
 split
 ·rename_i x r
  unfold q2l q7k
  simp only [List.lookup_cons, List.lookup_nil]
  have ne : ∀ {s t : Str}, s ≠ t → (s == t) = false := fun h => by simp [h]
  by_cases h1 : x = "ask"
  ·subst h1
   rw [if_pos rfl, show (("ask" : Str) == ("ask" : Str)) = true by simp]
   show (q0v [q0h, q0h, geD 1, geD 0, geD 0] r && _) = _
   rw [j2s]
   match r with
   | [a, b, t, p, l] =>
    show ((q0h a && (q0h b && (geD 1 t && (geD 0 p && geD 0 l)))) && (!q9b a b && (if ("ask" : Str) = "ask" ∨ ("ask" : Str) = "hand" then z0c (.tup [p, l]) else true))) = (x2u a b t && q4u p l)
    rw [if_pos (.inl rfl), ← x6d p l []]
    unfold x2u
    ac_rfl
   | [] => rfl
   | [_] => rfl
   | [_, _] => rfl
   | [_, _, _] => rfl
   | [_, _, _, _] => rfl
   | _ :: _ :: _ :: _ :: _ :: _ :: _ => rfl
  rw [if_neg h1, ne h1]
  by_cases h2 : x = "voice"
  ·subst h2
   rw [if_pos rfl, show (("voice" : Str) == ("voice" : Str)) = true by simp]
   show (q0v [q0h, q0h, geD 1, q3l] r && _) = _
   rw [z4l]
   match r with
   | [a, b, t, v] =>
    show ((q0h a && (q0h b && (geD 1 t && q3l v))) && (!q9b a b && true)) = (x2u a b t && q3l v)
    unfold x2u
    rw [Bool.and_true]
    ac_rfl
   | [] => rfl
   | [_] => rfl
   | [_, _] => rfl
   | [_, _, _] => rfl
   | _ :: _ :: _ :: _ :: _ :: _ => rfl
  rw [if_neg h2, ne h2]
  by_cases h3 : x = "hand"
  ·subst h3
   rw [if_pos rfl, show (("hand" : Str) == ("hand" : Str)) = true by simp]
   show (q0v [q0h, q0h, geD 1, geD 0, geD 0, q1y, geD 0] r && _) = _
   rw [j4k]
   match r with
   | [a, b, t, p, l, e, m] =>
    show ((q0h a && (q0h b && (geD 1 t && (geD 0 p && (geD 0 l && (q1y e && geD 0 m)))))) && (!q9b a b && (if ("hand" : Str) = "ask" ∨ ("hand" : Str) = "hand" then z0c (.tup [p, l, e, m]) else true))) = (x2u a b t && (q4u p l && (x2y e && geD 0 m)))
    rw [if_pos (.inr rfl), ← x6d p l [e, m], z5m]
    unfold x2u
    ac_rfl
   | [] => rfl
   | [_] => rfl
   | [_, _] => rfl
   | [_, _, _] => rfl
   | [_, _, _, _] => rfl
   | [_, _, _, _, _] => rfl
   | [_, _, _, _, _, _] => rfl
   | _ :: _ :: _ :: _ :: _ :: _ :: _ :: _ :: _ => rfl
  rw [if_neg h3, ne h3]
  have hx : ¬ (x = "ask" ∨ x = "hand") := by rintro (z | z); exact h1 z; exact h3 z
  have ends : ∀ r, z5o (.tup (.str x :: r)) = true := fun r => by
   match r with
   | [] => rfl
   | [_] => rfl
   | [_, _] => rfl
   | [_, _, _] => rfl
   | [_, _, _, _] => rfl
   | _ :: _ :: _ :: a :: b :: t =>
    show (if x = "ask" ∨ x = "hand" then z0c (.tup (a :: b :: t)) else true) = true
    rw [if_neg hx]
  rw [ends, Bool.and_true]
  by_cases h4 : x = "pack"
  ·subst h4
   rw [if_pos rfl, show (("pack" : Str) == ("pack" : Str)) = true by simp]
   show (q0v [q0h, q0h, geD 1, q8d] r && _) = _
   rw [z4l]
   match r with
   | [a, b, t, v] =>
    show ((q0h a && (q0h b && (geD 1 t && q8d v))) && !q9b a b) = (x2u a b t && (x0q v && nzD v))
    rw [j7j]
    unfold x2u
    ac_rfl
   | [] => rfl
   | [_] => rfl
   | [_, _] => rfl
   | [_, _, _] => rfl
   | _ :: _ :: _ :: _ :: _ :: _ => rfl
  rw [if_neg h4, ne h4]
  by_cases h5 : x = "held"
  ·subst h5
   rw [if_pos rfl, show (("held" : Str) == ("held" : Str)) = true by simp]
   show (q0v [q0h, q0h, geD 1, q3l, geD 0] r && _) = _
   rw [j2s]
   match r with
   | [a, b, t, v, m] =>
    show ((q0h a && (q0h b && (geD 1 t && (q3l v && geD 0 m)))) && !q9b a b) = (x2u a b t && (q3l v && geD 0 m))
    unfold x2u
    ac_rfl
   | [] => rfl
   | [_] => rfl
   | [_, _] => rfl
   | [_, _, _] => rfl
   | [_, _, _, _] => rfl
   | _ :: _ :: _ :: _ :: _ :: _ :: _ => rfl
  rw [if_neg h5, ne h5]
  by_cases h6 : x = "wish"
  ·subst h6
   rw [if_pos rfl, show (("wish" : Str) == ("wish" : Str)) = true by simp]
   show (q0v [q2b, q0h, geD 1, q5j] r && _) = _
   rw [z4l, x0f, z6j]
   match r with
   | [n, k, c, d] =>
    show ((q1w n && (q0h k && (geD 1 c && q6a d))) && !q9b n k) = (geD 1 c && (q1w n && (q0h k && q6a d)))
    cases hn : q1w n with
    | false => simp
    | true =>
     cases hk : q0h k with
     | false => simp
     | true => rw [(x4d hn hk).1]; simp
   | [] => rfl
   | [_] => rfl
   | [_, _] => rfl
   | [_, _, _] => rfl
   | _ :: _ :: _ :: _ :: _ :: _ => rfl
  rw [if_neg h6, ne h6]
  by_cases h7 : x = "told"
  ·subst h7
   rw [if_pos rfl, show (("told" : Str) == ("told" : Str)) = true by simp]
   show (q0v [q0h, q2b, geD 1, whole] r && _) = _
   rw [z4l, x0f]
   match r with
   | [k, n, c, d] =>
    show ((q0h k && (q1w n && (geD 1 c && whole d))) && !q9b k n) = (geD 1 c && ((q0h k && q1w n) && whole d))
    cases hn : q1w n with
    | false => simp
    | true =>
     cases hk : q0h k with
     | false => simp
     | true => rw [(x4d hn hk).2]; simp
   | [] => rfl
   | [_] => rfl
   | [_, _] => rfl
   | [_, _, _] => rfl
   | _ :: _ :: _ :: _ :: _ :: _ => rfl
  rw [if_neg h7, ne h7]
  by_cases h8 : x = "away"
  ·subst h8
   rw [if_pos rfl, show (("away" : Str) == ("away" : Str)) = true by simp]
   show (q0v [q0h, q2b, geD 1, q6w] r && _) = _
   rw [z4l, x0f]
   match r with
   | [k, n, c, d] =>
    show ((q0h k && (q1w n && (geD 1 c && q6w d))) && !q9b k n) = (geD 1 c && ((q0h k && q1w n) && q6w d))
    cases hn : q1w n with
    | false => simp
    | true =>
     cases hk : q0h k with
     | false => simp
     | true => rw [(x4d hn hk).2]; simp
   | [] => rfl
   | [_] => rfl
   | [_, _] => rfl
   | [_, _, _] => rfl
   | _ :: _ :: _ :: _ :: _ :: _ => rfl
  rw [if_neg h8, ne h8]
  rfl
 ·rename_i h
  cases d with
  | tup ds =>
   match ds with
   | [] => rfl
   | .str x :: r => exact absurd rfl (h x r)
   | .non :: _ => rfl
   | .bl _ :: _ => rfl
   | .int _ :: _ => rfl
   | .tup _ :: _ => rfl
   | .lst _ :: _ => rfl
  | _ => rfl
end Kp
namespace Kp
open PySem L2 PySem.Spec PyProof.Rows
noncomputable abbrev Ord := PyProof.Rows.KeyKind
section
variable {prog : Program} {w : World} {A : Around} {E : Value → Shared → Prop} {s : Shared} {a0 : Array Keyed} {κ : Ord} {kd : SortKind} {st : SortSt}
structure TB (κ : Ord) (kd : SortKind) (a0 : Array Keyed) (st : SortSt) : Prop where
 pm : (arrOf st).Perm a0
 kn : kindOf st = kd
 fl : failedOf st = none
 pe : pendingOf st = #[]
 un : ∀ i j, i < a0.size → j < a0.size → KK κ (arrOf st) i = KK κ (arrOf st) j → i = j
noncomputable def Up (κ : Ord) (xs : Array Keyed) (k : Nat) : Prop := ∀ i j, i < j → j < k → κ.blt (KK κ xs i) (KK κ xs j) = true
noncomputable def TD (κ : Ord) (a0 : Array Keyed) (st : SortSt) : Prop := (arrOf st).Perm a0 ∧ failedOf st = none ∧ pendingOf st = #[(0, a0.size, 0)] ∧ Up κ (arrOf st) a0.size
end
end Kp
namespace Kp
open PySem L2 PySem.Spec PyProof.Rows
section
variable {prog : Program} {w : World} {A : Around} {E : Value → Shared → Prop} {s : Shared}
end
end Kp
namespace Kp
open PySem L2 PySem.Spec PyProof.Rows
section
variable {prog : Program} {w : World} {A : Around} {E : Value → Shared → Prop} {s : Shared}
end
end Kp
namespace Kp
open PySem L2 PySem.Spec PyProof.Rows
noncomputable def j9h (a b : Str) : Prop := a.cps.toList < b.cps.toList
section
variable {X : Cx}
end
end Kp
namespace Kp
open PySem L2 PySem.Spec PyProof.Rows
section
variable {X : Cx}
end
end Kp
namespace L2
open PySem PySem.Spec PyProof.Rows
noncomputable def w4u : V → Option Int → Option Int → Hp → VK → Prop := fun x lo hi H Q => ∃ a xs, x = .ref a ∧ H a = some (.tup xs) ∧ ∀ p H', H' p = some (.tup (z0f xs lo hi)) → q1a H H' → Q (.ref p) H'
theorem z6m {X : Cx} : SlR X w4u := by
 intro pins s σ H x v vl vu lo hi sl Q I rx hs pl pu h
 obtain ⟨a, xs, rfl, hx, q⟩ := h
 by_cases hw : HT.sIx xs.length 0 lo = 0 ∧ HT.sIx xs.length xs.length hi = xs.length
 ·cases rx
  obtain ⟨its, r, ht, hz⟩ := I.tuple (SqT.of hx)
  have hlen : its.toArray.size = xs.length := by rw [List.size_toArray]; exact r.length.symm
  refine ⟨"tuple", _, PyProof.Rows.slot_tuple_getitem.lookup, ht.typeIs, ?_⟩
  refine HT.getItem_tuple_whole ht hs pl pu (by rw [hlen]; exact hw) ⟨.ref a, H, I, rfl, q a H (by rw [z5g hw.1 hw.2]; exact hx) (q1a.refl _)⟩
 ·exact z8p pins s σ H _ _ vl vu lo hi sl Q I rx hs pl pu ⟨a, xs, rfl, SqT.of hx, hw, fun p hp => q p _ q0g (Kp.q0i hp)⟩
end L2
namespace K1
open PySem L2 Kp
theorem w5j {p : Prop} [Decidable p] (h : ¬ decide p = true) : ¬ p := fun g => h (decide_eq_true g)
end K1
namespace Kp
open PySem L2 PySem.Spec PyProof.Rows
noncomputable def q7e : Nat → D → Prop
 | _, .non => True
 | _, .bl _ => True
 | _, .int _ => True
 | _, .str _ => True
 | 0, .tup _ => False
 | 0, .lst _ => False
 | n + 1, .tup ds => ∀ x ∈ ds, q7e n x
 | n + 1, .lst ds => ∀ x ∈ ds, q7e n x
theorem x7e (n : Nat) : ((List.range n).all fun _ => true) = true := by simp
theorem q3r.at {xs : List V} {us : List Value} (r : q3r xs us) {j : Nat} (h : j < us.toArray.size) : ∃ x, xs[j]? = some x ∧ q5d x us.toArray[j] := by
 have h' : j < us.length := by simpa using h
 have hx : j < xs.length := by rw [r.length]; exact h'
 obtain ⟨u, e, rv⟩ := r.get (i := j) (x := xs[j]) (by simp [hx])
 have e2 : us.toArray[j] = u := by
  have := (List.getElem?_eq_some_iff.mp e).2
  simpa using this
 exact ⟨xs[j], by simp [hx], e2 ▸ rv⟩
theorem j1f {X : Cx} {pins : List (Addr × Obj)} {σ : L2.St} {H : Hp} {s : Shared} {B B' : Nat} (I : Inv X pins σ H s) : ∀ (n : Nat) (d : D) (v u : V) (uv uu : Value) (A : Around), q7e n d → Is B H v d → Is B' H u d → q5d v uv → q5d u uu → A.units + n < cLine → SeqAt.EqAt A s uv uu true := by
 intro n
 induction n with
 | zero =>
  intro d v u uv uu A hd Iv Iu rv ru hu
  cases d with
  | tup ds => exact hd.elim
  | lst ds => exact hd.elim
  | non => cases Iv; cases Iu; exact q9z rv ru rfl rfl
  | bl b =>
   cases Iv; cases Iu
   have := q9z (A := A) (s := s) rv ru rfl rfl
   rw [show eqV (V.bl b) (V.bl b) = true by cases b <;> rfl] at this
   exact this
  | int i =>
   cases Iv; cases Iu
   have := q9z (A := A) (s := s) rv ru rfl rfl
   rw [show eqV (V.int i) (V.int i) = true by simp [eqV]] at this
   exact this
  | str x =>
   cases Iv; cases Iu
   have := q9z (A := A) (s := s) rv ru rfl rfl
   rw [show eqV (V.str x) (V.str x) = true by simp [eqV]] at this
   exact this
 | succ n ih =>
  intro d v u uv uu A hd Iv Iu rv ru hu
  have hu0 : A.units < cLine := by omega
  cases d with
  | non => cases Iv; cases Iu; exact q9z rv ru rfl rfl
  | bl b =>
   cases Iv; cases Iu
   have := q9z (A := A) (s := s) rv ru rfl rfl
   rw [show eqV (V.bl b) (V.bl b) = true by cases b <;> rfl] at this
   exact this
  | int i =>
   cases Iv; cases Iu
   have := q9z (A := A) (s := s) rv ru rfl rfl
   rw [show eqV (V.int i) (V.int i) = true by simp [eqV]] at this
   exact this
  | str x =>
   cases Iv; cases Iu
   have := q9z (A := A) (s := s) rv ru rfl rfl
   rw [show eqV (V.str x) (V.str x) = true by simp [eqV]] at this
   exact this
  | tup ds =>
   cases Iv with
   | @tup a xs _ e1 l1 r1 =>
   cases Iu with
   | @tup b ys _ e2 l2 r2 =>
   cases rv
   cases ru
   by_cases hab : a = b
   ·subst hab; exact .same _
   ·refine SeqAt.EqAt.of_refs hab ?_
    obtain ⟨its, q1, p1, _⟩ := I.tuple (SqT.of e1)
    obtain ⟨jts, q2, p2, _⟩ := I.tuple (SqT.of e2)
    have hl : its.toArray.size = jts.toArray.size := by simp [← q1.length, ← q2.length, r1.length, r2.length]
    have z := SeqAt.RcAt.tuples (e := fun _ => true) (show s.heap.IsTuple a its.toArray from p1) (show s.heap.IsTuple b jts.toArray from p2) hu0 (fun j h1 h2 => by
     obtain ⟨x, ex, rx⟩ := q3r.at q1 h1
     obtain ⟨y, ey, ry⟩ := q3r.at q2 h2
     obtain ⟨dx, hdx, Ix⟩ := r1.get ex
     obtain ⟨dy, hdy, Iy⟩ := r2.get ey
     rw [hdx] at hdy
     cases hdy
     exact ih dx x y _ _ A.in1 (hd dx (List.mem_of_getElem? hdx)) Ix Iy rx ry (by show A.units + 1 + n < cLine; omega))
    rw [x7e, hl, beq_self_eq_true] at z
    exact z
  | lst ds =>
   cases Iv with
   | @lst a xs _ e1 l1 r1 =>
   cases Iu with
   | @lst b ys _ e2 l2 r2 =>
   cases rv
   cases ru
   by_cases hab : a = b
   ·subst hab; exact .same _
   ·refine SeqAt.EqAt.of_refs hab ?_
    obtain ⟨its, q1, p1, _⟩ := I.list (SqL.of e1)
    obtain ⟨jts, q2, p2, _⟩ := I.list (SqL.of e2)
    have hl : its.toArray.size = jts.toArray.size := by simp [← q1.length, ← q2.length, r1.length, r2.length]
    have z := SeqAt.RcAt.lists (e := fun _ => true) p1.isList p2.isList hl hu0 (fun j h1 h2 => by
     obtain ⟨x, ex, rx⟩ := q3r.at q1 h1
     obtain ⟨y, ey, ry⟩ := q3r.at q2 h2
     obtain ⟨dx, hdx, Ix⟩ := r1.get ex
     obtain ⟨dy, hdy, Iy⟩ := r2.get ey
     rw [hdx] at hdy
     cases hdy
     exact ih dx x y _ _ A.in1 (hd dx (List.mem_of_getElem? hdx)) Ix Iy rx ry (by show A.units + 1 + n < cLine; omega))
    rw [x7e] at z
    exact z
theorem j9a {X : Cx} (hu : X.A.units + 100 < cLine) : OpR X (compareOp .NotEq) (fun x y H Q => ∃ B B' ds n, Is B H x (.tup ds) ∧ Is B' H y (.tup ds) ∧ q7e n (.tup ds) ∧ n ≤ 100 ∧ Q (.bl false) H) := by
 intro pins s σ H x y v u Q I rx ry h
 obtain ⟨B, B', ds, n, Ix, Iy, hd, hn, q⟩ := h
 cases Ix with
 | @tup a xs _ e1 l1 r1 =>
 cases Iy with
 | @tup b ys _ e2 l2 r2 =>
 cases rx
 cases ry
 obtain ⟨its, q1, p1, _⟩ := I.tuple (SqT.of e1)
 obtain ⟨jts, q2, p2, _⟩ := I.tuple (SqT.of e2)
 have hl : its.toArray.size = jts.toArray.size := by simp [← q1.length, ← q2.length, r1.length, r2.length]
 cases n with
 | zero => exact hd.elim
 | succ n =>
  refine SeqAt.RcNeAt.tuples (e := fun _ => true) (show s.heap.IsTuple a its.toArray from p1) (show s.heap.IsTuple b jts.toArray from p2) (by omega) (fun j h1 h2 => ?_) X.prog X.w X.xe _ ⟨.bl false, H, I, ?_, q⟩
  ·obtain ⟨x, ex, rx⟩ := q3r.at q1 h1
   obtain ⟨y, ey, ry⟩ := q3r.at q2 h2
   obtain ⟨dx, hdx, Ix⟩ := r1.get ex
   obtain ⟨dy, hdy, Iy⟩ := r2.get ey
   rw [hdx] at hdy
   cases hdy
   exact j1f I n dx x y _ _ X.A.in1 (hd dx (List.mem_of_getElem? hdx)) Ix Iy rx ry (by show X.A.units + 1 + n < cLine; omega)
  ·rw [x7e, hl, beq_self_eq_true]; rfl
end Kp
namespace Kp
open PySem L2 PySem.Spec PyProof.Rows
end Kp
namespace L2
open PySem
theorem Room.units100 {k : Nat} {A : Around} (r : Room k A) : A.units + 100 < cLine := by have := r.un; omega
end L2
namespace Kp
open PySem L2
theorem z2t {J : It} {H1 : Hp} {n k : Nat} {frs : St} {g : TG} {tt : TT} {te : TE} {Q : VK} (R : Nat → Hp → V → Prop) (mono : ∀ i H H' v, x0g H H' → R i H v → R i H' v) (hn : n < sizeLine)
  (go : ∀ i H, i < n → q1a H1 H → J.go i H) (stop : ∀ H, q1a H1 H → J.stop n H)
  (turn : ∀ i H t x H2 (S : St → Hp → Option V → Prop), i < n → q1a H1 H → t.length = k → J.yld i H x H2 →
   (∀ t' H' v, t'.length = k → q1a H H' → R i H' v → S (t' ++ frs) H' (some v)) →
   g x (t ++ frs) H2 fun σ3 H3 => tt σ3 H3 fun b H4 => if b = true then te σ3 H4 fun v H5 => S σ3 H5 (some v) else S σ3 H4 none)
  (hq : ∀ D H' ys, q1a H1 H' → H1 D = none → H' D = some (.lst ys) → ys.length = n → (∀ i v, ys[i]? = some v → R i H' v) → Q (.ref D) H') : x3y (List.replicate k none ++ frs) g tt te Q J H1 := by
 intro D hD
 refine ⟨fun i m ys σ H => i ≤ n ∧ m = n - i ∧ ys.length = i ∧ (∀ j v, ys[j]? = some v → R j H v) ∧ q1a H1 H ∧ ∃ t, t.length = k ∧ σ = t ++ frs, ⟨n, Nat.zero_le _, rfl, rfl, fun j v hv => by simp at hv, q0i hD, _, by simp, rfl⟩, ?_⟩
 rintro i m ys σ H ⟨hi, rfl, hl, hR, s1, t, ht, rfl⟩ hd
 by_cases hlt : i < n
 ·right
  refine ⟨go i H hlt s1, by omega, fun x H2 y => ?_⟩
  have keep : ∀ (H5 : Hp) (zs : List V), H5 D = some (.lst ys) → x0g H5 (upd H5 D (.lst zs)) := fun H5 zs h5 b xs e => by
   rw [q1b (fun q => by rw [q, h5] at e; cases e)]; exact e
  have tup : ∀ {H H' : Hp}, q1a H H' → x0g H H' := fun s b xs e => s _ _ e
  refine turn i H t x H2 (fun σ3 H5 r => match r with
   | some v => H5 D = some (.lst ys) ∧ ∃ m', m' < n - i ∧ (i + 1 ≤ n ∧ m' = n - (i + 1) ∧ (ys ++ [v]).length = i + 1 ∧ (∀ j u, (ys ++ [v])[j]? = some u → R j (upd H5 D (.lst (ys ++ [v]))) u) ∧ q1a H1 (upd H5 D (.lst (ys ++ [v]))) ∧ ∃ t, t.length = k ∧ σ3 = t ++ frs)
   | none => H5 D = some (.lst ys) ∧ ∃ m', m' < n - i ∧ (i + 1 ≤ n ∧ m' = n - (i + 1) ∧ ys.length = i + 1 ∧ (∀ j u, ys[j]? = some u → R j H5 u) ∧ q1a H1 H5 ∧ ∃ t, t.length = k ∧ σ3 = t ++ frs)) hlt s1 ht y ?_
  intro t' H' v ht' s2 rv
  have h5 := s2 _ _ hd
  refine ⟨h5, n - (i + 1), by omega, by omega, rfl, by rw [List.length_append, hl]; rfl, fun j u hu => ?_, fun b o e => ?_, t', ht', rfl⟩
  ·by_cases hj : j < ys.length
   ·rw [List.getElem?_append_left hj] at hu
    exact mono _ _ _ _ (keep H' _ h5) (mono _ _ _ _ (tup s2) (hR j u hu))
   ·rw [List.getElem?_append_right (by omega)] at hu
    have e0 : j - ys.length = 0 := by
     cases e : j - ys.length with
     | zero => rfl
     | succ m => rw [e] at hu; simp at hu
    rw [e0] at hu
    cases hu
    obtain rfl : j = i := by omega
    exact mono _ _ _ _ (keep H' _ h5) rv
  ·rw [q1b (q1n e hD)]; exact s2 _ _ (s1 _ _ e)
 ·have e : i = n := by omega
  subst e
  exact .inl ⟨stop H s1, hq D H ys s1 hD hd hl hR⟩
end Kp
namespace K1
open PySem L2 Kp
theorem x1s {a b : Str} (h : a.cps.toList = b.cps.toList) : a = b := by
 obtain ⟨⟨x⟩⟩ := a
 obtain ⟨⟨y⟩⟩ := b
 simp only at h
 rw [h]
instance (a b : Str) : Decidable (j9h a b) := inferInstanceAs (Decidable (a.cps.toList < b.cps.toList))
end K1
namespace Kp
open PySem L2 PySem.Spec PyProof.Rows
section
variable {X : Cx}
end
end Kp
namespace Kp
open PySem L2
end Kp
namespace Kp
open PySem L2 PySem.Spec PyProof.Rows
section
variable {X : Cx}
theorem x8u : MtR X "str.startswith" (fun x xs H Q => ∃ z y, x = .str z ∧ xs = [.str y] ∧ Q (.bl (Txt.startswith z y)) H) := by
 intro pins s σ H x xs v us Q I rx rv h
 obtain ⟨z, y, rfl, rfl, q⟩ := h
 obtain ⟨t, rfl⟩ := rx
 obtain ⟨u, rfl, t', rfl⟩ := x0z rv
 exact SC.startswith ⟨.bl _, H, I, rfl, q⟩
theorem z3r : ∀ l : List (Str × Tok), q3r ((l.map (·.1)).map V.str) (strValues l)
 | [] => .nil
 | p :: l => .cons ⟨_, rfl⟩ (z3r l)
theorem z6y {z y : Str} (hy : 1 ≤ y.length) : (Txt.split z y).length ≤ z.length + 1 := by
 have := split_weight z y hy
 omega
theorem j2r : MtR X "str.split" (fun x xs H Q => ∃ z y, x = .str z ∧ xs = [.str y] ∧ 1 ≤ y.length ∧ z.length + 1 ≤ sizeLine ∧ ∀ l, H l = none → Q (.ref l) (upd H l (.lst ((Txt.split z y).map V.str)))) := by
 intro pins s σ H x xs v us Q I rx rv h
 obtain ⟨z, y, rfl, rfl, hy, hz, q⟩ := h
 obtain ⟨t, rfl⟩ := rx
 obtain ⟨u, rfl, t', rfl⟩ := x0z rv
 have hfew := z6y (z := z) hy
 have fin : ∀ (l : List (Str × Tok)) (k : Nat), l.map (·.1) = Txt.split z y →
   EP X pins σ Q (.ref s.heap.objs.size) { s with toks := k, heap := s.heap.push { cls := .type "list", data := .seq (strValues l).toArray } } := by
  intro l k e
  refine ⟨.ref s.heap.objs.size, _, I.laid (t' := k) (o := .lst ((Txt.split z y).map V.str)) (fun b o hb => Heap.get?_push_of_some _ hb) (Nat.le_refl _) ⟨?_, strValues l, _, ?_, Heap.get?_push_size _ rfl⟩, rfl, q _ (I.hok.fresh (Nat.le_refl _))⟩
  ·rw [List.length_map]; omega
  ·rw [← e]; exact z3r l
 have hy0 : (y.length == 0) = false := by
  rw [beq_eq_false_iff_ne]; omega
 have hself : ∀ S : List Str, S = [z] → Txt.split z y = S → listOfItself z t X.A (wants (EP X pins σ Q) X.xe) s := by
  intro S e1 e2
  exact fin [(z, t)] s.toks (by rw [e2, e1]; rfl)
 cases hc : (decide (z.length < y.length) || decide (Builtin.Str.strKind z < Builtin.Str.strKind y)) with
 | true => exact call_meets PySem.F.slot_str_split (typeIs_str _ _ _) PySem.F.entry_str_split (PySem.F.args_str_split_2 _ _) (meets_str_split_cannot_occur z y t t' hc) (hself [z] rfl (if_pos hc))
 | false =>
  have hc' : ¬ (decide (z.length < y.length) || decide (Builtin.Str.strKind z < Builtin.Str.strKind y)) = true := by rw [hc]; decide
  cases ho : (Builtin.Str.occurrences z y 0 z.length (z.length + 1)).isEmpty with
  | true => exact call_meets PySem.F.slot_str_split (typeIs_str _ _ _) PySem.F.entry_str_split (PySem.F.args_str_split_2 _ _) (meets_str_split_not_found z y t t' hc hy0 ho) (hself [z] rfl ((if_neg hc').trans (if_pos ho)))
  | false =>
   have ho' : ¬ (Builtin.Str.occurrences z y 0 z.length (z.length + 1)).isEmpty = true := by rw [ho]; decide
   have es : Txt.split z y = Builtin.Str.partsBetween z (Builtin.Str.occurrences z y 0 z.length (z.length + 1)) y.length := (if_neg hc').trans (if_neg ho')
   refine call_meets PySem.F.slot_str_split (typeIs_str _ _ _) PySem.F.entry_str_split (PySem.F.args_str_split_2 _ _) (meets_str_split_sep z y t t' hc hy0 ho (by omega) (by rw [← es]; omega)) ?_
   rw [← es]
   simp only [strsFrom_eq]
   exact fin (numbered s.toks (Txt.split z y)) _ (numbered_texts _ _)
theorem x8x : x4h X (.type "int") (fun xs H Q => ∃ z n, xs = [.str z] ∧ intText? z = some n ∧ z.length ≤ 640 ∧ Q (.int n) H) := by
 intro pins s σ H xs us Q I r h
 obtain ⟨z, n, rfl, hn, hl, q⟩ := h
 obtain ⟨u, rfl, t, rfl⟩ := x0z r
 exact PySem.W.KIN.call_text hn hl ⟨.int n, H, I.tok _, ⟨_, rfl⟩, q⟩
theorem x7o : MtR X "str.join" (fun x xs H Q => ∃ z p, ∃ ys : List Str, x = .str z ∧ xs = [.ref p] ∧ SqL X.K H p (ys.map V.str) ∧ JoinOk z ys = true ∧ Q (.str (Str.join z ys)) H) := by
 intro pins s σ H x xs v us Q I rx rv h
 obtain ⟨z, p, ys, rfl, rfl, hq, hok, q⟩ := h
 obtain ⟨t, rfl⟩ := rx
 obtain ⟨u, rfl, rx⟩ := x0z rv
 cases rx
 obtain ⟨its, rv, pl, hz⟩ := I.list hq
 have hl := pl.isList
 have hv : ∃ l : List (Str × Tok), strValues l = its ∧ l.map (·.1) = ys := by
  clear hl pl hq hz hok q
  generalize hw : ys.map V.str = ws at rv
  induction rv generalizing ys with
  | nil => exact ⟨[], rfl, (List.map_eq_nil_iff.mp hw).symm⟩
  | cons r1 t1 ih =>
   cases ys with
   | nil => cases hw
   | cons y ys =>
    cases hw
    obtain ⟨k, rfl⟩ := r1
    obtain ⟨l, e1, e2⟩ := ih ys rfl
    exact ⟨(y, k) :: l, by rw [← e1]; rfl, by rw [← e2]; rfl⟩
 obtain ⟨l, e1, e2⟩ := hv
 rw [← e1] at hl
 refine SC.join hl e2 hok fun t' k => ⟨.str (Str.join z ys), H, I.tok _, ?_, q⟩
 show ∃ t, _ = _
 exact ⟨t', by rw [show Txt.join z ys = Str.join z ys from StrLaws.glued_eq_join z ys]⟩
end
end Kp
namespace Kp
open PySem PySem.Spec PyProof.Rows PySem.NumText
noncomputable def q1g (n : Int) : Str := Str.ofString (toString n)
noncomputable def j0c (n : Int) : List Nat := (q1g n).cps.toList
noncomputable def q8i (m : Nat) : List Nat := (Nat.toDigits 10 m).map Char.toNat
theorem q6j (m : Nat) : j0c (m : Int) = q8i m := PySem.W.KIN.signs_num m
theorem q6d {n : Int} (h : n < 0) : j0c n = 45 :: q8i n.natAbs := by
 unfold j0c q1g
 rw [toString_neg h, signs_ofString, String.toList_append, List.map_append]
 have e : (0 : Int) - n = ((n.natAbs : Nat) : Int) := by omega
 rw [e]
 have q := PySem.W.KIN.signs_num n.natAbs
 rw [signs_ofString] at q
 rw [q]
 rfl
theorem q4k (m : Nat) : AllDigits (q8i m) := by
 intro c hc
 obtain ⟨ch, hch, rfl⟩ := List.mem_map.mp hc
 have h := Nat.isDigit_of_mem_toDigits (b := 10) (n := m) (by decide) (by decide) hch
 have h2 : ch.val.toNat ≥ 48 ∧ ch.val.toNat ≤ 57 := by
  unfold Char.isDigit at h
  rw [Bool.and_eq_true, decide_eq_true_eq, decide_eq_true_eq] at h
  exact ⟨h.1, h.2⟩
 exact ⟨h2.1, h2.2⟩
theorem x7g (m : Nat) : q8i m ≠ [] := fun e => Nat.toDigits_ne_nil (List.map_eq_nil_iff.mp e)
theorem x1d (m : Nat) {k : Nat} (hk : 0 < k) : (q8i m).length ≤ k ↔ m < 10 ^ k := by
 unfold q8i
 rw [List.length_map]
 exact Nat.length_toDigits_le_iff (by decide) hk
theorem z3g {m : Nat} (h : m < 10) : q8i m = [48 + m] := by
 unfold q8i
 rw [Nat.toDigits_of_lt_base h]
 have : ∀ m : Nat, m < 10 → [(Nat.digitChar m).toNat] = [48 + m] := by decide
 exact this m h
theorem z0a {m : Nat} (h : 10 ≤ m) : q8i m = q8i (m / 10) ++ [48 + m % 10] := by
 unfold q8i
 rw [Nat.toDigits_of_base_le (by decide) h, List.map_append]
 have : ∀ m : Nat, m < 10 → [(Nat.digitChar m).toNat] = [48 + m] := by decide
 rw [← this (m % 10) (Nat.mod_lt _ (by decide))]
 rfl
theorem x7i (n : Int) : (q1g n).length = (j0c n).length := by
 unfold j0c
 rw [Array.length_toList]
 rfl
theorem x1s {a b : Str} (h : a.cps.toList = b.cps.toList) : a = b := by
 obtain ⟨⟨x⟩⟩ := a
 obtain ⟨⟨y⟩⟩ := b
 cases (show x = y from h)
 rfl
theorem z3z (n : Int) : ∀ c ∈ j0c n, c = 45 ∨ (48 ≤ c ∧ c ≤ 57) := by
 intro c hc
 by_cases h : n < 0
 ·rw [q6d h] at hc
  rcases List.mem_cons.mp hc with rfl | hc
  ·exact .inl rfl
  ·exact .inr (q4k _ c hc)
 ·obtain ⟨m, rfl⟩ := Int.eq_ofNat_of_zero_le (show 0 ≤ n by omega)
  rw [q6j] at hc
  exact .inr (q4k _ c hc)
theorem x7y {n : Int} (h : n.natAbs < 10 ^ 600) : intText? (q1g n) = some n := by
 have hl : (q8i n.natAbs).length ≤ 600 := (x1d _ (by decide)).mpr h
 by_cases hn : n < 0
 ·have e := q6d hn
  have hx : (q1g n).length ≤ 4300 := by rw [x7i, e, List.length_cons]; omega
  have := intText_neg (x := q1g n) e (q4k _) (x7g _) hx
  rw [this]
  have v := PySem.W.KIN.val_back n.natAbs
  show some (-((digitsVal (q8i n.natAbs) : Nat) : Int)) = _
  unfold q8i
  rw [v]
  congr 1
  omega
 ·obtain ⟨m, rfl⟩ := Int.eq_ofNat_of_zero_le (show 0 ≤ n by omega)
  have e := q6j m
  have hx : (q1g (m : Int)).length ≤ 4300 := by rw [x7i, e]; simp at hl; omega
  have e' : (q1g (m : Int)).cps.toList = q8i m := e
  have := intText_digits (x := q1g (m : Int)) (by rw [e']; exact q4k m) (by rw [e']; exact x7g m) hx
  rw [this, e']
  have v := PySem.W.KIN.val_back m
  unfold q8i
  rw [v]
theorem q1f {n : Int} {k : Nat} (hk : 0 < k) (h : n.natAbs < 10 ^ k) : (q1g n).length ≤ k + 1 := by
 have hl : (q8i n.natAbs).length ≤ k := (x1d _ hk).mpr h
 rw [x7i]
 by_cases hn : n < 0
 ·rw [q6d hn, List.length_cons]; omega
 ·obtain ⟨m, rfl⟩ := Int.eq_ofNat_of_zero_le (show 0 ≤ n by omega)
  rw [q6j]
  have : ((m : Int)).natAbs = m := by simp
  rw [this] at hl
  omega
end Kp
namespace Kp
open PySem PySem.Spec PyProof.Rows
noncomputable def x8e (c : Nat) : List (List Nat) → List Nat
 | [] => []
 | [x] => x
 | x :: y :: r => x ++ c :: x8e c (y :: r)
theorem x7m {c : Nat} : ∀ {x y r s : List Nat}, c ∉ x → c ∉ y → x ++ c :: r = y ++ c :: s → x = y ∧ r = s
 | [], [], r, s, _, _, h => ⟨rfl, (List.cons.inj h).2⟩
 | [], b :: y, r, s, _, hy, h => absurd ((List.cons.inj h).1) (fun e => hy (e ▸ List.mem_cons_self))
 | a :: x, [], r, s, hx, _, h => absurd ((List.cons.inj h).1) (fun e => hx (e ▸ List.mem_cons_self))
 | a :: x, b :: y, r, s, hx, hy, h => by
  obtain ⟨e, h⟩ := List.cons.inj h
  obtain ⟨e1, e2⟩ := x7m (fun z => hx (List.mem_cons_of_mem _ z)) (fun z => hy (List.mem_cons_of_mem _ z)) h
  exact ⟨by rw [e, e1], e2⟩
theorem x7r {c : Nat} : ∀ (ws us : List (List Nat)), ws ≠ [] → us ≠ [] → (∀ x ∈ ws, c ∉ x) → (∀ x ∈ us, c ∉ x) → x8e c ws = x8e c us → ws = us
 | [], _, h, _, _, _, _ => absurd rfl h
 | _, [], _, h, _, _, _ => absurd rfl h
 | [x], [y], _, _, _, _, h => by
  have : x = y := h
  rw [this]
 | [x], y :: z :: r, _, _, hx, _, h => by
  have e : x = y ++ c :: x8e c (z :: r) := h
  exact absurd (show c ∈ x by rw [e]; simp) (hx x (by simp))
 | x :: z :: r, [y], _, _, _, hy, h => by
  have e : x ++ c :: x8e c (z :: r) = y := h
  exact absurd (show c ∈ y by rw [← e]; simp) (hy y (by simp))
 | x :: z :: r, y :: u :: s, _, _, hx, hy, h => by
  obtain ⟨e1, e2⟩ := x7m (hx x (by simp)) (hy y (by simp)) (show x ++ c :: x8e c (z :: r) = y ++ c :: x8e c (u :: s) from h)
  have := x7r (z :: r) (u :: s) (by simp) (by simp) (fun p hp => hx p (List.mem_cons_of_mem _ hp)) (fun p hp => hy p (List.mem_cons_of_mem _ hp)) e2
  rw [e1, this]
noncomputable def cL (x : Str) : List Nat := x.cps.toList
theorem x1o (a b : Str) : cL (a ++ b) = cL a ++ cL b := by unfold cL; rw [show (a ++ b).cps = a.cps ++ b.cps from rfl, Array.toList_append]
theorem z1q (c : Nat) : ∀ ws : List Str, cL (Str.join ⟨#[c]⟩ ws) = x8e c (ws.map cL)
 | [] => rfl
 | [x] => rfl
 | x :: y :: r => by
  have ih := z1q c (y :: r)
  have e : Str.join ⟨#[c]⟩ (x :: y :: r) = x ++ ⟨#[c]⟩ ++ Str.join ⟨#[c]⟩ (y :: r) := rfl
  rw [e, x1o, x1o, ih, List.append_assoc]
  rfl
theorem x5d : ∀ {ws us : List Str}, ws.map cL = us.map cL → ws = us
 | [], [], _ => rfl
 | [], _ :: _, h => by cases h
 | _ :: _, [], h => by cases h
 | x :: ws, y :: us, h => by
  obtain ⟨e, h⟩ := List.cons.inj h
  rw [x1s e, x5d h]
theorem j0i (x : Str) (c : Nat) : Txt.split x ⟨#[c]⟩ ≠ [] := by
 intro e
 have h := StrLaws.join_split x ⟨#[c]⟩
 rw [e] at h
 have hx : x = Str.empty := h.symm
 subst hx
 have q : Txt.split Str.empty ⟨#[c]⟩ = [Str.empty] := if_pos (by rfl)
 rw [q] at e
 cases e
theorem z3v {c : Nat} {ws : List Str} (hne : ws ≠ []) (hf : ∀ x ∈ ws, c ∉ cL x) : Txt.split (Str.join ⟨#[c]⟩ ws) ⟨#[c]⟩ = ws := by
 have h1 := congrArg cL (StrLaws.join_split (Str.join ⟨#[c]⟩ ws) ⟨#[c]⟩)
 rw [z1q, z1q] at h1
 refine x5d (x7r _ _ (fun e => j0i _ _ (List.map_eq_nil_iff.mp e)) (fun e => hne (List.map_eq_nil_iff.mp e)) ?_ ?_ h1)
 ·intro x hx
  obtain ⟨p, hp, rfl⟩ := List.mem_map.mp hx
  exact StrLaws.split_free _ c p hp
 ·intro x hx
  obtain ⟨p, hp, rfl⟩ := List.mem_map.mp hx
  exact hf p hp
end Kp
namespace Kp
open PySem L2 PySem.Spec PyProof.Rows PySem.NumText
theorem j9m (p : Nat → Bool) : ∀ l : List Nat, (l.takeWhile p).length + (l.dropWhile p).length = l.length
 | [] => rfl
 | a :: r => by
  rw [List.takeWhile_cons, List.dropWhile_cons]
  split
  ·have := j9m p r
   simp only [List.length_cons]
   omega
  ·simp
theorem z4j (x : Str) : (Txt.lstripChars x "-").length = ((cL x).dropWhile (· == 45)).length := by
 unfold Txt.lstripChars
 rw [stripBy_eq]
 have e : ("-" : Str).cps = #[45] := by decide +kernel
 rw [e]
 have e2 : (#[45] : Array Nat).contains = fun c => c == 45 := by
  funext c
  rw [Bool.eq_iff_iff]
  simp
 rw [e2]
 have h := j9m (fun c => c == 45) (cL x)
 show (Builtin.Str.strSub x ((cL x).takeWhile fun c => c == 45).length x.length).length = _
 have h2 := congrArg List.length (StrLaws.strSub_toList x ((cL x).takeWhile fun c => c == 45).length x.length)
 rw [Array.length_toList, List.length_take, List.length_drop] at h2
 have h3 : (cL x).length = x.length := Array.length_toList
 have h4 : x.cps.toList.length = x.length := h3
 show (Builtin.Str.strSub x _ x.length).cps.size = _
 rw [h2, h4]
 omega
theorem z4f (n : Int) : (Txt.lstripChars (q1g n) "-").length = (q8i n.natAbs).length := by
 rw [z4j]
 have hd : ∀ m, (q8i m).dropWhile (· == 45) = q8i m := by
  intro m
  have h := q4k m
  cases e : q8i m with
  | nil => rfl
  | cons c r =>
   rw [e] at h
   have hc := h c List.mem_cons_self
   have : (c == 45) = false := by rw [beq_eq_false_iff_ne]; omega
   rw [List.dropWhile_cons, this]
   rfl
 show ((j0c n).dropWhile (· == 45)).length = _
 by_cases hn : n < 0
 ·rw [q6d hn, List.dropWhile_cons]
  show ((q8i n.natAbs).dropWhile (· == 45)).length = _
  rw [hd]
 ·obtain ⟨m, rfl⟩ := Int.eq_ofNat_of_zero_le (show 0 ≤ n by omega)
  rw [q6j, hd]
  simp
theorem x6f (n : Int) : (Txt.lstripChars (q1g n) "-").length < 61 ↔ n.natAbs < 10 ^ 60 := by
 rw [z4f, ← x1d _ (by decide : 0 < 60)]
 omega
theorem z7s (x : Str) : (Txt.lstripChars x "-").length ≤ x.length := len_lstripChars x "-"
section
variable {X : Cx}
end
end Kp
namespace Kp
open PySem L2 PySem.Spec PyProof.Rows PySem.NumText
noncomputable def q3a : D → List Str
 | .int i => [q1g i]
 | _ => []
noncomputable def z0v : D → List Str
 | .str x => [x]
 | _ => []
noncomputable def j6s : D → List Str
 | .bl b => [if b then "yes" else "no"]
 | _ => []
noncomputable def j7o : D → List Str
 | .non => ["none"]
 | d => q3a d
noncomputable def q1u : List (D → List Str) → List D → List Str
 | f :: fs, d :: ds => f d ++ q1u fs ds
 | _, _ => []
noncomputable def z4i (fs : List (D → List Str)) : D → List Str
 | .tup ds => q1u fs ds
 | _ => []
noncomputable def q4r (f : D → List Str) : D → List Str
 | .tup ds => q1g (ds.length : Int) :: ds.flatMap f
 | _ => []
noncomputable def byW (tb : List (Str × List (D → List Str))) : D → List Str
 | .tup (.str x :: ds) => x :: q1u ((tb.lookup x).getD []) ds
 | _ => []
noncomputable def q4t : D → List Str := q4r q3a
noncomputable def j4g : List (Str × List (D → List Str)) := [("set", [z0v, q3a]), ("add", [z0v, q3a]), ("get", [z0v])]
noncomputable def q6q : D → List Str := byW j4g
noncomputable def j3s : List (Str × List (D → List Str)) := [("open", []), ("wish", [z0v, q3a, q6q]), ("seats", [q4t])]
noncomputable def j5o : D → List Str := byW j3s
noncomputable def q4f : D → List Str := z4i [q3a, j5o]
noncomputable def q9s : D → List Str := q4r q4f
noncomputable def q9j : D → List Str := z4i [z0v, q3a]
noncomputable def q6t : D → List Str := z4i [z0v, q3a, q3a]
noncomputable def x0a : D → List Str := z4i [q4r q9j, q4r q6t]
noncomputable def z7r : D → List Str := z4i [q3a, q3a, q4t, x0a]
noncomputable def q9n : List (Str × List (D → List Str)) := [("ask", [q3a, q3a, q3a, q3a, q3a]), ("voice", [q3a, q3a, q3a, j6s]), ("hand", [q3a, q3a, q3a, q3a, q3a, q3a, q9s]), ("pack", [q3a, q3a, q3a, z7r]),
 ("held", [q3a, q3a, q3a, j6s, q3a]), ("wish", [z0v, q3a, q3a, q6q]), ("told", [q3a, z0v, q3a, q3a]), ("away", [q3a, z0v, q3a, j7o])]
noncomputable def x2v : List D → List D
 | [a, b] => [b, a]
 | a :: r => a :: x2v r
 | [] => []
noncomputable def q2k : D → List Str
 | .tup (.str x :: ds) => x :: q1u ((q9n.lookup x).getD []) (if x = "hand" then x2v ds else ds)
 | _ => []
mutual
noncomputable def q1x (k : Nat) : D → Bool
 | .int i => decide (i.natAbs < 10 ^ k)
 | .tup ds => smallL k ds
 | .lst ds => smallL k ds
 | _ => true
noncomputable def smallL (k : Nat) : List D → Bool
 | [] => true
 | d :: ds => q1x k d && smallL k ds
end
mutual
noncomputable def z0t (B : Nat) : D → Bool
 | .tup ds => decide (ds.length ≤ B) && widL B ds
 | .lst ds => decide (ds.length ≤ B) && widL B ds
 | _ => true
noncomputable def widL (B : Nat) : List D → Bool
 | [] => true
 | d :: ds => z0t B d && widL B ds
end
mutual
theorem Is.wid {B : Nat} {H : Hp} : ∀ {v : V} {d : D}, Is B H v d → z0t B d = true
 | _, _, .non => rfl
 | _, _, .bl _ => rfl
 | _, _, .int _ => rfl
 | _, _, .str _ _ => rfl
 | _, _, .tup e l r => by rw [z0t, r.wid, decide_eq_true (r.length ▸ l)]; rfl
 | _, _, .lst e l r => by rw [z0t, r.wid, decide_eq_true (r.length ▸ l)]; rfl
theorem IsL.wid {B : Nat} {H : Hp} : ∀ {vs : List V} {ds : List D}, IsL B H vs ds → widL B ds = true
 | _, _, .nil => rfl
 | _, _, .cons h t => by rw [widL, h.wid, t.wid]; rfl
end
theorem q2j {k : Nat} : ∀ {ds : List D}, smallL k ds = true ↔ ∀ d ∈ ds, q1x k d = true
 | [] => by simp [smallL]
 | d :: ds => by rw [smallL, Bool.and_eq_true, q2j]; simp
theorem q4q {k : Nat} : ∀ {ds : List D}, widL k ds = true ↔ ∀ d ∈ ds, z0t k d = true
 | [] => by simp [widL]
 | d :: ds => by rw [widL, Bool.and_eq_true, q4q]; simp
noncomputable def x8p (w : Str) : Prop := (Txt.lstripChars w "-").length < 61
structure POk (n : Nat) (ds : List D) (ws : List Str) : Prop where
 free : ∀ w ∈ ws, 32 ∉ cL w
 fit : (∀ w ∈ ws, x8p w) ↔ smallL 60 ds = true
 len : ∀ k, 60 ≤ k → smallL k ds = true → ∀ w ∈ ws, w.length ≤ k + 1
 few : ws.length ≤ n
noncomputable def WOk (B n : Nat) (p : D → Bool) (f : D → List Str) : Prop := ∀ d, p d = true → z0t B d = true → POk n [d] (f d)
theorem POk.nil : POk 0 [] [] := ⟨fun _ h => absurd h List.not_mem_nil, ⟨fun _ => rfl, fun _ _ h => absurd h List.not_mem_nil⟩, fun _ _ _ _ h => absurd h List.not_mem_nil, Nat.le_refl _⟩
theorem x5p {k : Nat} {a b : List D} : smallL k (a ++ b) = true ↔ smallL k a = true ∧ smallL k b = true := by
 rw [q2j, q2j, q2j]
 simp only [List.mem_append, or_imp, forall_and]
theorem POk.app {n m : Nat} {a b : List D} {u w : List Str} (h : POk n a u) (g : POk m b w) : POk (n + m) (a ++ b) (u ++ w) where
 free := fun x hx => (List.mem_append.mp hx).elim (h.free x) (g.free x)
 fit := by
  rw [x5p, ← h.fit, ← g.fit]
  simp only [List.mem_append, or_imp, forall_and]
 len := fun k hk hs x hx => by
  obtain ⟨h1, h2⟩ := x5p.mp hs
  exact (List.mem_append.mp hx).elim (h.len k hk h1 x) (g.len k hk h2 x)
 few := by
  have := h.few
  have := g.few
  rw [List.length_append]
  omega
theorem POk.up {n m : Nat} {a : List D} {u : List Str} (h : POk n a u) (hm : n ≤ m) : POk m a u := ⟨h.free, h.fit, h.len, Nat.le_trans h.few hm⟩
theorem POk.tup {n : Nat} {ds : List D} {u : List Str} (h : POk n ds u) : POk n [.tup ds] u :=
 ⟨h.free, by rw [smallL, smallL, Bool.and_true, q1x]; exact h.fit, fun k hk hs => h.len k hk (by rw [smallL, smallL, Bool.and_true, q1x] at hs; exact hs), h.few⟩
theorem POk.of {n : Nat} {ds es : List D} {u : List Str} (h : POk n ds u) (e : ∀ k, 60 ≤ k → (smallL k ds = true ↔ smallL k es = true)) : POk n es u :=
 ⟨h.free, h.fit.trans (e 60 (by decide)), fun k hk hs => h.len k hk ((e k hk).mpr hs), h.few⟩
theorem WOk.up {B n m : Nat} {p : D → Bool} {f : D → List Str} (h : WOk B n p f) (hm : n ≤ m) : WOk B m p f := fun d a b => (h d a b).up hm
theorem WOk.sub {B n : Nat} {p q : D → Bool} {f : D → List Str} (h : WOk B n p f) (hq : ∀ d, q d = true → p d = true) : WOk B n q f := fun d a b => h d (hq d a) b
theorem j0n (n : Int) : 32 ∉ cL (q1g n) := fun h => by
 rcases z3z n 32 h with h | h
 ·cases h
 ·omega
theorem q0u : ∀ {d : D}, whole d = true → ∃ i, d = .int i
 | .int i, _ => ⟨i, rfl⟩
theorem q1k {l : Int} : ∀ {d : D}, geD l d = true → whole d = true
 | .int i, _ => rfl
theorem q1j : ∀ {d : D}, q0h d = true → whole d = true
 | .int i, _ => rfl
theorem z6g (i : Int) : POk 1 [.int i] [q1g i] where
 free := fun w hw => by
  cases List.mem_singleton.mp hw
  exact j0n i
 fit := by
  rw [smallL, smallL, Bool.and_true]
  show (∀ w ∈ [q1g i], x8p w) ↔ decide (i.natAbs < 10 ^ 60) = true
  rw [decide_eq_true_eq, ← x6f]
  simp [x8p]
 len := fun k hk hs w hw => by
  cases List.mem_singleton.mp hw
  rw [smallL, smallL, Bool.and_true] at hs
  exact q1f (by omega) (of_decide_eq_true hs)
 few := Nat.le_refl _
theorem q4y {B : Nat} : WOk B 1 whole q3a := fun d h _ => by
 obtain ⟨i, rfl⟩ := q0u h
 exact z6g i
end Kp
namespace Kp
open PySem L2 PySem.Spec PyProof.Rows PySem.NumText
noncomputable def x4z (x : Str) : Bool := x.cps.toList.all q3k && decide (x.length ≤ 8)
theorem j0y {x : Str} (h : x4z x = true) : 32 ∉ cL x := fun hm => by
 unfold x4z at h
 rw [Bool.and_eq_true, List.all_eq_true] at h
 have := h.1 32 hm
 revert this
 decide
theorem z5x {x : Str} (h : x4z x = true) : x8p x := by
 unfold x4z at h
 rw [Bool.and_eq_true, decide_eq_true_eq] at h
 have := z7s x
 unfold x8p
 omega
theorem q6u {x : Str} (h : x4z x = true) : x.length ≤ 8 := by
 unfold x4z at h
 rw [Bool.and_eq_true, decide_eq_true_eq] at h
 exact h.2
theorem q3t : ∀ {d : D}, q2b d = true → ∃ x, d = .str x ∧ x4z x = true
 | .str x, h => by
  refine ⟨x, rfl, ?_⟩
  unfold q2b at h
  dsimp only at h
  rw [Bool.and_eq_true, Bool.and_eq_true] at h
  unfold x4z
  rw [h.2, h.1.2]
  rfl
theorem x4x {x : Str} (d : D) (hx : x4z x = true) (hd : ∀ k, q1x k d = true) : POk 1 [d] [x] where
 free := fun w hw => by
  cases List.mem_singleton.mp hw
  exact j0y hx
 fit := by
  have := z5x hx
  rw [smallL, smallL, Bool.and_true, hd]
  simp [this]
 len := fun k hk hs w hw => by
  cases List.mem_singleton.mp hw
  have := q6u hx
  omega
 few := Nat.le_refl _
theorem q7l {B : Nat} : WOk B 1 q2b z0v := fun d h _ => by
 obtain ⟨x, rfl, hx⟩ := q3t h
 exact x4x _ hx fun _ => rfl
theorem q9o : ∀ {d : D}, q3l d = true → ∃ b, d = .bl b
 | .bl b, _ => ⟨b, rfl⟩
theorem j9k (b : Bool) : x4z (if b then "yes" else "no") = true := by cases b <;> decide +kernel
theorem z8b {B : Nat} : WOk B 1 q3l j6s := fun d h _ => by
 obtain ⟨b, rfl⟩ := q9o h
 exact x4x _ (j9k b) fun _ => rfl
theorem j3h : x4z "none" = true := by decide +kernel
theorem z7p : ∀ {d : D}, q6w d = true → d = .non ∨ (whole d = true ∧ j7o d = q3a d)
 | .non, _ => .inl rfl
 | .int i, _ => .inr ⟨rfl, rfl⟩
theorem j6y {B : Nat} : WOk B 1 q6w j7o := fun d h hw => by
 rcases z7p h with rfl | ⟨h1, e⟩
 ·exact x4x _ j3h fun _ => rfl
 ·rw [e]; exact q4y d h1 hw
inductive WOkL (B : Nat) : Nat → List (D → Bool) → List (D → List Str) → Prop
 | nil : WOkL B 0 [] []
 | cons {n m : Nat} {p : D → Bool} {f : D → List Str} {ps : List (D → Bool)} {fs : List (D → List Str)} (h : WOk B n p f) (t : WOkL B m ps fs) : WOkL B (n + m) (p :: ps) (f :: fs)
theorem WOkL.p {B : Nat} : ∀ {n : Nat} {ps : List (D → Bool)} {fs : List (D → List Str)} {ds : List D}, WOkL B n ps fs → q0v ps ds = true → widL B ds = true → POk n ds (q1u fs ds)
 | _, _, _, [], .nil, _, _ => .nil
 | _, _, _, _ :: _, .nil, h, _ => by cases h
 | _, _, _, [], .cons _ _, h, _ => by cases h
 | _, _, _, d :: ds, .cons h t, hf, hw => by
  rw [q0v, Bool.and_eq_true] at hf
  rw [widL, Bool.and_eq_true] at hw
  exact (h d hf.1 hw.1).app (t.p hf.2 hw.2)
theorem q3i {ps : List (D → Bool)} : ∀ {d : D}, q9x ps d = true → ∃ ds, d = .tup ds ∧ q0v ps ds = true
 | .tup ds, h => ⟨ds, rfl, h⟩
theorem x0t {B : Nat} {ds : List D} (h : z0t B (.tup ds) = true) : ds.length ≤ B ∧ widL B ds = true := by
 rw [z0t, Bool.and_eq_true, decide_eq_true_eq] at h
 exact h
theorem x3q {B n : Nat} {ps : List (D → Bool)} {fs : List (D → List Str)} (t : WOkL B n ps fs) : WOk B n (q9x ps) (z4i fs) := fun d hd hw => by
 obtain ⟨ds, rfl, h⟩ := q3i hd
 exact (t.p h (x0t hw).2).tup
theorem x6q {B n : Nat} {p : D → Bool} {f : D → List Str} (h : WOk B n p f) : ∀ {ds : List D}, ds.all p = true → widL B ds = true → POk (ds.length * n) ds (ds.flatMap f)
 | [], _, _ => by rw [List.length_nil, Nat.zero_mul]; exact .nil
 | d :: ds, ha, hw => by
  rw [List.all_cons, Bool.and_eq_true] at ha
  rw [widL, Bool.and_eq_true] at hw
  have := (h d ha.1 hw.1).app (x6q h ha.2 hw.2)
  rw [List.flatMap_cons]
  exact this.up (by rw [List.length_cons, Nat.succ_mul]; omega)
theorem x4r {B n m : Nat} {p : D → Bool} {f : D → List Str} (h : WOk B n p f) {ds : List D} (ha : ds.all p = true) (hw : widL B ds = true) (hl : ds.length ≤ m) (hm : m < 10 ^ 60) : POk (1 + m * n) [.tup ds] (q4r f (.tup ds)) := by
 have h1 := x6q h ha hw
 have h0 := z6g (ds.length : Int)
 have h2 := h0.app h1
 have h3 : POk (1 + ds.length * n) ds (q4r f (.tup ds)) := by
  refine h2.of fun k hk => ?_
  have hb : 10 ^ 60 ≤ 10 ^ k := Nat.pow_le_pow_right (by decide) hk
  rw [List.singleton_append, smallL, q1x, decide_eq_true (by simp; omega), Bool.true_and]
 exact (h3.up (by have := Nat.mul_le_mul_right n hl; omega)).tup
theorem x7v {B n : Nat} {p : D → Bool} {f : D → List Str} (h : WOk B n p f) (hB : B < 10 ^ 60) : WOk B (1 + B * n) (x4u p) (q4r f) := fun d hd hw => by
 cases d with
 | tup ds =>
  have hd' : (ds.all p && q8c (ds.map q1l)) = true := hd
  rw [Bool.and_eq_true] at hd'
  exact x4r h hd'.1 (x0t hw).2 (x0t hw).1 hB
 | _ => cases hd
theorem q8x {B : Nat} : WOk B 10 q2z q4t := fun d hd hw => by
 cases d with
 | tup ds =>
  have hd' : (ds.all q0h && ((decide (1 ≤ ds.length) && decide (ds.length ≤ 9)) && q8f (q3s ds))) = true := hd
  rw [Bool.and_eq_true, Bool.and_eq_true, Bool.and_eq_true, decide_eq_true_eq, decide_eq_true_eq] at hd'
  exact x4r (m := 9) (q4y.sub fun _ => q1j) hd'.1 (x0t hw).2 hd'.2.1.2 (by decide)
 | _ => cases hd
theorem z1x {B n : Nat} {p : D → Bool} {f : D → List Str} (h : WOk B n p f) {d : D} (hd : w0e p d = true) (hl : z5q d ≤ 5) (hw : z0t B d = true) : POk (1 + 5 * n) [d] (q4r f d) := by
 cases d with
 | tup ds => exact x4r (m := 5) h hd (x0t hw).2 hl (by decide)
 | _ => cases hd
inductive TOk (B n : Nat) : List (Str × List (D → Bool)) → List (Str × List (D → List Str)) → Prop
 | nil : TOk B n [] []
 | cons {x : Str} {m : Nat} {ps : List (D → Bool)} {fs : List (D → List Str)} {t : List (Str × List (D → Bool))} {u : List (Str × List (D → List Str))} (hx : x4z x = true) (hm : m ≤ n) (h : WOkL B m ps fs) (r : TOk B n t u) : TOk B n ((x, ps) :: t) ((x, fs) :: u)
theorem TOk.at {B n : Nat} {x : Str} : ∀ {t : List (Str × List (D → Bool))} {u : List (Str × List (D → List Str))} {ps : List (D → Bool)}, TOk B n t u → t.lookup x = some ps → ∃ m fs, u.lookup x = some fs ∧ m ≤ n ∧ WOkL B m ps fs ∧ x4z x = true
 | _, _, _, .nil, e => by cases e
 | _, _, ps', .cons (x := y) hx hm h r, e => by
  rw [List.lookup_cons] at e
  by_cases hy : x = y
  ·subst hy
   rw [show (x == x) = true from by simp] at e
   cases e
   exact ⟨_, _, by rw [List.lookup_cons, show (x == x) = true from by simp], hm, h, hx⟩
  ·have hb : (x == y) = false := by rw [beq_eq_false_iff_ne]; exact hy
   rw [hb] at e
   obtain ⟨m, fs, a, b⟩ := r.at e
   exact ⟨m, fs, by rw [List.lookup_cons, hb]; exact a, b⟩
theorem q2r {tb : List (Str × List (D → Bool))} {d : D} (h : q2g tb d = true) : ∃ x r ps, d = .tup (.str x :: r) ∧ tb.lookup x = some ps ∧ q0v ps r = true := by
 unfold q2g at h
 split at h
 ·rename_i x r
  split at h
  ·rename_i ps e
   exact ⟨x, r, ps, rfl, e, h⟩
  ·cases h
 ·cases h
theorem z8z {B n : Nat} {t : List (Str × List (D → Bool))} {u : List (Str × List (D → List Str))} (T : TOk B n t u) : WOk B (1 + n) (q2g t) (byW u) := fun d hd hw => by
 obtain ⟨x, r, ps, rfl, e, hf⟩ := q2r hd
 obtain ⟨m, fs, e2, hm, h, hx⟩ := T.at e
 have hw' := (x0t hw).2
 rw [widL, Bool.and_eq_true] at hw'
 have h1 := h.p hf hw'.2
 have h2 := (x4x (.str x) hx fun _ => rfl).app h1
 have h3 : POk (1 + m) [.tup (.str x :: r)] (byW u (.tup (.str x :: r))) := by
  have : byW u (.tup (.str x :: r)) = [x] ++ q1u fs r := by
   show x :: q1u ((u.lookup x).getD []) r = _
   rw [e2]; rfl
  rw [this]
  exact h2.tup
 exact h3.up (by omega)
theorem x3b {B : Nat} : WOk B 3 q5j q6q := z8z (n := 2) (.cons (by decide +kernel) (by decide) (.cons q7l (.cons q4y .nil)) (.cons (by decide +kernel) (by decide) (.cons q7l (.cons q4y .nil)) (.cons (by decide +kernel) (by decide) (.cons q7l .nil) .nil)))
theorem j0l {B : Nat} : WOk B 11 x0c j5o := z8z (n := 10) (.cons (by decide +kernel) (by decide) .nil (.cons (by decide +kernel) (by decide) (.cons q7l (.cons (q4y.sub fun _ => q1k) (.cons x3b .nil))) (.cons (by decide +kernel) (by decide) (.cons q8x .nil) .nil)))
theorem x4c {B : Nat} : WOk B 12 q3m q4f := x3q (.cons (q4y.sub fun _ => q1k) (.cons j0l .nil))
theorem z2p {B : Nat} : WOk B 2 x0l q9j := x3q (.cons q7l (.cons q4y .nil))
theorem x5m {B : Nat} : WOk B 3 q4c q6t := x3q (.cons q7l (.cons (q4y.sub fun _ => q1k) (.cons q4y .nil)))
theorem x9z {B : Nat} (hB : B < 10 ^ 60) : WOk B (2 + 5 * B) q3o x0a := (x3q (.cons (x7v z2p hB) (.cons (x7v x5m hB) .nil))).up (by omega)
theorem z8i {B : Nat} (hB : B < 10 ^ 60) : WOk B (14 + 5 * B) (q9x [geD 0, geD 0, q2z, q3o]) z7r := (x3q (.cons (q4y.sub fun _ => q1k) (.cons (q4y.sub fun _ => q1k) (.cons q8x (.cons (x9z hB) .nil))))).up (by omega)
theorem j2h {B : Nat} (hB : B < 10 ^ 60) : WOk B (14 + 5 * B) q8d z7r := (z8i hB).sub fun d h => by
 unfold q8d x6a at h
 rw [Bool.and_eq_true, Bool.and_eq_true] at h
 exact h.1.1
end Kp
namespace Kp
open PySem L2 PySem.Spec PyProof.Rows PySem.NumText
noncomputable def x6i : List (Str × List (D → Bool)) := [("ask", [q0h, q0h, geD 1, geD 0, geD 0]), ("voice", [q0h, q0h, geD 1, q3l])]
noncomputable def x7a : List (Str × List (D → Bool)) := [("pack", [q0h, q0h, geD 1, q8d]),
 ("held", [q0h, q0h, geD 1, q3l, geD 0]), ("wish", [q2b, q0h, geD 1, q5j]), ("told", [q0h, q2b, geD 1, whole]), ("away", [q0h, q2b, geD 1, q6w])]
noncomputable def x3e : List (Str × List (D → List Str)) := [("ask", [q3a, q3a, q3a, q3a, q3a]), ("voice", [q3a, q3a, q3a, j6s])]
noncomputable def x3a : List (Str × List (D → List Str)) := [("pack", [q3a, q3a, q3a, z7r]),
 ("held", [q3a, q3a, q3a, j6s, q3a]), ("wish", [z0v, q3a, q3a, q6q]), ("told", [q3a, z0v, q3a, q3a]), ("away", [q3a, z0v, q3a, j7o])]
theorem x2k {α : Type} {x y : Str} {a : α} (h : x ≠ y) : ∀ (l r : List (Str × α)), (l ++ (y, a) :: r).lookup x = (l ++ r).lookup x
 | [], r => by
  have hb : (x == y) = false := by rw [beq_eq_false_iff_ne]; exact h
  rw [List.nil_append, List.nil_append, List.lookup_cons, hb]
 | (z, b) :: l, r => by
  rw [List.cons_append, List.cons_append, List.lookup_cons, List.lookup_cons, x2k h l r]
theorem k1 {B : Nat} : WOk B 1 q0h q3a := q4y.sub fun _ => q1j
theorem g1 {B : Nat} {l : Int} : WOk B 1 (geD l) q3a := q4y.sub fun _ => q1k
theorem z5a {B : Nat} (hB : B < 10 ^ 60) : TOk B (17 + 5 * B) (x6i ++ x7a) (x3e ++ x3a) :=
 .cons (by decide +kernel) (by omega) (.cons k1 (.cons k1 (.cons g1 (.cons g1 (.cons g1 .nil)))))
 (.cons (by decide +kernel) (by omega) (.cons k1 (.cons k1 (.cons g1 (.cons z8b .nil))))
 (.cons (by decide +kernel) (by omega) (.cons k1 (.cons k1 (.cons g1 (.cons (j2h hB) .nil))))
 (.cons (by decide +kernel) (by omega) (.cons k1 (.cons k1 (.cons g1 (.cons z8b (.cons g1 .nil)))))
 (.cons (by decide +kernel) (by omega) (.cons q7l (.cons k1 (.cons g1 (.cons x3b .nil))))
 (.cons (by decide +kernel) (by omega) (.cons k1 (.cons q7l (.cons g1 (.cons q4y .nil))))
 (.cons (by decide +kernel) (by omega) (.cons k1 (.cons q7l (.cons g1 (.cons j6y .nil)))) .nil))))))
theorem j4v {B : Nat} : WOk B 61 q1y q9s := fun d hd hw => by
 unfold q1y at hd
 rw [Bool.and_eq_true, decide_eq_true_eq] at hd
 exact z1x x4c hd.1 hd.2 hw
theorem x6w {r : List D} (h : q0v [q0h, q0h, geD 1, geD 0, geD 0, q1y, geD 0] r = true) : ∃ a b c p l e m, r = [a, b, c, p, l, e, m] ∧ q0h a = true ∧ q0h b = true ∧ geD 1 c = true ∧ geD 0 p = true ∧ geD 0 l = true ∧ q1y e = true ∧ geD 0 m = true := by
 rw [j4k] at h
 split at h
 ·rename_i a b c d e f g
  simp only [Bool.and_eq_true] at h
  obtain ⟨h1, h2, h3, h4, h5, h6, h7⟩ := h
  exact ⟨a, b, c, d, e, f, g, rfl, h1, h2, h3, h4, h5, h6, h7⟩
 ·cases h
theorem x5n {B : Nat} (hB : B < 10 ^ 60) : WOk B (70 + 5 * B) (q2g q2l) q2k := fun d hd hw => by
 obtain ⟨x, r, ps, rfl, e, hf⟩ := q2r hd
 have hw' := (x0t hw).2
 by_cases hx : x = "hand"
 ·subst hx
  have e2 : ps = [q0h, q0h, geD 1, geD 0, geD 0, q1y, geD 0] := (Option.some.inj e).symm
  subst e2
  obtain ⟨a, b, c, p, l, es, m, rfl, h1, h2, h3, h4, h5, h6, h7⟩ := x6w hf
  have ew : q2k (.tup (.str "hand" :: [a, b, c, p, l, es, m])) = [("hand" : Str)] ++ q1u [q3a, q3a, q3a, q3a, q3a, q3a, q9s] [a, b, c, p, l, m, es] := rfl
  rw [ew]
  have hww : ∀ d ∈ [a, b, c, p, l, m, es], z0t B d = true := fun d hd => q4q.mp hw' d (by simp at hd ⊢; rcases hd with h | h | h | h | h | h | h <;> simp [h])
  have q : POk _ [a, b, c, p, l, m, es] (q1u [q3a, q3a, q3a, q3a, q3a, q3a, q9s] [a, b, c, p, l, m, es]) :=
   WOkL.p (B := B) (ps := [q0h, q0h, geD 1, geD 0, geD 0, geD 0, q1y]) (.cons k1 (.cons k1 (.cons g1 (.cons g1 (.cons g1 (.cons g1 (.cons j4v .nil))))))) (by simp [q0v, h1, h2, h3, h4, h5, h6, h7]) (q4q.mpr hww)
  have q2 := (x4x (x := ("hand" : Str)) (.str "hand") (by decide +kernel) fun _ => rfl).app q
  refine ((q2.of (es := .str "hand" :: [a, b, c, p, l, es, m]) fun k _ => ?_).up (by omega)).tup
  simp only [List.singleton_append, smallL, Bool.and_eq_true, Bool.and_true]
  constructor
  ·rintro ⟨z1, z2, z3, z4, z5, z6, z7, z8⟩; exact ⟨z1, z2, z3, z4, z5, z6, z8, z7⟩
  ·rintro ⟨z1, z2, z3, z4, z5, z6, z7, z8⟩; exact ⟨z1, z2, z3, z4, z5, z6, z8, z7⟩
 ·have e1 : (x6i ++ x7a).lookup x = some ps := by rw [← x2k (y := "hand") hx]; exact e
  have e2 : q9n.lookup x = (x3e ++ x3a).lookup x := by rw [← x2k (y := "hand") (a := [q3a, q3a, q3a, q3a, q3a, q3a, q9s]) hx]; rfl
  have hb : q2g (x6i ++ x7a) (.tup (.str x :: r)) = true := by
   unfold q2g
   dsimp only
   rw [e1]
   exact hf
  have q := z8z (z5a hB) _ hb hw
  have ew : q2k (.tup (.str x :: r)) = byW (x3e ++ x3a) (.tup (.str x :: r)) := by
   show x :: q1u ((q9n.lookup x).getD []) (if x = "hand" then x2v r else r) = x :: q1u (((x3e ++ x3a).lookup x).getD []) r
   rw [if_neg hx, e2]
  rw [ew]
  exact q.up (by omega)
end Kp
namespace K1
open PySem L2 Kp
section
variable {P : Program} {w : World} {K : PySem.W.Frag} {mg : Str → Option Value} {base : Heap}
theorem SqL.same {H H' : Hp} {a : Addr} {xs : List V} (h : SqL K H a xs) (s : q1a H H') : SqL K H' a xs := by
 rcases h with h | h
 ·exact .inl (h.elim (fun e => .inl (s _ _ e)) fun ⟨o, e⟩ => .inr ⟨o, s _ _ e⟩)
 ·exact .inr h
noncomputable def z0d (K : PySem.W.Frag) (lim : Int) (R : Hp → V → Prop) : Sp := fun vs H Q _ => ∃ (a : Addr) (ns : List Int) (k : Int), vs = [.ref a, .int k] ∧ SqL K H a (ns.map V.int) ∧ 0 ≤ k ∧ k ≤ lim ∧ ∀ v H', R H' v → q1a H H' → Q v H'
theorem q7s {lim : Int} {R : Hp → V → Prop} : ∀ vs H Q E, z0d K lim R vs H Q E → vs.length = 2 := fun vs H Q E ⟨_, _, _, e, _⟩ => by subst e; rfl
noncomputable def w2b : TS := fun D σ H => ∃ a at' n m x4 x5, σ = [some (.ref a), some (.int at'), some (.int n), some (.int m), x4, x5] ∧ 0 ≤ n ∧ 0 ≤ m ∧ m ≤ 3 ∧ ∀ m' : Int, 0 ≤ m' → m' ≤ 39 → D.nx [some (.ref a), some (.int at'), some (.int n), some (.int m'), x4, x5] H
theorem PS.weakM {X : Cx} {st : Stmt} {t t' : TS} (h : PS X st t) (w : ∀ D σ H, t' D σ H → t D σ H) : PS X st t' := fun pins s σ H D I q => h pins s σ H D I (w D σ H q)
end
theorem z6n : ∀ c ∈ ("abcdefghijklmnopqrstuvwxyz" : Str).cps.toList, q3k c = true := by decide +kernel
theorem z0x (x y : Str) : (x ++ y).cps.toList.all q3k = (x.cps.toList.all q3k && y.cps.toList.all q3k) := by
 show (x.cps ++ y.cps).toList.all q3k = _
 rw [Array.toList_append, List.all_append]
theorem z1g {x : Str} (h1 : 1 ≤ x.length) (h8 : x.length ≤ 8) (hl : x.cps.toList.all q3k = true) : q2b (.str x) = true := by
 show ((decide (1 ≤ x.length) && decide (x.length ≤ 8)) && x.cps.toList.all q3k) = true
 rw [decide_eq_true h1, decide_eq_true h8, hl]
 rfl
theorem z2s (a : Array Nat) (ha : a.toList.all q3k = true) : ∀ (k : Nat) (b : Array Nat), b.toList.all q3k = true → (List.foldl (fun x y => x ++ y) b (List.replicate k a)).toList.all q3k = true
 | 0, b, h => h
 | k + 1, b, h => by
  rw [List.replicate_succ, List.foldl_cons]
  exact z2s a ha k _ (by rw [Array.toList_append, List.all_append, h, ha]; rfl)
theorem z9c (n : Int) : (Txt.mul "a" n).cps.toList.all q3k = true := by
 have ha : ("a" : Str).cps.toList.all q3k = true := by decide +kernel
 unfold Txt.mul
 split
 ·rfl
 ·split
  ·exact ha
  ·exact z2s _ ha _ _ rfl
section
variable {P : Program} {w : World} {K : PySem.W.Frag} {mg : Str → Option Value} {base : Heap}
noncomputable def q9d : Sp := fun vs H Q _ => ∃ n, vs = [.int n] ∧ 0 ≤ n ∧ ∀ x H', q2b (.str x) = true → q1a H H' → Q (.str x) H'
theorem z5s : FnScope ["_law_number", "_law_letters", "_law_name_here", "_law_at"] ["_law_number"] (q0d z1r) := fSc
theorem z0h {f : Addr} {fd : FuncData} (F : Fun K "_law_name_by" "_law_name_by" z1r f fd) (T : Txt mg) : FnOk P w K mg base CX0 1 f fd ["_law_number"] q9d := by
 refine F.ok z5s (fun vs H Q E ⟨_, e, _⟩ => by subst e; rfl) (fun cdv A outer s H vs Q E hr h => ?_)
 obtain ⟨n, rfl, h0, q⟩ := h
 refine ⟨_, q1d (q1q (q0s q2a (q0l q1t (pv 0) q0a) q0a (q0q _)) (q0o (q0j (q0w q7v (x2l (q0c q0r (q0c q0r (q0c q0r (q0c q0r (q0c q0r (q0c q0r (q0c q0r (q0c q0r (q0c q0r q0b))))))))))
   (q0l q1t (q0l q2m (pv 0) q0a) q0a) (fun _ _ => rfl)))) q0t)
  (q1d (q1c (i := 1) z5s.nd rfl (Or.inl rfl) q0r)
  (q1d (q1c (i := 2) z5s.nd rfl (Or.inl rfl) (q0w x3g (pv 1) (q0l q1t (pv 0) q0a) (fun _ _ => rfl)))
  (q1d (z3b PassesOwn.never (q0s x6e (q0p q3u rfl T.len PySem.boot_len (q0c (pv 2) q0b)) (q0l q1s q0a (q0l q1t (q0l q2m (pv 0) q0a) q0a)) (q0q _))
   (q1d (q1c (i := 3) z5s.nd rfl (Or.inl rfl) (q0l q1s (q0l q2m (pv 0) q0a) (q0l q7x (q0l q7x q0a (q0p q3u rfl T.len PySem.boot_len (q0c (pv 2) q0b))) (q0l q1t (pv 0) q0a))))
   (q0o (q1c (i := 2) z5s.nd rfl (Or.inl rfl) (q0l q0k (pv 2) (q0w x3g (pv 1) (q0l q1t (pv 3) q0a) (fun _ _ => rfl)))))))
  (q1d (q1q (q0s q2a (q0l q1t (q0l q2m (pv 0) q0a) q0a) q0a (q0q _)) (q0o (q0j (pv 2))) q0t)
  (q1d (q1c (i := 3) z5s.nd rfl (Or.inl rfl) (q0l q1t (q0l q2m (pv 0) q0a) (q0p q3u rfl T.len PySem.boot_len (q0c (pv 2) q0b))))
  (q0o (q0j (q0l q0k (q0l q0k (q0l x5e q0r (pv 3)) (q0w x3g (pv 2) (pv 3) (fun _ _ => rfl))) (q0l x5e q0r (q0l x5o (q0l x5o (q0p q3u rfl T.len PySem.boot_len (q0c (pv 2) q0b)) q0a) (pv 3))))))))))), ?_⟩
 refine ⟨_, rfl, _, _, rfl, rfl, (by show (0 : Int) < 8; decide), rfl, _, rfl, x9q (fun _ => ?_) (fun _ => ?_)⟩
 ·
  refine ⟨by rw [sizeLine_eq]; decide, fun p hp => ⟨_, rfl, _, _, rfl, rfl, ⟨by decide, by decide⟩, _, _, rfl, rfl, (by show (0 : Int) < 9; decide), ?_⟩⟩
  obtain ⟨e0, e1⟩ := q2w (n / 8) (m := 9) (by decide)
  obtain ⟨v, hv, hm⟩ := x0r (xs := [V.str "open", V.str "wish", V.str "seats", V.str "set", V.str "add", V.str "get", V.str "none", V.str "yes", V.str "no"]) e0 (by simpa using e1)
  have hx : ∃ x : Str, v = .str x ∧ q2b (.str x) = true := by
   simp only [List.mem_cons, List.not_mem_nil, or_false] at hm
   rcases hm with rfl | rfl | rfl | rfl | rfl | rfl | rfl | rfl | rfl <;> exact ⟨_, rfl, by decide +kernel⟩
  obtain ⟨x, rfl, hl⟩ := hx
  exact ⟨p, _, _, _, rfl, rfl, SqL.of q0g, hv, q x _ hl (q0i hp)⟩
 ·
  have la : ("abcdefghijklmnopqrstuvwxyz" : Str).length = 26 := by decide +kernel
  have lb : (("abcdefghijklmnopqrstuvwxyz" : Str).cps.toList).length = 26 := by rw [Array.length_toList]; exact la
  obtain ⟨e0, e1⟩ := q2w n (m := 26) (by decide)
  obtain ⟨c, hc, hcm⟩ := x0r (xs := ("abcdefghijklmnopqrstuvwxyz" : Str).cps.toList) e0 (by rw [lb]; exact e1)
  refine ⟨_, rfl, _, rfl, _, _, rfl, rfl, (by show (0 : Int) < 26; decide), _, _, c, rfl, rfl, (by rw [la, sizeLine_eq]; decide), hc, ?_⟩
  refine ⟨fun m σ H' => ∃ x t, σ = [some (.int n), some (.str "abcdefghijklmnopqrstuvwxyz"), some (.str x), t] ∧ H = H' ∧ 1 ≤ x.length ∧ x.length ≤ 8 ∧ x.cps.toList.all q3k = true ∧ m = 8 - x.length, ⟨7, ⟨#[c]⟩, none, rfl, rfl, Nat.le_refl _, (show 1 ≤ 8 by decide), (by show (q3k c && true) = true; rw [z6n c hcm]; rfl), rfl⟩, ?_⟩
  rintro m σ H' ⟨x, t, rfl, rfl, l1, l8, hlow, rfl⟩
  obtain ⟨f0, f1⟩ := q2w (n / 26) (m := 8) (by decide)
  have lx : x.length ≤ sizeLine := by rw [sizeLine_eq]; omega
  refine ⟨_, rfl, x, rfl, lx, _, rfl, _, _, rfl, rfl, ⟨by decide, by decide⟩, _, _, rfl, rfl, (by show (0 : Int) < 8; decide), _, _, rfl, rfl, _, _, rfl, rfl, _, rfl, x9q (fun hlt => ?_) (fun _ => ?_)⟩
  ·have hlt' : (x.length : Int) < 1 + n / 26 % 8 := of_decide_eq_true hlt
   refine ⟨fun σ' H2 => ∃ x' t', σ' = [some (.int n), some (.str "abcdefghijklmnopqrstuvwxyz"), some (.str x'), t'] ∧ H = H2 ∧ x'.length = x.length + 1 ∧ x'.cps.toList.all q3k = true, ?_, ?_⟩
   ·rintro σ' H2 ⟨x', t', rfl, rfl, e, hl'⟩
    exact ⟨8 - x'.length, by omega, x', t', rfl, rfl, by omega, by omega, hl', rfl⟩
   ·obtain ⟨g0, g1⟩ := q2w (n / 208 + 5 * (x.length : Int) * (n % 3)) (m := 26) (by decide)
    obtain ⟨d, hd, hdm⟩ := x0r (xs := ("abcdefghijklmnopqrstuvwxyz" : Str).cps.toList) g0 (by rw [lb]; exact g1)
    refine ⟨_, rfl, _, _, rfl, rfl, ⟨by decide, by decide⟩, _, rfl, x, rfl, lx, _, _, rfl, rfl, .inl ⟨by decide, by decide⟩, _, rfl, _, _, rfl, rfl, (by show (0 : Int) < 3; decide), _, _, rfl, rfl, .inl ⟨by omega, by omega⟩, _, _, rfl, rfl, ?_⟩
    refine ⟨_, rfl, _, rfl, _, rfl, _, _, rfl, rfl, (by show (0 : Int) < 26; decide), _, _, d, rfl, rfl, (by rw [la, sizeLine_eq]; decide), hd, _, _, rfl, rfl, (by show x.length + 1 ≤ sizeLine; rw [sizeLine_eq]; omega), ?_⟩
    exact ⟨_, _, rfl, rfl, by rw [x1u]; rfl, by rw [z0x, hlow]; show (q3k d && true) = true; rw [z6n d hdm]; rfl⟩
  ·refine ⟨_, rfl, _, _, rfl, rfl, ⟨by decide, by decide⟩, _, _, rfl, rfl, (by show (0 : Int) < 2; decide), rfl, _, rfl, x9q (fun _ => ?_) (fun _ => ?_)⟩
   ·exact ⟨_, rfl, q x H (z1g l1 l8 hlow) (q1a.refl _)⟩
   ·have lp : (0 : Int) < (x.length : Int) := by omega
    refine ⟨_, rfl, _, _, rfl, rfl, ⟨by decide, by decide⟩, _, rfl, x, rfl, lx, _, _, rfl, rfl, lp, ?_⟩
    obtain ⟨a0, a1⟩ := q2w (n / 208) lp
    obtain ⟨d, hd, hdm⟩ := x0r (xs := x.cps.toList) a0 (by rw [Array.length_toList]; exact a1)
    have ml := z8o "a" (n / 208 % (x.length : Int))
    have ml2 := z8o "a" ((x.length : Int) - 1 - n / 208 % (x.length : Int))
    have one : ("a" : Str).length = 1 := by decide +kernel
    rw [one] at ml ml2
    have s1 : (⟨#[d]⟩ : Str).length = 1 := rfl
    refine ⟨_, rfl, _, _, rfl, rfl, (by rw [one]; decide), (by omega), (by omega), _, rfl, _, rfl, _, _, d, rfl, rfl, lx, hd, _, _, rfl, rfl, (by rw [s1, sizeLine_eq]; omega), _, rfl, x, rfl, lx, _, _, rfl, rfl, _, rfl, _, _, rfl, rfl, _, _, rfl, rfl, (by rw [one]; decide), (by omega), (by omega), _, _, rfl, rfl, ?_, ?_⟩
    ·rw [x1u, s1, sizeLine_eq]; omega
    ·refine q _ H (z1g ?_ ?_ ?_) (q1a.refl _)
     ·rw [x1u, x1u, s1]; omega
     ·rw [x1u, x1u, s1]; omega
     ·rw [z0x, z0x, z9c, z9c]
      show (true && (q3k d && true) && true) = true
      rw [List.all_eq_true.mp hlow d hdm]
      rfl
end
end K1
namespace Kz
open PySem L2 Kp K1
noncomputable def S6 (i : Int) : Prop := i.natAbs < 10 ^ 60
theorem S6.low {i : Int} (h0 : -100000 < i) (h1 : i < 100000) : S6 i := Nat.lt_of_lt_of_le (show i.natAbs < 100000 by omega) (by decide)
theorem S6.neg {i : Int} (h : S6 i) : S6 (-i) := by unfold S6; rw [Int.natAbs_neg]; exact h
theorem S6.cap {i : Int} (h : S6 i) : S6 (if i > 1 then i else 1) := by
 split
 ·exact h
 ·exact S6.low (by decide) (by decide)
noncomputable def G6 (d : D) : Prop := q1x 60 d = true ∧ j1q d = true
noncomputable def GL6 (ds : List D) : Prop := smallL 60 ds = true ∧ noLL ds = true
theorem G6.int {i : Int} (h : S6 i) : G6 (.int i) := ⟨decide_eq_true h, rfl⟩
theorem G6.str (x : Str) : G6 (.str x) := ⟨rfl, rfl⟩
theorem G6.bl (b : Bool) : G6 (.bl b) := ⟨rfl, rfl⟩
theorem G6.non : G6 .non := ⟨rfl, rfl⟩
theorem G6.tup {ds : List D} (h : GL6 ds) : G6 (.tup ds) := h
theorem GL6.nil : GL6 [] := ⟨rfl, rfl⟩
theorem GL6.cons {d : D} {ds : List D} (h : G6 d) (t : GL6 ds) : GL6 (d :: ds) := ⟨by rw [smallL, h.1, t.1]; rfl, by rw [noLL, h.2, t.2]; rfl⟩
theorem GL6.ints : ∀ {ns : List Int}, (∀ n ∈ ns, S6 n) → GL6 (ns.map D.int)
 | [], _ => .nil
 | _ :: _, h => .cons (.int (h _ List.mem_cons_self)) (GL6.ints fun n hn => h n (List.mem_cons_of_mem _ hn))
noncomputable def ThP (pr : D → Bool) (H : Hp) (v : V) : Prop := ∃ d, Is 200 H v d ∧ pr d = true ∧ G6 d
theorem ThP.sameT {pr : D → Bool} {H H' : Hp} {v : V} (h : ThP pr H v) (s : x0g H H') : ThP pr H' v := by
 obtain ⟨d, I, p, g⟩ := h
 exact ⟨d, I.sameT s g.2, p, g⟩
theorem ThP.monoT {pr : D → Bool} (H H' : Hp) (v : V) (s : x0g H H') (h : ThP pr H v) : ThP pr H' v := h.sameT s
theorem ThP.same {pr : D → Bool} {H H' : Hp} {v : V} (h : ThP pr H v) (s : q1a H H') : ThP pr H' v := h.sameT (j2g s)
theorem ThP.tup {pr : D → Bool} {H : Hp} {a : Addr} {vs : List V} {ds : List D} (e : H a = some (.tup vs)) (l : vs.length ≤ 200) (r : IsL 200 H vs ds) (p : pr (.tup ds) = true) (g : GL6 ds) : ThP pr H (.ref a) := ⟨_, .tup e l r, p, g⟩
theorem z2h {H : Hp} : ∀ {ns : List Int}, IsL 200 H (ns.map V.int) (ns.map D.int)
 | [] => .nil
 | _ :: _ => .cons (.int _) z2h
theorem z6e {pr : D → Bool} {H : Hp} : ∀ {vs : List V}, (∀ u ∈ vs, ThP pr H u) → ∃ ds, IsL 200 H vs ds ∧ ds.all pr = true ∧ GL6 ds
 | [], _ => ⟨[], .nil, rfl, .nil⟩
 | v :: vs, h => by
  obtain ⟨d, I, p, g⟩ := h v List.mem_cons_self
  obtain ⟨ds, r, ps, gs⟩ := z6e fun u hu => h u (List.mem_cons_of_mem _ hu)
  exact ⟨d :: ds, .cons I r, by rw [List.all_cons, p, ps]; rfl, .cons g gs⟩
theorem z3l : ∀ {ns : List Int}, ns.Pairwise (· < ·) → q8f ns = true
 | [], _ => rfl
 | [_], _ => rfl
 | a :: b :: r, h => by
  rw [q8f, z3l (List.pairwise_cons.mp h).2, decide_eq_true ((List.pairwise_cons.mp h).1 b List.mem_cons_self)]
  rfl
theorem x5q : ∀ ns : List Int, q3s (ns.map D.int) = ns
 | [] => rfl
 | n :: ns => by
  show n :: q3s (ns.map D.int) = _
  rw [x5q ns]
theorem j0s {ns : List Int} (h1 : 1 ≤ ns.length) (h9 : ns.length ≤ 9) (hk : ∀ n ∈ ns, 0 ≤ n ∧ n ≤ 8) (hr : ns.Pairwise (· < ·)) : q2z (.tup (ns.map D.int)) = true := by
 show ((ns.map D.int).all q0h && ((decide (1 ≤ (ns.map D.int).length) && decide ((ns.map D.int).length ≤ 9)) && q8f (q3s (ns.map D.int)))) = true
 rw [x5q, z3l hr, List.length_map, decide_eq_true h1, decide_eq_true h9]
 have : (ns.map D.int).all q0h = true := List.all_eq_true.mpr fun d hd => by
  obtain ⟨n, hn, rfl⟩ := List.mem_map.mp hd
  show (decide (0 ≤ n) && decide (n ≤ 8)) = true
  rw [decide_eq_true (hk n hn).1, decide_eq_true (hk n hn).2]
  rfl
 rw [this]
 rfl
theorem j9u {N : Int} (h1 : 1 ≤ N) (h2 : N ≤ 511) : ∃ i, i < 9 ∧ N / z7m.getD i 1 % 2 = 1 := by
 by_cases c : N % 2 = 1
 ·exact ⟨0, by decide, by show N / 1 % 2 = 1; omega⟩
 by_cases c1 : N / 2 % 2 = 1
 ·exact ⟨1, by decide, c1⟩
 by_cases c2 : N / 4 % 2 = 1
 ·exact ⟨2, by decide, c2⟩
 by_cases c3 : N / 8 % 2 = 1
 ·exact ⟨3, by decide, c3⟩
 by_cases c4 : N / 16 % 2 = 1
 ·exact ⟨4, by decide, c4⟩
 by_cases c5 : N / 32 % 2 = 1
 ·exact ⟨5, by decide, c5⟩
 by_cases c6 : N / 64 % 2 = 1
 ·exact ⟨6, by decide, c6⟩
 by_cases c7 : N / 128 % 2 = 1
 ·exact ⟨7, by decide, c7⟩
 exact ⟨8, by decide, by show N / 256 % 2 = 1; omega⟩
theorem w2i {l x : Int} (h2 : 0 ≤ l) (h3 : l ≤ 1) : l ≤ l + x % (10 ^ (60 : Int).toNat - l) ∧ S6 (l + x % (10 ^ (60 : Int).toNat - l)) := by
 have e60 : (10 : Int) ^ (60 : Int).toNat = 1000000000000000000000000000000000000000000000000000000000000 := by decide +kernel
 have e70 : (10 : Nat) ^ 60 = 1000000000000000000000000000000000000000000000000000000000000 := by decide +kernel
 unfold S6
 rw [e60, e70]
 obtain ⟨a, b⟩ := q2w x (m := 1000000000000000000000000000000000000000000000000000000000000 - l) (by omega)
 omega
theorem q5l {l i : Int} (h : l ≤ i) : geD l (.int i) = true := decide_eq_true h
theorem q6e {x : Str} (h : q2b (.str x) = true) : x.length ≤ 200 := by
 have := (Bool.and_eq_true _ _ |>.mp (Bool.and_eq_true _ _ |>.mp (show ((decide (1 ≤ x.length) && decide (x.length ≤ 8)) && x.cps.toList.all q3k) = true from h)).1).2
 have := of_decide_eq_true this
 omega
section
variable {P : Program} {w : World} {K : PySem.W.Frag} {mg : Str → Option Value} {base : Heap}
noncomputable def x7f : Sp := fun vs H Q _ => ∃ n, vs = [.int n] ∧ 0 ≤ n ∧ ∀ v H', ThP q2z H' v → q1a H H' → Q v H'
theorem w1x : FnScope ["_law_number", "_law_powers"] ["_law_number"] (q0d x2z) := fSc
theorem z1b {f : Addr} {fd : FuncData} (F : Fun K "_law_seats_by" "_law_seats_by" x2z f fd) (T : Txt mg) : FnOk P w K mg base CX0 1 f fd ["_law_number"] x7f := by
 refine F.ok w1x (fun vs H Q E ⟨_, e, _⟩ => by subst e; rfl) (fun cdv A outer s H vs Q E hr h => ?_)
 obtain ⟨n, rfl, h0, q⟩ := h
 refine ⟨_, q1d (q1c (i := 0) w1x.nd rfl (Or.inr rfl) (q0l q1s q0a (q0l q1t (pv 0) q0a)))
  (q1d (q1c (i := 1) w1x.nd rfl (Or.inr rfl) (x2l (q0c q0a (q0c q0a (q0c q0a (q0c q0a (q0c q0a (q0c q0a (q0c q0a (q0c q0a (q0c q0a q0b)))))))))))
  (q0o (q0j (q4g q3z rfl T.tuple q2i (q0c (q3f (NB := ["_law_k", "_law_number", "_law_powers"]) (n := 1) (fr := [0, 1]) (x1p (outer := q0d x2z) (x := "_law_number") (y := "_law_powers") rfl (by decide +kernel) rfl rfl rfl rfl rfl rfl rfl) rfl
   (q8y rfl T.range (q0c q0a q0b)) (fun _ _ _ _ _ => q1h (i := 0) (show (["_law_k", "_law_number", "_law_powers"] : List Str).Nodup by decide +kernel) rfl (Or.inl rfl))
   (fun _ _ _ _ _ => x3c (q0s q2a (q0l q1t (q0l q2m (pv 1) (q0w (j2m (K := K) rfl) (pv 2) (pv 0) (fun _ _ => rfl))) q0a) q0a (q0q _))) (fun _ _ _ _ _ => pv 0)) q0b))))), ?_⟩
 refine ⟨_, rfl, _, _, rfl, rfl, (by show (0 : Int) < 511; decide), _, _, rfl, rfl, (by rw [sizeLine_eq]; decide), fun l hl => ?_⟩
 have sl : q1a H (upd H l (.lst (z7m.map V.int))) := q0i hl
 refine ⟨9, rfl, by decide, by decide, q2y (J := Itr 0 9) (k := 1) (n := 9) (fun i => decide (V.int ((1 + n % 511) / z7m.getD i 1 % 2) = V.int 1)) (fun i => .int (0 + (i : Int))) (by rw [sizeLine_eq]; decide) (fun i H2 hi _ => hi) (fun H2 _ => Nat.le_refl _) ?_ ?_⟩
 ·intro i H2 t v H3 R hi s1 ht y hR
  obtain ⟨rfl, rfl⟩ := y
  have ht' : ∃ t0, t = [t0] := by
   match t, ht with
   | [t0], _ => exact ⟨t0, rfl⟩
  obtain ⟨t0, rfl⟩ := ht'
  have hi' : i < z7m.length := hi
  have hat : atI (z7m.map V.int) (0 + (i : Int)) = some (.int (z7m.getD i 1)) := by
   rw [Int.zero_add]
   exact q0m (by rw [List.getElem?_map, List.getElem?_eq_getElem hi', List.getD_eq_getElem?_getD, List.getElem?_eq_getElem hi']; rfl)
  have hpos := j1j (z7m.getD i 1) (by rw [List.getD_eq_getElem?_getD, List.getElem?_eq_getElem hi']; exact List.getElem_mem hi')
  refine ⟨_, rfl, _, rfl, _, rfl, l, _, _, _, rfl, rfl, SqL.of (s1 _ _ q0g), hat, _, _, rfl, rfl, hpos, _, _, rfl, rfl, (by show (0 : Int) < 2; decide), rfl, _, rfl, ?_⟩
  have hR' := hR [some (.int (0 + (i : Int)))] H3 rfl (q1a.refl _)
  show if decide (V.int ((1 + n % 511) / z7m.getD i 1 % 2) = V.int 1) = true then _ else _
  cases e : decide (V.int ((1 + n % 511) / z7m.getD i 1 % 2) = V.int 1) with
  | true => rw [e] at hR'; exact q1o ⟨_, rfl, hR'⟩
  | false => rw [e] at hR'; exact q0z hR'
 ·intro D H' s1 hD hd
  refine ⟨D, _, rfl, .inl ⟨SqL.of hd, fun l2 hl2 => ?_⟩⟩
  obtain ⟨ls, els⟩ : ∃ ls, ls = ((List.range 9).filter (fun i => decide (V.int ((1 + n % 511) / z7m.getD i 1 % 2) = V.int 1))) := ⟨_, rfl⟩
  have hmem : ∀ m ∈ ls.map fun i : Nat => (0 : Int) + (i : Int), 0 ≤ m ∧ m ≤ 8 := fun m hm => by
   obtain ⟨i, hi, rfl⟩ := List.mem_map.mp hm
   rw [els] at hi
   have := List.mem_range.mp (List.mem_filter.mp hi).1
   omega
  have hlen : ls.length ≤ 9 := by rw [els]; exact Nat.le_trans (List.length_filter_le _ _) (by simp)
  have hpos : 1 ≤ ls.length := by
   have en := q2w n (m := 511) (by decide)
   obtain ⟨i, hi, e⟩ := j9u (N := 1 + n % 511) (by omega) (by omega)
   rw [els]
   exact List.length_pos_of_mem (List.mem_filter.mpr ⟨List.mem_range.mpr hi, decide_eq_true (by rw [e])⟩)
  have hrise : (ls.map fun i : Nat => (0 : Int) + (i : Int)).Pairwise (· < ·) := by
   rw [els, List.pairwise_map]
   exact (List.pairwise_lt_range.filter _).imp fun h => by omega
  refine q _ _ (ThP.tup (ds := (ls.map fun i : Nat => (0 : Int) + (i : Int)).map Kp.D.int) q0g ?_ ?_ (j0s (by rw [List.length_map]; exact hpos) (by rw [List.length_map]; exact hlen) hmem hrise) (GL6.ints fun m hm => S6.low (by have := hmem m hm; omega) (by have := hmem m hm; omega))) ((sl.trans s1).trans (q0i hl2))
  ·rw [List.length_map, ← els]; omega
  ·rw [← els]
   have := z2h (H := upd H' l2 (.tup (ls.map fun i : Nat => V.int (0 + (i : Int))))) (ns := ls.map fun i : Nat => (0 : Int) + (i : Int))
   rw [List.map_map] at this
   exact this
noncomputable def x2o : Sp := fun vs H Q _ => ∃ n l, vs = [.int n, .int l] ∧ 0 ≤ n ∧ n < 2147483629 ∧ 0 ≤ l ∧ l ≤ 1 ∧ ∀ z, l ≤ z → S6 z → Q (.int z) H
theorem w4b : FnScope ["_law_number", "_law_least"] ["_law_number", "_law_least"] (q0d q5q) := fSc
theorem x7x {f : Addr} {fd : FuncData} (F : Fun K "_law_number_by" "_law_number_by" q5q f fd) : FnOk P w K mg base CX0 1 f fd ["_law_number", "_law_least"] x2o := by
 refine F.ok w4b (fun vs H Q E ⟨_, _, e, _⟩ => by subst e; rfl) (fun cdv A outer s H vs Q E hr h => ?_)
 obtain ⟨n, l, rfl, h0, h1, h2, h3, q⟩ := h
 refine ⟨_, q1d (q1q (q0s q2a (q0l q1t (pv 0) q0a) q0a (q0q _)) (q0o (q0j (q0l q1s (pv 1) (q0l q1t (q0l j3n (pv 0) q0a) (q0l x5o (q0l j3n q0a q0a) (pv 1)))))) q0t)
  (q1d (q1q (q0s q2a (q0l q1t (pv 0) q0a) q0a (q0q _)) (q0o (q0j (q0l q1s (pv 1) (q0l q1t (q0l q2m (pv 0) q0a) q0a)))) q0t)
  (q0o (q0j (q0l q1s (pv 1) (q0l q1t (q0l q2m (pv 0) q0a) q0a))))), ?_⟩
 refine ⟨_, rfl, _, _, rfl, rfl, (by show (0 : Int) < 5; decide), rfl, _, rfl, x9q (fun _ => ?_) (fun _ => ?_)⟩
 ·refine ⟨_, rfl, _, rfl, _, _, rfl, rfl, ⟨by decide, by decide, by omega⟩, _, _, rfl, rfl, ⟨by decide, by decide, by decide⟩, _, rfl, _, _, rfl, rfl, _, _, rfl, rfl, ?_, _, _, rfl, rfl, q _ (w2i h2 h3).1 (w2i h2 h3).2⟩
  have : (1000 : Int) ≤ 10 ^ (60 : Int).toNat := by decide
  omega
 ·refine ⟨_, rfl, _, _, rfl, rfl, (by show (0 : Int) < 5; decide), rfl, _, rfl, x9q (fun _ => ?_) (fun _ => ?_)⟩
  ·exact ⟨_, rfl, _, rfl, _, _, rfl, rfl, ⟨by decide, by decide⟩, _, _, rfl, rfl, (by show (0 : Int) < 3; decide), _, _, rfl, rfl, q _ (by have := q2w (n / 5) (m := 3) (by decide); omega) (by have := q2w (n / 5) (m := 3) (by decide); exact S6.low (by omega) (by omega))⟩
  ·exact ⟨_, rfl, _, rfl, _, _, rfl, rfl, ⟨by decide, by decide⟩, _, _, rfl, rfl, (by show (0 : Int) < 400; decide), _, _, rfl, rfl, q _ (by have := q2w (n / 5) (m := 400) (by decide); omega) (by have := q2w (n / 5) (m := 400) (by decide); exact S6.low (by omega) (by omega))⟩
noncomputable def z3h : Sp := fun vs H Q _ => ∃ n, vs = [.int n] ∧ 0 ≤ n ∧ n < 2147483629 ∧ ∀ z, S6 z → Q (.int z) H
theorem w2j : FnScope ["_law_number", "_law_found"] ["_law_number"] (q0d q6b) := fSc
theorem z0s {f : Addr} {fd : FuncData} (F : Fun K "_law_value_by" "_law_value_by" q6b f fd) (CN : Cal P w K mg base "_law_number_by" 1 ["_law_number", "_law_least"] x2o) : FnOk P w K mg base CX0 2 f fd ["_law_number"] z3h := by
 refine F.ok w2j (fun vs H Q E ⟨_, e, _⟩ => by subst e; rfl) (fun cdv A outer s H vs Q E hr h => ?_)
 obtain ⟨n, rfl, h0, h1, q⟩ := h
 refine ⟨_, q1d (q1c (i := 1) w2j.nd rfl (Or.inl rfl) (q0f CN hr (q0c (q0l q2m (pv 0) q0a) (q0c q0a q0b))))
  (q1d (q1q (q0s q2a (q0l q1t (pv 0) q0a) q0a (q0q _)) (q0o (q0j (z6f x8d (pv 1)))) q0t)
  (q0o (q0j (pv 1)))), ?_⟩
 refine ⟨_, rfl, _, _, rfl, rfl, ⟨by decide, by decide⟩, n / 3, 0, rfl, by omega, by omega, by decide, by decide, fun z _ hz => ?_⟩
 refine ⟨_, rfl, _, _, rfl, rfl, (by show (0 : Int) < 3; decide), rfl, _, rfl, x9q (fun _ => ?_) (fun _ => ?_)⟩
 ·exact ⟨_, rfl, _, rfl, q _ hz.neg⟩
 ·exact ⟨_, rfl, q _ hz⟩
theorem w0q : FnScope ["_law_script", "_law_at", "_law_number", "_law_name_here"] ["_law_script", "_law_at"] (q0d q6m) := fSc
theorem z4z {f : Addr} {fd : FuncData} (F : Fun K "_law_deed_by" "_law_deed_by" q6m f fd) (CM : Cal P w K mg base "_law_mixed" 2 ["_law_script", "_law_k"] (q7u K)) (CN : Cal P w K mg base "_law_name_by" 1 ["_law_number"] q9d)
  (CV : Cal P w K mg base "_law_value_by" 2 ["_law_number"] z3h) : FnOk P w K mg base CX0 3 f fd ["_law_script", "_law_at"] (z0d K 900 (ThP q5j)) := by
 refine F.ok w0q q7s (fun cdv A outer s H vs Q E hr h => ?_)
 obtain ⟨a, ns, k, rfl, hS, h0, h1, q⟩ := h
 have r1 := hr.mono (show 1 ≤ 2 by decide)
 refine ⟨_, q1d (q1c (i := 2) w0q.nd rfl (Or.inl rfl) (q0f CM hr (q1i (pv 0) (q1i (pv 1) q0b))))
  (q1d (q1c (i := 3) w0q.nd rfl (Or.inl rfl) (q0f CN r1 (q7f (q0f CM hr (q1i (pv 0) (q9r (q0l q1s (pv 1) q0a) q0b))) q0b)))
  (q1d (q1q (q0s q2a (q0l q1t (pv 2) q0a) q0a (q0q _)) (q0o (q0j (QE.h (q6g (q2u (j7p (pv 3) q5k)))))) q0t)
  (q0o (q0j (QE.h (q6g (j9z (QE.h (j8h q7v (z9q (q2u (q2u q5k))) (q0l x5o (q0l q1t (pv 2) q0a) q0a) j3x)) (j7p (pv 3) (j4j (q0f CV hr (q7f (q0f CM hr (q1i (pv 0) (q9r (q0l q1s (pv 1) q0a) q0b))) q0b)) q5k))))))))), ?_⟩
 refine ⟨_, rfl, _, rfl, a, ns, k, rfl, hS, h0, by omega, fun n n0 n1 => ?_⟩
 refine ⟨_, rfl, _, rfl, _, _, rfl, rfl, a, ns, k + 1, rfl, hS, by omega, by omega, fun n2 n20 n21 => ⟨n2, rfl, n20, fun x H1 hx s1 => ?_⟩⟩
 have hS1 := SqL.same hS s1
 refine ⟨_, rfl, _, _, rfl, rfl, (by show (0 : Int) < 3; decide), rfl, _, rfl, x9q (fun _ => ?_) (fun hne => ?_)⟩
 ·refine ⟨_, rfl, q4m (by show 2 ≤ 1000; decide), fun p hp => q _ _ (ThP.tup (ds := [.str "get", .str x]) q0g (by show 2 ≤ 200; decide) (.cons (.str _ (by decide +kernel)) (.cons (.str _ (q6e hx)) .nil)) (by show (q2b (.str x) && true) = true; rw [hx]; rfl) (.cons (.str _) (.cons (.str _) .nil))) (s1.trans (q0i hp))⟩
 ·have hne' : ¬ n % 3 = 0 := fun z => hne (decide_eq_true (show V.int (n % 3) = V.int 0 by rw [z]))
  refine ⟨q4m (by show 2 ≤ 1000; decide), fun p hp => ?_⟩
  have s2 := q0i (o := HO.lst [V.str "set", V.str "add"]) hp
  have e0 : 0 ≤ n % 3 - 1 := by omega
  obtain ⟨wd, hw, hm⟩ := x0r (xs := [V.str "set", V.str "add"]) (i := n % 3 - 1) e0 (by show n % 3 - 1 < ((2 : Nat) : Int); omega)
  have hx' : ∃ y : Str, wd = .str y ∧ y.length ≤ 200 ∧ ∀ z : Int, q5j (.tup [.str y, .str x, .int z]) = true := by
   simp only [List.mem_cons, List.not_mem_nil, or_false] at hm
   rcases hm with rfl | rfl <;> exact ⟨_, rfl, by decide +kernel, fun z => by show (q2b (.str x) && true) = true; rw [hx]; rfl⟩
  obtain ⟨y, rfl, hy, hdp⟩ := hx'
  refine ⟨_, rfl, _, _, rfl, rfl, (by show (0 : Int) < 3; decide), _, _, rfl, rfl, p, _, _, _, rfl, rfl, SqL.of q0g, hw, _, rfl, ?_⟩
  refine ⟨_, rfl, _, rfl, _, _, rfl, rfl, a, ns, k + 2, rfl, SqL.same hS1 s2, by omega, by omega, fun n3 n30 n31 => ⟨n3, rfl, n30, n31, fun z hz => ?_⟩⟩
  exact ⟨q4m (by show 3 ≤ 1000; decide), fun p2 hp2 => q _ _ (ThP.tup (ds := [.str y, .str x, .int z]) q0g (by show 3 ≤ 200; decide) (.cons (.str _ hy) (.cons (.str _ (q6e hx)) (.cons (.int _) .nil))) (hdp z) (.cons (.str _) (.cons (.str _) (.cons (.int hz) .nil)))) ((s1.trans s2).trans (q0i hp2))⟩
theorem w0h : FnScope ["_law_script", "_law_at", "_law_number", "_law_caller"] ["_law_script", "_law_at"] (q0d q6l) := fSc
theorem z4t {f : Addr} {fd : FuncData} (F : Fun K "_law_what_by" "_law_what_by" q6l f fd) (CM : Cal P w K mg base "_law_mixed" 2 ["_law_script", "_law_k"] (q7u K)) (CN : Cal P w K mg base "_law_name_by" 1 ["_law_number"] q9d)
  (CS : Cal P w K mg base "_law_seats_by" 1 ["_law_number"] x7f) (CU : Cal P w K mg base "_law_number_by" 1 ["_law_number", "_law_least"] x2o) (CD : Cal P w K mg base "_law_deed_by" 3 ["_law_script", "_law_at"] (z0d K 900 (ThP q5j))) :
  FnOk P w K mg base CX0 4 f fd ["_law_script", "_law_at"] (z0d K 890 (ThP x0c)) := by
 refine F.ok w0h q7s (fun cdv A outer s H vs Q E hr h => ?_)
 obtain ⟨a, ns, k, rfl, hS, h0, h1, q⟩ := h
 have r1 := hr.mono (show 1 ≤ 3 by decide)
 have r2 := hr.mono (show 2 ≤ 3 by decide)
 refine ⟨_, q1d (q1c (i := 2) w0h.nd rfl (Or.inl rfl) (q0f CM r2 (q1i (pv 0) (q1i (pv 1) q0b))))
  (q1d (q1q (q0s q2a (q0l q1t (pv 2) q0a) q0a (q0q _)) (q0o (q0j (QE.h (q6g (q2u q5k))))) q0t)
  (q1d (q1q (q0s q2a (q0l q1t (pv 2) q0a) q0a (q0q _)) (q0o (q0j (QE.h (q6g (q2u (j4j (q0f CS r1 (q9r (q0l q2m (pv 2) q0a) q0b)) q5k)))))) q0t)
  (q1d (q1c (i := 3) w0h.nd rfl (Or.inl rfl) (q0f CN r1 (q7f (q0f CM r2 (q1i (pv 0) (q9r (q0l q1s (pv 1) q0a) q0b))) q0b)))
  (q0o (q0j (QE.h (q6g (q2u (j7p (pv 3) (j4j (q0f CU r1 (q7f (q0f CM r2 (q1i (pv 0) (q9r (q0l q1s (pv 1) q0a) q0b))) (q8e q0a q0b)))
   (j4j (q0f CD hr (q1i (pv 0) (q9r (q0l q1s (pv 1) q0a) q0b))) q5k)))))))))))  , ?_⟩
 refine ⟨_, rfl, _, rfl, a, ns, k, rfl, hS, h0, by omega, fun n n0 n1 => ?_⟩
 refine ⟨_, rfl, _, _, rfl, rfl, (by show (0 : Int) < 4; decide), rfl, _, rfl, x9q (fun _ => ?_) (fun _ => ?_)⟩
 ·exact ⟨q4m (by show 1 ≤ 1000; decide), fun p hp => q _ _ (ThP.tup (ds := [.str "open"]) q0g (by show 1 ≤ 200; decide) (.cons (.str _ (by decide +kernel)) .nil) (by rfl) (.cons (.str _) .nil)) (q0i hp)⟩
 refine ⟨_, rfl, _, _, rfl, rfl, (by show (0 : Int) < 4; decide), rfl, _, rfl, x9q (fun _ => ?_) (fun _ => ?_)⟩
 ·refine ⟨_, rfl, _, _, rfl, rfl, ⟨by decide, by decide⟩, n / 4, rfl, Int.ediv_nonneg n0 (by decide), fun v1 H1 t1 s1 => ⟨q4m (by show 2 ≤ 1000; decide), fun p hp => ?_⟩⟩
  have s2 := q0i (o := HO.tup [V.str "seats", v1]) hp
  obtain ⟨d1, I1, p1, g1⟩ := t1.same s2
  exact q _ _ (ThP.tup (ds := [.str "seats", d1]) q0g (by show 2 ≤ 200; decide) (.cons (.str _ (by decide +kernel)) (.cons I1 .nil)) (by show (q2z d1 && true) = true; rw [p1]; rfl) (.cons (.str _) (.cons g1 .nil))) (s1.trans s2)
 refine ⟨_, rfl, _, rfl, _, _, rfl, rfl, a, ns, k + 1, rfl, hS, by omega, by omega, fun n2 n20 n21 => ⟨n2, rfl, n20, fun x H1 hx s1 => ?_⟩⟩
 have hS1 := SqL.same hS s1
 refine ⟨_, rfl, _, rfl, _, rfl, _, _, rfl, rfl, a, ns, k + 2, rfl, hS1, by omega, by omega, fun n3 n30 n31 => ⟨n3, 1, rfl, n30, n31, by decide, by decide, fun z hz1 hz => ?_⟩⟩
 refine ⟨_, rfl, _, rfl, _, _, rfl, rfl, a, ns, k + 3, rfl, hS1, by omega, by omega, fun v H2 tv s2 => ⟨q4m (by show 4 ≤ 1000; decide), fun p hp => ?_⟩⟩
 have s3 := q0i (o := HO.tup [V.str "wish", V.str x, V.int z, v]) hp
 obtain ⟨d1, I1, p1, g1⟩ := tv.same s3
 exact q _ _ (ThP.tup (ds := [.str "wish", .str x, .int z, d1]) q0g (by show 4 ≤ 200; decide) (.cons (.str _ (by decide +kernel)) (.cons (.str _ (q6e hx)) (.cons (.int _) (.cons I1 .nil)))) (by show (q2b (.str x) && (geD 1 (.int z) && (q5j d1 && true))) = true; rw [hx, p1, q5l hz1]; rfl) (.cons (.str _) (.cons (.str _) (.cons (.int hz) (.cons g1 .nil))))) ((s1.trans s2).trans s3)
theorem w5w : FnScope ["_law_script", "_law_at"] ["_law_script", "_law_at"] (q0d q5y) := fSc
theorem z0o {f : Addr} {fd : FuncData} (F : Fun K "_law_entry_by" "_law_entry_by" q5y f fd) (CM : Cal P w K mg base "_law_mixed" 2 ["_law_script", "_law_k"] (q7u K))
  (CU : Cal P w K mg base "_law_number_by" 1 ["_law_number", "_law_least"] x2o) (CW : Cal P w K mg base "_law_what_by" 4 ["_law_script", "_law_at"] (z0d K 890 (ThP x0c))) :
  FnOk P w K mg base CX0 5 f fd ["_law_script", "_law_at"] (z0d K 880 (ThP q3m)) := by
 refine F.ok w5w q7s (fun cdv A outer s H vs Q E hr h => ?_)
 obtain ⟨a, ns, k, rfl, hS, h0, h1, q⟩ := h
 have r1 := hr.mono (show 1 ≤ 4 by decide)
 have r2 := hr.mono (show 2 ≤ 4 by decide)
 refine ⟨_, q0o (q0j (QE.h (q6g (j4j (q0f CU r1 (q7f (q0f CM r2 (q1i (pv 0) (q1i (pv 1) q0b))) (q8e q0a q0b)))
   (j4j (q0f CW hr (q1i (pv 0) (q9r (q0l q1s (pv 1) q0a) q0b))) q5k))))), ?_⟩
 refine ⟨_, rfl, _, rfl, a, ns, k, rfl, hS, by omega, by omega, fun n3 n30 n31 => ⟨n3, 1, rfl, n30, n31, by decide, by decide, fun z hz1 hz => ?_⟩⟩
 refine ⟨_, rfl, _, rfl, _, _, rfl, rfl, a, ns, k + 1, rfl, hS, by omega, by omega, fun v H2 tv s2 => ⟨q4m (by show 2 ≤ 1000; decide), fun p hp => ?_⟩⟩
 have s3 := q0i (o := HO.tup [V.int z, v]) hp
 obtain ⟨d1, I1, p1, g1⟩ := tv.same s3
 exact q _ _ (ThP.tup (ds := [.int z, d1]) q0g (by show 2 ≤ 200; decide) (.cons (.int _) (.cons I1 .nil)) (by show (geD 1 (.int z) && (x0c d1 && true)) = true; rw [p1, q5l hz1]; rfl) (.cons (.int hz) (.cons g1 .nil))) (s2.trans s3)
end
end Kz
namespace Kp
open PySem L2 PySem.Spec PyProof.Rows
theorem x9c (x : Str) : ∀ l : List Str, countIn (PyData.str x) (l.map PyData.str) = (List.count x l : Int)
 | [] => rfl
 | a :: l => by
  rw [countIn_strs_sum, List.map_cons, List.sum_cons, ← countIn_strs_sum, x9c x l, List.count_cons]
  split <;> simp <;> omega
theorem x5t : ∀ {r : List Str} {x : Str}, risingS x r = true → (∀ y ∈ r, x.cps.toList ≤ y.cps.toList) ∧ r.Pairwise fun a b : Str => a.cps.toList ≤ b.cps.toList
 | [], _, _ => ⟨fun _ h => (List.not_mem_nil h).elim, .nil⟩
 | y :: r, x, h => by
  rw [risingS, Bool.and_eq_true, Bool.not_eq_true', ltCps_eq, decide_eq_false_iff_not] at h
  obtain ⟨h1, h2⟩ := h
  obtain ⟨g1, g2⟩ := x5t h2
  have hxy : x.cps.toList ≤ y.cps.toList := List.not_lt.mp h1
  refine ⟨fun z hz => ?_, List.pairwise_cons.mpr ⟨g1, g2⟩⟩
  rcases List.mem_cons.mp hz with rfl | hz
  ·exact hxy
  ·exact List.le_trans hxy (g1 z hz)
theorem x8w : ∀ {l : List Str}, sortedS l = true → l.Pairwise fun a b : Str => a.cps.toList ≤ b.cps.toList
 | [], _ => .nil
 | _ :: _, h => let ⟨g1, g2⟩ := x5t h; List.pairwise_cons.mpr ⟨g1, g2⟩
theorem z1u {a b : Str} (h : a.cps.toList ≤ b.cps.toList) (hn : a ≠ b) : a.cps.toList < b.cps.toList := by
 by_cases hl : a.cps.toList < b.cps.toList
 ·exact hl
 ·exact (hn (x1s (List.le_antisymm h (List.not_lt.mp hl)))).elim
theorem x5z : ∀ {l : List Str}, (l.Pairwise fun a b : Str => a.cps.toList < b.cps.toList) → q8c l = true
 | [], _ => rfl
 | [_], _ => rfl
 | a :: b :: r, h => by
  rw [q8c, x5z (List.pairwise_cons.mp h).2]
  show (decide (a.cps.toList < b.cps.toList) && true) = true
  rw [decide_eq_true ((List.pairwise_cons.mp h).1 b List.mem_cons_self)]
  rfl
theorem z8e {ys ws : List Str} (hp : ys.Perm ws) (hs : ys.Pairwise fun a b : Str => a.cps.toList ≤ b.cps.toList) : q8c (ys.filter fun x => decide (V.int (List.count x ws : Int) = V.int 1)) = true := by
 apply x5z
 have hnd : (ys.filter fun x => decide (V.int (List.count x ws : Int) = V.int 1)).Nodup := by
  rw [List.nodup_iff_count]
  intro a
  by_cases ha : a ∈ ys.filter fun x => decide (V.int (List.count x ws : Int) = V.int 1)
  ·have h1 := of_decide_eq_true (List.mem_filter.mp ha).2
   have h2 : (List.count a ws : Int) = 1 := V.int.inj h1
   have h3 : List.count a (ys.filter fun x => decide (V.int (List.count x ws : Int) = V.int 1)) ≤ List.count a ys := List.filter_sublist.count_le a
   rw [hp.count_eq a] at h3
   omega
  ·rw [List.count_eq_zero_of_not_mem ha]
   decide
 exact ((hs.filter _).and hnd).imp fun h => z1u h.1 h.2
theorem j6n (l : List Str) (q : Str → Bool) : (((List.range l.length).filter fun i => q (l.getD i "")).map fun i => V.str (l.getD i "")) = (l.filter q).map V.str := by
 have e : l = (List.range l.length).map fun i => l.getD i "" := by
  apply List.ext_getElem?
  intro i
  by_cases hi : i < l.length
  ·simp [hi]
  ·rw [List.getElem?_eq_none (by omega), List.getElem?_eq_none (by simp; omega)]
 have e2 : (l.filter q).map V.str = ((((List.range l.length).map fun i => l.getD i "").filter q).map V.str) := by rw [← e]
 rw [e2, List.filter_map, List.map_map]
 rfl
section
variable {X : Cx}
theorem z0b : x4h X (.builtin "sorted") (fun xs H Q => ∃ (p : Addr) (ys : List Str), xs = [.ref p] ∧ SqL X.K H p (ys.map V.str) ∧ ys.length < 64 ∧ ∀ l (ys' : List Str), H l = none → ys'.Perm ys → (ys'.Pairwise fun a b : Str => a.cps.toList ≤ b.cps.toList) → Q (.ref l) (upd H l (.lst (ys'.map V.str)))) := by
 intro pins s σ H xs us Q I r h
 obtain ⟨p, ys, rfl, hq, h64, q⟩ := h
 obtain ⟨u, rfl, rx⟩ := x0z r
 cases rx
 obtain ⟨its, rv, pl, hz⟩ := I.list hq
 have hlen : its.length = ys.length := by rw [← rv.length, List.length_map]
 refine sorted_strs pl.isList (x6u rv) (by omega) fun out ys' h1 h2 h3 => ?_
 obtain ⟨e, he⟩ := sortedAll_at s.heap its out
 have hl : ys'.length = ys.length := h2.length_eq
 have fr : H (s.heap.objs.size + 1) = none := I.hok.fresh (Nat.le_add_right s.heap.objs.size 1)
 refine ⟨.ref _, _, I.laid (t' := s.toks) (o := .lst (ys'.map V.str)) (fun b o => sortedAll_old) (Nat.le_add_right s.heap.objs.size 1) ⟨?_, out.toList, e, x9j h1, by simpa using he⟩, rfl, q _ ys' fr h2 (x8w h3)⟩
 rw [List.length_map, sizeLine_eq]; omega
theorem z7w {K : PySem.W.Frag} (hK : X.K = K) : MtR X "list.count" (fun x xs H Q => ∃ (p : Addr) (ys : List Str) (z : Str), x = .ref p ∧ xs = [.str z] ∧ SqL K H p (ys.map V.str) ∧ Q (.int (List.count z ys : Int)) H) := by
 subst hK
 intro pins s σ H x xs v us Q I rx rv h
 obtain ⟨p, ys, z, rfl, rfl, hq, q⟩ := h
 cases rx
 obtain ⟨u, rfl, t', rfl⟩ := x0z rv
 obtain ⟨its, r1, pl, hz⟩ := I.list hq
 refine count_list_strs pl.isList (x6u r1) ?_
 rw [x9c]
 exact ⟨.int _, H, I.tok _, ⟨_, rfl⟩, q⟩
end
end Kp
namespace Kz
open PySem L2 Kp K1
noncomputable def j7q (i : Nat) : Str := ⟨#[97 + i / 26, 97 + i % 26]⟩
theorem j6f {i j : Nat} (h : i < j) : (j7q i).cps.toList < (j7q j).cps.toList := by
 show [97 + i / 26, 97 + i % 26] < [97 + j / 26, 97 + j % 26]
 by_cases e : i / 26 < j / 26
 ·exact List.Lex.rel (by omega)
 ·have e2 : i / 26 = j / 26 := by omega
  rw [e2]
  exact List.Lex.cons (List.Lex.rel (by omega))
theorem z8v {i : Nat} (h : i < 676) : q2b (.str (j7q i)) = true := by
 refine z1g (by show 1 ≤ 2; decide) (by show 2 ≤ 8; decide) ?_
 show (q3k (97 + i / 26) && (q3k (97 + i % 26) && true)) = true
 unfold q3k
 rw [decide_eq_true (show 97 ≤ 97 + i / 26 by omega), decide_eq_true (show 97 + i / 26 ≤ 122 by omega), decide_eq_true (show 97 ≤ 97 + i % 26 by omega), decide_eq_true (show 97 + i % 26 ≤ 122 by omega)]
 rfl
theorem z8r {j : Nat} (h : j < 26) : atI ("abcdefghijklmnopqrstuvwxyz" : Str).cps.toList ((j : Nat) : Int) = some (97 + j) := by
 refine q0m ?_
 rw [Array.getElem?_toList]
 exact z9s j h
section
variable {P : Program} {w : World} {K : PySem.W.Frag} {mg : Str → Option Value} {base : Heap}
noncomputable def j3o (H : Hp) (v : V) : Prop := ∃ (p : Addr) (ws : List Str), v = .ref p ∧ H p = some (.lst (ws.map V.str)) ∧ ws.length ≤ 160 ∧ (∀ x ∈ ws, q2b (.str x) = true) ∧ q8c ws = true
noncomputable def j9d (_ : Hp) (v : V) : Prop := ∃ x : Str, v = .str x ∧ q2b (.str x) = true
theorem j9d.list {H : Hp} : ∀ {ys : List V}, (∀ v ∈ ys, j9d H v) → ∃ ws : List Str, ys = ws.map V.str ∧ ∀ x ∈ ws, q2b (.str x) = true
 | [], _ => ⟨[], rfl, fun x hx => (List.not_mem_nil hx).elim⟩
 | y :: ys, h => by
  obtain ⟨x, rfl, hx⟩ := h y List.mem_cons_self
  obtain ⟨ws, rfl, hw⟩ := j9d.list (H := H) (fun v hv => h v (List.mem_cons_of_mem _ hv))
  exact ⟨x :: ws, rfl, fun z hz => by
   rcases List.mem_cons.mp hz with rfl | hz
   ·exact hx
   ·exact hw z hz⟩
theorem j7k : FnScope ["_law_script", "_law_at", "_law_number", "_law_many", "_law_letters", "_law_names"] ["_law_script", "_law_at"] (q0d q3c) := fSc
theorem z0g {f : Addr} {fd : FuncData} (F : Fun K "_law_names_by" "_law_names_by" q3c f fd) (T : Txt mg) (hso : mg "sorted" = none) (CM : Cal P w K mg base "_law_mixed" 2 ["_law_script", "_law_k"] (q7u K)) (CN : Cal P w K mg base "_law_name_by" 1 ["_law_number"] q9d) :
  FnOk P w K mg base CX0 3 f fd ["_law_script", "_law_at"] (z0d K 9000 j3o) := by
 refine F.ok j7k q7s (fun cdv A outer s H vs Q E hr h => ?_)
 obtain ⟨a, ns, k, rfl, hS, h0, h1, q⟩ := h
 have r1 := hr.mono (show 1 ≤ 2 by decide)
 refine ⟨_, @q0x _ _ _ _ _ (q1c (i := 2) j7k.nd (by rfl) (by exact Or.inl rfl) (q0f CM hr (q1i (pv 0) (q1i (pv 1) q0b))))
  (@q0x _ _ _ _ _ (q1c (i := 3) j7k.nd (by rfl) (by exact Or.inl rfl) (q0l q1t (pv 2) q0a))
  (@q0x _ _ _ _ _ (PS.weakM (t' := w2b) (q1q (q0s q2a (q0l q1t (q0l q2m (pv 2) q0a) q0a) q0a (q0q _)) (q0o (q1c (i := 3) j7k.nd (by rfl) (by exact Or.inl rfl) (q0l q1s q0a (q0l q1t (q0l q2m (pv 2) q0a) q0a)))) q0t) ?w1)
  (@q0x _ _ _ _ _ (q1q (q0s q2a (q0l q1t (q0l q2m (pv 2) q0a) q0a) q0a (q0q _)) (q1d (q1c (i := 4) j7k.nd (by rfl) (by exact Or.inr rfl) q0r)
   (q0o (q0j (q3f (NB := ["_law_k", "_law_letters"]) (n := 1) (fr := [4]) (x7j (outer := q0d q3c) (x := "_law_letters") (by rfl) (by decide +kernel) (by rfl) (by rfl) (by rfl) (by rfl)) (by rfl)
    (q8y (by rfl) T.range (q9r (q0l q1s q0a (q0l q1t (q0l q2m (pv 2) q0a) q0a)) q0b)) (fun _ _ _ _ _ => q1h (i := 0) (show (["_law_k", "_law_letters"] : List Str).Nodup by decide +kernel) (by rfl) (by exact Or.inl rfl)) (fun _ _ _ _ _ => q2t)
    (fun _ _ _ _ _ => q0l q0k (q0w x3g (pv 1) (q0l q2m (pv 0) q0a) j3x) (q0w x3g (pv 1) (q0l q1t (pv 0) q0a) j3x)))))) q0t)
  (@q0x _ _ _ _ _ (q1c (i := 5) j7k.nd (by rfl) (by exact Or.inr rfl) (q3f (NB := ["_law_k", "_law_script", "_law_at"]) (n := 1) (fr := [0, 1]) (x1p (outer := q0d q3c) (x := "_law_script") (y := "_law_at") (by rfl) (by decide +kernel) (by rfl) (by rfl) (by rfl) (by rfl) (by rfl) (by rfl) (by rfl)) (by rfl)
    (q8y (by rfl) T.range (q1i (pv 3) q0b)) (fun _ _ _ _ _ => q1h (i := 0) (show (["_law_k", "_law_script", "_law_at"] : List Str).Nodup by decide +kernel) (by rfl) (by exact Or.inl rfl)) (fun _ _ _ _ _ => q2t)
    (fun _ _ _ _ _ => q0f CN r1 (q7f (q0f CM hr (q1i (pv 1) (q9r (q0l q1s (q0l q1s (pv 2) q0a) (q0l q7x q0a (pv 0))) q0b))) q0b))))
  (@q1m _ _ _ (q0j (q3f (NB := ["_law_name_here", "_law_names"]) (n := 1) (fr := [5]) (x7j (outer := q0d q3c) (x := "_law_names") (by rfl) (by decide +kernel) (by rfl) (by rfl) (by rfl) (by rfl)) (by rfl)
    (j5n (q0p z0b (by rfl) hso PyProof.Rows.boot_sorted (q1i (pv 5) q0b))) (fun _ _ _ _ _ => q1h (i := 0) (show (["_law_name_here", "_law_names"] : List Str).Nodup by decide +kernel) (by rfl) (by exact Or.inl rfl))
    (fun _ _ _ _ _ => x3c (q0s q2a (j4e (K := K) (by rfl) PySem.F.plainAttrs_list PySem.F.slot_list_count PySem.F.type_list_count (z7w (K := K) (by rfl)) (pv 1) (q1i (pv 0) q0b)) q0a (q0q _))) (fun _ _ _ _ _ => pv 0)))))))), ?_⟩
 case w1 =>
  rintro D σ H ⟨a, at', n, m, x4, x5, rfl, hn, hm0, hm3, q⟩
  refine ⟨_, rfl, _, _, rfl, rfl, ⟨by decide, by decide⟩, _, _, rfl, rfl, (by show (0 : Int) < 16; decide), rfl, _, rfl, x9q (fun _ => ?_) (fun _ => ?_)⟩
  ·refine ⟨_, rfl, _, _, rfl, rfl, ⟨by decide, by decide⟩, _, _, rfl, rfl, (by show (0 : Int) < 30; decide), _, _, rfl, rfl, ?_⟩
   obtain ⟨e0, e1⟩ := q2w (n / 64) (m := 30) (by decide)
   exact q (10 + n / 64 % 30) (by omega) (by omega)
  ·exact q m hm0 (by omega)
 refine ⟨_, rfl, _, rfl, a, ns, k, rfl, hS, h0, by omega, fun n n0 n1 => ?_⟩
 obtain ⟨e0, e1⟩ := q2w n (m := 4) (by decide)
 refine ⟨_, rfl, _, _, rfl, rfl, (by show (0 : Int) < 4; decide), a, k, n, n % 4, none, none, rfl, n0, e0, by omega, fun m m0 m39 => ?_⟩
 refine ⟨_, rfl, _, _, rfl, rfl, ⟨by decide, by decide⟩, _, _, rfl, rfl, (by show (0 : Int) < 64; decide), rfl, _, rfl, x9q (fun _ => ?_) (fun _ => ?_)⟩
 ·
  obtain ⟨g0, g1⟩ := q2w (n / 256) (m := 120) (by decide)
  have la : ("abcdefghijklmnopqrstuvwxyz" : Str).length = 26 := by decide +kernel
  have lb : (("abcdefghijklmnopqrstuvwxyz" : Str).cps.toList).length = 26 := by rw [Array.length_toList]; exact la
  refine ⟨_, rfl, _, _, rfl, rfl, ⟨by decide, by decide⟩, _, _, rfl, rfl, (by show (0 : Int) < 120; decide), _, _, rfl, rfl, _, rfl, ?_, ?_, q2y (n := (41 + n / 256 % 120).toNat) (k := 1) (fun _ => true) (fun i => .str (j7q i)) (by rw [sizeLine_eq]; omega) (fun i H2 hi _ => hi) (fun H2 _ => Nat.le_refl _) ?_ ?_⟩
  ·omega
  ·omega
  ·intro i H2 t v H3 S hi s1 ht y hR
   obtain ⟨rfl, rfl⟩ := y
   obtain ⟨t0, rfl⟩ := q4v ht
   have hi2 : i < 676 := by omega
   have hc := z8r (j := i / 26) (by omega)
   have hd := z8r (j := i % 26) (by omega)
   rw [show (((i / 26 : Nat)) : Int) = (0 + (i : Int)) / 26 by omega] at hc
   rw [show (((i % 26 : Nat)) : Int) = (0 + (i : Int)) % 26 by omega] at hd
   refine ⟨_, rfl, _, rfl, _, _, rfl, rfl, ⟨by decide, by decide⟩, _, _, _, rfl, rfl, (by rw [la, sizeLine_eq]; decide), hc, _, rfl, _, rfl, _, _, rfl, rfl, (by show (0 : Int) < 26; decide), _, _, _, rfl, rfl, (by rw [la, sizeLine_eq]; decide), hd, _, _, rfl, rfl, (by show 2 ≤ sizeLine; rw [sizeLine_eq]; decide), ?_⟩
   exact hR [some (.int (0 + (i : Int)))] H3 rfl (q1a.refl _)
  ·intro D H' s1 hD hd
   have el : (((List.range (41 + n / 256 % 120).toNat).filter fun _ => true).map fun i => V.str (j7q i)) = ((List.range (41 + n / 256 % 120).toNat).map j7q).map V.str := by
    rw [List.filter_eq_self.mpr (fun _ _ => rfl), List.map_map]
    rfl
   rw [el] at hd
   refine q _ _ ⟨D, _, rfl, hd, by rw [List.length_map, List.length_range]; omega, fun x hx => ?_, x5z ?_⟩ s1
   ·obtain ⟨i, hi, rfl⟩ := List.mem_map.mp hx
    have := List.mem_range.mp hi
    exact z8v (by omega)
   ·rw [List.pairwise_map]
    exact List.pairwise_lt_range.imp fun h => j6f h
 ·
  refine ⟨_, rfl, m, rfl, by omega, by omega, z8q (n := m.toNat) (k := 1) j9d (fun _ _ _ _ r => r) (by rw [sizeLine_eq]; omega) (fun i H2 hi _ => hi) (fun H2 _ => Nat.le_refl _) ?_ ?_⟩
  ·intro i H2 t v H3 S hi s1 ht y hR _
   obtain ⟨rfl, rfl⟩ := y
   obtain ⟨t0, rfl⟩ := q4v ht
   refine ⟨_, rfl, _, rfl, _, _, rfl, rfl, _, rfl, _, _, rfl, rfl, .inl ⟨by decide, by decide⟩, _, _, rfl, rfl, a, ns, _, rfl, SqL.same hS s1, ?_, ?_, fun z z0 z1 => ⟨z, rfl, z0, fun x H4 hx s4 => ?_⟩⟩
   ·omega
   ·omega
   ·exact hR [some (.int (0 + (i : Int)))] H4 _ rfl s4 ⟨x, rfl, hx⟩
  ·intro D H1 ys s1 hD hd hl hR
   obtain ⟨ws, rfl, hw⟩ := j9d.list hR
   rw [List.length_map] at hl
   refine ⟨_, rfl, D, ws, rfl, SqL.of hd, by omega, fun l ys' hl' hperm hsort => ?_⟩
   have s2 := q0i (o := HO.lst (ys'.map V.str)) hl'
   have lp : ys'.length = ws.length := hperm.length_eq
   refine ⟨l, rfl, ⟨_, SqL.of q0g⟩, q2y (J := Itl K l) (n := ys'.length) (k := 1) (fun i => decide (V.int (List.count (ys'.getD i "") ws : Int) = V.int 1)) (fun i => .str (ys'.getD i "")) (by rw [sizeLine_eq]; omega) (fun i H2 hi s3 => ⟨_, .str ys'[i], SqL.of (s3 _ _ q0g), by simp [hi]⟩) (fun H2 s3 => ⟨_, SqL.of (s3 _ _ q0g), by simp⟩) ?_ ?_⟩
   ·intro i H2 t v H3 S hi s3 ht y hR1
    obtain ⟨rfl, hy⟩ := y
    obtain ⟨t0, rfl⟩ := q4v ht
    have ev := hy _ (SqL.of (s3 _ _ q0g))
    have eg : ys'.getD i "" = ys'[i] := by rw [List.getD_eq_getElem?_getD, List.getElem?_eq_getElem hi]; rfl
    rw [List.getElem?_map, List.getElem?_eq_getElem hi] at ev
    cases ev
    rw [eg] at hR1
    have hR := hR1 [some (.str ys'[i])] H3 rfl (q1a.refl _)
    refine ⟨_, rfl, .inl ⟨rfl, _, SqL.of (s3 _ _ (s2 _ _ hd))⟩, _, rfl, D, ws, _, rfl, rfl, SqL.of (s3 _ _ (s2 _ _ hd)), rfl, _, rfl, ?_⟩
    show if decide (V.int (List.count ys'[i] ws : Int) = V.int 1) = true then _ else _
    cases e : decide (V.int (List.count ys'[i] ws : Int) = V.int 1) with
    | true => rw [e] at hR; exact q1o ⟨_, rfl, hR⟩
    | false => rw [e] at hR; exact q0z hR
   ·intro D2 H' s3 hD2 hd2
    rw [j6n ys' fun x => decide (V.int (List.count x ws : Int) = V.int 1)] at hd2
    refine q _ _ ⟨D2, _, rfl, hd2, Nat.le_trans (List.length_filter_le _ _) (by omega), fun x hx => hw x (hperm.mem_iff.mp (List.mem_filter.mp hx).1), z8e hperm hsort⟩ ((s1.trans s2).trans s3)
end
end Kz
namespace Kp
open PySem L2
section
variable {X : Cx} {S : St → Hp → Prop} {es l : List Expr} {n m : Nat} {p p' : Pos} {j : Nat}
end
end Kp
namespace Kz
open PySem L2 Kp K1
theorem x3h {pr : D → Bool} {H : Hp} : ∀ {ys : List V} {ws : List Str}, ys.length = ws.length → (∀ (i : Nat) v, ys[i]? = some v → ThP (fun d => pr d && decide (q1l d = ws.getD i "")) H v) → ∃ ds, IsL 200 H ys ds ∧ ds.all pr = true ∧ ds.map q1l = ws ∧ GL6 ds
 | [], [], _, _ => ⟨[], .nil, rfl, rfl, .nil⟩
 | [], _ :: _, h, _ => by cases h
 | _ :: _, [], h, _ => by cases h
 | v :: vs, x :: ws, hl, h => by
  obtain ⟨d, I, p, g⟩ := h 0 v rfl
  obtain ⟨ds, r, ps, hw, gs⟩ := x3h (ys := vs) (ws := ws) (Nat.succ.inj hl) fun i u hu => h (i + 1) u hu
  obtain ⟨p1, p2⟩ := Bool.and_eq_true _ _ |>.mp p
  refine ⟨d :: ds, .cons I r, by rw [List.all_cons, p1, ps]; rfl, ?_, .cons g gs⟩
  rw [List.map_cons, hw, show q1l d = x from of_decide_eq_true p2]
noncomputable def St6 (i j : Int) : Prop := i = 0 ∧ j = 0 ∨ 1 ≤ i ∧ 1 ≤ j
theorem z9e {i j : Int} (h : St6 i j) (r : List D) : z0c (.tup (.int i :: .int j :: r)) = true := by
 show decide (decide (i = 0) = decide (j = 0)) = true
 rcases h with ⟨rfl, rfl⟩ | ⟨h1, h2⟩
 ·rfl
 ·rw [decide_eq_false (show ¬ i = 0 by omega), decide_eq_false (show ¬ j = 0 by omega)]
  rfl
theorem St6.ge {i j : Int} (h : St6 i j) : geD 0 (.int i) = true ∧ geD 0 (.int j) = true := by
 rcases h with ⟨rfl, rfl⟩ | ⟨h1, h2⟩
 ·exact ⟨rfl, rfl⟩
 ·exact ⟨q5l (by omega), q5l (by omega)⟩
theorem x2d {a : Int} (h : 0 ≤ a ∧ a < 9) : q0h (.int a) = true := by
 show (decide (0 ≤ a) && decide (a ≤ 8)) = true
 rw [decide_eq_true h.1, decide_eq_true (show a ≤ 8 by omega)]
 rfl
theorem j5v {a b t p l : Int} (ha : 0 ≤ a ∧ a < 9) (hb : 0 ≤ b ∧ b < 9) (hab : a ≠ b) (ht : 1 ≤ t) (hs : St6 p l) : q2p (.tup [.str "ask", .int a, .int b, .int t, .int p, .int l]) = true := by
 show ((q0h (.int a) && (q0h (.int b) && (geD 1 (.int t) && (geD 0 (.int p) && (geD 0 (.int l) && true))))) && (!decide (a = b) && (if ("ask" : Str) = "ask" ∨ ("ask" : Str) = "hand" then z0c (.tup [.int p, .int l]) else true))) = true
 rw [x2d ha, x2d hb, q5l ht, hs.ge.1, hs.ge.2, decide_eq_false hab, if_pos (.inl rfl), z9e hs]
 rfl
theorem j1p {a b t p l m : Int} {e : D} (ha : 0 ≤ a ∧ a < 9) (hb : 0 ≤ b ∧ b < 9) (hab : a ≠ b) (ht : 1 ≤ t) (hs : St6 p l) (he : q1y e = true) (hm : 0 ≤ m) : q2p (.tup [.str "hand", .int a, .int b, .int t, .int p, .int l, e, .int m]) = true := by
 show ((q0h (.int a) && (q0h (.int b) && (geD 1 (.int t) && (geD 0 (.int p) && (geD 0 (.int l) && (q1y e && (geD 0 (.int m) && true))))))) && (!decide (a = b) && (if ("hand" : Str) = "ask" ∨ ("hand" : Str) = "hand" then z0c (.tup [.int p, .int l, e, .int m]) else true))) = true
 rw [x2d ha, x2d hb, q5l ht, hs.ge.1, hs.ge.2, decide_eq_false hab, if_pos (.inr rfl), z9e hs, he, q5l hm]
 rfl
theorem z6k {a b t : Int} (c : Bool) (ha : 0 ≤ a ∧ a < 9) (hb : 0 ≤ b ∧ b < 9) (hab : a ≠ b) (ht : 1 ≤ t) : q2p (.tup [.str "voice", .int a, .int b, .int t, .bl c]) = true := by
 show ((q0h (.int a) && (q0h (.int b) && (geD 1 (.int t) && (true && true)))) && (!decide (a = b) && true)) = true
 rw [x2d ha, x2d hb, q5l ht, decide_eq_false hab]
 rfl
theorem j0j {a b t m : Int} (c : Bool) (ha : 0 ≤ a ∧ a < 9) (hb : 0 ≤ b ∧ b < 9) (hab : a ≠ b) (ht : 1 ≤ t) (hm : 0 ≤ m) : q2p (.tup [.str "held", .int a, .int b, .int t, .bl c, .int m]) = true := by
 show ((q0h (.int a) && (q0h (.int b) && (geD 1 (.int t) && (true && (geD 0 (.int m) && true))))) && (!decide (a = b) && (if ("held" : Str) = "ask" ∨ ("held" : Str) = "hand" then z0c (.tup [.bl c, .int m]) else true))) = true
 rw [x2d ha, x2d hb, q5l ht, decide_eq_false hab, q5l hm, if_neg (by decide +kernel)]
 rfl
theorem j1z {a b t i j : Int} {s st : D} (ha : 0 ≤ a ∧ a < 9) (hb : 0 ≤ b ∧ b < 9) (hab : a ≠ b) (ht : 1 ≤ t) (hi : 1 ≤ i) (hj : 1 ≤ j) (hs : q2z s = true) (hst : q3o st = true) : q2p (.tup [.str "pack", .int a, .int b, .int t, .tup [.int i, .int j, s, st]]) = true := by
 show ((q0h (.int a) && (q0h (.int b) && (geD 1 (.int t) && ((((geD 0 (.int i) && (geD 0 (.int j) && (q2z s && (q3o st && true)))) && z0c (.tup [.int i, .int j, s, st])) && decide (1 ≤ i)) && true)))) && (!decide (a = b) && true)) = true
 rw [x2d ha, x2d hb, q5l ht, decide_eq_false hab, q5l (show 0 ≤ i by omega), q5l (show 0 ≤ j by omega), hs, hst, z9e (.inr ⟨hi, hj⟩), decide_eq_true hi]
 rfl
theorem j0w {k c : Int} {x : Str} {d : D} (hx : q2b (.str x) = true) (hk : 0 ≤ k ∧ k < 9) (hc : 1 ≤ c) (hd : q5j d = true) : q2p (.tup [.str "wish", .str x, .int k, .int c, d]) = true := by
 show ((q2b (.str x) && (q0h (.int k) && (geD 1 (.int c) && (q5j d && true)))) && (true && true)) = true
 rw [hx, x2d hk, q5l hc, hd]
 rfl
theorem j2z {k c : Int} {x : Str} (v : Int) (hx : q2b (.str x) = true) (hk : 0 ≤ k ∧ k < 9) (hc : 1 ≤ c) : q2p (.tup [.str "told", .int k, .str x, .int c, .int v]) = true := by
 show ((q0h (.int k) && (q2b (.str x) && (geD 1 (.int c) && (true && true)))) && (true && true)) = true
 rw [hx, x2d hk, q5l hc]
 rfl
theorem j3k {k c : Int} {x : Str} {d : D} (hx : q2b (.str x) = true) (hk : 0 ≤ k ∧ k < 9) (hc : 1 ≤ c) (hd : q6w d = true) : q2p (.tup [.str "away", .int k, .str x, .int c, d]) = true := by
 show ((q0h (.int k) && (q2b (.str x) && (geD 1 (.int c) && (q6w d && true)))) && (true && true)) = true
 rw [hx, x2d hk, q5l hc, hd]
 rfl
section
variable {P : Program} {w : World} {K : PySem.W.Frag} {mg : Str → Option Value} {base : Heap}
theorem j6v : FnScope ["_law_script", "_law_at", "_law_names", "_law_callers"] ["_law_script", "_law_at"] (q0d q3v) := fSc
theorem nd4 : (["_law_k", "_law_name_here", "_law_script", "_law_at"] : List Str).Nodup := by decide +kernel
theorem z0p {f : Addr} {fd : FuncData} (F : Fun K "_law_store_by" "_law_store_by" q3v f fd) (T : Txt mg) (hen : mg "enumerate" = none) (CM : Cal P w K mg base "_law_mixed" 2 ["_law_script", "_law_k"] (q7u K)) (CNm : Cal P w K mg base "_law_names_by" 3 ["_law_script", "_law_at"] (z0d K 9000 j3o))
  (CV : Cal P w K mg base "_law_value_by" 2 ["_law_number"] z3h) (CU : Cal P w K mg base "_law_number_by" 1 ["_law_number", "_law_least"] x2o) : FnOk P w K mg base CX0 4 f fd ["_law_script", "_law_at"] (z0d K 8000 (ThP q3o)) := by
 refine F.ok j6v q7s (fun cdv A outer s H vs Q E hr h => ?_)
 obtain ⟨a, ns, k, rfl, hS, h0, h1, q⟩ := h
 have r1 := hr.mono (show 1 ≤ 3 by decide)
 have r2 := hr.mono (show 2 ≤ 3 by decide)
 refine ⟨_, @q0x _ _ _ _ _ (z0y (i := 2) j6v.nd (by rfl) (by exact Or.inl rfl) (NB := ["_law_k", "_law_name_here", "_law_script", "_law_at"]) (n := 2) (fr := [0, 1]) (x1p (outer := q0d q3v) (x := "_law_script") (y := "_law_at") (by rfl) (by decide +kernel) (by rfl) (by rfl) (by rfl) (by rfl) (by rfl) (by rfl) (by rfl)) (by rfl)
   (z7n (by rfl) hen (q7f (q0f CNm hr (q1i (pv 0) (q1i (pv 1) q0b))) q0b))
   (fun _ _ _ _ _ => x3n (K := K) (n := 2) (by rfl) (by rfl) (q1v (q1h (i := 0) nd4 (by rfl) (by exact Or.inl rfl)) (q1v (q1h (i := 1) nd4 (by rfl) (by exact Or.inl rfl)) q5x))) (fun _ _ _ _ _ => q2t)
   (fun _ _ _ _ _ => q2v (q1i (pv 1) (q7f (q0f CV r2 (q7f (q0f CM r2 (q1i (pv 2) (q9r (q0l q1s (q0l q1s (pv 3) q0a) (q0l q7x q0a (pv 0))) q0b))) q0b)) q0b))))
  (@q0x _ _ _ _ _ (z0y (i := 3) j6v.nd (by rfl) (by exact Or.inl rfl) (NB := ["_law_k", "_law_name_here", "_law_script", "_law_at"]) (n := 2) (fr := [0, 1]) (x1p (outer := q0d q3v) (x := "_law_script") (y := "_law_at") (by rfl) (by decide +kernel) (by rfl) (by rfl) (by rfl) (by rfl) (by rfl) (by rfl) (by rfl)) (by rfl)
   (z7n (by rfl) hen (q7f (q0f CNm hr (q1i (pv 0) (q9r (q0l q1s (pv 1) q0a) q0b))) q0b))
   (fun _ _ _ _ _ => x3n (K := K) (n := 2) (by rfl) (by rfl) (q1v (q1h (i := 0) nd4 (by rfl) (by exact Or.inl rfl)) (q1v (q1h (i := 1) nd4 (by rfl) (by exact Or.inl rfl)) q5x))) (fun _ _ _ _ _ => q2t)
   (fun _ _ _ _ _ => q2v (q1i (pv 1) (q7f (q0f CU r1 (q7f (q0f CM r2 (q1i (pv 2) (q9r (q0l q1s (q0l q1s (pv 3) q0a) (q0l q7x q0a (pv 0))) q0b))) (q8e q0a q0b)))
    (q7f (q0f CV r2 (q7f (q0f CM r2 (q1i (pv 2) (q9r (q0l q1s (q0l q1s (pv 3) q0a) (q0l q7x q0a (pv 0))) q0b))) q0b)) q0b)))))
  (@q1m _ _ _ (q0j (q2v (q7f (q4g q3z (by rfl) T.tuple q2i (q1i (pv 2) q0b)) (q7f (q4g q3z (by rfl) T.tuple q2i (q1i (pv 3) q0b)) q0b)))))), ?_⟩
 refine ⟨_, rfl, _, rfl, a, ns, k, rfl, hS, h0, by omega, fun v1 H1 t1 s1 => ?_⟩
 obtain ⟨p1, ws1, rfl, hp1, l1, w1, o1⟩ := t1
 refine ⟨p1, _, rfl, hp1, z2t (J := Ite p1) (n := ws1.length) (k := 2) (fun i H v => ThP (fun d => x0l d && decide (q1l d = ws1.getD i "")) H v) (fun _ => ThP.monoT) (by rw [sizeLine_eq]; omega) (fun i H2 hi s2 => ⟨_, .str ws1[i], s2 _ _ hp1, by simp [hi]⟩) (fun H2 s2 => ⟨_, s2 _ _ hp1, by simp⟩) ?_ ?_⟩
 ·intro i H2 t v H3 S hi s2 ht y hR
  have eg : ws1.getD i "" = ws1[i] := by rw [List.getD_eq_getElem?_getD, List.getElem?_eq_getElem hi]; rfl
  rw [eg] at hR
  have nm := w1 _ (List.getElem_mem hi)
  obtain ⟨p, x, rfl, hp, rfl, ex⟩ := y
  have ex' := ex _ (s2 _ _ hp1)
  rw [List.getElem?_map, List.getElem?_eq_getElem hi] at ex'
  cases ex'
  obtain ⟨t0, t1, rfl⟩ := x8n ht
  have s3 := q0i (o := HO.tup [V.int (i : Int), V.str ws1[i]]) hp
  refine ⟨p, _, rfl, SqT.of q0g, rfl, _, _, rfl, _, _, rfl, rfl, ?_⟩
  refine ⟨_, rfl, _, rfl, _, rfl, _, _, rfl, rfl, _, rfl, _, _, rfl, rfl, .inl ⟨by decide, by decide⟩, _, _, rfl, rfl, a, ns, _, rfl, SqL.same hS ((s1.trans s2).trans s3), ?_, ?_, fun z z0 z1 => ⟨z, rfl, z0, z1, fun y hy => ⟨q4m (by show 2 ≤ 1000; decide), fun p2 hp2 => ?_⟩⟩⟩
  ·omega
  ·omega
  ·exact hR [some (.int (i : Int)), some (.str ws1[i])] _ _ rfl (s3.trans (q0i hp2)) (ThP.tup (ds := [.str ws1[i], .int y]) q0g (by show 2 ≤ 200; decide) (.cons (.str _ (q6e nm)) (.cons (.int _) .nil)) (by show ((q2b (.str ws1[i]) && true) && decide (ws1[i] = ws1[i])) = true; rw [nm, decide_eq_true rfl]; rfl) (.cons (.str _) (.cons (.int hy) .nil)))
 ·intro D1 H2 ys1 s2 hD1 hd1 hl1 hr1
  have hS2 := SqL.same hS (s1.trans s2)
  refine ⟨_, rfl, _, rfl, _, _, rfl, rfl, a, ns, k + 6, rfl, hS2, by omega, by omega, fun v3 H3 t3 s3 => ?_⟩
  obtain ⟨p3, ws3, rfl, hp3, l3, w3, o3⟩ := t3
  have hd3 := s3 _ _ hd1
  refine ⟨p3, _, rfl, hp3, z2t (J := Ite p3) (n := ws3.length) (k := 2) (fun i H v => ThP (fun d => q4c d && decide (q1l d = ws3.getD i "")) H v) (fun _ => ThP.monoT) (by rw [sizeLine_eq]; omega) (fun i H4 hi s4 => ⟨_, .str ws3[i], s4 _ _ hp3, by simp [hi]⟩) (fun H4 s4 => ⟨_, s4 _ _ hp3, by simp⟩) ?_ ?_⟩
  ·intro i H4 t v H5 S hi s4 ht y hR
   have eg : ws3.getD i "" = ws3[i] := by rw [List.getD_eq_getElem?_getD, List.getElem?_eq_getElem hi]; rfl
   rw [eg] at hR
   have nm := w3 _ (List.getElem_mem hi)
   obtain ⟨p, x, rfl, hp, rfl, ex⟩ := y
   have ex' := ex _ (s4 _ _ hp3)
   rw [List.getElem?_map, List.getElem?_eq_getElem hi] at ex'
   cases ex'
   obtain ⟨t0, t1, rfl⟩ := x8n ht
   have s5 := q0i (o := HO.tup [V.int (i : Int), V.str ws3[i]]) hp
   have hS5 := SqL.same hS2 ((s3.trans s4).trans s5)
   refine ⟨p, _, rfl, SqT.of q0g, rfl, _, _, rfl, _, _, rfl, rfl, ?_⟩
   refine ⟨_, rfl, _, rfl, _, rfl, _, _, rfl, rfl, _, rfl, _, _, rfl, rfl, .inl ⟨by decide, by decide⟩, _, _, rfl, rfl, a, ns, _, rfl, hS5, ?_, ?_, fun z z0 z1 => ⟨z, 1, rfl, z0, z1, by decide, by decide, fun y hy1 hy => ?_⟩⟩
   ·omega
   ·omega
   refine ⟨_, rfl, _, rfl, _, _, rfl, rfl, _, rfl, _, _, rfl, rfl, .inl ⟨by decide, by decide⟩, _, _, rfl, rfl, a, ns, _, rfl, hS5, ?_, ?_, fun z z0 z1 => ⟨z, rfl, z0, z1, fun y2 hy2 => ⟨q4m (by show 3 ≤ 1000; decide), fun p2 hp2 => ?_⟩⟩⟩
   ·omega
   ·omega
   exact hR [some (.int (i : Int)), some (.str ws3[i])] _ _ rfl (s5.trans (q0i hp2)) (ThP.tup (ds := [.str ws3[i], .int y, .int y2]) q0g (by show 3 ≤ 200; decide) (.cons (.str _ (q6e nm)) (.cons (.int _) (.cons (.int _) .nil))) (by show ((q2b (.str ws3[i]) && (geD 1 (.int y) && true)) && decide (ws3[i] = ws3[i])) = true; rw [nm, q5l hy1, decide_eq_true rfl]; rfl) (.cons (.str _) (.cons (.int hy) (.cons (.int hy2) .nil))))
  ·intro D2 H4 ys2 s4 hD2 hd2 hl2 hr2
   refine ⟨_, rfl, D1, ys1, rfl, .inl ⟨SqL.of (s4 _ _ hd3), fun t1 ht1 => ?_⟩⟩
   have s5 := q0i (o := HO.tup ys1) ht1
   refine ⟨_, rfl, D2, ys2, rfl, .inl ⟨SqL.of (s5 _ _ hd2), fun t2 ht2 => ⟨q4m (by show 2 ≤ 1000; decide), fun p hp => ?_⟩⟩⟩
   have s6 := q0i (o := HO.tup ys2) ht2
   have s7 := q0i (o := HO.tup [V.ref t1, V.ref t2]) hp
   have sA := s3.trans (s4.trans (s5.trans (s6.trans s7)))
   have sB := s5.trans (s6.trans s7)
   obtain ⟨ds1, r1', a1, n1, g1⟩ := x3h (pr := x0l) (ws := ws1) hl1 fun i v hv => (hr1 i v hv).same sA
   obtain ⟨ds2, r2', a2, n2, g2⟩ := x3h (pr := q4c) (ws := ws3) hl2 fun i v hv => (hr2 i v hv).same sB
   exact q _ _ (ThP.tup (ds := [.tup ds1, .tup ds2]) q0g (by show 2 ≤ 200; decide) (.cons (.tup (s7 _ _ (s6 _ _ q0g)) (by omega) r1') (.cons (.tup (s7 _ _ q0g) (by omega) r2') .nil)) (by show ((ds1.all x0l && q8c (ds1.map q1l)) && ((ds2.all q4c && q8c (ds2.map q1l)) && true)) = true; rw [a1, n1, o1, a2, n2, o3]; rfl) (.cons (.tup g1) (.cons (.tup g2) .nil))) ((s1.trans s2).trans ((s3.trans s4).trans (s5.trans (s6.trans s7))))
noncomputable def j8x (H : Hp) (v : V) : Prop := ∃ (p : Addr) (i j : Int), v = .ref p ∧ H p = some (.tup [.int i, .int j]) ∧ St6 i j ∧ S6 i ∧ S6 j
noncomputable def x5x : Sp := fun vs H Q _ => ∃ n, vs = [.int n] ∧ 0 ≤ n ∧ n < 2147483629 ∧ ∀ v H', j8x H' v → q1a H H' → Q v H'
theorem w5p : FnScope ["_law_number"] ["_law_number"] (q0d q5z) := fSc
theorem z0r {f : Addr} {fd : FuncData} (F : Fun K "_law_stand_by" "_law_stand_by" q5z f fd) (CU : Cal P w K mg base "_law_number_by" 1 ["_law_number", "_law_least"] x2o) : FnOk P w K mg base CX0 2 f fd ["_law_number"] x5x := by
 refine F.ok w5p (fun vs H Q E ⟨_, e, _⟩ => by subst e; rfl) (fun cdv A outer s H vs Q E hr h => ?_)
 obtain ⟨n, rfl, h0, h1, q⟩ := h
 refine ⟨_, q1d (q1q (q0s q2a (q0l q1t (pv 0) q0a) q0a (q0q _)) (q0o (q0j (q2v (q8e q0a (q8e q0a q0b))))) q0t)
  (q0o (q0j (q2v (q7f (q0f CU hr (q9r (q0l q2m (pv 0) q0a) (q8e q0a q0b))) (q7f (q0f CU hr (q9r (q0l q1t (q0l q7x (q0l q2m (pv 0) q0a) q0a) q0a) (q8e q0a q0b))) q0b))))), ?_⟩
 refine ⟨_, rfl, _, _, rfl, rfl, (by show (0 : Int) < 6; decide), rfl, _, rfl, x9q (fun _ => ?_) (fun _ => ?_)⟩
 ·exact ⟨q4m (by show 2 ≤ 1000; decide), fun p hp => q _ _ ⟨p, 0, 0, rfl, q0g, .inl ⟨rfl, rfl⟩, S6.low (by decide) (by decide), S6.low (by decide) (by decide)⟩ (q0i hp)⟩
 ·obtain ⟨e0, e1⟩ := q2w (n / 7 * 48271) (m := 1000003) (by decide)
  refine ⟨_, rfl, _, _, rfl, rfl, ⟨by decide, by decide⟩, n / 6, 1, rfl, by omega, by omega, by decide, by decide, fun z hz1 hz => ?_⟩
  refine ⟨_, rfl, _, _, rfl, rfl, ⟨by decide, by decide⟩, _, _, rfl, rfl, .inr ⟨by decide, by decide⟩, _, _, rfl, rfl, (by show (0 : Int) < 1000003; decide), n / 7 * 48271 % 1000003, 1, rfl, e0, by omega, by decide, by decide, fun y hy1 hy => ⟨q4m (by show 2 ≤ 1000; decide), fun p hp => q _ _ ⟨p, z, y, rfl, q0g, .inr ⟨hz1, hy1⟩, hz, hy⟩ (q0i hp)⟩⟩
noncomputable def j3q (H : Hp) (v : V) : Prop := ∃ (p : Addr) (i j : Int) (sv st : V), v = .ref p ∧ H p = some (.tup [.int i, .int j, sv, st]) ∧ S6 i ∧ S6 j ∧ ThP q2z H sv ∧ ThP q3o H st
theorem w0j : FnScope ["_law_script", "_law_at", "_law_place", "_law_last"] ["_law_script", "_law_at"] (q0d q6k) := fSc
theorem z4w {f : Addr} {fd : FuncData} (F : Fun K "_law_pack_by" "_law_pack_by" q6k f fd) (CM : Cal P w K mg base "_law_mixed" 2 ["_law_script", "_law_k"] (q7u K)) (CD : Cal P w K mg base "_law_stand_by" 2 ["_law_number"] x5x) (CS : Cal P w K mg base "_law_seats_by" 1 ["_law_number"] x7f)
  (CT : Cal P w K mg base "_law_store_by" 4 ["_law_script", "_law_at"] (z0d K 8000 (ThP q3o))) : FnOk P w K mg base CX0 5 f fd ["_law_script", "_law_at"] (z0d K 7000 j3q) := by
 refine F.ok w0j q7s (fun cdv A outer s H vs Q E hr h => ?_)
 obtain ⟨a, ns, k, rfl, hS, h0, h1, q⟩ := h
 have r1 := hr.mono (show 1 ≤ 4 by decide)
 have r2 := hr.mono (show 2 ≤ 4 by decide)
 refine ⟨_, q1d (z3f (q0f CD r2 (q7f (q0f CM r2 (q1i (pv 0) (q1i (pv 1) q0b))) q0b)) (x3p (n := 2) rfl (q1v (q1h (i := 2) w0j.nd rfl (Or.inl rfl)) (q1v (q1h (i := 3) w0j.nd rfl (Or.inl rfl)) q5x))))
  (q0o (q0j (q2v (q1i (pv 2) (q1i (pv 3) (q7f (q0f CS r1 (q7f (q0f CM r2 (q1i (pv 0) (q9r (q0l q1s (pv 1) q0a) q0b))) q0b)) (q7f (q0f CT hr (q1i (pv 0) (q9r (q0l q1s (pv 1) q0a) q0b))) q0b))))))), ?_⟩
 refine ⟨_, rfl, _, rfl, a, ns, k, rfl, hS, h0, by omega, fun z z0 z1 => ⟨z, rfl, z0, z1, fun v1 H1 t1 s1 => ?_⟩⟩
 obtain ⟨p1, i, j, rfl, hp1, hij, hi, hj⟩ := t1
 have hS1 := SqL.same hS s1
 refine ⟨p1, _, rfl, SqT.of hp1, rfl, _, _, rfl, _, _, rfl, rfl, ?_⟩
 refine ⟨_, rfl, _, rfl, _, rfl, _, rfl, _, _, rfl, rfl, a, ns, k + 1, rfl, hS1, by omega, by omega, fun y y0 y1 => ⟨y, rfl, y0, fun v2 H2 t2 s2 => ?_⟩⟩
 have hS2 := SqL.same hS1 s2
 refine ⟨_, rfl, _, rfl, _, _, rfl, rfl, a, ns, k + 2, rfl, hS2, by omega, by omega, fun v3 H3 t3 s3 => ⟨q4m (by show 4 ≤ 1000; decide), fun p hp => ?_⟩⟩
 have s4 := q0i (o := HO.tup [V.int i, V.int j, v2, v3]) hp
 exact q _ _ ⟨p, i, j, v2, v3, rfl, q0g, hi, hj, t2.same (s3.trans s4), t3.same s4⟩ ((s1.trans s2).trans (s3.trans s4))
theorem z3o : bootBuiltins "max" = some (.builtin "max") := by decide +kernel
noncomputable def j4i (K : PySem.W.Frag) : Sp := fun vs H Q _ => ∃ (x : Str) (a : Addr) (ns : List Int) (k : Int), vs = [.str x, .ref a, .int k] ∧ (x = "ask" ∨ x = "voice" ∨ x = "held" ∨ x = "pack" ∨ x = "hand") ∧ SqL K H a (ns.map V.int) ∧ 0 ≤ k ∧ k ≤ 810 ∧ ∀ v H', ThP q2p H' v → q1a H H' → Q v H'
theorem j0d : FnScope ["_law_kind_here", "_law_script", "_law_at", "_law_number", "_law_one", "_law_other", "_law_head", "_law_place", "_law_last", "_law_more", "_law_pack_here", "_law_entries"] ["_law_kind_here", "_law_script", "_law_at"] (q0d q4a) := fSc
theorem x6m {f : Addr} {fd : FuncData} (F : Fun K "_law_between_by" "_law_between_by" q4a f fd) (T : Txt mg) (hmx : mg "max" = none) (CM : Cal P w K mg base "_law_mixed" 2 ["_law_script", "_law_k"] (q7u K)) (CU : Cal P w K mg base "_law_number_by" 1 ["_law_number", "_law_least"] x2o)
  (CD : Cal P w K mg base "_law_stand_by" 2 ["_law_number"] x5x) (CP : Cal P w K mg base "_law_pack_by" 5 ["_law_script", "_law_at"] (z0d K 7000 j3q)) (CE : Cal P w K mg base "_law_entry_by" 5 ["_law_script", "_law_at"] (z0d K 880 (ThP q3m))) : FnOk P w K mg base CX0 6 f fd ["_law_kind_here", "_law_script", "_law_at"] (j4i K) := by
 refine F.ok j0d (fun vs H Q E ⟨_, _, _, _, e, _⟩ => by subst e; rfl) (fun cdv A outer s H vs Q E hr h => ?_)
 obtain ⟨x, a, ns, k, rfl, hx, hS, h0, h1, q⟩ := h
 have r1 := hr.mono (show 1 ≤ 5 by decide)
 have r2 := hr.mono (show 2 ≤ 5 by decide)
 refine ⟨_, @q0x _ _ _ _ _ (q1c (i := 3) j0d.nd (by rfl) (by exact Or.inl rfl) (q0f CM r2 (q1i (pv 1) (q1i (pv 2) q0b))))
  (@q0x _ _ _ _ _ (q1c (i := 4) j0d.nd (by rfl) (by exact Or.inl rfl) (q0l q1t (pv 3) q0a))
  (@q0x _ _ _ _ _ (q1c (i := 5) j0d.nd (by rfl) (by exact Or.inl rfl) (q0l q1t (q0l q1s (q0l q1s (pv 4) q0a) (q0l q1t (q0l q2m (pv 3) q0a) q0a)) q0a))
  (@q0x _ _ _ _ _ (q1c (i := 6) j0d.nd (by rfl) (by exact Or.inl rfl) (q2v (q1i (pv 0) (q1i (pv 4) (q1i (pv 5) (q7f (q0f CU r1 (q7f (q0f CM r2 (q1i (pv 1) (q9r (q0l q1s (pv 2) q0a) q0b))) (q8e q0a q0b))) q0b))))))
  (@q0x _ _ _ _ _ (z3f (q0f CD r2 (q7f (q0f CM r2 (q1i (pv 1) (q9r (q0l q1s (pv 2) q0a) q0b))) q0b)) (x3p (n := 2) (by rfl) (q1v (q1h (i := 7) j0d.nd (by rfl) (by exact Or.inl rfl)) (q1v (q1h (i := 8) j0d.nd (by rfl) (by exact Or.inl rfl)) q5x))))
  (@q0x _ _ _ _ _ (q1c (i := 9) j0d.nd (by rfl) (by exact Or.inl rfl) (q0f CM r2 (q1i (pv 1) (q9r (q0l q1s (pv 2) q0a) q0b))))
  (@q0x _ _ _ _ _ (q1q (q0s q2a (pv 0) q0r (q0q _)) (q0o (q0j (q0l q8t (pv 6) (q2v (q1i (pv 7) (q1i (pv 8) q0b)))))) (q0t))
  (@q0x _ _ _ _ _ (q1q (q0s q2a (pv 0) q0r (q0q _)) (q0o (q0j (q0l q8t (pv 6) (q2v (w2o (q1r q2a (q0l q1t (pv 9) q0a) q0a (q0q _)) q0b))))) (q0t))
  (@q0x _ _ _ _ _ (q1q (q0s q2a (pv 0) q0r (q0q _)) (q0o (q0j (q0l q8t (pv 6) (q2v (w2o (q1r q2a (q0l q1t (pv 9) q0a) q0a (q0q _)) (q7f (q0f CU r1 (q9r (q0l q2m (pv 9) q0a) (q8e q0a q0b))) q0b)))))) (q0t))
  (@q0x _ _ _ _ _ (q1q (q0s q2a (pv 0) q0r (q0q _)) (q1d (q1c (i := 10) j0d.nd (by rfl) (by exact Or.inl rfl) (q0f CP hr (q1i (pv 1) (q9r (q0l q1s (pv 2) q0a) q0b)))) (q0o (q0j (q0l q8t (pv 6) (q2v (j7l (q2v (q7f (q0p (x9u (by rfl)) (by rfl) hmx z3o (q8e q0a (q4n (q0w q0n (pv 10) q0a q2q) q0b))) (q7f (q0p (x9u (by rfl)) (by rfl) hmx z3o (q8e q0a (q4n (q0w q0n (pv 10) q0a q2q) q0b))) (q4n (q0w q0n (pv 10) q0a q2q) (q4n (q0w q0n (pv 10) q0a q2q) q0b))))) q0b)))))) (q0t))
  (@q0x _ _ _ _ _ (q1c (i := 11) j0d.nd (by rfl) (by exact Or.inl rfl) (q4g q3z (by rfl) T.tuple q2i (q0c (q3f (NB := ["_law_k", "_law_script", "_law_at"]) (n := 1) (fr := [1, 2]) (x1p (outer := q0d q4a) (x := "_law_script") (y := "_law_at") (by rfl) (by decide +kernel) (by rfl) (by rfl) (by rfl) (by rfl) (by rfl) (by rfl) (by rfl)) (by rfl)
    (q8y (by rfl) T.range (q9r (q0l q1t (pv 9) q0a) q0b)) (fun _ _ _ _ _ => q1h (i := 0) (show (["_law_k", "_law_script", "_law_at"] : List Str).Nodup by decide +kernel) (by rfl) (by exact Or.inl rfl)) (fun _ _ _ _ _ => q2t)
    (fun _ _ _ _ _ => q0f CE hr (q1i (pv 1) (q9r (q0l q1s (q0l q1s (pv 2) q0a) (q0l q7x q0a (pv 0))) q0b)))) q0b)))
  (@q1m _ _ _ (q0j (q0l q8t (pv 6) (q2v (q1i (pv 7) (q1i (pv 8) (q1i (pv 11) (q7f (q0f CU r1 (q9r (q0l q2m (pv 9) q0a) (q8e q0a q0b))) q0b)))))))))))))))))), ?_⟩
 obtain ⟨a0, a1⟩ := q2w k (m := 9) (by decide)
 refine ⟨_, rfl, _, rfl, a, ns, k, rfl, hS, h0, by omega, fun n n0 n1 => ?_⟩
 refine ⟨_, rfl, _, _, rfl, rfl, (by show (0 : Int) < 9; decide), ?_⟩
 refine ⟨_, rfl, _, _, rfl, rfl, _, rfl, _, _, rfl, rfl, ⟨by decide, by decide⟩, _, _, rfl, rfl, (by show (0 : Int) < 8; decide), _, _, rfl, rfl, _, _, rfl, rfl, (by show (0 : Int) < 9; decide), ?_⟩
 obtain ⟨o1, ho1⟩ : ∃ o1, o1 = n % 9 := ⟨_, rfl⟩
 obtain ⟨o2, ho2⟩ : ∃ o2, o2 = (o1 + 1 + n / 9 % 8) % 9 := ⟨_, rfl⟩
 show z6s 5 (V.int ((n % 9 + 1 + n / 9 % 8) % 9)) ([some (V.str x), some (V.ref a), some (V.int k), some (V.int n), some (V.int (n % 9))] ++ [none, none, none, none, none, none, none]) H _
 rw [← ho1, ← ho2]
 have k1 : 0 ≤ o1 ∧ o1 < 9 := by have := q2w n (m := 9) (by decide); omega
 have k2 : 0 ≤ o2 ∧ o2 < 9 := by have := q2w (o1 + 1 + n / 9 % 8) (m := 9) (by decide); omega
 have k12 : o1 ≠ o2 := by omega
 refine ⟨_, rfl, _, rfl, _, rfl, _, rfl, _, rfl, _, _, rfl, rfl, a, ns, k + 1, rfl, hS, by omega, by omega, fun n2 n20 n21 => ⟨n2, 1, rfl, n20, n21, by decide, by decide, fun z hz1 hz => ⟨q4m (by show 4 ≤ 1000; decide), fun p hp => ?_⟩⟩⟩
 have s1 := q0i (o := HO.tup [V.str x, V.int o1, V.int o2, V.int z]) hp
 have hS1 := SqL.same hS s1
 refine ⟨_, rfl, _, rfl, _, _, rfl, rfl, a, ns, k + 2, rfl, hS1, by omega, by omega, fun n3 n30 n31 => ⟨n3, rfl, n30, n31, fun v3 H3 t3 s3 => ?_⟩⟩
 obtain ⟨p3, i3, j3, rfl, hp3, hij3, hi3, hj3⟩ := t3
 refine ⟨p3, _, rfl, SqT.of hp3, rfl, _, _, rfl, _, _, rfl, rfl, ?_⟩
 have hS3 := SqL.same hS1 s3
 refine ⟨_, rfl, _, rfl, _, _, rfl, rfl, a, ns, k + 3, rfl, hS3, by omega, by omega, fun m m0 m1 => ?_⟩
 have hd3 : H3 p = some (.tup [V.str x, V.int o1, V.int o2, V.int z]) := s3 _ _ q0g
 have s03 := s1.trans s3
 generalize hHe : upd H p (HO.tup [V.str x, V.int o1, V.int o2, V.int z]) = He at *
 have xl : x.length ≤ 200 := by rcases hx with rfl | rfl | rfl | rfl | rfl <;> decide +kernel
 have fin : ∀ (ys : List V) (ds : List D) (H4 : Hp), ys.length ≤ 12 → IsL 200 H4 ys ds → GL6 ds → q2p (.tup (.str x :: .int o1 :: .int o2 :: .int z :: ds)) = true → q1a H3 H4 → ∀ p5, H4 p5 = none → j9v (.ref p) (.ref p5) (upd H4 p5 (.tup ys)) Q := by
  intro ys ds H4 hl ty g hp4 s4 p5 h5
  have s5 := q0i (o := HO.tup ys) h5
  refine ⟨p, p5, _, ys, rfl, rfl, s5 _ _ (s4 _ _ hd3), q0g, q4m (by show 4 + ys.length ≤ 1000; omega), fun p6 H6 e6 s6 => ?_⟩
  exact q _ _ (ThP.tup (ds := .str x :: .int o1 :: .int o2 :: .int z :: ds) e6 (by rw [List.length_append]; show 4 + ys.length ≤ 200; omega) (.cons (.str _ xl) (.cons (.int _) (.cons (.int _) (.cons (.int _) (ty.same (s5.trans s6)))))) hp4 (.cons (.str _) (.cons (.int (S6.low (by omega) (by omega))) (.cons (.int (S6.low (by omega) (by omega))) (.cons (.int hz) g))))) ((s03.trans s4).trans (s5.trans s6))
 have go : ∀ {y : Str} {A B : Prop}, (x = y → A) → (x ≠ y → B) → if decide (V.str x = V.str y) = true then A else B := fun {y A B} f g => by
  by_cases e : x = y
  ·rw [if_pos (decide_eq_true (by rw [e]))]; exact f e
  ·rw [if_neg (fun z => e (V.str.inj (of_decide_eq_true z)))]; exact g e
 refine ⟨_, rfl, rfl, _, rfl, go (fun e0 => ?_) (fun e0 => ?_)⟩
 ·subst e0
  exact ⟨_, rfl, _, rfl, _, rfl, q4m (by show 2 ≤ 1000; decide), fun p5 h5 => fin _ [.int i3, .int j3] _ (by show 2 ≤ 12; decide) (.cons (.int _) (.cons (.int _) .nil)) (.cons (.int hi3) (.cons (.int hj3) .nil)) (j5v k1 k2 k12 hz1 hij3) (q1a.refl _) p5 h5⟩
 refine ⟨_, rfl, rfl, _, rfl, go (fun e1 => ?_) (fun e1 => ?_)⟩
 ·subst e1
  exact ⟨_, rfl, _, rfl, _, _, rfl, rfl, (by show (0 : Int) < 2; decide), rfl, q4m (by show 1 ≤ 1000; decide), fun p5 h5 => fin _ [.bl _] _ (by show 1 ≤ 12; decide) (.cons (.bl _) .nil) (.cons (.bl _) .nil) (z6k _ k1 k2 k12 hz1) (q1a.refl _) p5 h5⟩
 refine ⟨_, rfl, rfl, _, rfl, go (fun e2 => ?_) (fun e2 => ?_)⟩
 ·subst e2
  exact ⟨_, rfl, _, rfl, _, _, rfl, rfl, (by show (0 : Int) < 2; decide), rfl, _, rfl, _, _, rfl, rfl, ⟨by decide, by decide⟩, m / 2, 0, rfl, Int.ediv_nonneg m0 (by decide), by omega, by decide, by decide, fun z2 hz21 hz2 => ⟨q4m (by show 2 ≤ 1000; decide), fun p5 h5 => fin _ [.bl _, .int z2] _ (by show 2 ≤ 12; decide) (.cons (.bl _) (.cons (.int _) .nil)) (.cons (.bl _) (.cons (.int hz2) .nil)) (j0j _ k1 k2 k12 hz1 hz21) (q1a.refl _) p5 h5⟩⟩
 refine ⟨_, rfl, rfl, _, rfl, go (fun e3 => ?_) (fun e3 => ?_)⟩
 ·subst e3
  refine ⟨_, rfl, _, rfl, _, _, rfl, rfl, a, ns, k + 4, rfl, hS3, by omega, by omega, fun v4 H4 t4 s4 => ?_⟩
  obtain ⟨q4, i4, j4, sv, st, rfl, hq4, hi4, hj4, ts4, tt4⟩ := t4
  refine ⟨_, rfl, _, rfl, q4, _, 0, _, rfl, rfl, SqT.of hq4, q0m (j := 0) rfl, _, _, rfl, _, rfl, q4, _, 1, _, rfl, rfl, SqT.of hq4, q0m (j := 1) rfl, _, _, rfl, _, rfl, q4, _, 2, _, rfl, rfl, SqT.of hq4, q0m (j := 2) rfl, _, rfl, q4, _, 3, _, rfl, rfl, SqT.of hq4, q0m (j := 3) rfl, q4m (by show 4 ≤ 1000; decide), fun p4 h4 => ?_⟩
  refine ⟨q4m (by show 1 ≤ 1000; decide), fun p5 h5 => ?_⟩
  have s5 := q0i (H := H4) (p := p4) (o := HO.tup [V.int (if i4 > 1 then i4 else 1), V.int (if j4 > 1 then j4 else 1), sv, st]) h4
  obtain ⟨dA, IA, pA, gA⟩ := ts4.same s5
  obtain ⟨dB, IB, pB, gB⟩ := tt4.same s5
  exact fin _ [.tup [.int (if i4 > 1 then i4 else 1), .int (if j4 > 1 then j4 else 1), dA, dB]] _ (by show 1 ≤ 12; decide) (.cons (.tup q0g (by show 4 ≤ 200; decide) (.cons (.int _) (.cons (.int _) (.cons IA (.cons IB .nil))))) .nil) (.cons (.tup (.cons (.int hi4.cap) (.cons (.int hj4.cap) (.cons gA (.cons gB .nil))))) .nil) (j1z k1 k2 k12 hz1 (by split <;> omega) (by split <;> omega) pA pB) (s4.trans s5) p5 h5
 obtain rfl : x = "hand" := by
  rcases hx with h | h | h | h | h
  ·exact (e0 h).elim
  ·exact (e1 h).elim
  ·exact (e2 h).elim
  ·exact (e3 h).elim
  ·exact h
 obtain ⟨g0, g1⟩ := q2w m (m := 6) (by decide)
 refine ⟨_, rfl, _, _, rfl, rfl, (by show (0 : Int) < 6; decide), _, rfl, ?_, ?_, z8q (n := (m % 6).toNat) (k := 1) (ThP q3m) ThP.monoT (by rw [sizeLine_eq]; omega) (fun i H2 hi _ => hi) (fun H2 _ => Nat.le_refl _) ?_ ?_⟩
 ·omega
 ·omega
 ·intro i H4 t v H5 S hi s4 ht y hR _
  obtain ⟨rfl, rfl⟩ := y
  obtain ⟨t0, rfl⟩ := q4v ht
  refine ⟨_, rfl, _, rfl, _, _, rfl, rfl, _, rfl, _, _, rfl, rfl, .inl ⟨by decide, by decide⟩, _, _, rfl, rfl, a, ns, _, rfl, SqL.same hS3 s4, ?_, ?_, fun v6 H6 t6 s6 => ?_⟩
  ·omega
  ·omega
  ·exact hR [some (.int (0 + (i : Int)))] H6 _ rfl s6 t6
 ·intro D1 H4 ys s4 hD hd hl hR
  refine ⟨D1, ys, rfl, .inl ⟨SqL.of hd, fun p5 h5 => ?_⟩⟩
  have s5 := q0i (o := HO.tup ys) h5
  refine ⟨_, rfl, _, rfl, _, rfl, _, rfl, _, rfl, _, _, rfl, rfl, ⟨by decide, by decide⟩, m / 6, 0, rfl, Int.ediv_nonneg m0 (by decide), by omega, by decide, by decide, fun z2 hz21 hz2 => ⟨q4m (by show 4 ≤ 1000; decide), fun p6 h6 => ?_⟩⟩
  obtain ⟨ds, r5, a5, g5⟩ := z6e fun u hu => (hR u hu).same s5
  have hl5 : ds.length ≤ 5 := by have := r5.length; omega
  exact fin _ [.int i3, .int j3, .tup ds, .int z2] _ (by show 4 ≤ 12; decide) (.cons (.int _) (.cons (.int _) (.cons (.tup q0g (by omega) r5) (.cons (.int _) .nil)))) (.cons (.int hi3) (.cons (.int hj3) (.cons (.tup g5) (.cons (.int hz2) .nil)))) (j1p k1 k2 k12 hz1 hij3 (by show (ds.all q3m && decide (ds.length ≤ 5)) = true; rw [a5, decide_eq_true hl5]; rfl) hz21) (s4.trans s5) p6 h6
theorem j7n : FnScope ["_law_script", "_law_at", "_law_kinds", "_law_number", "_law_kind_here", "_law_caller", "_law_count"] ["_law_script", "_law_at"] (q0d q5t) := fSc
theorem x8z {f : Addr} {fd : FuncData} (F : Fun K "_law_letter_by" "_law_letter_by" q5t f fd) (CM : Cal P w K mg base "_law_mixed" 2 ["_law_script", "_law_k"] (q7u K)) (CU : Cal P w K mg base "_law_number_by" 1 ["_law_number", "_law_least"] x2o)
  (CN : Cal P w K mg base "_law_name_by" 1 ["_law_number"] q9d) (CV : Cal P w K mg base "_law_value_by" 2 ["_law_number"] z3h) (CD : Cal P w K mg base "_law_deed_by" 3 ["_law_script", "_law_at"] (z0d K 900 (ThP q5j))) (CB : Cal P w K mg base "_law_between_by" 6 ["_law_kind_here", "_law_script", "_law_at"] (j4i K)) : FnOk P w K mg base CX0 7 f fd ["_law_script", "_law_at"] (z0d K 800 (ThP q2p)) := by
 refine F.ok j7n q7s (fun cdv A outer s H vs Q E hr h => ?_)
 obtain ⟨a, ns, k, rfl, hS, h0, h1, q⟩ := h
 obtain ⟨gU, dU, GU, mU, kU, bU⟩ := CU.ex
 have r1 := hr.mono (show 1 ≤ 6 by decide)
 have r2 := hr.mono (show 2 ≤ 6 by decide)
 have r3 := hr.mono (show 3 ≤ 6 by decide)
 refine ⟨_, @w1o _ _ _ _ _ (j8q (i := 2) j7n.nd (by rfl) (by exact Or.inl rfl) (z9q (q2u (q2u (q2u (q2u (q2u (q2u (q2u (q2u q5k))))))))) w4q)
  (@q0x _ _ _ _ _ (q1c (i := 3) j7n.nd (by rfl) (by exact Or.inl rfl) (q0f CM r2 (q1i (pv 0) (q1i (pv 1) q0b))))
  (@q0x _ _ _ _ _ (q1c (i := 4) j7n.nd (by rfl) (by exact Or.inl rfl) (q0w q7v (pv 2) (q0l q1t (pv 3) q0a) j3x))
  (@q0x _ _ _ _ _ (q1q (q0s x6e (q0l q1t (pv 3) q0a) q0a (q0q _)) (q0o (q0j (q0f CB hr (q1i (pv 4) (q1i (pv 0) (q9r (q0l q1s (pv 1) q0a) q0b)))))) (q0t))
  (@q0x _ _ _ _ _ (q1c (i := 5) j7n.nd (by rfl) (by exact Or.inl rfl) (q0f CN r1 (q7f (q0f CM r2 (q1i (pv 0) (q9r (q0l q1s (pv 1) q0a) q0b))) q0b)))
  (@q0x _ _ _ _ _ (q1c (i := 6) j7n.nd (by rfl) (by exact Or.inl rfl) (q0f CU r1 (q7f (q0f CM r2 (q1i (pv 0) (q9r (q0l q1s (pv 1) q0a) q0b))) (q8e q0a q0b))))
  (@q0x _ _ _ _ _ (q1q (q0s q2a (pv 4) q0r (q0q _)) (q0o (q0j (q2v (q1i (pv 4) (q1i (pv 5) (q9r (q0l q1t (q0l q2m (pv 3) q0a) q0a) (q1i (pv 6) (q7f (q0f CD r3 (q1i (pv 0) (q9r (q0l q1s (pv 1) q0a) q0b))) q0b)))))))) (q0t))
  (@q0x _ _ _ _ _ (q1q (q0s q2a (pv 4) q0r (q0q _)) (q0o (q0j (q2v (q1i (pv 4) (q9r (q0l q1t (q0l q2m (pv 3) q0a) q0a) (q1i (pv 5) (q1i (pv 6) (q7f (q0f CV r2 (q7f (q0f CM r2 (q1i (pv 0) (q9r (q0l q1s (pv 1) q0a) q0b))) q0b)) q0b)))))))) (q0t))
  (@q1m _ _ _ (j5l (q6g (j7p (pv 4) (w4s (q0l q1t (q0l q2m (pv 3) q0a) q0a) (j7p (pv 5) (j7p (pv 6) (w2c (j8h q7v (z9q (j8r (x1b (x1b (x1b (x1b (x1b (x1b (x1b (x1b (x1b q5k))))))))))) (q0l q1t (q0l q2m (pv 3) q0a) q0a) j3x) q5k))))))))))))))), ?_⟩
 refine ⟨q4m (by show 8 ≤ 1000; decide), fun p hp => ?_⟩
 have s1 := q0i (o := HO.lst [V.str "ask", V.str "voice", V.str "hand", V.str "pack", V.str "held", V.str "wish", V.str "told", V.str "away"]) hp
 have hS1 := SqL.same hS s1
 refine ⟨_, rfl, _, rfl, a, ns, k, rfl, hS1, h0, by omega, fun n n0 n1 => ?_⟩
 obtain ⟨e0, e1⟩ := q2w n (m := 8) (by decide)
 obtain ⟨wd, hw, hm⟩ := x0r (xs := [V.str "ask", V.str "voice", V.str "hand", V.str "pack", V.str "held", V.str "wish", V.str "told", V.str "away"]) (i := n % 8) e0 (by show n % 8 < ((8 : Nat) : Int); omega)
 obtain ⟨x, rfl, hx, hx5, hx8⟩ : ∃ y : Str, wd = .str y ∧ y.length ≤ 200 ∧ (n % 8 < 5 → y = "ask" ∨ y = "voice" ∨ y = "held" ∨ y = "pack" ∨ y = "hand") ∧ (¬ n % 8 < 5 → y = "wish" ∨ y = "told" ∨ y = "away") := by
  have e8 : n % 8 = 0 ∨ n % 8 = 1 ∨ n % 8 = 2 ∨ n % 8 = 3 ∨ n % 8 = 4 ∨ n % 8 = 5 ∨ n % 8 = 6 ∨ n % 8 = 7 := by omega
  rcases e8 with e | e | e | e | e | e | e | e
  all_goals rw [e] at hw
  ·cases hw; exact ⟨"ask", rfl, by decide +kernel, fun _ => .inl rfl, fun h => absurd e (by omega)⟩
  ·cases hw; exact ⟨"voice", rfl, by decide +kernel, fun _ => .inr (.inl rfl), fun h => absurd e (by omega)⟩
  ·cases hw; exact ⟨"hand", rfl, by decide +kernel, fun _ => .inr (.inr (.inr (.inr rfl))), fun h => absurd e (by omega)⟩
  ·cases hw; exact ⟨"pack", rfl, by decide +kernel, fun _ => .inr (.inr (.inr (.inl rfl))), fun h => absurd e (by omega)⟩
  ·cases hw; exact ⟨"held", rfl, by decide +kernel, fun _ => .inr (.inr (.inl rfl)), fun h => absurd e (by omega)⟩
  ·cases hw; exact ⟨"wish", rfl, by decide +kernel, fun h => absurd e (by omega), fun _ => .inl rfl⟩
  ·cases hw; exact ⟨"told", rfl, by decide +kernel, fun h => absurd e (by omega), fun _ => .inr (.inl rfl)⟩
  ·cases hw; exact ⟨"away", rfl, by decide +kernel, fun h => absurd e (by omega), fun _ => .inr (.inr rfl)⟩
 refine ⟨_, rfl, _, rfl, _, _, rfl, rfl, (by show (0 : Int) < 8; decide), p, _, _, _, rfl, rfl, SqL.of q0g, hw, ?_⟩
 generalize hHe : upd H p (HO.lst [V.str "ask", V.str "voice", V.str "hand", V.str "pack", V.str "held", V.str "wish", V.str "told", V.str "away"]) = He at *
 refine ⟨_, rfl, _, _, rfl, rfl, (by show (0 : Int) < 8; decide), _, _, rfl, rfl, _, rfl, x9q (fun h5 => ?_) (fun h5 => ?_)⟩
 ·exact ⟨_, rfl, _, rfl, _, rfl, _, _, rfl, rfl, x, a, ns, k + 1, rfl, hx5 (of_decide_eq_true h5), hS1, by omega, by omega, fun v' H' t' s' => q v' H' t' (s1.trans s')⟩
 refine ⟨_, rfl, _, rfl, _, _, rfl, rfl, a, ns, k + 1, rfl, hS1, by omega, by omega, fun n2 n20 n21 => ⟨n2, rfl, n20, fun y H3 hy s3 => ?_⟩⟩
 have hS3 := SqL.same hS1 s3
 refine ⟨_, rfl, _, rfl, _, _, rfl, rfl, a, ns, k + 2, rfl, hS3, by omega, by omega, fun n4 n40 n41 => ⟨n4, 1, rfl, n40, n41, by decide, by decide, fun z hz1 hz => ?_⟩⟩
 have k9 : 0 ≤ n / 8 % 9 ∧ n / 8 % 9 < 9 := q2w (n / 8) (m := 9) (by decide)
 have m9 : S6 (n / 8 % 9) := S6.low (by omega) (by omega)
 have hx3 := hx8 fun h => h5 (decide_eq_true h)
 have go : ∀ {y : Str} {A B : Prop}, (x = y → A) → (x ≠ y → B) → if decide (V.str x = V.str y) = true then A else B := fun {y A B} f g => by
  by_cases e : x = y
  ·rw [if_pos (decide_eq_true (by rw [e]))]; exact f e
  ·rw [if_neg (fun z => e (V.str.inj (of_decide_eq_true z)))]; exact g e
 have fin : ∀ (ys : List V) (ds : List D) (H4 : Hp), ys.length = 5 → IsL 200 H4 ys ds → GL6 ds → q2p (.tup ds) = true → q1a H3 H4 → ys.length ≤ sizeLine ∧ ∀ p5, H4 p5 = none → Q (.ref p5) (upd H4 p5 (.tup ys)) := fun ys ds H4 hl ty g hp4 s4 => ⟨q4m (by omega), fun p5 h5 =>
  q _ _ (ThP.tup q0g (by omega) (ty.same (q0i h5)) hp4 g) ((s1.trans s3).trans (s4.trans (q0i h5)))⟩
 refine ⟨_, rfl, rfl, _, rfl, go (fun e0 => ?_) (fun e0 => ?_)⟩
 ·refine ⟨_, rfl, _, rfl, _, rfl, _, _, rfl, rfl, ⟨by decide, by decide⟩, _, _, rfl, rfl, (by show (0 : Int) < 9; decide), _, rfl, _, rfl, _, rfl, _, _, rfl, rfl, a, ns, k + 3, rfl, hS3, by omega, by omega, fun v4 H4 t4 s4 => ?_⟩
  subst e0
  obtain ⟨dA, IA, pA, gA⟩ := t4
  exact fin _ [.str "wish", .str y, .int (n / 8 % 9), .int z, dA] _ rfl (.cons (.str _ hx) (.cons (.str _ (q6e hy)) (.cons (.int _) (.cons (.int _) (.cons IA .nil))))) (.cons (.str _) (.cons (.str _) (.cons (.int m9) (.cons (.int hz) (.cons gA .nil))))) (j0w hy k9 hz1 pA) s4
 refine ⟨_, rfl, rfl, _, rfl, go (fun e1 => ?_) (fun e1 => ?_)⟩
 ·refine ⟨_, rfl, _, rfl, _, _, rfl, rfl, ⟨by decide, by decide⟩, _, _, rfl, rfl, (by show (0 : Int) < 9; decide), _, rfl, _, rfl, _, rfl, _, rfl, _, _, rfl, rfl, a, ns, k + 3, rfl, hS3, by omega, by omega, fun n5 n50 n51 => ⟨n5, rfl, n50, n51, fun z5 hz5 => ?_⟩⟩
  subst e1
  exact fin _ [.str "told", .int (n / 8 % 9), .str y, .int z, .int z5] _ rfl (.cons (.str _ hx) (.cons (.int _) (.cons (.str _ (q6e hy)) (.cons (.int _) (.cons (.int _) .nil))))) (.cons (.str _) (.cons (.int m9) (.cons (.str _) (.cons (.int hz) (.cons (.int hz5) .nil))))) (j2z _ hy k9 hz1) (q1a.refl _)
 refine ⟨_, rfl, _, rfl, _, _, rfl, rfl, ⟨by decide, by decide⟩, _, _, rfl, rfl, (by show (0 : Int) < 9; decide), _, rfl, _, rfl, ?_⟩
 refine ⟨q4m (by show 10 ≤ 1000; decide), fun p6 h6 => ?_⟩
 have s6 := q0i (o := HO.lst [V.non, V.int 0, V.int 1, V.int 2, V.int 3, V.int 4, V.int 5, V.int 6, V.int 7, V.int 8]) h6
 obtain ⟨f0, f1⟩ := q2w (n / 72) (m := 10) (by decide)
 obtain ⟨u, eu, hu⟩ := x0r (xs := [V.non, V.int 0, V.int 1, V.int 2, V.int 3, V.int 4, V.int 5, V.int 6, V.int 7, V.int 8]) (i := n / 72 % 10) f0 (by show n / 72 % 10 < ((10 : Nat) : Int); omega)
 obtain ⟨dU, IU, pU, gU⟩ : ∃ d, (∀ H, Is 200 H u d) ∧ q6w d = true ∧ G6 d := by
  simp only [List.mem_cons, List.not_mem_nil, or_false] at hu
  rcases hu with rfl | rfl | rfl | rfl | rfl | rfl | rfl | rfl | rfl | rfl
  ·exact ⟨.non, fun _ => .non, rfl, .non⟩
  all_goals exact ⟨.int _, fun _ => .int _, rfl, .int (S6.low (by decide) (by decide))⟩
 refine ⟨_, rfl, _, _, rfl, rfl, ⟨by decide, by decide⟩, _, _, rfl, rfl, (by show (0 : Int) < 10; decide), p6, _, _, u, rfl, rfl, SqL.of q0g, eu, ?_⟩
 obtain rfl : x = "away" := by
  rcases hx3 with h | h | h
  ·exact (e0 h).elim
  ·exact (e1 h).elim
  ·exact h
 exact fin _ [.str "away", .int (n / 8 % 9), .str y, .int z, dU] _ rfl (.cons (.str _ hx) (.cons (.int _) (.cons (.str _ (q6e hy)) (.cons (.int _) (.cons (IU _) .nil))))) (.cons (.str _) (.cons (.int m9) (.cons (.str _) (.cons (.int hz) (.cons gU .nil))))) (j3k hy k9 hz1 pU) s6
end
end Kz
namespace Kp
open PySem L2
theorem IsL.un {B : Nat} {H : Hp} {vs : List V} {d : D} {ds : List D} (h : IsL B H vs (d :: ds)) : ∃ v us, vs = v :: us ∧ Is B H v d ∧ IsL B H us ds := by
 cases h with | cons a b => exact ⟨_, _, rfl, a, b⟩
theorem IsL.un0 {B : Nat} {H : Hp} {vs : List V} (h : IsL B H vs []) : vs = [] := by cases h; rfl
theorem Is.vint {B : Nat} {H : Hp} {v : V} {i : Int} (h : Is B H v (.int i)) : v = .int i := by cases h; rfl
theorem Is.vbl {B : Nat} {H : Hp} {v : V} {i : Bool} (h : Is B H v (.bl i)) : v = .bl i := by cases h; rfl
theorem Is.vstr {B : Nat} {H : Hp} {v : V} {i : Str} (h : Is B H v (.str i)) : v = .str i := by cases h; rfl
theorem Is.vtup {B : Nat} {H : Hp} {v : V} {ds : List D} (h : Is B H v (.tup ds)) : ∃ a vs, v = .ref a ∧ H a = some (.tup vs) ∧ vs.length ≤ B ∧ IsL B H vs ds := by cases h with | tup e l r => exact ⟨_, _, rfl, e, l, r⟩
end Kp
namespace Kp
open PySem PySem.Builtin PySem.Builtin.Str L2
theorem z2v {x y : Str} {c : Nat} (hy : y.cps = #[c]) : Txt.startswith x y = decide ((cL x).head? = some c) := by
 obtain ⟨⟨l⟩⟩ := x
 have h1 : y.length = 1 := by show y.cps.size = 1; rw [hy]; rfl
 unfold Txt.startswith subAt
 rw [h1, hy]
 show (decide (0 + 1 ≤ l.length) && ((⟨l⟩ : Array Nat).extract 0 (0 + 1) == #[c])) = decide (l.head? = some c)
 cases l with
 | nil => simp
 | cons a r =>
  have e : ((⟨a :: r⟩ : Array Nat).extract 0 (0 + 1)) = #[a] := Array.ext' (by simp [List.extract])
  rw [e, Bool.eq_iff_iff]
  simp
theorem z5i {x : Str} (h : 1 ≤ x.length) : cL (Txt.slice x (some 1) none) = (cL x).tail := by
 have e : strSliceIndices (some 1) none 1 x.length = strSliceIndices (some ((1 : Nat) : Int)) (some ((x.length : Nat) : Int)) 1 x.length := by
  have e1 : Max.max 0 (Min.min (if (x.length : Int) < 0 then (x.length : Int) + (x.length : Int) else (x.length : Int)) (x.length : Int)) = (x.length : Int) := by rw [if_neg (by omega)]; omega
  unfold strSliceIndices sliceRange
  simp [e1]
 have hp := StrLaws.sliced_plain x h (Nat.le_refl _)
 have hl : (strSliceIndices (some 1) none 1 x.length).length = x.length - 1 := by
  rw [e, StrLaws.strSliceIndices_plain h (Nat.le_refl _)]
  simp
 unfold Txt.slice
 rw [hl, if_neg (by simp; omega), e, hp]
 show (x.cps.toList.drop 1).take (x.length - 1) = x.cps.toList.tail
 rw [List.drop_one, List.take_of_length_le (by rw [List.length_tail, Array.length_toList]; exact Nat.le_refl _)]
end Kp
namespace Kp
open PySem L2
noncomputable def x5y (c : Nat) : Bool := decide (48 ≤ c) && decide (c ≤ 57)
noncomputable def q4e (x : Str) : Str := if Txt.startswith x "-" = true then Txt.slice x (some 1) none else x
noncomputable def w1y (x : Str) : Bool := (decide (1 ≤ (q4e x).length) && decide ((q4e x).length ≤ 60)) && ((q4e x).cps.toList.all x5y && (decide (x = "0") || !Txt.startswith (q4e x) "0"))
theorem z6d : ("-" : Str).cps = #[45] := by decide +kernel
theorem z4b : ("0" : Str).cps = #[48] := by decide +kernel
theorem z6w : ∀ (m : Nat), m ≠ 0 → (q8i m).head? ≠ some 48 := by
 intro m
 induction m using Nat.strongRecOn with
 | _ m ih =>
  intro h0
  by_cases h : m < 10
  ·rw [z3g h]
   simp
   omega
  ·have h10 : 10 ≤ m := by omega
   rw [z0a h10, List.head?_append]
   have h1 := ih (m / 10) (by omega) (by omega)
   cases hd : (q8i (m / 10)).head? with
   | none => exact absurd (List.head?_eq_none_iff.mp hd) (x7g _)
   | some c => rw [hd] at h1; exact h1
theorem x5k {m c : Nat} (h : (q8i m).head? = some c) : 48 ≤ c ∧ c ≤ 57 := by
 have hm : c ∈ q8i m := List.mem_of_mem_head? h
 exact q4k m c hm
theorem z1z (n : Int) : cL (q1g n) = j0c n := rfl
theorem z2k (n : Int) : cL (q4e (q1g n)) = q8i n.natAbs := by
 unfold q4e
 rw [z2v z6d, z1z]
 by_cases hn : n < 0
 ·rw [q6d hn]
  rw [if_pos (by simp), z5i, z1z, q6d hn]
  ·rfl
  ·have : (cL (q1g n)).length = (q1g n).length := Array.length_toList
   rw [z1z, q6d hn] at this
   rw [← this]
   simp
 ·obtain ⟨m, rfl⟩ := Int.eq_ofNat_of_zero_le (show 0 ≤ n by omega)
  rw [q6j]
  have : decide ((q8i m).head? = some 45) = false := decide_eq_false fun z => by
   have := x5k z
   omega
  rw [this, if_neg Bool.false_ne_true, z1z, q6j]
  rfl
theorem z3d {n : Int} (h : n.natAbs < 10 ^ 60) : w1y (q1g n) = true := by
 have e := z2k n
 have hl : (q4e (q1g n)).length = (q8i n.natAbs).length := by rw [← e]; exact Array.length_toList.symm
 have h1 := (x1d n.natAbs (k := 60) (by decide)).mpr h
 have h0 : 1 ≤ (q8i n.natAbs).length := List.length_pos_iff.mpr (x7g _)
 have ha : (q4e (q1g n)).cps.toList.all x5y = true := by
  show (cL (q4e (q1g n))).all x5y = true
  rw [e]
  refine List.all_eq_true.mpr fun c hc => ?_
  have := q4k n.natAbs c hc
  unfold x5y
  rw [decide_eq_true this.1, decide_eq_true this.2]
  rfl
 unfold w1y
 rw [hl, decide_eq_true h0, decide_eq_true h1, ha, z2v z4b, e]
 by_cases hz : n = 0
 ·subst hz
  rw [decide_eq_true (show q1g 0 = "0" by decide +kernel)]
  rfl
 ·rw [decide_eq_false (z6w n.natAbs (by omega))]
  simp
end Kp
namespace K1
open PySem L2 Kp
theorem z7h (c : Nat) : (!decide ((⟨#[c]⟩ : Str).cps.toList < ("0" : Str).cps.toList)) = decide (48 ≤ c) := by
 have e : ("0" : Str).cps.toList = [48] := by decide +kernel
 rw [e]
 show (!decide ([c] < [48])) = _
 have : ([c] < [48]) ↔ c < 48 := by
  constructor
  ·intro h
   cases h with
   | rel h => exact h
   | cons h => cases h
  ·intro h; exact List.Lex.rel h
 rw [Bool.eq_iff_iff]
 simp only [Bool.not_eq_true', decide_eq_false_iff_not, decide_eq_true_eq, this]
 omega
theorem j6l (c : Nat) : (!decide (("9" : Str).cps.toList < (⟨#[c]⟩ : Str).cps.toList)) = decide (c ≤ 57) := by
 have e : ("9" : Str).cps.toList = [57] := by decide +kernel
 rw [e]
 show (!decide ([57] < [c])) = _
 have : ([57] < [c]) ↔ 57 < c := by
  constructor
  ·intro h
   cases h with
   | rel h => exact h
   | cons h => cases h
  ·intro h; exact List.Lex.rel h
 rw [Bool.eq_iff_iff]
 simp only [Bool.not_eq_true', decide_eq_false_iff_not, decide_eq_true_eq, this]
 omega
section
variable {P : Program} {w : World} {K : PySem.W.Frag} {mg : Str → Option Value} {base : Heap}
noncomputable def z3j : Sp := fun vs H Q _ => ∃ x : Str, vs = [.str x] ∧ x.length ≤ 100000 ∧ ∀ H', q1a H H' → Q (.bl (w1y x)) H'
noncomputable def w2a : TS := fun D σ H => ∃ x : Str, σ = [some (.str x), none] ∧ x.length ≤ 100000 ∧ ((q4e x).length ≤ x.length → D.nx [some (.str x), some (.str (q4e x))] H)
theorem PS.weak6 {X : Cx} {st : Stmt} {t t' : TS} (h : PS X st t) (w : ∀ D σ H, t' D σ H → t D σ H) : PS X st t' := fun pins s σ H D I q => h pins s σ H D I (w D σ H q)
theorem j7y : FnScope ["word", "figures"] ["word"] (q0d q4j) := fSc
theorem z0k {f : Addr} {fd : FuncData} (F : Fun K "is_number_word" "is_number_word" q4j f fd) (T : Txt mg) : FnOk P w K mg base CX0 1 f fd ["word"] z3j := by
 refine F.ok j7y (fun vs H Q E ⟨_, e, _⟩ => by subst e; rfl) (fun cdv A outer s H vs Q E hr h => ?_)
 obtain ⟨x, rfl, hx, q⟩ := h
 refine ⟨_, @q0x _ _ _ _ _ (PS.weak6 (t' := w2a) (q1c (i := 1) j7y.nd (by rfl) (by exact Or.inl rfl) (z3q (q2n (x2x PySem.F.plainAttrs_str PySem.F.slot_str_startswith PySem.F.type_str_startswith x8u (pv 0) (q8e q0r q0b))) (q9u j8y (pv 0) (x0b q0a) x4f) (pv 0))) ?w1)
  (@q0x _ _ _ _ _ (q1q (q3b (j3e x5u x5u q0a (q0p q3u (by rfl) T.len PySem.boot_len (q1i (pv 1) q0b)) q0a)) (@q1m _ _ _ (q0j x0m)) q0t)
  (@q0x _ _ _ _ _ (q1q (q3b (q2n (q0p (q9p (by rfl)) (by rfl) T.all q6y (q0c (q3f (NB := ["sign"]) (n := 1) (fr := []) (q5u (outer := q0d q4j) (by rfl) (by decide +kernel) (by rfl)) (by rfl) (z7q (pv 1))
   (fun _ _ _ _ _ => q1h (i := 0) (show (["sign"] : List Str).Nodup by decide +kernel) (by rfl) (by exact Or.inl rfl)) (fun _ _ _ _ _ => q2t) (fun _ _ _ _ _ => x1i q8s q8s q0r (pv 0) q0r)) q0b)))) (@q1m _ _ _ (q0j x0m)) q0t)
  (@q1m _ _ _ (q0j (z7c (q1r q2a (pv 0) q0r (q0q _)) (q2h (z2c (x2x PySem.F.plainAttrs_str PySem.F.slot_str_startswith PySem.F.type_str_startswith x8u (pv 1) (q8e q0r q0b))))))))), ?_⟩
 case w1 =>
  rintro D σ H ⟨x, rfl, hx, q⟩
  refine ⟨_, rfl, rfl, x, "-", rfl, rfl, _, rfl, ?_⟩
  cases hs : Txt.startswith x "-" with
  | true =>
   refine q1o ⟨_, rfl, 1, rfl, x, rfl, by rw [sizeLine_eq]; omega, fun y hy e => ?_⟩
   have e2 : q4e x = y := by unfold q4e; rw [hs, if_pos rfl, e]
   rw [e2] at q
   exact q hy
  | false =>
   have e2 : q4e x = x := by unfold q4e; rw [hs, if_neg Bool.false_ne_true]
   rw [e2] at q
   exact q0z ⟨_, rfl, q (Nat.le_refl _)⟩
 refine ⟨x, rfl, hx, fun hfl => ?_⟩
 have q0 : ∀ H', q1a H H' → Q (.bl ((decide (1 ≤ (q4e x).length) && decide ((q4e x).length ≤ 60)) && ((q4e x).cps.toList.all x5y && (decide (x = "0") || !Txt.startswith (q4e x) "0")))) H' := q
 generalize q4e x = y at hfl q0 ⊢
 refine ⟨_, rfl, y, rfl, by rw [sizeLine_eq]; omega, 1, _, rfl, rfl, _, rfl, ?_⟩
 by_cases h1 : 1 ≤ y.length
 ·rw [decide_eq_true (show (1 : Int) ≤ (y.length : Int) by omega)]
  refine q1o ⟨_, 60, rfl, rfl, _, rfl, ?_⟩
  by_cases h60 : y.length ≤ 60
  ·rw [decide_eq_true (show (y.length : Int) ≤ 60 by omega)]
   refine q0z ⟨_, rfl, y, rfl, q2y (J := Its y) (k := 1) (fun _ => true) (fun i => .bl (x5y (y.cps.getD i 0))) (show y.cps.size < sizeLine by rw [sizeLine_eq]; have : y.cps.size = y.length := rfl; omega) (fun i H hi _ => hi) (fun H _ => rfl) ?_ ?_⟩
   ·intro i H2 t v H3 R hi s1 ht z hR
    obtain ⟨rfl, c, hc, rfl⟩ := z
    obtain ⟨t0, rfl⟩ : ∃ t0, t = [t0] := by
     match t, ht with
     | [t0], _ => exact ⟨t0, rfl⟩
    have ec : y.cps.getD i 0 = c := by rw [Array.getD_eq_getD_getElem?, hc]; rfl
    have hR' := hR [some (.str ⟨#[c]⟩)] H3 rfl (q1a.refl _)
    rw [ec] at hR'
    refine ⟨_, rfl, _, _, rfl, rfl, _, rfl, ?_⟩
    rw [z7h]
    unfold x5y at hR'
    by_cases h48 : 48 ≤ c
    ·rw [decide_eq_true h48] at hR' ⊢
     refine q1o ⟨_, _, rfl, rfl, ?_⟩
     rw [j6l]
     exact hR'
    ·rw [decide_eq_false h48] at hR' ⊢
     exact q0z hR'
   ·intro D H' s1 hD hd
    refine ⟨D, (List.range y.cps.size).map fun i => x5y (y.cps.getD i 0), rfl, SqL.of ?_, ?_⟩
    ·rw [hd, List.filter_eq_self.mpr (fun _ _ => rfl), List.map_map]
     rfl
    have k2 := q0 H' s1
    rw [decide_eq_true h1, decide_eq_true h60] at k2
    rw [x9b (α := Nat)]
    refine ⟨_, rfl, ?_⟩
    cases hall : y.cps.toList.all x5y with
    | false =>
     rw [hall] at k2
     exact q1o k2
    | true =>
     rw [hall] at k2
     refine q0z ⟨_, rfl, rfl, _, rfl, ?_⟩
     by_cases hx0 : x = "0"
     ·rw [decide_eq_true (show V.str x = V.str "0" by rw [hx0])]
      rw [decide_eq_true hx0] at k2
      exact q1o k2
     ·rw [decide_eq_false (fun z => hx0 (V.str.inj z))]
      rw [decide_eq_false hx0] at k2
      exact q0z ⟨_, rfl, rfl, y, "0", rfl, rfl, _, rfl, k2⟩
  ·rw [decide_eq_false (show ¬ (y.length : Int) ≤ 60 by omega)]
   have k2 := q0 H (q1a.refl _)
   rw [decide_eq_true h1, decide_eq_false h60] at k2
   exact q1o k2
 ·rw [decide_eq_false (show ¬ (1 : Int) ≤ (y.length : Int) by omega)]
  have k2 := q0 H (q1a.refl _)
  rw [decide_eq_false h1] at k2
  exact q0z ⟨_, rfl, q1o k2⟩
end
structure WoC (K : PySem.W.Frag) (C : Addr) : Prop where
 cl : Cls K C
 a_words : x2m K C "words"
 a_passed : x2m K C "passed"
theorem lkW {v u : V} : ([("words", v), ("passed", u)] : List (Str × V)).lookup ("words" : Str) = some v := by simp [List.lookup]
theorem lkP {v u : V} : ([("words", v), ("passed", u)] : List (Str × V)).lookup ("passed" : Str) = some u := by
 have : (("passed" : Str) == "words") = false := by decide +kernel
 simp [List.lookup, this]
theorem lkA {v u : V} : ([("words", v), ("passed", u)] : List (Str × V)).lookup ("all_passed" : Str) = none := by
 have h1 : (("all_passed" : Str) == "words") = false := by decide +kernel
 have h2 : (("all_passed" : Str) == "passed") = false := by decide +kernel
 simp [List.lookup, h1, h2]
noncomputable def Wd (C a l : Addr) (ws : List Str) (p : Nat) (H : Hp) : Prop := (∃ dx, H a = some (.ins C dx [("words", .ref l), ("passed", .int (p : Int))])) ∧ H l = some (.lst (ws.map V.str))
theorem Wd.ne {C a l : Addr} {ws : List Str} {p : Nat} {H : Hp} (h : Wd C a l ws p H) : l ≠ a := fun z => by
 obtain ⟨⟨dx, e⟩, e2⟩ := h
 rw [z, e] at e2
 cases e2
section
variable {P : Program} {w : World} {K : PySem.W.Frag} {mg : Str → Option Value} {base : Heap}
noncomputable def z9k (C : Addr) : Sp := fun vs H Q _ => ∃ (x dx : Addr) (y : Str), vs = [.ref x, .str y] ∧ H x = some (.ins C dx []) ∧ y.length + 1 ≤ sizeLine ∧ ∀ l H', H l = none → Wd C x l (Txt.split y " ") 0 H' → q3e x H H' → Q .non H'
noncomputable def z6c (C : Addr) : Sp := fun vs H Q _ => ∃ (a l : Addr) (ws : List Str) (p : Nat), vs = [.ref a] ∧ Wd C a l ws p H ∧ Q (.bl (decide (p = ws.length))) H
noncomputable def q9l (C : Addr) : Sp := fun vs H Q _ => ∃ (a l : Addr) (ws : List Str) (p : Nat) (x : Str), vs = [.ref a] ∧ Wd C a l ws p H ∧ ws[p]? = some x ∧ ws.length ≤ 100000 ∧ ∀ H', Wd C a l ws (p + 1) H' → q3e a H H' → Q (.str x) H'
theorem w3q : FnScope ["self", "line"] ["self", "line"] (q0d q5s) := fSc
theorem j0z {f : Addr} {fd : FuncData} {C : Addr} (Y : WoC K C) (F : Fun K "__init__" "Words.__init__" q5s f fd) : FnOk P w K mg base CX0 1 f fd ["self", "line"] (z9k C) := by
 refine F.ok w3q (fun vs H Q E ⟨_, _, _, e, _⟩ => by subst e; rfl) (fun cdv A outer s H vs Q E hr h => ?_)
 obtain ⟨x, dx, y, rfl, hx, hy, q⟩ := h
 refine ⟨_, @q0x _ _ _ _ _ (z7k (pv 0) (x2x PySem.F.plainAttrs_str PySem.F.slot_str_split PySem.F.type_str_split j2r (pv 1) (q8e q0r q0b)) (by rfl))
  (@q1m _ _ _ (z7k (pv 0) q0a (by rfl))), ?_⟩
 refine ⟨_, rfl, rfl, y, " ", rfl, rfl, by decide +kernel, hy, fun l hl => ?_⟩
 have nx : x ≠ l := fun z => by rw [z, hl] at hx; cases hx
 refine ⟨_, rfl, x, C, dx, [], rfl, (by rw [q1b nx]; exact hx), Y.cl, Y.a_words, by decide, ?_⟩
 refine ⟨_, rfl, x, C, dx, _, rfl, q0g, Y.cl, Y.a_passed, (by show 1 < 1000; decide), ?_⟩
 refine q l _ hl ⟨⟨dx, q0g⟩, ?_⟩ (fun b o hb e => ?_)
 ·rw [q1b nx.symm, q1b nx.symm]
  exact q0g
 ·rw [q1b hb, q1b hb, q1b (fun z => by rw [z, hl] at e; cases e)]
  exact e
theorem w4o : FnScope ["self"] ["self"] (q0d q4z) := fSc
theorem j5g {f : Addr} {fd : FuncData} {C : Addr} (Y : WoC K C) (F : Fun K "all_passed" "Words.all_passed" q4z f fd) (T : Txt mg) : FnOk P w K mg base CX0 1 f fd ["self"] (z6c C) := by
 refine F.ok w4o (fun vs H Q E ⟨_, _, _, _, e, _⟩ => by subst e; rfl) (fun cdv A outer s H vs Q E hr h => ?_)
 obtain ⟨a, l, ws, p, rfl, ⟨⟨dx, ha⟩, hl⟩, q⟩ := h
 refine ⟨_, @q1m _ _ _ (q0j (q1r q2a (x9o (pv 0) (by rfl)) (q0p q0y (by rfl) T.len PySem.boot_len (q0c (x9o (pv 0) (by rfl)) q0b)) (q0q _))), ?_⟩
 refine ⟨_, rfl, a, C, dx, _, _, rfl, ha, Y.cl, Y.a_passed, lkP, _, rfl, a, C, dx, _, _, rfl, ha, Y.cl, Y.a_words, lkW, l, _, rfl, .inl (SqL.of hl), rfl, ?_⟩
 have e : decide (V.int (p : Int) = V.int ((ws.map V.str).length : Int)) = decide (p = ws.length) := by
  rw [List.length_map, Bool.eq_iff_iff, decide_eq_true_eq, decide_eq_true_eq]
  constructor
  ·intro z; have := V.int.inj z; omega
  ·intro z; rw [z]
 rw [e]
 exact q
theorem w5l : FnScope ["self"] ["self"] (q0d q8l) := fSc
theorem j2o {f fA : Addr} {fd dA : FuncData} {C : Addr} (Y : WoC K C) (F : Fun K "word" "Words.word" q8l f fd) (MA : Meth K C "all_passed" fA) (FA : FnOk P w K mg base CX0 1 fA dA ["self"] (z6c C)) (bA : q3p K dA ["self"] []) : FnOk P w K mg base CX0 2 f fd ["self"] (q9l C) := by
 refine F.ok w5l (fun vs H Q E ⟨_, _, _, _, _, e, _⟩ => by subst e; rfl) (fun cdv A outer s H vs Q E hr h => ?_)
 obtain ⟨a, l, ws, p, x, rfl, W, hx, hws, q⟩ := h
 obtain ⟨⟨dx, ha⟩, hl⟩ := id W
 have hp : p < ws.length := (List.getElem?_eq_some_iff.mp hx).1
 refine ⟨_, @q0x _ _ _ _ _ (q1q (q2n (q5v (pv 0) Y.cl MA FA hr bA .nil q6z)) q2s q0t)
  (@q0x _ _ _ _ _ (z7k (pv 0) (q0l q1s (x9o (pv 0) (by rfl)) q0a) (by rfl))
  (@q1m _ _ _ (q0j (q0w q7v (x9o (pv 0) (by rfl)) (q0l x5o (x9o (pv 0) (by rfl)) q0a) j3x)))), ?_⟩
 refine ⟨_, rfl, a, dx, _, rfl, ha, lkA, a, l, ws, p, rfl, W, _, rfl, ?_⟩
 rw [decide_eq_false (show ¬ p = ws.length by omega)]
 refine q0z ⟨_, rfl, a, C, dx, _, _, rfl, ha, Y.cl, Y.a_passed, lkP, _, _, rfl, rfl, _, rfl, a, C, dx, _, rfl, ha, Y.cl, Y.a_passed, (by show 2 < 1000; decide), ?_⟩
 have nl := W.ne
 have W' : Wd C a l ws (p + 1) (upd H a (.ins C dx [("words", .ref l), ("passed", .int ((p : Int) + 1))])) := ⟨⟨dx, q0g.trans (by rw [show ((p : Int) + 1) = ((p + 1 : Nat) : Int) by omega])⟩, by rw [q1b nl]; exact hl⟩
 obtain ⟨⟨dx', ha'⟩, hl'⟩ := id W'
 have hat : atI (ws.map V.str) (((p + 1 : Nat) : Int) - 1) = some (.str x) := by
  rw [show (((p + 1 : Nat) : Int) - 1) = (p : Int) by omega]
  exact q0m (by rw [List.getElem?_map, hx]; rfl)
 exact ⟨_, rfl, a, C, dx', _, _, rfl, ha', Y.cl, Y.a_words, lkW, _, rfl, a, C, dx', _, _, rfl, ha', Y.cl, Y.a_passed, lkP, _, _, rfl, rfl, l, _, _, _, rfl, rfl, SqL.of hl', hat, q _ W' q3e.upd⟩
noncomputable def x1l : Sp := fun vs H Q _ => ∃ B v d l, B ≤ 1000 ∧ vs = [v, .int l] ∧ Is B H v d ∧ ∀ H', q1a H H' → Q (.bl (geD l d)) H'
theorem scF : FnScope ["_law_thing", "_law_least"] ["_law_thing", "_law_least"] (q0d j7h) := fSc
theorem j4p {f : Addr} {fd : FuncData} (F : Fun K "_law_from" "_law_from" j7h f fd) (T : Txt mg) : FnOk P w K mg base CX0 1 f fd ["_law_thing", "_law_least"] x1l := by
 refine F.ok scF (fun vs H Q E ⟨_, _, _, _, _, e, _⟩ => by subst e; rfl) (fun cdv A outer s H vs Q E hr h => ?_)
 obtain ⟨B, v, d, l, hB, rfl, I, k⟩ := h
 refine ⟨_, q0o (q0j (q1z (q0p q2f rfl T.isi q2e (q0c (pv 0) (q0c (q6p rfl T.int q7r) q0b)))
  (q1z (z2c (q0p q2f rfl T.isi q2e (q0c (pv 0) (q0c (q6p rfl T.bool q7c) q0b)))) (q2h (q1r z7x (pv 0) (pv 1) (q0q _)))))), ?_⟩
 refine ⟨_, rfl, _, _, _, _, rfl, I.ty, z1p K d, _, rfl, ?_⟩
 have k0 := k H (q1a.refl _)
 cases d with
 | int i =>
  refine q1o ⟨_, rfl, _, _, _, _, rfl, I.ty, q7n K _, _, rfl, _, rfl, q1o ?_⟩
  cases I
  exact ⟨_, rfl, _, rfl, _, _, rfl, rfl, k0⟩
 | bl b => exact q1o ⟨_, rfl, _, _, _, _, rfl, I.ty, q7n K _, _, rfl, _, rfl, q0z k0⟩
 | non => exact q0z k0
 | str _ => exact q0z k0
 | tup _ => exact q0z k0
 | lst _ => exact q0z k0
theorem w5o : FnScope ["_law_thing"] ["_law_thing"] (q0d z3c) := fSc
theorem z5t (l : Array Nat) (p : Nat → Bool) : (((List.range l.size).filter fun i => p (l.getD i 0)).map fun i => V.str ⟨#[l.getD i 0]⟩) = (l.toList.filter p).map fun c => V.str ⟨#[c]⟩ := by
 have e : l.toList = (List.range l.size).map fun i => l.getD i 0 := by
  apply List.ext_getElem?
  intro i
  by_cases hi : i < l.size
  ·simp [hi]
  ·rw [List.getElem?_eq_none (by simpa using hi), List.getElem?_eq_none (by simpa using hi)]
 conv => rhs; rw [e]
 rw [List.filter_map, List.map_map]
 rfl
theorem j2q (xs : List V) : j1y xs [] = xs.isEmpty := by cases xs <;> rfl
theorem z5h (l : List Nat) : (l.map fun c => V.str ⟨#[c]⟩).all x3v = true := by
 rw [List.all_eq_true]
 intro x hx
 obtain ⟨c, _, rfl⟩ := List.mem_map.mp hx
 rfl
theorem j1d {f : Addr} {fd : FuncData} (F : Fun K "_law_name" "_law_name" z3c f fd) (T : Txt mg) : FnOk P w K mg base CX0 1 f fd ["_law_thing"] (spP q1w) := by
 refine F.ok w5o q2c (fun cdv A outer s H vs Q E hr h => ?_)
 obtain ⟨B, v, d, hB, rfl, I, k⟩ := h
 refine ⟨_, q1d (q1q (PW.pt (q7j (q3b (q2n (q0p q2f rfl T.isi q2e (q0c (pv 0) (q0c (q6p rfl T.str x3d) q0b))))) (q7j (q0s q2a (pv 0) q0r (q0q _)) (q7y (q0s z1f (q0p q3u rfl T.len PySem.boot_len (q0c (pv 0) q0b)) q0a (q0q _)))))) (q0o (q0j x0m)) q0t)
  (q0o (q0j (q1r (j3m hr.units0) (q3f (NB := ["_law_sign"]) (n := 1) (fr := []) (q5u (outer := q0d z3c) rfl (by decide +kernel) rfl) rfl (z7q (pv 0))
   (fun _ _ _ _ _ => q1h (i := 0) (show (["_law_sign"] : List Str).Nodup by decide +kernel) rfl (Or.inl rfl)) (fun _ _ _ _ _ => x3c (q0s x6e (j4e (K := K) rfl PySem.F.plainAttrs_str PySem.F.slot_str_find PySem.F.type_str_find j4q q0r (q0c (pv 0) q0b)) q0a (q0q _))) (fun _ _ _ _ _ => pv 0)) (x2l q0b) (q0q _)))), ?_⟩
 refine ⟨_, rfl, _, _, _, _, rfl, I.ty, x6t K d, _, rfl, ?_⟩
 cases d with
 | str x =>
  cases I with
  | str _ hx =>
  have k1 : ∀ H', q1a H H' → Q (.bl (if x = "" ∨ 8 < x.length then false else (x.cps.toList.filter fun c => !q3k c).isEmpty)) H' := k
  refine q0z ⟨_, rfl, rfl, _, rfl, ?_⟩
  by_cases hE : x = ""
  ·have k2 := k1 H (q1a.refl _)
   rw [if_pos (.inl hE)] at k2
   rw [decide_eq_true (show V.str x = V.str "" by rw [hE])]
   exact q1o (q1o k2)
  ·rw [decide_eq_false (show ¬ V.str x = V.str "" from fun z => hE (V.str.inj z))]
   refine q0z ⟨_, rfl, x, rfl, j3z hx hB, _, _, rfl, rfl, _, rfl, ?_⟩
   by_cases h8 : 8 < x.length
   ·have k2 := k1 H (q1a.refl _)
    rw [if_pos (.inr h8)] at k2
    rw [decide_eq_true (show (8 : Int) < (x.length : Int) by omega)]
    exact q1o k2
   ·rw [decide_eq_false (show ¬ (8 : Int) < (x.length : Int) by omega)]
    refine q0z ⟨_, rfl, x, rfl, q2y (J := Its x) (k := 1) (n := x.cps.size) (fun i => !q3k (x.cps.getD i 0)) (fun i => .str ⟨#[x.cps.getD i 0]⟩) (show x.cps.size < sizeLine by rw [sizeLine_eq]; have : x.cps.size = x.length := rfl; omega) (fun i H hi _ => hi) (fun H _ => rfl) ?_ ?_⟩
    ·intro i H2 t v H3 R hi s1 ht y hR
     obtain ⟨rfl, c, hc, rfl⟩ := y
     have ht' : ∃ t0, t = [t0] := by
      match t, ht with
      | [t0], _ => exact ⟨t0, rfl⟩
     obtain ⟨t0, rfl⟩ := ht'
     have ec : x.cps.getD i 0 = c := by rw [Array.getD_eq_getD_getElem?, hc]; rfl
     have hR' := hR [some (.str ⟨#[c]⟩)] H3 rfl (q1a.refl _)
     rw [ec] at hR'
     refine ⟨rfl, _, rfl, abc, _, rfl, rfl, _, _, rfl, rfl, _, rfl, ?_⟩
     cases hl : q3k c with
     | true =>
      rw [decide_eq_false (fun z => by have := (z2r c).mp z; rw [hl] at this; cases this)]
      rw [hl] at hR'
      exact q0z hR'
     | false =>
      rw [decide_eq_true ((z2r c).mpr hl)]
      rw [hl] at hR'
      exact q1o ⟨_, rfl, hR'⟩
    ·intro D H' s1 hD hd
     rw [z5t x.cps (fun c => !q3k c)] at hd
     refine ⟨by simp [sizeLine_eq], fun p hp => ⟨D, p, _, [], rfl, rfl, SqL.of (q0i hp _ _ hd), SqL.of q0g, z5h _, rfl, ?_⟩⟩
     have k2 := k1 _ (s1.trans (q0i (o := .lst []) hp))
     rw [if_neg (by rintro (z | z); exact hE z; exact h8 z)] at k2
     rw [j2q, List.isEmpty_map]
     exact k2
 | non => exact q1o (q1o (k H (q1a.refl _)))
 | bl _ => exact q1o (q1o (k H (q1a.refl _)))
 | int _ => exact q1o (q1o (k H (q1a.refl _)))
 | tup _ => exact q1o (q1o (k H (q1a.refl _)))
 | lst _ => exact q1o (q1o (k H (q1a.refl _)))
theorem w0f : FnScope ["_law_thing", "_law_least", "_law_one"] ["_law_thing"] (q0d z1s) := fSc
theorem j7u {l : Int} {d : D} {r : List D} (h : geD l d = false) : goL (d :: r) l = false := by
 cases d with
 | int i =>
  have h' : decide (l ≤ i) = false := h
  show ((decide (l ≤ i) && decide (i ≤ 8)) && goL r (i + 1)) = false
  rw [h']; rfl
 | _ => rfl
theorem z7e {f : Addr} {fd : FuncData} (F : Fun K "_law_seats" "_law_seats" z1s f fd) (T : Txt mg) (CF : Cal P w K mg base "_law_from" 1 ["_law_thing", "_law_least"] x1l) : FnOk P w K mg base CX0 2 f fd ["_law_thing"] (spP q4l) := by
 refine F.ok w0f q2c (fun cdv A outer s H vs Q E hr h => ?_)
 obtain ⟨B, v, d, hB, rfl, I, k⟩ := h
 refine ⟨_, q1d (q1q (PW.pt (q7j (q3b (q2n (q0p q2f rfl T.isi q2e (q0c (pv 0) (q0c (q6p rfl T.tuple q2i) q0b))))) (q7y (q0s q2a (q0p q0y rfl T.len PySem.boot_len (q0c (pv 0) q0b)) q0a (q0q _))))) (q0o (q0j x0m)) q0t)
  (q1d (q1c (i := 1) w0f.nd rfl (Or.inl rfl) q0a)
  (q1d (x9s PassesOwn.never rfl (q7a (pv 0)) (q1h (i := 2) w0f.nd rfl (Or.inl rfl))
   (q1d (q1q (PW.pt (q7j (q3b (q2n (q0f CF hr (q0c (pv 2) (q0c (pv 1) q0b))))) (q7y (q0s z1f (pv 2) q0a (q0q _))))) (q0o (q0j x0m)) q0t)
   (q0o (q1c (i := 1) w0f.nd rfl (Or.inl rfl) (q0l q1s (pv 2) q0a)))))
  (q0o (q0j x0m)))), ?_⟩
 refine ⟨_, rfl, _, _, _, _, rfl, I.ty, q8o K d, _, rfl, ?_⟩
 cases d with
 | tup ds =>
  cases I with
  | @tup a xs _ ea hl r =>
  have hlen := r.length
  have k1 : ∀ H', q1a H H' → Q (.bl (if ds.length = 0 then false else goL ds 0)) H' := k
  refine q0z ⟨_, rfl, a, xs, rfl, .inr (SqT.of ea), rfl, _, rfl, ?_⟩
  by_cases h0 : ds.length = 0
  ·have k2 := k1 H (q1a.refl _)
   rw [if_pos h0] at k2
   rw [decide_eq_true (show V.int (xs.length : Int) = V.int 0 by rw [hlen, h0]; rfl)]
   exact q1o k2
  ·rw [decide_eq_false (show ¬ V.int (xs.length : Int) = V.int 0 from fun z => h0 (by have := V.int.inj z; omega))]
   have k2 : ∀ H', q1a H H' → Q (.bl (goL ds 0)) H' := fun H' s' => by
    have := k1 H' s'
    rw [if_neg h0] at this
    exact this
   refine q0z ⟨_, rfl, a, rfl, ⟨xs, SqT.of ea⟩, x4j (K := K) (a := a) (xs := xs) (fun i σ H' => ∃ l t, σ = [some (.ref a), some (.int l), t] ∧ q1a H H' ∧ goL (ds.drop i) l = goL ds 0)
    ⟨0, none, rfl, q1a.refl _, rfl⟩ (fun i σ H' _ ⟨_, _, _, s', _⟩ => SqT.of (s' _ _ ea)) ?_ ?_⟩
   ·rintro i x σ H' hx ⟨l, t, rfl, s', e⟩
    obtain ⟨d, hd, Id⟩ := r.get hx
    have hi : i < ds.length := (List.getElem?_eq_some_iff.mp hd).1
    have edr : ds.drop i = d :: ds.drop (i + 1) := by
     rw [List.drop_eq_getElem_cons hi, (List.getElem?_eq_some_iff.mp hd).2]
    rw [edr] at e
    refine ⟨_, rfl, _, rfl, B, x, d, l, hB, rfl, Id.same s', fun H2 s2 => ⟨_, rfl, ?_⟩⟩
    cases hg : geD l d with
    | false =>
     rw [j7u hg] at e
     have k3 := k2 H2 (s'.trans s2)
     rw [← e] at k3
     exact q1o (q1o k3)
    | true =>
     obtain ⟨j, rfl⟩ : ∃ j, d = .int j := by
      cases d with
      | int j => exact ⟨j, rfl⟩
      | _ => cases hg
     cases Id
     have hj : l ≤ j := of_decide_eq_true hg
     have e' : ((decide (l ≤ j) && decide (j ≤ 8)) && goL (ds.drop (i + 1)) (j + 1)) = goL ds 0 := e
     rw [decide_eq_true hj] at e'
     refine q0z ⟨_, rfl, _, _, rfl, rfl, _, rfl, ?_⟩
     by_cases h8 : j ≤ 8
     ·rw [decide_eq_true h8] at e'
      rw [decide_eq_false (show ¬ (8 : Int) < j by omega)]
      exact q0z ⟨_, rfl, _, _, rfl, rfl, _, _, rfl, s'.trans s2, e'⟩
     ·rw [decide_eq_false h8] at e'
      rw [decide_eq_true (show (8 : Int) < j by omega)]
      have k3 := k2 H2 (s'.trans s2)
      rw [← e'] at k3
      exact q1o k3
   ·rintro σ H' ⟨l, t, rfl, s', e⟩
    rw [hlen, List.drop_length] at e
    have k3 := k2 H' s'
    rw [← e] at k3
    exact k3
 | non => exact q1o (q1o (k H (q1a.refl _)))
 | bl _ => exact q1o (q1o (k H (q1a.refl _)))
 | int _ => exact q1o (q1o (k H (q1a.refl _)))
 | str _ => exact q1o (q1o (k H (q1a.refl _)))
 | lst _ => exact q1o (q1o (k H (q1a.refl _)))
theorem w3v : FnScope ["thing"] ["thing"] (q0d q7q) := fSc
theorem z2d {l : Int} {d : D} (h : whole d = false) : geD l d = false := by
 cases d with
 | int i => cases h
 | _ => rfl
theorem z1c {f : Addr} {fd : FuncData} (F : Fun K "is_from_one" "is_from_one" q7q f fd) (T : Txt mg) (CW : Cal P w K mg base "is_whole" 1 ["thing"] (spP whole)) : FnOk P w K mg base CX0 2 f fd ["thing"] (spP (geD 1)) := by
 refine F.ok w3v q2c (fun cdv A outer s H vs Q E hr h => ?_)
 obtain ⟨B, v, d, hB, rfl, I, k⟩ := h
 refine ⟨_, q0o (q0j (q1z (q0f CW hr (q0c (pv 0) q0b)) (q2h (q1r z7x (pv 0) q0a (q0q _))))), ?_⟩
 refine ⟨_, rfl, B, v, d, hB, rfl, I, fun H' s' => ⟨_, rfl, ?_⟩⟩
 have k0 := k H' s'
 cases e : whole d with
 | false => rw [z2d e] at k0; exact q0z k0
 | true =>
  obtain ⟨i, rfl⟩ := x4e e
  cases I
  exact q1o ⟨_, rfl, _, _, rfl, rfl, k0⟩
noncomputable def q6x (P : Program) (w : World) (K : PySem.W.Frag) (mg : Str → Option Value) (base : Heap) (kk : Nat) : Sp := fun vs H Q _ => ∃ B v d t gs ps, B ≤ 1000 ∧ vs = [v, .ref t] ∧ Is B H v d ∧ SqT K H t gs ∧ Tls P w K mg base kk gs ps ∧ gs.length ≤ 1000 ∧ ∀ H', q1a H H' → Q (.bl (q9x ps d)) H'
theorem w4n : FnScope ["thing", "tellers"] ["thing", "tellers"] (q0d z3a) := fSc
theorem SqT.same {H H' : Hp} {a : Addr} {xs : List V} (h : SqT K H a xs) (s : q1a H H') : SqT K H' a xs := by
 rcases h with h | h
 ·exact .inl (h.elim (fun e => .inl (s _ _ e)) fun ⟨o, e⟩ => .inr ⟨o, s _ _ e⟩)
 ·exact .inr h
theorem x2a {f : Addr} {fd : FuncData} {kk : Nat} (F : Fun K "fits" "fits" z3a f fd) (T : Txt mg) : FnOk P w K mg base CX0 (kk + 1) f fd ["thing", "tellers"] (q6x P w K mg base kk) := by
 refine F.ok w4n (fun vs H Q E ⟨_, _, _, _, _, _, _, e, _⟩ => by subst e; rfl) (fun cdv A outer s H vs Q E hr h => ?_)
 obtain ⟨B, v, d, t, gs, ps, hB, rfl, I, hS, hT, hg, k⟩ := h
 refine ⟨_, q1d (q1q (PW.pt (q7j (q3b (q2n (q0p q2f rfl T.isi q2e (q0c (pv 0) (q0c (q6p rfl T.tuple q2i) q0b))))) (q7y (q0s j1x (q0p q0y rfl T.len PySem.boot_len (q0c (pv 0) q0b)) (q0p q0y rfl T.len PySem.boot_len (q0c (pv 1) q0b)) (q0q _))))) (q0o (q0j x0m)) q0t)
  (q0o (q0j (q0p (q9p rfl) rfl T.all q6y (q0c (q3f (NB := ["teller", "part"]) (n := 2) (fr := []) (q5u (outer := q0d z3a) rfl (by decide +kernel) rfl) rfl
   (z6x (t1 := true) (t2 := true) rfl T.zip (q0c (pv 1) (q0c (pv 0) q0b)))
   (fun _ _ _ _ _ => x3n (K := K) (n := 2) rfl rfl (q1v (q1h (i := 0) (show (["teller", "part"] : List Str).Nodup by decide +kernel) rfl (Or.inl rfl)) (q1v (q1h (i := 1) (show (["teller", "part"] : List Str).Nodup by decide +kernel) rfl (Or.inl rfl)) q5x))) (fun _ _ _ _ _ => q2t)
   (fun _ _ _ _ _ => j0v (P := P) (w := w) (K := K) (mg := mg) (base := base) (k := kk) rfl rfl rfl rfl rfl hr q6z (pv 0) (q0c (pv 1) q0b))) q0b)))), ?_⟩
 refine ⟨_, rfl, _, _, _, _, rfl, I.ty, q8o K d, _, rfl, ?_⟩
 have hlt := hT.length
 cases d with
 | tup ds =>
  cases I with
  | @tup a xs _ ea hl r =>
  have hlen := r.length
  have k1 : ∀ H', q1a H H' → Q (.bl (q0v ps ds)) H' := k
  refine q0z ⟨_, rfl, a, xs, rfl, .inr (SqT.of ea), _, rfl, t, gs, rfl, .inr hS, rfl, _, rfl, ?_⟩
  by_cases hne : ds.length = ps.length
  ·rw [show (!decide (V.int (xs.length : Int) = V.int (gs.length : Int))) = false by rw [hlen, hne, hlt]; simp]
   refine q0z ⟨_, rfl, _, rfl, t, a, gs, xs, rfl, hS, SqT.of ea, q2y (J := Itz K true true t a) (k := 2) (n := ps.length) (fun _ => true) (fun i => .bl ((ps.getD i fun _ => true) (ds.getD i .non))) (by rw [sizeLine_eq]; omega) ?_ ?_ ?_ ?_⟩
   ·intro i H2 hi s1
    have i1 : i < gs.length := by omega
    have i2 : i < xs.length := by omega
    exact ⟨gs, xs, gs[i], xs[i], SqT.same hS s1, SqT.of (s1 _ _ ea), by simp [i1], by simp [i2]⟩
   ·intro H2 s1
    exact ⟨gs, xs, SqT.same hS s1, SqT.of (s1 _ _ ea), .inl (by omega)⟩
   ·intro i H2 tt v H3 R hi s1 ht y hR
    obtain ⟨q, x, y, rfl, hq, rfl, e1, e2⟩ := y
    have e1' := e1 _ (SqT.same hS s1)
    have e2' := e2 _ (SqT.of (s1 _ _ ea))
    obtain ⟨g, p, rfl, hp, Tg⟩ := hT.get e1'
    obtain ⟨di, hdi, Ii⟩ := r.get e2'
    have ht' : ∃ t0 t1, tt = [t0, t1] := by
     match tt, ht with
     | [t0, t1], _ => exact ⟨t0, t1, rfl⟩
    obtain ⟨t0, t1, rfl⟩ := ht'
    refine ⟨q, _, rfl, SqT.of q0g, rfl, _, _, rfl, _, _, rfl, rfl, ⟨_, rfl, g, p, rfl, Tg, _, rfl, B, y, di, hB, rfl, (Ii.same s1).same (q0i hq), fun H' s2 => ?_⟩⟩
    have hR' := hR [some (.ref g), some y] H' rfl ((q0i (o := .tup [.ref g, y]) hq).trans s2)
    have g1 : (ps.getD i fun _ => true) = p := by rw [List.getD_eq_getElem?_getD, hp]; rfl
    have g2 : ds.getD i .non = di := by rw [List.getD_eq_getElem?_getD, hdi]; rfl
    rw [g1, g2] at hR'
    exact hR'
   ·intro D H' s1 hD hd
    refine ⟨D, (List.range ps.length).map fun i => (ps.getD i fun _ => true) (ds.getD i .non), rfl, SqL.of ?_, ?_⟩
    ·rw [hd, List.filter_eq_self.mpr (fun _ _ => rfl), List.map_map]
     rfl
    ·rw [x4q hne]
     exact k1 H' s1
  ·rw [show (!decide (V.int (xs.length : Int) = V.int (gs.length : Int))) = true by rw [decide_eq_false (fun z => hne (by have := V.int.inj z; omega))]; rfl]
   have k2 := k1 H (q1a.refl _)
   rw [x1j hne] at k2
   exact q1o k2
 | non => exact q1o (q1o (k H (q1a.refl _)))
 | bl _ => exact q1o (q1o (k H (q1a.refl _)))
 | int _ => exact q1o (q1o (k H (q1a.refl _)))
 | str _ => exact q1o (q1o (k H (q1a.refl _)))
 | lst _ => exact q1o (q1o (k H (q1a.refl _)))
theorem _root_.Kp.Cal.tl {name : Str} {k kk : Nat} {px : Str} {p : D → Bool} {g : Addr} (C : Cal P w K mg base name k [px] (spP p)) (hm : mg name = some (.ref g)) (hk : k ≤ kk) : Tl P w K mg base kk g p := by
 obtain ⟨f, fd, F, m, kp, b⟩ := C.ex
 rw [hm] at m
 cases m
 exact ⟨k, fd, px, hk, F, kp, b⟩
theorem _root_.Kp.Cal.at {name : Str} {k : Nat} {px : Str} {p : D → Bool} (C : Cal P w K mg base name k [px] (spP p)) : ∃ g, mg name = some (.ref g) ∧ ∀ kk, k ≤ kk → Tl P w K mg base kk g p := by
 obtain ⟨f, fd, F, m, kp, b⟩ := id C.ex
 exact ⟨f, m, fun kk h => C.tl m h⟩
theorem _root_.Kp.IsL.at {B : Nat} {H : Hp} : ∀ {vs ds} {i : Nat} {d : D}, IsL B H vs ds → ds[i]? = some d → ∃ v, atI vs (i : Int) = some v ∧ Is B H v d := by
 intro vs ds i d r h
 have hi : i < ds.length := (List.getElem?_eq_some_iff.mp h).1
 have hi' : i < vs.length := by rw [r.length]; exact hi
 obtain ⟨d', h', I⟩ := r.get (i := i) (v := vs[i]) (by simp [hi'])
 rw [h] at h'
 cases h'
 exact ⟨vs[i], q0m (by simp [hi']), I⟩
theorem x6g {B : Nat} {H : Hp} {vs : List V} {ds : List D} (r : IsL B H vs ds) (n : Nat) : decide (V.int (vs.length : Int) = V.int (n : Int)) = decide (ds.length = n) := by
 rw [r.length, Bool.eq_iff_iff]
 simp only [decide_eq_true_eq]
 constructor
 ·intro h; have := V.int.inj h; omega
 ·intro h; rw [h]
theorem w6b : FnScope ["_law_thing"] ["_law_thing"] (q0d x1w) := fSc
theorem j9r {f : Addr} {fd : FuncData} (F : Fun K "_law_any" "_law_any" x1w f fd) (T : Txt mg) : FnOk P w K mg base CX0 1 f fd ["_law_thing"] (spP whole) := by
 refine F.ok w6b q2c (fun cdv A outer s H vs Q E hr h => ?_)
 obtain ⟨B, v, d, hB, rfl, I, k⟩ := h
 refine ⟨_, q0o (q0j (q1z (q0p q2f rfl T.isi q2e (q0c (pv 0) (q0c (q6p rfl T.int q7r) q0b)))
  (q2h (z2c (q0p q2f rfl T.isi q2e (q0c (pv 0) (q0c (q6p rfl T.bool q7c) q0b))))))), ?_⟩
 refine ⟨_, rfl, _, _, _, _, rfl, I.ty, z1p K d, _, rfl, ?_⟩
 have k0 := k H (q1a.refl _)
 unfold whole at k0
 cases e : isInt d with
 | false => rw [e] at k0; exact q0z k0
 | true =>
  rw [e] at k0
  exact q1o ⟨_, rfl, _, _, _, _, rfl, I.ty, q7n K d, _, rfl, k0⟩
noncomputable def x2s (n : Int) : D → Bool
 | .tup ds => decide ((ds.length : Int) = n)
 | _ => false
noncomputable def x3l : Sp := fun vs H Q _ => ∃ B v d n, B ≤ 1000 ∧ vs = [v, .int n] ∧ Is B H v d ∧ Q (.bl (x2s n d)) H
theorem w5t : FnScope ["_law_thing", "_law_size"] ["_law_thing", "_law_size"] (q0d q9f) := fSc
theorem j1m {f : Addr} {fd : FuncData} (F : Fun K "_law_sized" "_law_sized" q9f f fd) (T : Txt mg) : FnOk P w K mg base CX0 1 f fd ["_law_thing", "_law_size"] x3l := by
 refine F.ok w5t (fun vs H Q E ⟨_, _, _, _, _, e, _⟩ => by subst e; rfl) (fun cdv A outer s H vs Q E hr h => ?_)
 obtain ⟨B, v, d, n, hB, rfl, I, k⟩ := h
 refine ⟨_, q0o (q0j (q1z (q0p q2f rfl T.isi q2e (q0c (pv 0) (q0c (q6p rfl T.tuple q2i) q0b))) (q2h (q1r q2a (q0p q0y rfl T.len PySem.boot_len (q0c (pv 0) q0b)) (pv 1) (q0q _))))), ?_⟩
 refine ⟨_, rfl, _, _, _, _, rfl, I.ty, q8o K d, _, rfl, ?_⟩
 cases d with
 | tup ds =>
  cases I with
  | @tup a xs _ ea hl r =>
  have e : decide (V.int (xs.length : Int) = V.int n) = decide ((ds.length : Int) = n) := by
   rw [r.length, Bool.eq_iff_iff]
   simp only [decide_eq_true_eq]
   exact ⟨fun h => V.int.inj h, fun h => by rw [h]⟩
  have k' : Q (.bl (decide ((ds.length : Int) = n))) H := k
  rw [← e] at k'
  exact q1o ⟨_, rfl, a, xs, rfl, .inr (SqT.of ea), _, rfl, rfl, k'⟩
 | non => exact q0z k
 | bl _ => exact q0z k
 | int _ => exact q0z k
 | str _ => exact q0z k
 | lst _ => exact q0z k
noncomputable def q9y : Sp := fun vs H Q _ => ∃ B v d, B ≤ 1000 ∧ vs = [v] ∧ Is B H v d ∧ Q (.str (q1l d)) H
theorem w3z : FnScope ["thing"] ["thing"] (q0d q8k) := fSc
theorem x5j {d : D} {r : List D} (h : z9o d = false) : q1l (.tup (d :: r)) = "" := by
 cases d with
 | str x => cases h
 | _ => rfl
theorem x9f {d : D} (h : z9o d = true) : ∃ x, d = .str x := by
 cases d with
 | str x => exact ⟨x, rfl⟩
 | _ => cases h
theorem x7p {f : Addr} {fd : FuncData} (F : Fun K "first_word" "first_word" q8k f fd) (T : Txt mg) : FnOk P w K mg base CX0 1 f fd ["thing"] q9y := by
 refine F.ok w3z (fun vs H Q E ⟨_, _, _, _, e, _⟩ => by subst e; rfl) (fun cdv A outer s H vs Q E hr h => ?_)
 obtain ⟨B, v, d, hB, rfl, I, k⟩ := h
 refine ⟨_, q1d (q1q (PW.pt (x5g (q2n (q0p q2f rfl T.isi q2e (q0c (pv 0) (q0c (q6p rfl T.tuple q2i) q0b)))) (x5g (q0s z7x (q0p q0y rfl T.len PySem.boot_len (q0c (pv 0) q0b)) q0a (q0q _)) (x6l (q2n (q0p q2f rfl T.isi q2e (q0c (q0w q0n (pv 0) q0a (fun _ _ => rfl)) (q0c (q6p rfl T.str x3d) q0b)))))))) (q0o (q0j (q0w q0n (pv 0) q0a (fun _ _ => rfl)))) q0t)
  (q0o (q0j q0r)), ?_⟩
 refine ⟨_, rfl, _, _, _, _, rfl, I.ty, q8o K d, _, rfl, ?_⟩
 cases d with
 | tup ds =>
  cases I with
  | @tup a xs _ ea hl r =>
  refine q1o ⟨_, rfl, a, xs, rfl, .inr (SqT.of ea), _, _, rfl, rfl, _, rfl, ?_⟩
  cases r with
  | nil => exact q0z (q0z k)
  | @cons x d0 xs0 ds0 Ix It =>
   rw [decide_eq_true (show (1 : Int) ≤ (((x :: xs0).length : Nat) : Int) by simp; omega)]
   refine q1o ⟨_, rfl, a, _, 0, x, rfl, rfl, SqT.of ea, q0m (j := 0) rfl, _, _, _, _, rfl, Ix.ty, x6t K d0, _, rfl, ?_⟩
   cases hs : z9o d0 with
   | false =>
    rw [x5j hs] at k
    exact q0z k
   | true =>
    obtain ⟨y, rfl⟩ := x9f hs
    cases Ix
    exact q1o ⟨_, rfl, a, _, 0, _, rfl, rfl, SqT.of ea, q0m (j := 0) rfl, k⟩
 | non => exact q0z (q0z k)
 | bl _ => exact q0z (q0z k)
 | int _ => exact q0z (q0z k)
 | str _ => exact q0z (q0z k)
 | lst _ => exact q0z (q0z k)
noncomputable def z1j (P : Program) (w : World) (K : PySem.W.Frag) (mg : Str → Option Value) (base : Heap) (kk : Nat) : Sp := fun vs H Q _ => ∃ B v d tv, B ≤ 1000 ∧ vs = [v, tv] ∧ Is B H v d ∧
 ((tv = .non ∧ Q (.bl false) H) ∨ ∃ t gs ps d0 ds, tv = .ref t ∧ d = .tup (d0 :: ds) ∧ SqT K H t gs ∧ Tls P w K mg base kk gs ps ∧ gs.length ≤ 1000 ∧ ∀ H', q1a H H' → Q (.bl (q0v ps ds)) H')
theorem w3o : FnScope ["thing", "tellers"] ["thing", "tellers"] (q0d q5a) := fSc
theorem x7m (x : V) (xs : List V) : z0f (x :: xs) (some 1) none = xs := by
 unfold z0f
 have e1 : HT.sIx (x :: xs).length 0 (some 1) = 1 := by
  have := HT.sIx_nat (x :: xs).length 0 1
  rw [show ((1 : Nat) : Int) = 1 from rfl] at this
  rw [this, List.length_cons]
  omega
 rw [e1, HT.sIx_none, List.take_of_length_le (by simp)]
 rfl
theorem z5u {f : Addr} {fd : FuncData} {kk : Nat} (F : Fun K "fits_behind_word" "fits_behind_word" q5a f fd) (T : Txt mg) (CF : Cal P w K mg base "fits" (kk + 1) ["thing", "tellers"] (q6x P w K mg base kk)) :
  FnOk P w K mg base CX0 (kk + 2) f fd ["thing", "tellers"] (z1j P w K mg base kk) := by
 refine F.ok w3o (fun vs H Q E ⟨_, _, _, _, _, e, _⟩ => by subst e; rfl) (fun cdv A outer s H vs Q E hr h => ?_)
 obtain ⟨B, v, d, tv, hB, rfl, I, hw⟩ := h
 refine ⟨_, q0o (q0j (q1z (q1r j6a (pv 1) x2r (q0q _)) (q2h (q0f CF hr (q0c (q9u z8p (pv 0) (x0b q0a) x4f) (q0c (pv 1) q0b)))))), ?_⟩
 rcases hw with ⟨rfl, k⟩ | ⟨t, gs, ps, d0, ds, rfl, rfl, hS, hT, hg, k⟩
 ·exact ⟨_, rfl, rfl, _, rfl, q0z k⟩
 ·cases I with
  | @tup a xs _ ea hl r =>
  cases r with
  | @cons x _ xs0 _ Ix It =>
  refine ⟨_, rfl, rfl, _, rfl, q1o ⟨_, rfl, 1, rfl, a, _, rfl, SqT.of ea, fun z => ?_, fun p hp => ?_⟩⟩
  ·have z1 := z.1
   have e := HT.sIx_nat (x :: xs0).length 0 1
   rw [show ((1 : Nat) : Int) = 1 from rfl] at e
   rw [e, List.length_cons] at z1
   omega
  ·rw [x7m]
   have s1 := q0i (o := HO.tup xs0) hp
   exact ⟨_, rfl, B, .ref p, .tup ds, t, gs, ps, hB, rfl, .tup q0g (by simp at hl; omega) (It.same s1), SqT.same hS s1, hT, hg, fun H' s2 => k H' (s1.trans s2)⟩
theorem w4y : FnScope ["_law_thing"] ["_law_thing"] (q0d x0d) := fSc
theorem j6e {f : Addr} {fd : FuncData} (F : Fun K "_law_kind" "_law_kind" x0d f fd) (T : Txt mg) : FnOk P w K mg base CX0 1 f fd ["_law_thing"] q9y := by
 refine F.ok w4y (fun vs H Q E ⟨_, _, _, _, e, _⟩ => by subst e; rfl) (fun cdv A outer s H vs Q E hr h => ?_)
 obtain ⟨B, v, d, hB, rfl, I, k⟩ := h
 refine ⟨_, q1d (q1q (PW.pt (x5g (q2n (q0p q2f rfl T.isi q2e (q0c (pv 0) (q0c (q6p rfl T.tuple q2i) q0b)))) (x5g (q0s z1f (q0p q0y rfl T.len PySem.boot_len (q0c (pv 0) q0b)) q0a (q0q _)) (x6l (q2n (q0p q2f rfl T.isi q2e (q0c (q0w q0n (pv 0) q0a (fun _ _ => rfl)) (q0c (q6p rfl T.str x3d) q0b)))))))) (q0o (q0j (q0w q0n (pv 0) q0a (fun _ _ => rfl)))) q0t)
  (q0o (q0j q0r)), ?_⟩
 refine ⟨_, rfl, _, _, _, _, rfl, I.ty, q8o K d, _, rfl, ?_⟩
 cases d with
 | tup ds =>
  cases I with
  | @tup a xs _ ea hl r =>
  refine q1o ⟨_, rfl, a, xs, rfl, .inr (SqT.of ea), _, _, rfl, rfl, _, rfl, ?_⟩
  cases r with
  | nil => exact q0z (q0z k)
  | @cons x d0 xs0 ds0 Ix It =>
   rw [decide_eq_true (show (0 : Int) < (((x :: xs0).length : Nat) : Int) by simp)]
   refine q1o ⟨_, rfl, a, _, 0, x, rfl, rfl, SqT.of ea, q0m (j := 0) rfl, _, _, _, _, rfl, Ix.ty, x6t K d0, _, rfl, ?_⟩
   cases hs : z9o d0 with
   | false =>
    rw [x5j hs] at k
    exact q0z k
   | true =>
    obtain ⟨y, rfl⟩ := x9f hs
    cases Ix
    exact q1o ⟨_, rfl, a, _, 0, _, rfl, rfl, SqT.of ea, q0m (j := 0) rfl, k⟩
 | non => exact q0z (q0z k)
 | bl _ => exact q0z (q0z k)
 | int _ => exact q0z (q0z k)
 | str _ => exact q0z (q0z k)
 | lst _ => exact q0z (q0z k)
theorem w4p : FnScope ["_law_thing"] ["_law_thing"] (q0d x0y) := fSc
theorem j2n {f : Addr} {fd : FuncData} (F : Fun K "_law_deed" "_law_deed" x0y f fd) (T : Txt mg) (CK : Cal P w K mg base "_law_kind" 1 ["_law_thing"] q9y) (CN : Cal P w K mg base "_law_name" 1 ["_law_thing"] (spP q1w)) (CA : Cal P w K mg base "_law_any" 1 ["_law_thing"] (spP whole)) :
  FnOk P w K mg base CX0 2 f fd ["_law_thing"] (spP q6a) := by
 refine F.ok w4p q2c (fun cdv A outer s H vs Q E hr h => ?_)
 obtain ⟨B, v, d, hB, rfl, I, k⟩ := h
 refine ⟨_, q1d (q1q (q0s q2a (q0f CK hr (q1i (pv 0) q0b)) q0r (q0q _))
   (q0o (q0j (q1z (q1r q2a (q0p q0y rfl T.len PySem.boot_len (q1i (pv 0) q0b)) q0a (q0q _)) (q2h (q0f CN hr (q4n (q0w q0n (pv 0) q0a q2q) q0b)))))) q0t)
  (q0o (q0j (q1z (q1r x9i (q0f CK hr (q1i (pv 0) q0b)) (QE.h (q6g (q2u (q2u q5k)))) rfl) (q1z (q1r q2a (q0p q0y rfl T.len PySem.boot_len (q1i (pv 0) q0b)) q0a (q0q _))
   (q1z (q0f CN hr (q4n (q0w q0n (pv 0) q0a q2q) q0b)) (q2h (q0f CA hr (q4n (q0w q0n (pv 0) q0a q2q) q0b)))))))), ?_⟩
 refine ⟨_, rfl, B, v, d, hB, rfl, I, rfl, _, rfl, ?_⟩
 by_cases hg : q1l d = "get"
 ·rw [decide_eq_true (show V.str (q1l d) = V.str "get" by rw [hg])]
  obtain ⟨r, rfl⟩ := q6c hg (by decide +kernel)
  cases I with
  | @tup a xs _ ea hl rr =>
  refine q1o ⟨_, rfl, a, xs, rfl, .inr (SqT.of ea), rfl, _, rfl, ?_⟩
  have e := x6g rr 2
  show if decide (V.int (xs.length : Int) = V.int ((2 : Nat) : Int)) = true then _ else _
  have kr : ∀ H', q1a H H' → Q (.bl (one q1w r)) H' := fun H' s' => by
   have := k H' s'
   rw [z8h] at this
   exact this
  rw [e]
  clear k hg e
  match r, kr, rr with
  | [], kr, rr => exact q0z (kr H (q1a.refl _))
  | [y], kr, rr =>
   obtain ⟨v1, e1, I1⟩ := rr.at (i := 1) rfl
   exact q1o ⟨_, rfl, a, xs, 1, v1, rfl, rfl, SqT.of ea, e1, B, v1, y, hB, rfl, I1, kr⟩
  | y :: y2 :: t, kr, rr =>
   rw [decide_eq_false (show ¬ (D.str "get" :: y :: y2 :: t).length = 2 by simp)]
   exact q0z (kr H (q1a.refl _))
 ·rw [decide_eq_false (show ¬ V.str (q1l d) = V.str "get" from fun z => hg (V.str.inj z))]
  refine q0z ⟨_, rfl, B, v, d, hB, rfl, I, q4m (by show 2 ≤ 1000; decide), fun p hp => ⟨p, _, rfl, .inr (SqT.of q0g), rfl, rfl, _, rfl, ?_⟩⟩
  have s1 := q0i (o := HO.tup [V.str "set", V.str "add"]) hp
  have ein : inV (V.str (q1l d)) [V.str "set", V.str "add"] = decide (q1l d = "set" ∨ q1l d = "add") := by
   show (decide (("set" : Str) = q1l d) || (decide (("add" : Str) = q1l d) || false)) = _
   rw [Bool.eq_iff_iff]
   simp only [Bool.or_eq_true, decide_eq_true_eq, Bool.false_eq_true, or_false]
   exact ⟨fun h => h.imp Eq.symm Eq.symm, fun h => h.imp Eq.symm Eq.symm⟩
  show if inV (V.str (q1l d)) [V.str "set", V.str "add"] = true then _ else _
  rw [ein]
  by_cases hs : q1l d = "set" ∨ q1l d = "add"
  ·rw [decide_eq_true hs]
   obtain ⟨r, e⟩ := q6c (d := d) rfl (fun z => by rw [z] at hs; rcases hs with z | z <;> exact absurd z (by decide +kernel))
   generalize q1l d = x at hs hg e
   subst e
   cases I with
   | @tup a xs _ ea hl rr =>
   refine q1o ⟨_, rfl, a, xs, rfl, .inr (SqT.of (s1 _ _ ea)), rfl, _, rfl, ?_⟩
   have e := x6g rr 3
   show if decide (V.int (xs.length : Int) = V.int ((3 : Nat) : Int)) = true then _ else _
   have kr : ∀ H', q1a H H' → Q (.bl (two q1w whole r)) H' := fun H' s' => by
    have := k H' s'
    rw [show q6a (.tup (.str x :: r)) = two q1w whole r from (if_neg hg).trans (if_pos hs)] at this
    exact this
   rw [e]
   clear k ein e
   match r, kr, rr with
   | [], kr, rr => exact q0z (kr _ s1)
   | [y], kr, rr => exact q0z (kr _ s1)
   | [y, y2], kr, rr =>
    obtain ⟨v1, e1, I1⟩ := rr.at (i := 1) rfl
    obtain ⟨v2, e2, I2⟩ := rr.at (i := 2) rfl
    refine q1o ⟨_, rfl, a, xs, 1, v1, rfl, rfl, SqT.of (s1 _ _ ea), e1, B, v1, y, hB, rfl, I1.same s1, fun H' s' => ⟨_, rfl, ?_⟩⟩
    have k1 : ∀ H'', q1a H' H'' → Q (.bl (q1w y && whole y2)) H'' := fun H'' s'' => kr H'' (s1.trans (s'.trans s''))
    cases hn : q1w y with
    | false =>
     rw [hn] at k1
     exact q0z (k1 H' (q1a.refl _))
    | true =>
     rw [hn] at k1
     exact q1o ⟨_, rfl, a, xs, 2, v2, rfl, rfl, SqT.of (s' _ _ (s1 _ _ ea)), e2, B, v2, y2, hB, rfl, (I2.same s1).same s', k1⟩
   | y :: y2 :: y3 :: t, kr, rr =>
    rw [decide_eq_false (show ¬ (D.str x :: y :: y2 :: y3 :: t).length = 3 by simp)]
    exact q0z (kr _ s1)
  ·rw [decide_eq_false hs]
   have k0 := k _ s1
   have e : q6a d = false := by
    unfold q6a
    split
    ·rename_i x r
     exact (if_neg hg).trans (if_neg hs)
    ·rfl
   rw [e] at k0
   exact q0z k0
noncomputable def tWL (x : Str) (n : Nat) : TT := fun σ H Q => ∃ B v d, B ≤ 1000 ∧ σ[0]? = some (some v) ∧ Is B H v d ∧ Q (decide (q1l d = x ∧ z5q d = n)) H
noncomputable abbrev w4f (K : PySem.W.Frag) : List V → Hp → VK → Prop := fun xs H Q => ∃ p ys, xs = [.ref p] ∧ (SqL K H p ys ∨ SqT K H p ys) ∧ Q (.int ys.length) H
theorem j9n {X : Cx} {a b : Expr} {pos : Pos} {x : Str} {n : Nat} {E : XK} (hx : x ≠ "") (h1 : PT X a (j2f (tOp rEq (j4w q9y [] E (q8g (w0c 0) j8a)) (tC (.str x))))) (h2 : PT X b (j2f (tOp rEq (tCB (w4f X.K) (q8g (w0c 0) j8a)) (tC (.int n))))) :
  PT X (.BoolOp .And [a, b] pos) (tWL x n) := by
 refine PT.weak (x5g h1 (x6l h2)).pt ?_
 rintro σ H Q ⟨B, v, d, hB, e0, I, q⟩
 refine ⟨v, e0, B, v, d, hB, rfl, I, rfl, _, rfl, ?_⟩
 by_cases hw : q1l d = x
 ·rw [decide_eq_true (show V.str (q1l d) = V.str x by rw [hw])]
  obtain ⟨r, rfl⟩ := q6c hw hx
  cases I with
  | @tup a xs _ ea hl rr =>
  refine q1o ⟨_, e0, a, xs, rfl, .inr (SqT.of ea), rfl, _, rfl, ?_⟩
  have e : decide (V.int (xs.length : Int) = V.int (n : Int)) = decide (q1l (.tup (.str x :: r)) = x ∧ z5q (.tup (.str x :: r)) = n) := by
   rw [x6g rr n, Bool.eq_iff_iff]
   simp only [decide_eq_true_eq]
   exact ⟨fun h => ⟨rfl, h⟩, fun h => h.2⟩
  rw [e]
  exact q
 ·rw [decide_eq_false (show ¬ V.str (q1l d) = V.str x from fun z => hw (V.str.inj z))]
  rw [decide_eq_false (fun z => hw z.1)] at q
  exact q0z q
theorem w4d : FnScope ["_law_thing"] ["_law_thing"] (q0d x0v) := fSc
theorem j2p {f : Addr} {fd : FuncData} (F : Fun K "_law_what" "_law_what" x0v f fd) (T : Txt mg) (CK : Cal P w K mg base "_law_kind" 1 ["_law_thing"] q9y) (CN : Cal P w K mg base "_law_name" 1 ["_law_thing"] (spP q1w)) (CF : Cal P w K mg base "_law_from" 1 ["_law_thing", "_law_least"] x1l)
  (CD : Cal P w K mg base "_law_deed" 2 ["_law_thing"] (spP q6a)) (CS : Cal P w K mg base "_law_seats" 2 ["_law_thing"] (spP q4l)) : FnOk P w K mg base CX0 3 f fd ["_law_thing"] (spP x5b) := by
 refine F.ok w4d q2c (fun cdv A outer s H vs Q E hr h => ?_)
 obtain ⟨B, v, d, hB, rfl, I, k⟩ := h
 have r1 := hr.mono (show 1 ≤ 2 by decide)
 refine ⟨_, q1d (q1q (j9n (n := 4) (by decide +kernel) (q0s q2a (q0f CK r1 (q1i (pv 0) q0b)) q0r (q0q _)) (q0s q2a (q0p q0y rfl T.len PySem.boot_len (q1i (pv 0) q0b)) q0a (q0q _)))
   (q0o (q0j (q1z (q0f CN r1 (q4n (q0w q0n (pv 0) q0a q2q) q0b)) (q1z (q0f CF r1 (q4n (q0w q0n (pv 0) q0a q2q) (q8e q0a q0b))) (q2h (q0f CD hr (q4n (q0w q0n (pv 0) q0a q2q) q0b))))))) q0t)
  (q1d (q1q (j9n (n := 2) (by decide +kernel) (q0s q2a (q0f CK r1 (q1i (pv 0) q0b)) q0r (q0q _)) (q0s q2a (q0p q0y rfl T.len PySem.boot_len (q1i (pv 0) q0b)) q0a (q0q _)))
   (q0o (q0j (q0f CS hr (q4n (q0w q0n (pv 0) q0a q2q) q0b)))) q0t)
  (q0o (q0j (q1z (q1r q2a (q0f CK r1 (q1i (pv 0) q0b)) q0r (q0q _)) (q2h (q1r q2a (q0p q0y rfl T.len PySem.boot_len (q1i (pv 0) q0b)) q0a (q0q _))))))), ?_⟩
 rw [← j2u] at k
 refine ⟨B, v, d, hB, rfl, I, x9q (fun c => ?_) (fun c => ?_)⟩
 ·have c' := of_decide_eq_true c
  have kc : ∀ H', q1a H H' → Q (.bl (x1k q1w (geD 1) q6a (j2j d))) H' := fun H' s' => by
   have := k H' s'
   rw [show z1a d = _ from if_pos c'] at this
   exact this
  obtain ⟨r, rfl⟩ := q6c c'.1 (by decide +kernel)
  have hr3 : r.length + 1 = 4 := c'.2
  clear k c
  match r, hr3, kc, I with
  | [y1, y2, y3], _, kc, I =>
  cases I with
  | @tup a xs _ ea hl rr =>
  obtain ⟨v1, e1, I1⟩ := rr.at (i := 1) rfl
  obtain ⟨v2, e2, I2⟩ := rr.at (i := 2) rfl
  obtain ⟨v3, e3, I3⟩ := rr.at (i := 3) rfl
  have kd : ∀ H', q1a H H' → Q (.bl (q1w y1 && (geD 1 y2 && q6a y3))) H' := kc
  refine ⟨_, rfl, a, xs, 1, v1, rfl, rfl, SqT.of ea, e1, B, v1, y1, hB, rfl, I1, fun H1 s1 => ⟨_, rfl, ?_⟩⟩
  cases hn : q1w y1 with
  | false => rw [hn] at kd; exact q0z (kd _ s1)
  | true =>
   rw [hn] at kd
   refine q1o ⟨_, rfl, a, xs, 2, v2, rfl, rfl, SqT.of (s1 _ _ ea), e2, B, v2, y2, 1, hB, rfl, I2.same s1, fun H2 s2 => ⟨_, rfl, ?_⟩⟩
   cases hf : geD 1 y2 with
   | false => rw [hf] at kd; exact q0z (kd _ (s1.trans s2))
   | true =>
    rw [hf] at kd
    exact q1o ⟨_, rfl, a, xs, 3, v3, rfl, rfl, SqT.of (s2 _ _ (s1 _ _ ea)), e3, B, v3, y3, hB, rfl, (I3.same s1).same s2, fun H3 s3 => kd _ ((s1.trans s2).trans s3)⟩
 have c1 : ¬ (q1l d = "wish" ∧ z5q d = 4) := fun z => c (decide_eq_true z)
 refine ⟨B, v, d, hB, rfl, I, x9q (fun c2 => ?_) (fun c2 => ?_)⟩
 ·have c' := of_decide_eq_true c2
  have kc : ∀ H', q1a H H' → Q (.bl (one q4l (j2j d))) H' := fun H' s' => by
   have := k H' s'
   rw [show z1a d = _ from (if_neg c1).trans (if_pos c')] at this
   exact this
  obtain ⟨r, rfl⟩ := q6c c'.1 (by decide +kernel)
  have hr3 : r.length + 1 = 2 := c'.2
  clear k c c2 c1
  match r, hr3, kc, I with
  | [y1], _, kc, I =>
  cases I with
  | @tup a xs _ ea hl rr =>
  obtain ⟨v1, e1, I1⟩ := rr.at (i := 1) rfl
  exact ⟨_, rfl, a, xs, 1, v1, rfl, rfl, SqT.of ea, e1, B, v1, y1, hB, rfl, I1, kc⟩
 have c2' : ¬ (q1l d = "seats" ∧ z5q d = 2) := fun z => c2 (decide_eq_true z)
 have k0 := k H (q1a.refl _)
 rw [show z1a d = decide (q1l d = "open" ∧ z5q d = 1) from (if_neg c1).trans (if_neg c2')] at k0
 refine ⟨_, rfl, B, v, d, hB, rfl, I, rfl, _, rfl, ?_⟩
 by_cases hw : q1l d = "open"
 ·rw [decide_eq_true (show V.str (q1l d) = V.str "open" by rw [hw])]
  obtain ⟨r, rfl⟩ := q6c hw (by decide +kernel)
  cases I with
  | @tup a xs _ ea hl rr =>
  have e : decide (V.int (xs.length : Int) = V.int ((1 : Nat) : Int)) = decide (q1l (.tup (.str "open" :: r)) = "open" ∧ z5q (.tup (.str "open" :: r)) = 1) := by
   rw [x6g rr 1, Bool.eq_iff_iff]
   simp only [decide_eq_true_eq]
   exact ⟨fun h => ⟨rfl, h⟩, fun h => h.2⟩
  rw [← e] at k0
  exact q1o ⟨_, rfl, a, xs, rfl, .inr (SqT.of ea), rfl, k0⟩
 ·rw [decide_eq_false (show ¬ V.str (q1l d) = V.str "open" from fun z => hw (V.str.inj z))]
  rw [decide_eq_false (fun z => hw z.1)] at k0
  exact q0z k0
theorem w4l : FnScope ["_law_thing"] ["_law_thing"] (q0d q8n) := fSc
theorem z6h {f : Addr} {fd : FuncData} (F : Fun K "_law_entry" "_law_entry" q8n f fd) (CZ : Cal P w K mg base "_law_sized" 1 ["_law_thing", "_law_size"] x3l) (CF : Cal P w K mg base "_law_from" 1 ["_law_thing", "_law_least"] x1l)
  (CW : Cal P w K mg base "_law_what" 3 ["_law_thing"] (spP x5b)) : FnOk P w K mg base CX0 4 f fd ["_law_thing"] (spP q8a) := by
 refine F.ok w4l q2c (fun cdv A outer s H vs Q E hr h => ?_)
 obtain ⟨B, v, d, hB, rfl, I, k⟩ := h
 have r1 := hr.mono (show 1 ≤ 3 by decide)
 refine ⟨_, q0o (q0j (q1z (q0f CZ r1 (q1i (pv 0) (q8e q0a q0b))) (q1z (q0f CF r1 (q4n (q0w q0n (pv 0) q0a q2q) (q8e q0a q0b))) (q2h (q0f CW hr (q4n (q0w q0n (pv 0) q0a q2q) q0b)))))), ?_⟩
 refine ⟨_, rfl, B, v, d, 2, hB, rfl, I, _, rfl, ?_⟩
 cases hz : x2s 2 d with
 | false =>
  have e : q8a d = false := by
   unfold q8a
   split
   ·cases hz
   ·rfl
  have k0 := k H (q1a.refl _)
  rw [e] at k0
  exact q0z k0
 | true =>
  obtain ⟨y0, y1, rfl⟩ : ∃ y0 y1, d = .tup [y0, y1] := by
   cases d with
   | tup ds =>
    have h2 : (ds.length : Int) = 2 := of_decide_eq_true hz
    match ds, h2 with
    | [y0, y1], _ => exact ⟨y0, y1, rfl⟩
    | [], h => simp at h
    | [_], h => simp at h
    | _ :: _ :: _ :: _, h => simp at h; omega
   | _ => cases hz
  cases I with
  | @tup a xs _ ea hl rr =>
  obtain ⟨v0, e0, I0⟩ := rr.at (i := 0) rfl
  obtain ⟨v1, e1, I1⟩ := rr.at (i := 1) rfl
  have kd : ∀ H', q1a H H' → Q (.bl (geD 1 y0 && x5b y1)) H' := k
  refine q1o ⟨_, rfl, a, xs, 0, v0, rfl, rfl, SqT.of ea, e0, B, v0, y0, 1, hB, rfl, I0, fun H1 s1 => ⟨_, rfl, ?_⟩⟩
  cases hf : geD 1 y0 with
  | false => rw [hf] at kd; exact q0z (kd _ s1)
  | true =>
   rw [hf] at kd
   exact q1o ⟨_, rfl, a, xs, 1, v1, rfl, rfl, SqT.of (s1 _ _ ea), e1, B, v1, y1, hB, rfl, I1.same s1, fun H3 s3 => kd _ (s1.trans s3)⟩
end
theorem _root_.Kp.ix_tupK {X : Cx} {K : PySem.W.Frag} (hK : X.K = K) : IxR X (w2q K) := by subst hK; exact q0n
theorem w2p {α : Type} (x : α) (xs : List α) : atI (x :: xs) 0 = some x := q0m (j := 0) rfl
theorem w4h {α : Type} (x y : α) (xs : List α) : atI (x :: y :: xs) 1 = some y := q0m (j := 1) rfl
section
variable {P : Program} {w : World} {K : PySem.W.Frag} {mg : Str → Option Value} {base : Heap}
theorem w5q : FnScope ["thing"] ["thing"] (q0d q5r) := fSc
theorem x5a {f : Addr} {fd : FuncData} (F : Fun K "is_from_nought" "is_from_nought" q5r f fd) (T : Txt mg) (CW : Cal P w K mg base "is_whole" 1 ["thing"] (spP whole)) : FnOk P w K mg base CX0 2 f fd ["thing"] (spP (geD 0)) := by
 refine F.ok w5q q2c (fun cdv A outer s H vs Q E hr h => ?_)
 obtain ⟨B, v, d, hB, rfl, I, k⟩ := h
 refine ⟨_, q0o (q0j (q1z (q0f CW hr (q0c (pv 0) q0b)) (q2h (q1r z7x (pv 0) q0a (q0q _))))), ?_⟩
 refine ⟨_, rfl, B, v, d, hB, rfl, I, fun H' s' => ⟨_, rfl, ?_⟩⟩
 have k0 := k H' s'
 cases e : whole d with
 | false => rw [z2d e] at k0; exact q0z k0
 | true =>
  obtain ⟨i, rfl⟩ := x4e e
  cases I
  exact q1o ⟨_, rfl, _, _, rfl, rfl, k0⟩
noncomputable def z6r : Sp := fun vs H Q _ => ∃ (a : Addr) (ws : List Str), vs = [.ref a] ∧ H a = some (.lst (ws.map V.str)) ∧ ws.length ≤ 1000 ∧ ∀ H', q1a H H' → Q (.bl (q8c ws)) H'
theorem z7o (xs : List V) : z0f xs (some 1) none = xs.tail := by
 unfold z0f
 have e1 : HT.sIx xs.length 0 (some 1) = min 1 xs.length := by
  have := HT.sIx_nat xs.length 0 1
  rw [show ((1 : Nat) : Int) = 1 from rfl] at this
  rw [this]
 rw [e1, HT.sIx_none]
 cases xs with
 | nil => rfl
 | cons a r =>
  rw [show min 1 (a :: r).length = 1 by simp, List.take_of_length_le (by simp)]
  rfl
theorem x4s : ∀ ws : List Str, ((List.range (ws.length - 1)).map fun i => ltS (ws.getD i "") (ws.getD (i + 1) "")).all id = q8c ws
 | [] => rfl
 | [_] => rfl
 | a :: b :: r => by
  have ih := x4s (b :: r)
  rw [q8c, ← ih]
  show ((List.range (r.length + 1)).map _).all id = _
  rw [List.range_succ_eq_map, List.map_cons, List.all_cons, List.map_map]
  rfl
theorem z4g {f : Addr} {fd : FuncData} (F : Fun K "is_rising" "is_rising" x1t f fd) (T : Txt mg) : FnOk P w K mg base CX0 1 f fd ["parts"] z6r := by
 refine F.ok w2x (fun vs H Q E ⟨_, _, e, _⟩ => by subst e; rfl) (fun cdv A outer s H vs Q E hr h => ?_)
 obtain ⟨a, ws, rfl, ha, h2, k⟩ := h
 refine ⟨_, q0o (q0j (q0p (q9p rfl) rfl T.all q6y (q0c (q3f (NB := ["part", "later"]) (n := 2) (fr := []) (q5u (outer := q0d x1t) rfl (by decide +kernel) rfl) rfl
   (z6x (t1 := false) (t2 := false) rfl T.zip (q0c (pv 0) (q0c (q9u j5z (pv 0) (x0b q0a) x4f) q0b)))
   (fun _ _ _ _ _ => x3n (K := K) (n := 2) rfl rfl (q1v (q1h (i := 0) (show (["part", "later"] : List Str).Nodup by decide +kernel) rfl (Or.inl rfl)) (q1v (q1h (i := 1) (show (["part", "later"] : List Str).Nodup by decide +kernel) rfl (Or.inl rfl)) q5x))) (fun _ _ _ _ _ => q2t) (fun _ _ _ _ _ => q1r z9x (pv 0) (pv 1) (q0q _))) q0b))), ?_⟩
 refine ⟨_, rfl, _, rfl, 1, rfl, a, ws.map V.str, rfl, SqL.of ha, fun p hp => ?_⟩
 rw [z7o, ← List.map_tail]
 have sp : q1a H (upd H p (.lst (ws.tail.map V.str))) := q0i hp
 refine ⟨a, p, ws.map V.str, ws.tail.map V.str, rfl, SqL.of (sp _ _ ha), SqL.of q0g, q2y (J := Itz K false false a p) (k := 2) (n := ws.length - 1) (fun _ => true) (fun i => .bl (ltS (ws.getD i "") (ws.getD (i + 1) ""))) (by rw [sizeLine_eq]; omega) ?_ ?_ ?_ ?_⟩
 ·intro i H2 hi s1
  have i1 : i < ws.length := by omega
  have i2 : i < ws.tail.length := by rw [List.length_tail]; omega
  exact ⟨ws.map V.str, ws.tail.map V.str, .str ws[i], .str ws.tail[i], SqL.of (s1 _ _ (sp _ _ ha)), SqL.of (s1 _ _ q0g), by simp [i1], by rw [List.getElem?_map, List.getElem?_eq_getElem i2]; rfl⟩
 ·intro H2 s1
  exact ⟨ws.map V.str, ws.tail.map V.str, SqL.of (s1 _ _ (sp _ _ ha)), SqL.of (s1 _ _ q0g), .inr (by simp)⟩
 ·intro i H2 t v H3 R hi s1 ht y hR
  obtain ⟨q, x, y, rfl, hq, rfl, e1, e2⟩ := y
  have i1 : i < ws.length := by omega
  have i2 : i + 1 < ws.length := by omega
  have e1' := e1 _ (SqL.of (s1 _ _ (sp _ _ ha)))
  have e2' := e2 _ (SqL.of (s1 _ _ q0g))
  rw [List.getElem?_map, List.getElem?_eq_getElem i1] at e1'
  rw [List.getElem?_map, List.getElem?_tail, List.getElem?_eq_getElem i2] at e2'
  cases e1'
  cases e2'
  have ht' : ∃ t0 t1, t = [t0, t1] := by
   match t, ht with
   | [t0, t1], _ => exact ⟨t0, t1, rfl⟩
  obtain ⟨t0, t1, rfl⟩ := ht'
  refine ⟨q, _, rfl, SqT.of q0g, rfl, _, _, rfl, _, _, rfl, rfl, ⟨_, rfl, _, rfl, _, _, rfl, rfl, ?_⟩⟩
  have hR' := hR [some (.str ws[i]), some (.str ws[i + 1])] _ rfl (q0i (o := .tup [.str ws[i], .str ws[i + 1]]) hq)
  have g1 : ws.getD i "" = ws[i] := by simp [i1]
  have g2 : ws.getD (i + 1) "" = ws[i + 1] := by simp [i2]
  rw [g1, g2] at hR'
  exact hR'
 ·intro D H' s1 hD hd
  refine ⟨D, (List.range (ws.length - 1)).map fun i => ltS (ws.getD i "") (ws.getD (i + 1) ""), rfl, SqL.of ?_, ?_⟩
  ·rw [hd, List.filter_eq_self.mpr (fun _ _ => rfl), List.map_map]
   rfl
  ·rw [x4s]
   exact k H' (sp.trans s1)
theorem w3e : FnScope ["thing"] ["thing"] (q0d q6v) := fSc
theorem j5c {f : Addr} {fd : FuncData} {kk k1 k2 : Nat} (F : Fun K "is_name_pair" "is_name_pair" q6v f fd) (C1 : Cal P w K mg base "is_name" k1 ["thing"] (spP q2b)) (C2 : Cal P w K mg base "is_whole" k2 ["thing"] (spP whole)) (h1 : k1 ≤ kk) (h2 : k2 ≤ kk)
  (CF : Cal P w K mg base "fits" (kk + 1) ["thing", "tellers"] (q6x P w K mg base kk)) : FnOk P w K mg base CX0 (kk + 2) f fd ["thing"] (spP x0l) := by
 refine F.ok w3e q2c (fun cdv A outer s H vs Q E hr h => ?_)
 obtain ⟨B, v, d, hB, rfl, I, k⟩ := h
 obtain ⟨g1, m1, t1⟩ := C1.at
 obtain ⟨g2, m2, t2⟩ := C2.at
 refine ⟨_, q0o (q0j (q0f CF hr (q0c (pv 0) (q0c (q2v (q0c (q3d rfl m1) (q0c (q3d rfl m2) q0b))) q0b)))), ?_⟩
 exact ⟨_, rfl, q4m (by show 2 ≤ 1000; decide), fun p hp => ⟨B, v, d, p, _, [q2b, whole], hB, rfl, I.same (q0i hp), SqT.of q0g, .cons (t1 kk h1) (.cons (t2 kk h2) .nil), (by show 2 ≤ 1000; decide), fun H' s' => k H' ((q0i hp).trans s')⟩⟩
theorem w5c : FnScope ["thing"] ["thing"] (q0d q4w) := fSc
theorem z7z {f : Addr} {fd : FuncData} {kk k1 k2 k3 : Nat} (F : Fun K "is_caller_triple" "is_caller_triple" q4w f fd) (C1 : Cal P w K mg base "is_name" k1 ["thing"] (spP q2b)) (C2 : Cal P w K mg base "is_from_one" k2 ["thing"] (spP (geD 1))) (C3 : Cal P w K mg base "is_whole" k3 ["thing"] (spP whole)) (h1 : k1 ≤ kk) (h2 : k2 ≤ kk) (h3 : k3 ≤ kk)
  (CF : Cal P w K mg base "fits" (kk + 1) ["thing", "tellers"] (q6x P w K mg base kk)) : FnOk P w K mg base CX0 (kk + 2) f fd ["thing"] (spP q4c) := by
 refine F.ok w5c q2c (fun cdv A outer s H vs Q E hr h => ?_)
 obtain ⟨B, v, d, hB, rfl, I, k⟩ := h
 obtain ⟨g1, m1, t1⟩ := C1.at
 obtain ⟨g2, m2, t2⟩ := C2.at
 obtain ⟨g3, m3, t3⟩ := C3.at
 refine ⟨_, q0o (q0j (q0f CF hr (q0c (pv 0) (q0c (q2v (q0c (q3d rfl m1) (q0c (q3d rfl m2) (q0c (q3d rfl m3) q0b)))) q0b)))), ?_⟩
 exact ⟨_, rfl, q4m (by show 3 ≤ 1000; decide), fun p hp => ⟨B, v, d, p, _, [q2b, geD 1, whole], hB, rfl, I.same (q0i hp), SqT.of q0g, .cons (t1 kk h1) (.cons (t2 kk h2) (.cons (t3 kk h3) .nil)), (by show 3 ≤ 1000; decide), fun H' s' => k H' ((q0i hp).trans s')⟩⟩
noncomputable def z0j (f : Addr) (p : D → Bool) : Sp := fun vs H Q _ => ∃ B v d, B ≤ 1000 ∧ vs = [v, .ref f] ∧ Is B H v d ∧ ∀ H', q1a H H' → Q (.bl (x4u p d)) H'
theorem w4r : FnScope ["thing", "teller"] ["thing", "teller"] (q0d q4i) := fSc
theorem z4u (l : List D) (f : D → Str) : ((List.range l.length).map fun i => f (l.getD i .non)) = l.map f := by
 apply List.ext_getElem?
 intro i
 by_cases hi : i < l.length
 ·simp [hi]
 ·rw [List.getElem?_eq_none (by simpa using hi), List.getElem?_eq_none (by simpa using hi)]
theorem z2z {f g : Addr} {fd : FuncData} {p : D → Bool} {kk : Nat} (F : Fun K "is_by_alphabet" "is_by_alphabet" q4i f fd) (hp : ∀ d, p d = true → ∃ x r, d = .tup (.str x :: r))
  (CR : Cal P w K mg base "is_row_of" (kk + 1) ["thing", "teller"] (j2e g p)) (CI : Cal P w K mg base "is_rising" 1 ["parts"] z6r) : FnOk P w K mg base CX0 (kk + 2) f fd ["thing", "teller"] (z0j g p) := by
 refine F.ok w4r (fun vs H Q E ⟨_, _, _, _, e, _⟩ => by subst e; rfl) (fun cdv A outer s H vs Q E hr h => ?_)
 obtain ⟨B, v, d, hB, rfl, I, k⟩ := h
 refine ⟨_, q0o (q0j (q1z (q0f CR hr (q0c (pv 0) (q0c (pv 1) q0b))) (q2h (q0f CI (hr.mono (by omega)) (q0c (q3f (NB := ["part"]) (n := 1) (fr := []) (q5u (outer := q0d q4i) rfl (by decide +kernel) rfl) rfl (q7a (pv 0))
   (fun _ _ _ _ _ => q1h (i := 0) (show (["part"] : List Str).Nodup by decide +kernel) rfl (Or.inl rfl)) (fun _ _ _ _ _ => q2t) (fun _ _ _ _ _ => q0w (ix_tupK (K := K) rfl) (pv 0) q0a (fun _ _ => rfl))) q0b))))), ?_⟩
 refine ⟨_, rfl, _, rfl, B, v, d, hB, rfl, I, fun H1 s1 => ⟨_, rfl, ?_⟩⟩
 cases d with
 | tup ds =>
  have k1 : ∀ H', q1a H H' → Q (.bl (ds.all p && q8c (ds.map q1l))) H' := k
  show if ds.all p = true then _ else _
  cases hall : ds.all p with
  | false => rw [hall] at k1; exact q0z (k1 H1 s1)
  | true =>
   rw [hall] at k1
   cases I with
   | @tup a xs _ ea hl r =>
   have ea1 := s1 _ _ ea
   have hlen := r.length
   refine q1o ⟨_, rfl, a, rfl, ⟨xs, SqT.of ea1⟩, q2y (J := Itt K a) (k := 1) (n := xs.length) (fun _ => true) (fun i => .str (q1l (ds.getD i .non))) (show xs.length < sizeLine by rw [sizeLine_eq]; omega)
    (fun i H2 hi s2 => ⟨xs, xs[i], SqT.of (s2 _ _ ea1), by simp [hi]⟩) (fun H2 s2 => ⟨xs, SqT.of (s2 _ _ ea1), Nat.le_refl _⟩) ?_ ?_⟩
   ·intro i H2 t v H3 R hi s2 ht y hR
    obtain ⟨rfl, hy⟩ := y
    have hv := hy xs (SqT.of (s2 _ _ ea1))
    obtain ⟨di, hdi, Ii⟩ := r.get hv
    have ht' : ∃ t0, t = [t0] := by
     match t, ht with
     | [t0], _ => exact ⟨t0, rfl⟩
    obtain ⟨t0, rfl⟩ := ht'
    obtain ⟨x, rr, rfl⟩ := hp di (List.all_eq_true.mp hall di (List.mem_of_getElem? hdi))
    have Ii2 := (Ii.same s1).same s2
    cases Ii2 with
    | @tup b ys _ eb hl2 r2 =>
    cases r2 with
    | cons h0 h1 =>
    cases h0
    have hR' := hR [some (.ref b)] H3 rfl (q1a.refl _)
    have ed : ds.getD i .non = .tup (.str x :: rr) := by rw [List.getD_eq_getElem?_getD, hdi]; rfl
    rw [ed] at hR'
    exact ⟨_, rfl, b, _, 0, _, rfl, rfl, SqT.of eb, w2p _ _, hR'⟩
   ·intro D H' s2 hD hd
    refine ⟨D, ds.map q1l, rfl, ?_, by rw [List.length_map]; omega, fun H3 s3 => k1 H3 ((s1.trans s2).trans s3)⟩
    rw [hd, List.filter_eq_self.mpr (fun _ _ => rfl), ← z4u ds q1l, List.map_map, hlen]
    rfl
 | non => exact q0z (k H1 s1)
 | bl _ => exact q0z (k H1 s1)
 | int _ => exact q0z (k H1 s1)
 | str _ => exact q0z (k H1 s1)
 | lst _ => exact q0z (k H1 s1)
theorem w5a : FnScope ["thing"] ["thing"] (q0d x1q) := fSc
theorem j2l {f : Addr} {fd : FuncData} {kk : Nat} (F : Fun K "is_names" "is_names" x1q f fd) (CP : Cal P w K mg base "is_name_pair" kk ["thing"] (spP x0l))
  (CA : ∀ g gd, FnOk P w K mg base CX0 kk g gd ["thing"] (spP x0l) → PySem.W.keepIn K (.ref g) = true → q3p K gd ["thing"] [] → Cal P w K mg base "is_by_alphabet" (kk + 2) ["thing", "teller"] (z0j g x0l)) : FnOk P w K mg base CX0 (kk + 3) f fd ["thing"] (spP x2q) := by
 refine F.ok w5a q2c (fun cdv A outer s H vs Q E hr h => ?_)
 obtain ⟨B, v, d, hB, rfl, I, k⟩ := h
 obtain ⟨g, gd, G, m, kp, b⟩ := CP.ex
 obtain ⟨gA, dA, GA, mA, kA, bA⟩ := (CA g gd G kp b).ex
 exact ⟨_, q0o (q0j (x2i GA hr rfl mA kA bA .nil q6z (q0c (pv 0) (q0c (q3d rfl m) q0b)))), _, rfl, B, v, d, hB, rfl, I, k⟩
theorem w3k : FnScope ["thing"] ["thing"] (q0d q9k) := fSc
theorem z5n {f : Addr} {fd : FuncData} {kk : Nat} (F : Fun K "is_callers" "is_callers" q9k f fd) (CP : Cal P w K mg base "is_caller_triple" kk ["thing"] (spP q4c))
  (CA : ∀ g gd, FnOk P w K mg base CX0 kk g gd ["thing"] (spP q4c) → PySem.W.keepIn K (.ref g) = true → q3p K gd ["thing"] [] → Cal P w K mg base "is_by_alphabet" (kk + 2) ["thing", "teller"] (z0j g q4c)) : FnOk P w K mg base CX0 (kk + 3) f fd ["thing"] (spP q6f) := by
 refine F.ok w3k q2c (fun cdv A outer s H vs Q E hr h => ?_)
 obtain ⟨B, v, d, hB, rfl, I, k⟩ := h
 obtain ⟨g, gd, G, m, kp, b⟩ := CP.ex
 obtain ⟨gA, dA, GA, mA, kA, bA⟩ := (CA g gd G kp b).ex
 exact ⟨_, q0o (q0j (x2i GA hr rfl mA kA bA .nil q6z (q0c (pv 0) (q0c (q3d rfl m) q0b)))), _, rfl, B, v, d, hB, rfl, I, k⟩
theorem w3g : FnScope ["thing"] ["thing"] (q0d x2f) := fSc
theorem j1s {f : Addr} {fd : FuncData} {kk k1 k2 : Nat} (F : Fun K "is_store" "is_store" x2f f fd) (C1 : Cal P w K mg base "is_names" k1 ["thing"] (spP x2q)) (C2 : Cal P w K mg base "is_callers" k2 ["thing"] (spP q6f)) (h1 : k1 ≤ kk) (h2 : k2 ≤ kk)
  (CF : Cal P w K mg base "fits" (kk + 1) ["thing", "tellers"] (q6x P w K mg base kk)) : FnOk P w K mg base CX0 (kk + 2) f fd ["thing"] (spP q3o) := by
 refine F.ok w3g q2c (fun cdv A outer s H vs Q E hr h => ?_)
 obtain ⟨B, v, d, hB, rfl, I, k⟩ := h
 obtain ⟨g1, m1, t1⟩ := C1.at
 obtain ⟨g2, m2, t2⟩ := C2.at
 refine ⟨_, q0o (q0j (q0f CF hr (q0c (pv 0) (q0c (q2v (q0c (q3d rfl m1) (q0c (q3d rfl m2) q0b))) q0b)))), ?_⟩
 exact ⟨_, rfl, q4m (by show 2 ≤ 1000; decide), fun p hp => ⟨B, v, d, p, _, [x2q, q6f], hB, rfl, I.same (q0i hp), SqT.of q0g, .cons (t1 kk h1) (.cons (t2 kk h2) .nil), (by show 2 ≤ 1000; decide), fun H' s' => k H' ((q0i hp).trans s')⟩⟩
noncomputable def j6d : Sp := fun vs H Q _ => ∃ a b : Int, vs = [.int a, .int b] ∧ Q (.bl (decide (decide (a = 0) = decide (b = 0)))) H
theorem w3j : FnScope ["place", "last"] ["place", "last"] (q0d x6x) := fSc
theorem x3k (a b : Int) : decide (V.int a = V.int b) = decide (a = b) := by
 rw [Bool.eq_iff_iff]; simp only [decide_eq_true_eq]
 exact ⟨fun h => V.int.inj h, fun h => by rw [h]⟩
theorem z3e (a b : Bool) : decide (V.bl a = V.bl b) = decide (a = b) := by
 rw [Bool.eq_iff_iff]; simp only [decide_eq_true_eq]
 exact ⟨fun h => V.bl.inj h, fun h => by rw [h]⟩
theorem j8l {f : Addr} {fd : FuncData} (F : Fun K "is_end" "is_end" x6x f fd) : FnOk P w K mg base CX0 1 f fd ["place", "last"] j6d := by
 refine F.ok w3j (fun vs H Q E ⟨_, _, e, _⟩ => by subst e; rfl) (fun cdv A outer s H vs Q E hr h => ?_)
 obtain ⟨a, b, rfl, k⟩ := h
 refine ⟨_, q0o (q0j (q1r q2a (q1r q2a (pv 0) q0a (q0q _)) (q1r q2a (pv 1) q0a (q0q _)) (q0q _))), ?_⟩
 refine ⟨_, rfl, rfl, _, rfl, rfl, rfl, ?_⟩
 show Q (.bl (decide (V.bl (decide (V.int a = V.int 0)) = V.bl (decide (V.int b = V.int 0))))) H
 rw [z3e, x3k, x3k]
 exact k
theorem w4z : FnScope ["thing"] ["thing"] (q0d x3u) := fSc
theorem z9t {p q r s : D → Bool} {d : D} (h : q9x [p, q, r, s] d = true) : ∃ a b c e, d = .tup [a, b, c, e] ∧ p a = true ∧ q b = true := by
 cases d with
 | tup ds =>
  have h' : q0v [p, q, r, s] ds = true := h
  match ds, h' with
  | [a, b, c, e], h' =>
   simp only [q0v, Bool.and_eq_true] at h'
   exact ⟨a, b, c, e, rfl, h'.1, h'.2.1⟩
  | [], h' => cases h'
  | [_], h' => simp [q0v] at h'
  | [_, _], h' => simp [q0v] at h'
  | [_, _, _], h' => simp [q0v] at h'
  | _ :: _ :: _ :: _ :: _ :: _, h' => simp [q0v] at h'
 | _ => cases h
theorem ge_int {l : Int} {d : D} (h : geD l d = true) : ∃ i, d = .int i := by
 cases d with
 | int i => exact ⟨i, rfl⟩
 | _ => cases h
theorem j4r {f : Addr} {fd : FuncData} {kk k1 k3 k4 : Nat} (F : Fun K "is_pack" "is_pack" x3u f fd) (C1 : Cal P w K mg base "is_from_nought" k1 ["thing"] (spP (geD 0))) (C3 : Cal P w K mg base "is_seats" k3 ["thing"] (spP q2z)) (C4 : Cal P w K mg base "is_store" k4 ["thing"] (spP q3o)) (h1 : k1 ≤ kk) (h3 : k3 ≤ kk) (h4 : k4 ≤ kk)
  (CF : Cal P w K mg base "fits" (kk + 1) ["thing", "tellers"] (q6x P w K mg base kk)) (CE : Cal P w K mg base "is_end" 1 ["place", "last"] j6d) : FnOk P w K mg base CX0 (kk + 2) f fd ["thing"] (spP x6a) := by
 refine F.ok w4z q2c (fun cdv A outer s H vs Q E hr h => ?_)
 obtain ⟨B, v, d, hB, rfl, I, k⟩ := h
 obtain ⟨g1, m1, t1⟩ := C1.at
 obtain ⟨g3, m3, t3⟩ := C3.at
 obtain ⟨g4, m4, t4⟩ := C4.at
 refine ⟨_, q0o (q0j (q1z (q0f CF hr (q0c (pv 0) (q0c (q2v (q0c (q3d rfl m1) (q0c (q3d rfl m1) (q0c (q3d rfl m3) (q0c (q3d rfl m4) q0b))))) q0b)))
  (q2h (q0f CE (hr.mono (by omega)) (q0c (q0w q0n (pv 0) q0a (fun _ _ => rfl)) (q0c (q0w q0n (pv 0) q0a (fun _ _ => rfl)) q0b)))))), ?_⟩
 refine ⟨_, rfl, q4m (by show 4 ≤ 1000; decide), fun p hp => ⟨B, v, d, p, _, [geD 0, geD 0, q2z, q3o], hB, rfl, I.same (q0i hp), SqT.of q0g, .cons (t1 kk h1) (.cons (t1 kk h1) (.cons (t3 kk h3) (.cons (t4 kk h4) .nil))), (by show 4 ≤ 1000; decide), fun H' s' => ⟨_, rfl, ?_⟩⟩⟩
 have k0 := k H' ((q0i hp).trans s')
 unfold x6a at k0
 cases hf : q9x [geD 0, geD 0, q2z, q3o] d with
 | false => rw [hf] at k0; exact q0z k0
 | true =>
  rw [hf] at k0
  obtain ⟨a, b, c, e, rfl, ha, hb⟩ := z9t hf
  obtain ⟨i, rfl⟩ := ge_int ha
  obtain ⟨j, rfl⟩ := ge_int hb
  have I2 := (I.same (q0i (o := HO.tup [V.ref g1, V.ref g1, V.ref g3, V.ref g4]) hp)).same s'
  cases I2 with
  | @tup b0 ys _ eb hl r =>
  cases r with
  | cons i0 r =>
  cases r with
  | cons i1 r =>
  cases i0
  cases i1
  exact q1o ⟨_, rfl, b0, _, 0, _, rfl, rfl, SqT.of eb, w2p _ _, _, rfl, b0, _, 1, _, rfl, rfl, SqT.of eb, w4h _ _ _, i, j, rfl, k0⟩
end
end K1
namespace Kp
open PySem
noncomputable def q7i (m : Nat) : D → Bool
 | .tup ds => decide (ds.length = m) && ((q1w (ds.getD 0 .non) && whole (ds.getD (m - 1) .non)) && (!decide (m = 3) || geD 1 (ds.getD 1 .non)))
 | _ => false
theorem z9g : q7i 2 = x7n := funext fun d => by
 cases d with
 | tup ds =>
  show _ = q0v [q1w, whole] ds
  rw [z4r]
  match ds with
  | [] => rfl
  | [_] => rfl
  | [a, b] => simp [q7i, two]
  | _ :: _ :: _ :: _ => simp [q7i, two]
 | _ => rfl
theorem z1h : q7i 3 = q7g := funext fun d => by
 cases d with
 | tup ds =>
  show _ = q0v [q1w, geD 1, whole] ds
  rw [j4s]
  match ds with
  | [] => rfl
  | [_] => rfl
  | [_, _] => rfl
  | [a, b, c] =>
   show (true && ((q1w a && whole c) && (false || geD 1 b))) = (q1w a && (geD 1 b && whole c))
   cases q1w a <;> cases whole c <;> cases geD 1 b <;> rfl
  | _ :: _ :: _ :: _ :: _ => simp [q7i, x1k]
 | _ => rfl
end Kp
namespace K1
open PySem L2 Kp
section
variable {P : Program} {w : World} {K : PySem.W.Frag} {mg : Str → Option Value} {base : Heap}
theorem x7d {d : D} (h : q1w d = true) : ∃ x, d = .str x := by
 cases d with
 | str x => exact ⟨x, rfl⟩
 | _ => cases h
theorem j3c (d : D) (h : x0l d = true) : ∃ x r, d = .tup (.str x :: r) := by
 rw [z8m] at h
 obtain ⟨x, y, rfl, hx, _⟩ := x8o h
 obtain ⟨z, rfl⟩ := x7d hx
 exact ⟨z, [y], rfl⟩
theorem z4v (d : D) (h : q4c d = true) : ∃ x r, d = .tup (.str x :: r) := by
 rw [x9k] at h
 obtain ⟨x, y, y2, rfl, hx, _⟩ := x3f h
 obtain ⟨z, rfl⟩ := x7d hx
 exact ⟨z, [y, y2], rfl⟩
noncomputable def z8j : Sp := fun vs H Q _ => ∃ B v d m, B ≤ 1000 ∧ vs = [v, .int ((m : Nat) : Int)] ∧ (m = 2 ∨ m = 3) ∧ Is B H v d ∧ ∀ H', q1a H H' → Q (.bl (q8q (q7i m) d)) H'
theorem w0a : FnScope ["_law_thing", "_law_size", "_law_ahead", "_law_part"] ["_law_thing", "_law_size"] (q0d q9a) := fSc
theorem j1a {f : Addr} {fd : FuncData} (F : Fun K "_law_rises" "_law_rises" q9a f fd) (T : Txt mg) (CF : Cal P w K mg base "_law_from" 1 ["_law_thing", "_law_least"] x1l) (CA : Cal P w K mg base "_law_any" 1 ["_law_thing"] (spP whole))
  (CZ : Cal P w K mg base "_law_sized" 1 ["_law_thing", "_law_size"] x3l) (CN : Cal P w K mg base "_law_name" 1 ["_law_thing"] (spP q1w)) : FnOk P w K mg base CX0 2 f fd ["_law_thing", "_law_size"] z8j := by
 refine F.ok w0a (fun vs H Q E ⟨_, _, _, _, _, e, _⟩ => by subst e; rfl) (fun cdv A outer s H vs Q E hr h => ?_)
 obtain ⟨B, v, d, m, hB, rfl, hm, I, k⟩ := h
 refine ⟨_, @q0x _ _ _ _ _ (q1q (q3b (q2n (q0p q2f (by rfl) T.isi q2e (q1i (pv 0) (q1i (q6p (by rfl) T.tuple q2i) q0b))))) (@q1m _ _ _ (q0j x0m)) q0t)
  (@q0x _ _ _ _ _ (q1c (i := 2) w0a.nd (by rfl) (by exact Or.inl rfl) q0r)
  (@q0x _ _ _ _ _ (x9s PassesOwn.never (by rfl) (q7a (pv 0)) (q1h (i := 3) w0a.nd (by rfl) (by exact Or.inl rfl))
   (@q0x _ _ _ _ _ (q1q (PW.pt (q7j (q3b (q2n (q0f CZ hr (q1i (pv 3) (q1i (pv 1) q0b)))))
    (q7j (q3b (q2n (q0f CN hr (q4n (q0w q0n (pv 3) q0a q2q) q0b))))
    (q7j (q0s q8s (q0w q0n (pv 3) q0a q2q) (pv 2) (q0q _))
    (q7y (q3b (q2n (q0f CA hr (q4n (q0w q0n (pv 3) (q0l x5o (pv 1) q0a) j3x) q0b))))))))) (@q1m _ _ _ (q0j x0m)) q0t)
   (@q0x _ _ _ _ _ (q1q (PW.pt (x5g (q0s q2a (pv 1) q0a (q0q _)) (x6l (q3b (q2n (q0f CF hr (q4n (q0w q0n (pv 3) q0a q2q) (q8e q0a q0b)))))))) (@q1m _ _ _ (q0j x0m)) q0t)
   (@q1m _ _ _ (q1c (i := 2) w0a.nd (by rfl) (by exact Or.inl rfl) (q0w q0n (pv 3) q0a q2q))))))
  (@q1m _ _ _ (q0j x0m)))), ?_⟩
 refine ⟨_, rfl, _, _, _, _, rfl, I.ty, q8o K d, _, rfl, ?_⟩
 cases d with
 | tup ds =>
  cases I with
  | @tup a xs _ ea hl r =>
  have hlen := r.length
  have k2 : ∀ H', q1a H H' → Q (.bl (goR (q7i m) ds "")) H' := k
  refine q0z ⟨_, rfl, a, rfl, ⟨xs, SqT.of ea⟩, x4j (K := K) (a := a) (xs := xs) (fun i σ H' => ∃ l t, σ = [some (.ref a), some (.int (m : Int)), some (.str l), t] ∧ q1a H H' ∧ goR (q7i m) (ds.drop i) l = goR (q7i m) ds "")
   ⟨"", none, rfl, q1a.refl _, rfl⟩ (fun i σ H' _ ⟨_, _, _, s', _⟩ => SqT.of (s' _ _ ea)) ?_ ?_⟩
  ·rintro i x σ H' hx ⟨l, t, rfl, s', e⟩
   obtain ⟨d, hd, Id⟩ := r.get hx
   have hi : i < ds.length := (List.getElem?_eq_some_iff.mp hd).1
   have edr : ds.drop i = d :: ds.drop (i + 1) := by
    rw [List.drop_eq_getElem_cons hi, (List.getElem?_eq_some_iff.mp hd).2]
   rw [edr] at e
   have e0 : ((q7i m d && ltS l (q1l d)) && goR (q7i m) (ds.drop (i + 1)) (q1l d)) = goR (q7i m) ds "" := e
   have no : ∀ {H2 : Hp}, q1a H' H2 → ((q7i m d && ltS l (q1l d)) = false) → Q (.bl false) H2 := fun {H2} s2 z => by
    have k3 := k2 H2 (s'.trans s2)
    rw [← e0, z] at k3
    exact k3
   have Id' := Id.same s'
   refine ⟨_, rfl, _, rfl, B, x, d, (m : Int), hB, rfl, Id', _, rfl, ?_⟩
   cases hz : x2s (m : Int) d with
   | false =>
    refine q1o (q1o (no (q1a.refl _) ?_))
    have : q7i m d = false := by
     cases d with
     | tup ds' =>
      have z : decide ((ds'.length : Int) = (m : Int)) = false := hz
      have z' : ¬ ds'.length = m := fun h => by rw [h] at z; simp at z
      show (decide (ds'.length = m) && _) = false
      rw [decide_eq_false z']; rfl
     | _ => rfl
    rw [this]; rfl
   | true =>
    obtain ⟨ds', rfl⟩ : ∃ ds', d = .tup ds' := by
     cases d with
     | tup ds' => exact ⟨ds', rfl⟩
     | _ => cases hz
    have hn : ds'.length = m := by
     have z : decide ((ds'.length : Int) = (m : Int)) = true := hz
     have := of_decide_eq_true z
     omega
    have ep : q7i m (.tup ds') = ((q1w (ds'.getD 0 .non) && whole (ds'.getD (m - 1) .non)) && (!decide (m = 3) || geD 1 (ds'.getD 1 .non))) := by
     show (decide (ds'.length = m) && _) = _
     rw [decide_eq_true hn]; rfl
    have at' : ∀ j, j < m → ds'[j]? = some (ds'.getD j .non) := fun j hj => by
     have : j < ds'.length := by omega
     simp [this]
    cases Id' with
    | @tup a' xs' _ ea' hl' r' =>
    obtain ⟨v0, e1, I0⟩ := r'.at (i := 0) (at' 0 (by omega))
    obtain ⟨v1, e2, I1⟩ := r'.at (i := 1) (at' 1 (by omega))
    obtain ⟨vl, e3, Il⟩ := r'.at (i := m - 1) (at' (m - 1) (by omega))
    rw [show ((m - 1 : Nat) : Int) = (m : Int) - 1 by omega] at e3
    refine q0z ⟨_, rfl, a', xs', 0, v0, rfl, rfl, SqT.of ea', e1, B, v0, _, hB, rfl, I0, fun H2 s2 => ⟨_, rfl, ?_⟩⟩
    cases hnm : q1w (ds'.getD 0 .non) with
    | false =>
     refine q1o (q1o (no s2 ?_))
     rw [ep, hnm]; rfl
    | true =>
     obtain ⟨x0, hx0⟩ := x7d hnm
     have hw : q1l (.tup ds') = x0 := by
      match ds', hn, hx0 with
      | [], hn, hx0 => exfalso; simp at hn; omega
      | y0 :: yr, hn, hx0 =>
       have : y0 = .str x0 := hx0
       rw [this]; rfl
     rw [hx0] at I0
     cases I0
     refine q0z ⟨_, rfl, a', xs', 0, _, rfl, rfl, SqT.of (s2 _ _ ea'), e1, _, rfl, x0, l, rfl, rfl, _, rfl, ?_⟩
     show if (!ltS l x0) = true then _ else _
     cases hlt : ltS l x0 with
     | false =>
      refine q1o (q1o (no s2 ?_))
      rw [hw, hlt, Bool.and_false]
     | true =>
      refine q0z ⟨_, rfl, _, rfl, _, _, rfl, rfl, a', xs', (m : Int) - 1, vl, rfl, rfl, SqT.of (s2 _ _ ea'), e3, B, vl, _, hB, rfl, Il.same s2, fun H3 s3 => ⟨_, rfl, ?_⟩⟩
      cases hwl : whole (ds'.getD (m - 1) .non) with
      | false =>
       refine q1o (no (s2.trans s3) ?_)
       rw [ep, hnm, hwl]; rfl
      | true =>
       refine q0z ⟨_, rfl, rfl, _, rfl, ?_⟩
       have fin : ∀ {H4 : Hp}, q1a H' H4 → q7i m (.tup ds') = true → goR (q7i m) (ds.drop (i + 1)) x0 = goR (q7i m) ds "" := fun {H4} _ z => by
        rw [← e0, z, hw, hlt]; rfl
       by_cases h3 : m = 3
       ·rw [decide_eq_true (show V.int (m : Int) = V.int 3 by rw [h3]; rfl)]
        refine q1o ⟨_, rfl, a', xs', 1, v1, rfl, rfl, SqT.of (s3 _ _ (s2 _ _ ea')), e2, B, v1, _, 1, hB, rfl, (I1.same s2).same s3, fun H4 s4 => ⟨_, rfl, ?_⟩⟩
        cases hg : geD 1 (ds'.getD 1 .non) with
        | false =>
         refine q1o (no ((s2.trans s3).trans s4) ?_)
         rw [ep, hnm, hwl, hg, decide_eq_true h3]; rfl
        | true =>
         refine q0z ⟨_, rfl, a', xs', 0, _, rfl, rfl, SqT.of (s4 _ _ (s3 _ _ (s2 _ _ ea'))), e1, x0, _, rfl, s'.trans ((s2.trans s3).trans s4), fin ((s2.trans s3).trans s4) ?_⟩
         rw [ep, hnm, hwl, hg, Bool.or_true]; rfl
       ·rw [decide_eq_false (show ¬ V.int (m : Int) = V.int 3 from fun z => h3 (by have := V.int.inj z; omega))]
        refine q0z (q0z ⟨_, rfl, a', xs', 0, _, rfl, rfl, SqT.of (s3 _ _ (s2 _ _ ea')), e1, x0, _, rfl, s'.trans (s2.trans s3), fin (s2.trans s3) ?_⟩)
        rw [ep, hnm, hwl, decide_eq_false h3]; rfl
  ·rintro σ H' ⟨l, t, rfl, s', e⟩
   rw [hlen, List.drop_length] at e
   have k3 := k2 H' s'
   rw [← e] at k3
   exact k3
 | non => exact q1o (k H (q1a.refl _))
 | bl _ => exact q1o (k H (q1a.refl _))
 | int _ => exact q1o (k H (q1a.refl _))
 | str _ => exact q1o (k H (q1a.refl _))
 | lst _ => exact q1o (k H (q1a.refl _))
theorem x9p {m : Nat} {d : D} (h : x2s (m : Int) d = true) : ∃ ds, d = .tup ds ∧ ds.length = m := by
 cases d with
 | tup ds =>
  have z : decide ((ds.length : Int) = (m : Int)) = true := h
  have := of_decide_eq_true z
  exact ⟨ds, rfl, by omega⟩
 | _ => cases h
theorem j1e {d : D} (h : x2s 2 d = false) : q7z d = false := by
 cases d with
 | tup ds =>
  match ds, h with
  | [], _ => rfl
  | [_], _ => rfl
  | [a, b], h => cases h
  | _ :: _ :: _ :: _, _ => rfl
 | _ => rfl
theorem j5p {d : D} (h : x2s 4 d = false) : x0q d = false := by
 cases d with
 | tup ds =>
  match ds, h with
  | [], _ => rfl
  | [_], _ => rfl
  | [_, _], _ => rfl
  | [_, _, _], _ => rfl
  | [_, _, _, _], h => cases h
  | _ :: _ :: _ :: _ :: _ :: _, _ => rfl
 | _ => rfl
theorem w1d : FnScope ["_law_thing"] ["_law_thing"] (q0d q9m) := fSc
theorem z9w {f : Addr} {fd : FuncData} (F : Fun K "_law_store" "_law_store" q9m f fd) (CZ : Cal P w K mg base "_law_sized" 1 ["_law_thing", "_law_size"] x3l) (CR : Cal P w K mg base "_law_rises" 2 ["_law_thing", "_law_size"] z8j) : FnOk P w K mg base CX0 3 f fd ["_law_thing"] (spP q7z) := by
 refine F.ok w1d q2c (fun cdv A outer s H vs Q E hr h => ?_)
 obtain ⟨B, v, d, hB, rfl, I, k⟩ := h
 have r1 := hr.mono (show 1 ≤ 2 by decide)
 refine ⟨_, q0o (q0j (q1z (q0f CZ r1 (q1i (pv 0) (q8e q0a q0b))) (q1z (q0f CR hr (q4n (q0w q0n (pv 0) q0a q2q) (q8e q0a q0b))) (q2h (q0f CR hr (q4n (q0w q0n (pv 0) q0a q2q) (q8e q0a q0b))))))), ?_⟩
 refine ⟨_, rfl, B, v, d, 2, hB, rfl, I, _, rfl, ?_⟩
 cases hz : x2s 2 d with
 | false =>
  have k0 := k H (q1a.refl _)
  rw [j1e hz] at k0
  exact q0z k0
 | true =>
  obtain ⟨ds, rfl, hn⟩ := x9p (m := 2) hz
  match ds, hn, k, I with
  | [y0, y1], _, k, I =>
  have k1 : ∀ H', q1a H H' → Q (.bl (q8q x7n y0 && q8q q7g y1)) H' := k
  cases I with
  | @tup a xs _ ea hl r =>
  obtain ⟨v0, e0, I0⟩ := r.at (i := 0) rfl
  obtain ⟨v1, e1, I1⟩ := r.at (i := 1) rfl
  rw [← z9g, ← z1h] at k1
  refine q1o ⟨_, rfl, a, xs, 0, v0, rfl, rfl, SqT.of ea, e0, B, v0, y0, 2, hB, rfl, .inl rfl, I0, fun H1 s1 => ⟨_, rfl, ?_⟩⟩
  cases hr0 : q8q (q7i 2) y0 with
  | false => rw [hr0] at k1; exact q0z (k1 _ s1)
  | true =>
   rw [hr0] at k1
   exact q1o ⟨_, rfl, a, xs, 1, v1, rfl, rfl, SqT.of (s1 _ _ ea), e1, B, v1, y1, 3, hB, rfl, .inr rfl, I1.same s1, fun H2 s2 => k1 _ (s1.trans s2)⟩
noncomputable def z0u : Sp := fun vs H Q _ => ∃ B u v a b, B ≤ 1000 ∧ vs = [u, v] ∧ Is B H u a ∧ Is B H v b ∧ ∀ H', q1a H H' → Q (.bl (q4u a b)) H'
theorem w4t : FnScope ["_law_place", "_law_last"] ["_law_place", "_law_last"] (q0d q8m) := fSc
theorem z6b {f : Addr} {fd : FuncData} (F : Fun K "_law_stand" "_law_stand" q8m f fd) (CF : Cal P w K mg base "_law_from" 1 ["_law_thing", "_law_least"] x1l) : FnOk P w K mg base CX0 2 f fd ["_law_place", "_law_last"] z0u := by
 refine F.ok w4t (fun vs H Q E ⟨_, _, _, _, _, _, e, _⟩ => by subst e; rfl) (fun cdv A outer s H vs Q E hr h => ?_)
 obtain ⟨B, u, v, a, b, hB, rfl, Iu, Iv, k⟩ := h
 refine ⟨_, @q0x _ _ _ _ _ (q1q (PW.pt (q7j (q3b (q2n (q0f CF hr (q1i (pv 0) (q8e q0a q0b))))) (q7y (q3b (q2n (q0f CF hr (q1i (pv 1) (q8e q0a q0b)))))))) (@q1m _ _ _ (q0j x0m)) q0t)
  (@q1m _ _ _ (q0j (z7c (q1z (q1r q2a (pv 0) q0a (q0q _)) (q2h (q1r q2a (pv 1) q0a (q0q _)))) (q2h (q1z (q1r z1f (pv 0) q0a (q0q _)) (q2h (q1r z1f (pv 1) q0a (q0q _)))))))), ?_⟩
 refine ⟨_, rfl, B, u, a, 0, hB, rfl, Iu, fun H1 s1 => ⟨_, rfl, ?_⟩⟩
 cases ha : geD 0 a with
 | false =>
  have k0 := k _ s1
  unfold q4u at k0
  rw [ha] at k0
  exact q1o (q1o k0)
 | true =>
  refine q0z ⟨_, rfl, B, v, b, 0, hB, rfl, Iv.same s1, fun H2 s2 => ⟨_, rfl, ?_⟩⟩
  have k0 := k _ (s1.trans s2)
  unfold q4u at k0
  rw [ha] at k0
  cases hb : geD 0 b with
  | false =>
   rw [hb] at k0
   exact q1o k0
  | true =>
   rw [hb] at k0
   obtain ⟨i, rfl⟩ : ∃ i, a = .int i := by
    cases a with
    | int i => exact ⟨i, rfl⟩
    | _ => cases ha
   obtain ⟨j, rfl⟩ : ∃ j, b = .int j := by
    cases b with
    | int j => exact ⟨j, rfl⟩
    | _ => cases hb
   cases Iu
   cases Iv
   have k1 : Q (.bl ((decide (i = 0) && decide (j = 0)) || (decide (0 < i) && decide (0 < j)))) H2 := k0
   have ei : ∀ i : Int, decide (V.int i = V.int 0) = decide (i = 0) := fun i => by
    rw [Bool.eq_iff_iff]; simp only [decide_eq_true_eq]; exact ⟨fun h => V.int.inj h, fun h => by rw [h]⟩
   refine q0z ⟨_, rfl, rfl, _, rfl, ?_⟩
   rw [ei]
   cases h1 : decide (i = 0) with
   | true =>
    rw [h1] at k1
    refine q1o ⟨_, rfl, rfl, _, rfl, ?_⟩
    rw [ei]
    cases h2 : decide (j = 0) with
    | true => rw [h2] at k1; exact q1o k1
    | false =>
     rw [h2] at k1
     have hi : i = 0 := of_decide_eq_true h1
     refine q0z ⟨_, rfl, _, _, rfl, rfl, _, rfl, ?_⟩
     have k2 : Q (.bl (decide (0 < i) && decide (0 < j))) H2 := k1
     rw [decide_eq_false (show ¬ (0 : Int) < i by omega)] at k2 ⊢
     exact q0z k2
   | false =>
    rw [h1] at k1
    refine q0z ⟨_, rfl, ?_⟩
    refine q0z ⟨_, rfl, _, _, rfl, rfl, _, rfl, ?_⟩
    have k2 : Q (.bl (decide (0 < i) && decide (0 < j))) H2 := k1
    cases h3 : decide (0 < i) with
    | false => rw [h3] at k2; exact q0z k2
    | true => rw [h3] at k2; exact q1o ⟨_, rfl, _, _, rfl, rfl, k2⟩
theorem w0u : FnScope ["_law_thing"] ["_law_thing"] (q0d x0u) := fSc
theorem j2x {f : Addr} {fd : FuncData} (F : Fun K "_law_pack" "_law_pack" x0u f fd) (CZ : Cal P w K mg base "_law_sized" 1 ["_law_thing", "_law_size"] x3l) (CD : Cal P w K mg base "_law_stand" 2 ["_law_place", "_law_last"] z0u)
  (CS : Cal P w K mg base "_law_seats" 2 ["_law_thing"] (spP q4l)) (CT : Cal P w K mg base "_law_store" 3 ["_law_thing"] (spP q7z)) : FnOk P w K mg base CX0 4 f fd ["_law_thing"] (spP x0q) := by
 refine F.ok w0u q2c (fun cdv A outer s H vs Q E hr h => ?_)
 obtain ⟨B, v, d, hB, rfl, I, k⟩ := h
 have r1 := hr.mono (show 1 ≤ 3 by decide)
 have r2 := hr.mono (show 2 ≤ 3 by decide)
 refine ⟨_, q0o (q0j (q1z (q0f CZ r1 (q1i (pv 0) (q8e q0a q0b))) (q1z (q0f CD r2 (q4n (q0w q0n (pv 0) q0a q2q) (q4n (q0w q0n (pv 0) q0a q2q) q0b)))
  (q1z (q0f CS r2 (q4n (q0w q0n (pv 0) q0a q2q) q0b)) (q2h (q0f CT hr (q4n (q0w q0n (pv 0) q0a q2q) q0b))))))), ?_⟩
 refine ⟨_, rfl, B, v, d, 4, hB, rfl, I, _, rfl, ?_⟩
 cases hz : x2s 4 d with
 | false =>
  have k0 := k H (q1a.refl _)
  rw [j5p hz] at k0
  exact q0z k0
 | true =>
  obtain ⟨ds, rfl, hn⟩ := x9p (m := 4) hz
  match ds, hn, k, I with
  | [y0, y1, y2, y3], _, k, I =>
  have k1 : ∀ H', q1a H H' → Q (.bl (q4u y0 y1 && (q4l y2 && q7z y3))) H' := k
  cases I with
  | @tup a xs _ ea hl r =>
  obtain ⟨v0, e0, I0⟩ := r.at (i := 0) rfl
  obtain ⟨v1, e1, I1⟩ := r.at (i := 1) rfl
  obtain ⟨v2, e2, I2⟩ := r.at (i := 2) rfl
  obtain ⟨v3, e3, I3⟩ := r.at (i := 3) rfl
  refine q1o ⟨_, rfl, a, xs, 0, v0, rfl, rfl, SqT.of ea, e0, _, rfl, a, xs, 1, v1, rfl, rfl, SqT.of ea, e1, B, v0, v1, y0, y1, hB, rfl, I0, I1, fun H1 s1 => ⟨_, rfl, ?_⟩⟩
  cases h0 : q4u y0 y1 with
  | false => rw [h0] at k1; exact q0z (k1 _ s1)
  | true =>
   rw [h0] at k1
   refine q1o ⟨_, rfl, a, xs, 2, v2, rfl, rfl, SqT.of (s1 _ _ ea), e2, B, v2, y2, hB, rfl, I2.same s1, fun H2 s2 => ⟨_, rfl, ?_⟩⟩
   cases h1 : q4l y2 with
   | false => rw [h1] at k1; exact q0z (k1 _ (s1.trans s2))
   | true =>
    rw [h1] at k1
    exact q1o ⟨_, rfl, a, xs, 3, v3, rfl, rfl, SqT.of (s2 _ _ (s1 _ _ ea)), e3, B, v3, y3, hB, rfl, (I3.same s1).same s2, fun H3 s3 => k1 _ ((s1.trans s2).trans s3)⟩
theorem x0s {tb : List (Str × List (D → Bool))} {d : D} {ps : List (D → Bool)} (h : tb.lookup (q1l d) = some ps) (h0 : tb.lookup ("" : Str) = none) : ∃ x r, d = .tup (.str x :: r) ∧ q2g tb d = q0v ps r := by
 obtain ⟨r, e⟩ := q6c (d := d) rfl (fun z => by rw [z, h0] at h; cases h)
 generalize q1l d = x at e h
 subst e
 refine ⟨_, r, rfl, ?_⟩
 show (match tb.lookup x with | some ps => q0v ps r | none => false) = _
 rw [h]
theorem x1y {tb : List (Str × List (D → Bool))} {x : Str} {ps : List (D → Bool)} (h : tb.lookup x = some ps) : (x, ps) ∈ tb := L2.q7d h
structure TabOk (P : Program) (w : World) (K : PySem.W.Frag) (mg : Str → Option Value) (base : Heap) (name : Str) (kk : Nat) (tb : List (Str × List (D → Bool))) : Prop where
 ex : ∃ a es n, mg name = some (.ref a) ∧ K.lookup a = some ⟨.type "dict", none, .dict es n, #[]⟩ ∧ (a == sysModules) = false ∧ Tbl P w K mg base kk es.toList tb
 no : tb.lookup ("" : Str) = none
 few : ∀ q ∈ tb, q.2.length ≤ 1000
theorem x0h (es : Array DictEntry) (x : Str) : findBy Value.isStrOf es x = ((es.toList.find? fun e => Value.isStrOf x e.key).map (·.val)) := by
 unfold findBy
 rw [← Array.find?_toList]
theorem w3f : FnScope ["thing"] ["thing"] (q0d x3x) := fSc
theorem j6k {f : Addr} {fd : FuncData} {kk : Nat} {tb : List (Str × List (D → Bool))} (F : Fun K "is_deed" "is_deed" x3x f fd) (TB : TabOk P w K mg base "DEED_TELLERS" kk tb)
  (CW : Cal P w K mg base "first_word" 1 ["thing"] q9y) (CB : Cal P w K mg base "fits_behind_word" (kk + 2) ["thing", "tellers"] (z1j P w K mg base kk)) : FnOk P w K mg base CX0 (kk + 3) f fd ["thing"] (spP (q2g tb)) := by
 refine F.ok w3f q2c (fun cdv A outer s H vs Q E hr h => ?_)
 obtain ⟨B, v, d, hB, rfl, I, k⟩ := h
 obtain ⟨aD, es, n, mD, lD, hsys, hT⟩ := TB.ex
 refine ⟨_, q0o (q0j (q0f CB hr (q0c (pv 0) (q0c (x2j (q3d rfl mD) (q0c (q0f CW (hr.mono (by omega)) (q0c (pv 0) q0b)) q0b)) q0b)))), ?_⟩
 obtain ⟨vv, rel, hv⟩ := hT.find (x := q1l d)
 rw [← x0h] at rel
 refine ⟨_, rfl, aD, es, n, rfl, lD, hT.keys, hsys, _, rfl, B, v, d, hB, rfl, I, _, vv, rfl, rel, B, v, d, vv, hB, rfl, I, ?_⟩
 rcases hv with ⟨hn, rfl⟩ | ⟨ps, t, gs, hs, rfl, hq, ht⟩
 ·have k0 := k H (q1a.refl _)
  rw [x0j hn] at k0
  exact .inl ⟨rfl, k0⟩
 ·obtain ⟨x, r, rfl, e⟩ := x0s hs TB.no
  refine .inr ⟨t, gs, ps, _, r, rfl, rfl, hq H, ht, ?_, fun H' s' => ?_⟩
  ·rw [ht.length]; exact TB.few _ (x1y hs)
  ·have k0 := k H' s'
   rw [e] at k0
   exact k0
theorem w5r : FnScope ["thing"] ["thing"] (q0d x4g) := fSc
theorem j4z {f : Addr} {fd : FuncData} {kk : Nat} {tb : List (Str × List (D → Bool))} (F : Fun K "is_what" "is_what" x4g f fd) (TB : TabOk P w K mg base "WHAT_TELLERS" kk tb)
  (CW : Cal P w K mg base "first_word" 1 ["thing"] q9y) (CB : Cal P w K mg base "fits_behind_word" (kk + 2) ["thing", "tellers"] (z1j P w K mg base kk)) : FnOk P w K mg base CX0 (kk + 3) f fd ["thing"] (spP (q2g tb)) := by
 refine F.ok w5r q2c (fun cdv A outer s H vs Q E hr h => ?_)
 obtain ⟨B, v, d, hB, rfl, I, k⟩ := h
 obtain ⟨aD, es, n, mD, lD, hsys, hT⟩ := TB.ex
 refine ⟨_, q0o (q0j (q0f CB hr (q0c (pv 0) (q0c (x2j (q3d rfl mD) (q0c (q0f CW (hr.mono (by omega)) (q0c (pv 0) q0b)) q0b)) q0b)))), ?_⟩
 obtain ⟨vv, rel, hv⟩ := hT.find (x := q1l d)
 rw [← x0h] at rel
 refine ⟨_, rfl, aD, es, n, rfl, lD, hT.keys, hsys, _, rfl, B, v, d, hB, rfl, I, _, vv, rfl, rel, B, v, d, vv, hB, rfl, I, ?_⟩
 rcases hv with ⟨hn, rfl⟩ | ⟨ps, t, gs, hs, rfl, hq, ht⟩
 ·have k0 := k H (q1a.refl _)
  rw [x0j hn] at k0
  exact .inl ⟨rfl, k0⟩
 ·obtain ⟨x, r, rfl, e⟩ := x0s hs TB.no
  refine .inr ⟨t, gs, ps, _, r, rfl, rfl, hq H, ht, ?_, fun H' s' => ?_⟩
  ·rw [ht.length]; exact TB.few _ (x1y hs)
  ·have k0 := k H' s'
   rw [e] at k0
   exact k0
theorem w4e : FnScope ["thing"] ["thing"] (q0d x1r) := fSc
theorem j3f {f : Addr} {fd : FuncData} {kk k1 k2 : Nat} (F : Fun K "is_entry" "is_entry" x1r f fd) (C1 : Cal P w K mg base "is_from_one" k1 ["thing"] (spP (geD 1))) (C2 : Cal P w K mg base "is_what" k2 ["thing"] (spP x0c)) (h1 : k1 ≤ kk) (h2 : k2 ≤ kk)
  (CF : Cal P w K mg base "fits" (kk + 1) ["thing", "tellers"] (q6x P w K mg base kk)) : FnOk P w K mg base CX0 (kk + 2) f fd ["thing"] (spP q3m) := by
 refine F.ok w4e q2c (fun cdv A outer s H vs Q E hr h => ?_)
 obtain ⟨B, v, d, hB, rfl, I, k⟩ := h
 obtain ⟨g1, m1, t1⟩ := C1.at
 obtain ⟨g2, m2, t2⟩ := C2.at
 refine ⟨_, q0o (q0j (q0f CF hr (q0c (pv 0) (q0c (q2v (q0c (q3d rfl m1) (q0c (q3d rfl m2) q0b))) q0b)))), ?_⟩
 refine ⟨_, rfl, (by show 2 ≤ sizeLine; rw [sizeLine_eq]; decide), fun p hp => ⟨B, v, d, p, _, [geD 1, x0c], hB, rfl, I.same (q0i hp), SqT.of q0g, .cons (t1 kk h1) (.cons (t2 kk h2) .nil), (by show 2 ≤ 1000; decide), fun H' s' => k H' ((q0i hp).trans s')⟩⟩
theorem w5e : FnScope ["thing"] ["thing"] (q0d x2b) := fSc
theorem j0u (d : D) : z7l d = q3l d := by cases d <;> rfl
theorem j2w {f : Addr} {fd : FuncData} (F : Fun K "is_truth" "is_truth" x2b f fd) (T : Txt mg) : FnOk P w K mg base CX0 1 f fd ["thing"] (spP q3l) := by
 refine F.ok w5e q2c (fun cdv A outer s H vs Q E hr h => ?_)
 obtain ⟨B, v, d, hB, rfl, I, k⟩ := h
 refine ⟨_, q0o (q0j (q0p q2f rfl T.isi q2e (q1i (pv 0) (q1i (q6p rfl T.bool q7c) q0b)))), ?_⟩
 have k0 := k H (q1a.refl _)
 rw [← j0u] at k0
 exact ⟨_, rfl, _, _, _, _, rfl, I.ty, q7n K d, k0⟩
theorem w4m : FnScope ["thing"] ["thing"] (q0d x4k) := fSc
theorem j7f {f : Addr} {fd : FuncData} (F : Fun K "is_head" "is_head" x4k f fd) (CK : Cal P w K mg base "is_keeper" 2 ["thing"] (spP q0h)) : FnOk P w K mg base CX0 3 f fd ["thing"] (spP q6w) := by
 refine F.ok w4m q2c (fun cdv A outer s H vs Q E hr h => ?_)
 obtain ⟨B, v, d, hB, rfl, I, k⟩ := h
 refine ⟨_, q0o (q0j (z7c (q1r z2b (pv 0) x2r (q0q _)) (q2h (q0f CK hr (q1i (pv 0) q0b))))), ?_⟩
 refine ⟨_, rfl, rfl, _, rfl, ?_⟩
 have go : ∀ (d : D), d ≠ .non → Is B H v d → (∀ H', q1a H H' → Q (.bl (q6w d)) H') → decide (v = V.non) = false ∧ ∀ H', q1a H H' → Q (.bl (q0h d)) H' := fun d hd I k => by
  cases I with
  | non => exact absurd rfl hd
  | _ => exact ⟨rfl, k⟩
 by_cases hd : d = .non
 ·subst hd
  cases I
  exact q1o (k H (q1a.refl _))
 ·obtain ⟨e, k'⟩ := go d hd I k
  rw [e]
  exact q0z ⟨_, rfl, B, v, d, hB, rfl, I, k'⟩
theorem w1c (p : D → Bool) (d : D) : w1m p d = w0e p d := by cases d <;> rfl
theorem w3w : FnScope ["thing"] ["thing"] (q0d q9c) := fSc
theorem z5p {f : Addr} {fd : FuncData} {kk : Nat} (F : Fun K "is_entries" "is_entries" q9c f fd) (T : Txt mg) (CE : Cal P w K mg base "is_entry" kk ["thing"] (spP q3m))
  (CR : ∀ g gd, FnOk P w K mg base CX0 kk g gd ["thing"] (spP q3m) → PySem.W.keepIn K (.ref g) = true → q3p K gd ["thing"] [] → Cal P w K mg base "is_row_of" (kk + 1) ["thing", "teller"] (j2e g q3m)) : FnOk P w K mg base CX0 (kk + 2) f fd ["thing"] (spP q1y) := by
 refine F.ok w3w q2c (fun cdv A outer s H vs Q E hr h => ?_)
 obtain ⟨B, v, d, hB, rfl, I, k⟩ := h
 obtain ⟨g, gd, G, m, kp, b⟩ := CE.ex
 obtain ⟨gR, dR, GR, mR, kR, bR⟩ := (CR g gd G kp b).ex
 refine ⟨_, q0o (q0j (q1z (x2i GR hr rfl mR kR bR .nil q6z (q1i (pv 0) (q1i (q3d rfl m) q0b))) (q2h (q1r x5u (q0p q0y rfl T.len PySem.boot_len (q1i (pv 0) q0b)) q0a (q0q _))))), ?_⟩
 refine ⟨_, rfl, B, v, d, hB, rfl, I, fun H1 s1 => ⟨_, rfl, ?_⟩⟩
 have k0 := k H1 s1
 unfold q1y at k0
 rw [← w1c] at k0
 cases hr0 : w1m q3m d with
 | false => rw [hr0] at k0; exact q0z k0
 | true =>
  rw [hr0] at k0
  obtain ⟨ds, rfl⟩ : ∃ ds, d = .tup ds := by
   cases d with
   | tup ds => exact ⟨ds, rfl⟩
   | _ => cases hr0
  cases I with
  | @tup a xs _ ea hl r =>
  refine q1o ⟨_, rfl, a, xs, rfl, .inr (SqT.of (s1 _ _ ea)), _, _, rfl, rfl, ?_⟩
  have e : decide ((xs.length : Int) ≤ 5) = decide (z5q (.tup ds) ≤ 5) := by
   rw [r.length, Bool.eq_iff_iff]; simp only [decide_eq_true_eq]; show (ds.length : Int) ≤ 5 ↔ ds.length ≤ 5; omega
  show Q (.bl (decide ((xs.length : Int) ≤ 5))) H1
  rw [e]
  exact k0
theorem w5g : FnScope ["thing"] ["thing"] (q0d q5f) := fSc
theorem j6c {f : Addr} {fd : FuncData} {kk : Nat} (F : Fun K "is_pack_to_send" "is_pack_to_send" q5f f fd) (CP : Cal P w K mg base "is_pack" kk ["thing"] (spP x6a)) : FnOk P w K mg base CX0 (kk + 1) f fd ["thing"] (spP q8d) := by
 refine F.ok w5g q2c (fun cdv A outer s H vs Q E hr h => ?_)
 obtain ⟨B, v, d, hB, rfl, I, k⟩ := h
 refine ⟨_, q0o (q0j (q1z (q0f CP hr (q1i (pv 0) q0b)) (q2h (q1r z7x (q0w q0n (pv 0) q0a q2q) q0a (q0q _))))), ?_⟩
 refine ⟨_, rfl, B, v, d, hB, rfl, I, fun H1 s1 => ⟨_, rfl, ?_⟩⟩
 have k0 := k H1 s1
 unfold q8d at k0
 cases hp : x6a d with
 | false => rw [hp] at k0; exact q0z k0
 | true =>
  rw [hp] at k0
  obtain ⟨i, r, rfl, hi⟩ := x6h ((z8n d).symm.trans hp)
  cases I with
  | @tup a xs _ ea hl rr =>
  obtain ⟨v0, e0, I0⟩ := rr.at (i := 0) rfl
  cases I0
  exact q1o ⟨_, rfl, a, xs, 0, _, rfl, rfl, SqT.of (s1 _ _ ea), e0, _, _, rfl, rfl, k0⟩
theorem w2l : FnScope ["thing", "word"] ["thing"] (q0d x0i) := fSc
theorem x9e {d : D} (h : q2g q2l d = true) : ∃ x a b r, d = .tup (.str x :: a :: b :: r) ∧ (q0h a = true ∨ q2b a = true) ∧ (q0h b = true ∨ q2b b = true) ∧
  (x = "ask" ∨ x = "hand" → ∃ c i j r', r = c :: D.int i :: D.int j :: r') := by
 unfold q2g at h
 split at h
 ·rename_i x r
  unfold q2l at h
  simp only [List.lookup_cons, List.lookup_nil] at h
  have ne : ∀ {s t : Str}, s ≠ t → (s == t) = false := fun h => by simp [h]
  have yes : ∀ s : Str, (s == s) = true := fun s => by simp
  by_cases h1 : x = "ask"
  ·subst h1
   rw [yes] at h
   have h' : q0v [q0h, q0h, geD 1, geD 0, geD 0] r = true := h
   rw [j2s] at h'
   match r, h' with
   | [a, b, t, p, l], h' =>
    simp only [Bool.and_eq_true] at h'
    obtain ⟨i, rfl⟩ := ge_int h'.2.2.2.1
    obtain ⟨j, rfl⟩ := ge_int h'.2.2.2.2
    exact ⟨_, a, b, _, rfl, .inl h'.1, .inl h'.2.1, fun _ => ⟨t, i, j, [], rfl⟩⟩
  rw [ne h1] at h
  by_cases h3 : x = "hand"
  ·subst h3
   rw [ne (show ("hand" : Str) ≠ "voice" by decide +kernel), yes] at h
   have h' : q0v [q0h, q0h, geD 1, geD 0, geD 0, q1y, geD 0] r = true := h
   rw [j4k] at h'
   match r, h' with
   | [a, b, t, p, l, e, m], h' =>
    simp only [Bool.and_eq_true] at h'
    obtain ⟨i, rfl⟩ := ge_int h'.2.2.2.1
    obtain ⟨j, rfl⟩ := ge_int h'.2.2.2.2.1
    exact ⟨_, a, b, _, rfl, .inl h'.1, .inl h'.2.1, fun _ => ⟨t, i, j, _, rfl⟩⟩
  rw [ne h3] at h
  have hx : ∀ r' : List D, x = "ask" ∨ x = "hand" → ∃ c i j r'', r' = c :: D.int i :: D.int j :: r'' := fun (_ : List D) z => by rcases z with z | z; exact absurd z h1; exact absurd z h3
  have four : ∀ {p q s t : D → Bool} {r : List D}, q0v [p, q, s, t] r = true → ∃ a b c d, r = [a, b, c, d] ∧ p a = true ∧ q b = true := fun {p q s t r} h => by
   rw [z4l] at h
   match r, h with
   | [a, b, c, d], h =>
    simp only [Bool.and_eq_true] at h
    exact ⟨a, b, c, d, rfl, h.1, h.2.1⟩
  by_cases h2 : x = "voice"
  ·subst h2
   rw [yes] at h
   obtain ⟨a, b, c, d, rfl, ha, hb⟩ := four h
   exact ⟨_, a, b, _, rfl, .inl ha, .inl hb, hx _⟩
  rw [ne h2] at h
  by_cases h4 : x = "pack"
  ·subst h4
   rw [yes] at h
   obtain ⟨a, b, c, d, rfl, ha, hb⟩ := four h
   exact ⟨_, a, b, _, rfl, .inl ha, .inl hb, hx _⟩
  rw [ne h4] at h
  by_cases h5 : x = "held"
  ·subst h5
   rw [yes] at h
   have h' : q0v [q0h, q0h, geD 1, q3l, geD 0] r = true := h
   rw [j2s] at h'
   match r, h' with
   | [a, b, t, p, l], h' =>
    simp only [Bool.and_eq_true] at h'
    exact ⟨_, a, b, _, rfl, .inl h'.1, .inl h'.2.1, hx _⟩
  rw [ne h5] at h
  by_cases h6 : x = "wish"
  ·subst h6
   rw [yes] at h
   obtain ⟨a, b, c, d, rfl, ha, hb⟩ := four h
   exact ⟨_, a, b, _, rfl, .inr ha, .inl hb, hx _⟩
  rw [ne h6] at h
  by_cases h7 : x = "told"
  ·subst h7
   rw [yes] at h
   obtain ⟨a, b, c, d, rfl, ha, hb⟩ := four h
   exact ⟨_, a, b, _, rfl, .inl ha, .inr hb, hx _⟩
  rw [ne h7] at h
  by_cases h8 : x = "away"
  ·subst h8
   rw [yes] at h
   obtain ⟨a, b, c, d, rfl, ha, hb⟩ := four h
   exact ⟨_, a, b, _, rfl, .inl ha, .inr hb, hx _⟩
  rw [ne h8] at h
  cases h
 ·cases h
theorem j4b {B : Nat} {H : Hp} {v : V} {d : D} (I : Is B H v d) (h : q0h d = true ∨ q2b d = true) : (∃ i, d = .int i ∧ v = .int i) ∨ ∃ x, d = .str x ∧ v = .str x := by
 cases I with
 | int i => exact .inl ⟨i, rfl, rfl⟩
 | str x _ => exact .inr ⟨x, rfl, rfl⟩
 | _ => rcases h with h | h <;> cases h
theorem z3m {B : Nat} {H : Hp} {v u : V} {a b : D} (Ia : Is B H v a) (Ib : Is B H u b) (ha : q0h a = true ∨ q2b a = true) (hb : q0h b = true ∨ q2b b = true) : w0z v u = true ∧ decide (v = u) = q9b a b := by
 rcases j4b Ia ha with ⟨i, rfl, rfl⟩ | ⟨x, rfl, rfl⟩ <;> rcases j4b Ib hb with ⟨j, rfl, rfl⟩ | ⟨y, rfl, rfl⟩
 ·refine ⟨rfl, ?_⟩
  show decide (V.int i = V.int j) = decide (i = j)
  rw [Bool.eq_iff_iff]; simp only [decide_eq_true_eq]; exact ⟨fun h => V.int.inj h, fun h => by rw [h]⟩
 ·exact ⟨rfl, decide_eq_false (fun z => by cases z)⟩
 ·exact ⟨rfl, decide_eq_false (fun z => by cases z)⟩
 ·refine ⟨rfl, ?_⟩
  show decide (V.str x = V.str y) = decide (x = y)
  rw [Bool.eq_iff_iff]; simp only [decide_eq_true_eq]; exact ⟨fun h => V.str.inj h, fun h => by rw [h]⟩
theorem j9i (x y z : Str) : inV (V.str x) [V.str y, V.str z] = decide (x = y ∨ x = z) := by
 show (decide ((y : Str) = x) || (decide ((z : Str) = x) || false)) = _
 rw [Bool.eq_iff_iff]
 simp only [Bool.or_eq_true, decide_eq_true_eq, Bool.false_eq_true, or_false]
 exact ⟨fun h => h.imp Eq.symm Eq.symm, fun h => h.imp Eq.symm Eq.symm⟩
theorem z6a {f : Addr} {fd : FuncData} {kk : Nat} (F : Fun K "is_letter" "is_letter" x0i f fd) (TB : TabOk P w K mg base "LETTER_TELLERS" kk q2l)
  (CW : Cal P w K mg base "first_word" 1 ["thing"] q9y) (CB : Cal P w K mg base "fits_behind_word" (kk + 2) ["thing", "tellers"] (z1j P w K mg base kk)) (CE : Cal P w K mg base "is_end" 1 ["place", "last"] j6d) : FnOk P w K mg base CX0 (kk + 3) f fd ["thing"] (spP q2p) := by
 refine F.ok w2l q2c (fun cdv A outer s H vs Q E hr h => ?_)
 obtain ⟨B, v, d, hB, rfl, I, k⟩ := h
 obtain ⟨aD, es, n, mD, lD, hsys, hT⟩ := TB.ex
 have r1 := hr.mono (show 1 ≤ kk + 2 by omega)
 refine ⟨_, @q0x _ _ _ _ _ (q1c (i := 1) w2l.nd (by rfl) (by exact Or.inl rfl) (q0f CW r1 (q1i (pv 0) q0b)))
  (@q0x _ _ _ _ _ (q1q (q3b (q2n (q0f CB hr (q1i (pv 0) (q7f (x2j (q3d (by rfl) mD) (q1i (pv 1) q0b)) q0b))))) (@q1m _ _ _ (q0j x0m)) q0t)
  (@q0x _ _ _ _ _ (q1q (q0s q2a (q0w q0n (pv 0) q0a q2q) (q0w q0n (pv 0) q0a q2q) (q0q _)) (@q1m _ _ _ (q0j x0m)) q0t)
  (@q1m _ _ _ (q0j (z7c (q1r q6i (pv 1) (QE.h (q6g (q2u (q2u q5k)))) rfl) (q2h (q0f CE r1 (q4n (q0w q0n (pv 0) q0a q2q) (q4n (q0w q0n (pv 0) q0a q2q) q0b))))))))), ?_⟩
 obtain ⟨vv, rel, hv⟩ := hT.find (x := q1l d)
 rw [← x0h] at rel
 refine ⟨_, rfl, B, v, d, hB, rfl, I, _, rfl, aD, es, n, rfl, lD, hT.keys, hsys, _, rfl, _, vv, rfl, rel, B, v, d, vv, hB, rfl, I, ?_⟩
 rcases hv with ⟨hn, rfl⟩ | ⟨ps, t, gs, hs, rfl, hq, ht⟩
 ·have k0 := k H (q1a.refl _)
  unfold q2p at k0
  rw [x0j hn] at k0
  exact .inl ⟨rfl, _, rfl, q1o k0⟩
 ·obtain ⟨x0, r0, ed, e⟩ := x0s hs TB.no
  refine .inr ⟨t, gs, ps, .str x0, r0, rfl, ed, hq H, ht, ?_, fun H' s' => ⟨_, rfl, ?_⟩⟩
  ·rw [ht.length]; exact TB.few _ (x1y hs)
  ·have k0 := k H' s'
   unfold q2p at k0
   rw [← e]
   cases hf : q2g q2l d with
   | false => rw [hf] at k0; exact q1o k0
   | true =>
    rw [hf] at k0
    obtain ⟨x, a, b, r, rfl, ha, hb, hends⟩ := x9e hf
    have I' := I.same s'
    cases I' with
    | @tup p xs _ ep hl rr =>
    obtain ⟨v1, e1, I1⟩ := rr.at (i := 1) rfl
    obtain ⟨v2, e2, I2⟩ := rr.at (i := 2) rfl
    obtain ⟨sc, sd⟩ := z3m I1 I2 ha hb
    have k1 : Q (.bl (!q9b a b && z5o (.tup (.str x :: a :: b :: r)))) H' := k0
    refine q0z ⟨_, rfl, p, xs, 1, v1, rfl, rfl, SqT.of ep, e1, _, rfl, p, xs, 2, v2, rfl, rfl, SqT.of ep, e2, sc, _, rfl, ?_⟩
    rw [sd]
    cases hsm : q9b a b with
    | true => rw [hsm] at k1; exact q1o k1
    | false =>
     rw [hsm] at k1
     refine q0z ⟨_, rfl, q4m (by show 2 ≤ 1000; decide), fun q hq => ⟨q, _, rfl, .inr (SqT.of q0g), rfl, rfl, _, rfl, ?_⟩⟩
     have s2 := q0i (o := HO.tup [V.str "ask", V.str "hand"]) hq
     have k2 := k _ (s'.trans s2)
     have k3 : Q (.bl (z5o (.tup (.str x :: a :: b :: r)))) (upd H' q (.tup [V.str "ask", V.str "hand"])) := by
      unfold q2p at k2
      rw [hf] at k2
      have k4 : Q (.bl (!q9b a b && z5o (.tup (.str x :: a :: b :: r)))) (upd H' q (.tup [V.str "ask", V.str "hand"])) := k2
      rw [hsm] at k4
      exact k4
     show if (!inV (V.str x) [V.str "ask", V.str "hand"]) = true then _ else _
     rw [j9i]
     by_cases hx : x = "ask" ∨ x = "hand"
     ·rw [decide_eq_true hx]
      obtain ⟨c, i, j, r', rfl⟩ := hends hx
      obtain ⟨v4, e4, I4⟩ := rr.at (i := 4) rfl
      obtain ⟨v5, e5, I5⟩ := rr.at (i := 5) rfl
      cases I4
      cases I5
      have k5 : Q (.bl (if x = "ask" ∨ x = "hand" then z0c (.tup (.int i :: .int j :: r')) else true)) (upd H' q (.tup [V.str "ask", V.str "hand"])) := k3
      rw [if_pos hx] at k5
      exact q0z ⟨_, rfl, p, xs, 4, _, rfl, rfl, SqT.of (s2 _ _ ep), e4, _, rfl, p, xs, 5, _, rfl, rfl, SqT.of (s2 _ _ ep), e5, i, j, rfl, k5⟩
     ·rw [decide_eq_false hx]
      have k5 : z5o (.tup (.str x :: a :: b :: r)) = true := by
       match r with
       | [] => rfl
       | [_] => rfl
       | [_, _] => rfl
       | _ :: u :: w :: t =>
        show (if x = "ask" ∨ x = "hand" then z0c (.tup (u :: w :: t)) else true) = true
        rw [if_neg hx]
      rw [k5] at k3
      exact q1o k3
end
end K1
namespace L2
open PySem PySem.Spec PyProof.Rows
noncomputable def CXe (P : Program) (w : World) : CXT := fun outer H s E e s' => ∃ (a : Addr) (cls a0 : Value) (B : Heap) (H1 : Hp), e = .ref a ∧ s'.os = s.os ∧ AllBare s'.gens ∧ Heap.FlyingW B outer a cls a0 s'.heap ∧
 Un (frs outer) [] H H1 s.heap s'.heap ∧ (∀ b o, s.heap.get? b = some o → H b = none → b ∉ frs outer → B.get? b = some o) ∧ (∀ b o, s.heap.get? b = some o → b ∉ frs outer → ∃ o', B.get? b = some o') ∧ HOk P w H1 B ∧ H1 a = none ∧ E cls none H1
section
variable {P : Program} {w : World} {K : PySem.W.Frag} {mg : Str → Option Value} {base : Heap} {N : List Str} {qual : Str} {scope : Scope} {f : Addr} {cd : Value} {A : Around} {outer : List Env} {s : Shared} {H : Hp} {E : XK}
end
theorem _root_.L2.Fun.okE {P : Program} {w : World} {K : PySem.W.Frag} {mg : Str → Option Value} {base : Heap} {x qual : Str} {st : Stmt} {f : Addr} {fd : FuncData} {N ps : List Str} {k : Nat} {sp : Sp} (F : Fun K x qual st f fd) (S : FnScope N ps (q0d st)) (len : ∀ vs H Q E, sp vs H Q E → vs.length = ps.length)
  (hbody : ∀ (cdv : Value) (A : Around) (outer : List Env) (s : Shared) (H : Hp) (vs : List V) (Q : VK) (E : XK), Room k (A.deeper (envOfC qual (q0d st) s.heap.objs.size f cdv)) → sp vs H Q E →
   ∃ t, PSs (j5q (CXe P w) P w K mg base N qual (q0d st) f cdv A outer s H E) (q6o st) t ∧ t { nx := fun _ H' => Q .non H', rt := Q } (x6s N vs) H) : FnOk P w K mg base (CXe P w) (k + 1) f fd ps sp := by
 obtain ⟨oc, od, kV, doc, pm, an, cdv, ct, osl, rfl, lk, hcd⟩ := F.ex
 exact j8g lk hcd S len fun A outer s H vs Q E hr hsp => hbody cdv A outer s H vs Q E hr hsp
end L2
namespace K1
open PySem L2 Kp
end K1
namespace L2
open PySem PySem.Spec PyProof.Rows
noncomputable def j7s (a : Addr) (cls : Value) : HO := .ext fun h => ∃ o, h.get? a = some o ∧ o.cls = cls
section
variable {X : Cx} {pins : List (Addr × Obj)} {σ : St} {H : Hp} {s : Shared}
theorem w4j {E : XK} {e : Value} {s' : Shared} (I : Inv X pins σ H s) (h : CXe X.prog X.w X.stack H s E e s') :
  ∃ a cls a0 B H1, e = .ref a ∧ Heap.FlyingW B X.stack a cls a0 s'.heap ∧ H1 a = none ∧ E cls none H1 ∧
   ∀ h', Heap.FlyingW B X.stack a cls a0 h' → s'.heap.UpToSlots h' → Inv X pins σ (upd H1 a (j7s a cls)) { s' with heap := h' } := by
 obtain ⟨a, cls, a0, B, H1, rfl, os, bare, fl, un, cov, cov2, hok, ha, q⟩ := h
 refine ⟨a, cls, a0, B, H1, rfl, fl, ha, q, fun h' fl2 ups => ?_⟩
 have nx : ∀ b : Addr, b ∉ ([] : List Addr) := fun b z => absurd z (by simp)
 have fmem := fl.2.2.1
 have ne : ∀ {b : Addr} {o : HO}, H1 b = some o → b ≠ a := fun {b o} e z => by rw [z, ha] at e; cases e
 obtain ⟨oe, vs, hoe, hoec, hoed, _⟩ := fl2.first
 have notF : a ∉ frs X.stack := fun z => by
  obtain ⟨_, o3, e3, nf⟩ := fl2.2.2.1.mem z
  rw [hoe] at e3
  cases e3
  exact nf vs hoed
 have hok1 : HOk X.prog X.w H1 h' := fun b o e => (hok b o e).stay (fun c u _ g => fl2.1 _ _ g) (fun _ q => q) fun _ _ q => q
 refine I.call' (s' := { s' with heap := h' }) (ch := []) os ⟨fun b o e n hb _ => fl2.1 _ _ (cov b o e n hb), fun b o e n hb _ => ?_, fun b o e n _ => ?_, fun b o e _ => ?_, fun b xs q => ?_, fun b o u q => ?_, fun b ps q => ?_⟩ (fun b o e => ?_) bare fun b z => absurd z (nx b)
 ·obtain ⟨sl2, e2⟩ := un.slot b o e n hb (nx b)
  obtain ⟨_, o3, e3, nf⟩ := fmem.mem hb
  rw [e2] at e3
  cases e3
  obtain ⟨sl4, e4⟩ := ups b _ e2 nf
  exact ⟨sl4, e4⟩
 ·by_cases z : b = a
  ·subst z
   have := cov b o e n notF
   rw [fl2.2.1] at this
   cases this
  ·rw [q1b z]
   exact un.free b o e n (nx b)
 ·by_cases hb : b ∈ frs X.stack
  ·obtain ⟨_, o3, e3, nf⟩ := fmem.mem hb
   obtain ⟨sl4, e4⟩ := ups b _ e3 nf
   exact ⟨_, e4⟩
  ·obtain ⟨o', e'⟩ := cov2 b o e hb
   exact ⟨o', fl2.1 _ _ e'⟩
 ·have := un.tups b xs q
  rw [q1b (ne this)]; exact this
 ·have := un.frzs b o u q
  rw [q1b (ne this)]; exact this
 ·obtain ⟨m, h2⟩ := un.tbls b ps q
  exact ⟨m, by rw [q1b (ne h2)]; exact h2⟩
 ·by_cases z : b = a
  ·subst z
   rw [q0g] at e
   cases e
   refine ⟨⟨oe, hoe, hoec⟩, ⟨oe, hoe⟩, fun h1 h2 ⟨o, e1, e2⟩ k => ⟨o, k o e1, e2⟩⟩
  ·rw [q1b z] at e
   exact (hok1 b o e).stay (fun c u _ g => g) (fun c q => by rw [q1b (ne q)]; exact q) fun c xs q => by rw [q1b (ne q)]; exact q
noncomputable abbrev Cx.suite (X : Cx) (a : Addr) : Cx := { X with A := X.A.mark (some (.ref a)), calm := false, xe := fun _ _ => False }
theorem Cx.Ok.suite {X : Cx} (ok : X.Ok) (a : Addr) : (X.suite a).Ok :=
 ⟨ok.mod, ok.kind, ok.glob, ok.blt, ok.above, ok.inj, ok.has, ok.cab, (fun z => by cases z), ok.frames, ok.stk, ok.exf, ok.bs, ok.bsz, ok.noex, ok.exfs, ok.funs, ok.frf⟩
theorem Inv.suite (I : Inv X pins σ H s) (a : Addr) : Inv (X.suite a) pins σ H s := ⟨I.ok.suite a, I.os, I.bare, I.base, I.loc, I.cell, I.free, I.freeC, I.pin, I.hok, I.len⟩
theorem Inv.unsuite {a : Addr} (ok : X.Ok) (I : Inv (X.suite a) pins σ H s) : Inv X pins σ H s := ⟨ok, I.os, I.bare, I.base, I.loc, I.cell, I.free, I.freeC, I.pin, I.hok, I.len⟩
theorem SP.unsuite {a : Addr} (ok : X.Ok) {D : Ends} {f : Flow} {s' : Shared} (h : SP (X.suite a) pins D f s') : SP X pins D f s' := by
 cases f with
 | next => obtain ⟨σ', H', I, q⟩ := h; exact ⟨σ', H', I.unsuite ok, q⟩
 | brk => obtain ⟨σ', H', I, q⟩ := h; exact ⟨σ', H', I.unsuite ok, q⟩
 | cont => obtain ⟨σ', H', I, q⟩ := h; exact ⟨σ', H', I.unsuite ok, q⟩
 | ret u => obtain ⟨v, σ', H', I, r, q⟩ := h; exact ⟨v, σ', H', I.unsuite ok, r, q⟩
noncomputable def w2s (K : PySem.W.Frag) (C : Addr) (R : Addr → Hp → Prop) : XK := fun cls _ H => PySem.W.exmOne K cls (.ref C) = some true ∧ ∀ a, H a = none → R a (upd H a (j7s a cls))
theorem j8b {x : Str} {C : Addr} {np hp : Pos} {b₀ : Stmt} {suite : List Stmt} {q3y : List ExceptHandler} {ts : TS} {D : Ends} {e : Value} {s' : Shared} (hst : X.stack = X.env :: X.outer) (hf : X.env.frame = some X.env.locals) (hg : Gl X x) (hm : X.mg x = some (.ref C)) (hs : ∀ a, PSs (X.suite a) (b₀ :: suite) ts)
  (I : Inv X pins σ H s) (h : CXe X.prog X.w X.stack H s (w2s X.K C fun _ H2 => ts D σ H2) e s') (hd : (x == ("__debug__" : Str)) = false := by decide) :
  wpAny (model X.prog X.w) X.A (noteFrame e X.env) (fun _ s₂ => wpAny (model X.prog X.w) X.A (setFlight e none) (fun _ s₃ =>
   wpAny (model X.prog X.w) X.A (handleBy e X.env (.ExceptHandler (some (.Name x np)) none (b₀ :: suite) hp :: q3y)) (SP X pins D) X.xe s₃) X.xe s₂) X.xe s' := by
 obtain ⟨a, cls, a0, B, H1, rfl, fl, ha, ⟨hx, q⟩, inv⟩ := w4j I h
 rw [hst] at fl inv
 have hfr : X.A.frames = some (X.env :: X.outer) := by rw [← hst]; exact I.ok.frames
 refine wpAny_looks_onW hfr hf fl fun h₄ held u4 => ?_
 refine wpAny_landsW held fun h₅ fl5 u5 => ?_
 have J := (inv h₅ fl5 (u4.trans u5)).suite a
 refine wpAny_handleBy_cons (codeAny_handlers_test (x4b (X := X.suite a) J hg hm ?_ hd)) (by intro q; cases q)
 obtain ⟨ob, hob, hobc⟩ := fl5.there
 refine PySem.W.exm_one (M := model X.prog X.w) J.kIn (hobc ▸ (PySem.W.Looks.ld hob).andThen .now) hx _ _ _ _ (fun _ _ e => e) (codeAny_handlers_suite ?_)
 refine lands_againW fl5 fun h₆ fl6 u6 => ?_
 have J6 := (inv h₆ fl6 ((u4.trans u5).trans u6)).suite a
 exact wpAny_mono (hs a pins _ σ _ D J6 (q a ha)) (fun f s2 h2 => h2.unsuite I.ok) fun _ _ z => False.elim z
theorem j0r {k : Nat} {f : Addr} {fd : FuncData} {ps : List Str} {sp : Sp} {E : XK} {W : Value → Shared → Prop} {x : Str} {p pos : Pos} {e : Expr} {es : List Expr} {t : TA} {Q : VK} (F : FnOk X.prog X.w X.K X.mg X.base (CXe X.prog X.w) k f fd ps sp) (hr : Room k X.A) (hg : Gl X x) (hm : X.mg x = some (.ref f)) (hk : PySem.W.keepIn X.K (.ref f) = true) (hb : q3p X.K fd ps [])
  (ha : PA (X.wish W) (e :: es) t) (he : starEach (e :: es) X.env = (false, eval e X.env) :: starEach es X.env) (hpl : (backTo pos (starEach es X.env)).any (·.1) = false) (hdb : (x == ("__debug__" : Str)) = false)
  (I : Inv X pins σ H s) (h : t σ H fun vs H1 => sp (vs ++ []) H1 Q E) (hW : ∀ H1 s1 e s', Inv X pins σ H1 s1 → CXe X.prog X.w X.stack H1 s1 E e s' → W e s') :
  wpAny (model X.prog X.w) X.A (eval (.Call (.Name x p) (e :: es) [] pos) X.env) (EP X pins σ Q) W s := by
 refine wpAny_Call_Name_kw (x4b I hg hm ?_ hdb)
 refine PySem.W.callWith_K (h₀ := X.base) I.ok.mod.kin hk (thn (ha pos pins s σ H _ (I.wish W) h) fun us s1 ⟨vs, H1, I1, r, q⟩ => ⟨I1.kIn, ?_⟩) he hpl
 have I1' : Inv X pins σ H1 s1 := I1.unwish
 have r2 : q3r (vs ++ []) (us ++ []) := r.append .nil
 have hl : (us ++ []).length = ps.length := by rw [← r2.length]; exact F.len _ _ _ _ q
 refine wpAny_call (codeAny_mono (F.run X.A X.stack s1 H1 ⟨us, []⟩ (us ++ []) (vs ++ []) Q E hr I1'.env0 (hb s1 us I1'.kIn hl) r2 q) fun r s' hq => ?_)
 cases r with
 | error e => exact hW H1 s1 e s' I1' hq
 | ok fl =>
  cases fl with
  | ret u => exact I1'.after hq
  | next => exact False.elim hq
  | brk => exact False.elim hq
  | cont => exact False.elim hq
end
section
variable {X : Cx} {k : Nat} {f C : Addr} {fd : FuncData} {ps : List Str} {sp : Sp} {x y n : Str} {i j : Nat} {p pos rp tp np hp py : Pos} {e : Expr} {es : List Expr} {t : TA} {b₀ : Stmt} {suite : List Stmt} {ts : TS}
noncomputable def j5d (K : PySem.W.Frag) (C : Addr) (sp : Sp) (t : TA) (ts : TS) : TS := fun D σ H => t σ H fun vs H1 => sp (vs ++ []) H1 (fun v H2 => D.rt v H2) (w2s K C fun _ H2 => ts D σ H2)
theorem z8t (hst : X.stack = X.env :: X.outer) (hf : X.env.frame = some X.env.locals) (F : FnOk X.prog X.w X.K X.mg X.base (CXe X.prog X.w) k f fd ps sp) (hr : Room k X.A) (hg : Gl X x) (hm : X.mg x = some (.ref f)) (hk : PySem.W.keepIn X.K (.ref f) = true) (hb : q3p X.K fd ps []) (ha : ∀ W, PA (X.wish W) (e :: es) t)
  (hgC : Gl X y) (hmC : X.mg y = some (.ref C)) (hs : ∀ a, PSs (X.suite a) (b₀ :: suite) ts)
  (he : starEach (e :: es) X.env = (false, eval e X.env) :: starEach es X.env := by rfl) (hpl : (backTo pos (starEach es X.env)).any (·.1) = false := by rfl) (hdb : (x == ("__debug__" : Str)) = false := by decide) (hdc : (y == ("__debug__" : Str)) = false := by decide) :
  PS X (.Try [.Return (some (.Call (.Name x p) (e :: es) [] pos)) rp] [.ExceptHandler (some (.Name y np)) none (b₀ :: suite) hp] [] [] tp) (j5d X.K C sp t ts) := by
 intro pins s σ H D I h
 refine wpAny_Try_except (wpAny_execs_cons (wpAny_Return_some (thn (j0r F hr hg hm hk hb (ha _) he hpl hdb I h fun H1 s1 e1 s' I1 h1 => j8b hst hf hgC hmC hs I1 h1 hdc) fun v s1 ⟨z, H1, I1, r1, q1⟩ => ?_)))
 exact ⟨z, σ, H1, I1, r1, q1⟩
end
end L2
namespace L2
open PySem PySem.Spec PyProof.Rows PySem.W PySem.Builtin PySem.Builtin.ObjectAttr PySem.Builtin.Getset_descriptor
section
variable {prog : Program} {w : World} {A : Around} {E : Value → Shared → Prop} {s : Shared} {K : Frag} {x C : Addr} {R : Result → Shared → Prop} {h : Heap} {g : Array GenState} {d : Drawn} {t : Nat} {os : OsState} {o : Obj} {name : Str}
end
end L2
namespace L2
open PySem PySem.Spec PyProof.Rows
section
variable {P : Program} {w : World} {K : PySem.W.Frag} {mg : Str → Option Value} {base : Heap}
end
section
variable {X : Cx} {k : Nat} {f : Addr} {fd : FuncData} {ps : List Str} {sp : Sp} {x : Str} {p pos : Pos} {e : Expr} {es : List Expr} {t : TA}
end
end L2
namespace Kp
open PySem L2
structure CalE (P : Program) (w : World) (K : PySem.W.Frag) (mg : Str → Option Value) (base : Heap) (name : Str) (k : Nat) (ps : List Str) (sp : Sp) : Prop where
 ex : ∃ f fd, FnOk P w K mg base (CXe P w) k f fd ps sp ∧ mg name = some (.ref f) ∧ PySem.W.keepIn K (.ref f) = true ∧ q3p K fd ps []
end Kp
namespace K1
open PySem L2 Kp
end K1
namespace Kp
open PySem L2
end Kp
namespace K1
open PySem L2 Kp
noncomputable def j8u : Sp := fun vs H Q _ => ∃ n : Int, vs = [.int n] ∧ 0 ≤ n ∧ n.natAbs < 10 ^ 4000 ∧ Q (.str (q1g n)) H
noncomputable def z0n : Sp := fun vs H Q _ => ∃ n : Int, vs = [.int n] ∧ n.natAbs < 10 ^ 4000 ∧ Q (.str (q1g n)) H
theorem j4a : ∀ m : Nat, m < 10 → ("0123456789" : Str).cps.toList[m]? = some (48 + m) := by decide +kernel
theorem z6l : ("0123456789" : Str).length = 10 := by decide +kernel
theorem j9e {n : Nat} {x : Str} (h : q8i n = cL x) : q1g (n : Int) = x := x1s ((q6j n).trans h)
section
variable {P : Program} {w : World} {K : PySem.W.Frag} {mg : Str → Option Value} {base : Heap}
theorem j8s : FnScope ["_law_number", "_law_found"] ["_law_number"] (q0d q4h) := fSc
theorem z7y {f : Addr} {fd : FuncData} (F : Fun K "_law_figures" "_law_figures" q4h f fd) : FnOk P w K mg base CX0 1 f fd ["_law_number"] j8u := by
 refine F.ok j8s (fun vs H Q E ⟨_, e, _⟩ => by subst e; rfl) (fun cdv A outer s H vs Q E hr h => ?_)
 obtain ⟨n, rfl, h0, hb, q⟩ := h
 obtain ⟨n, rfl⟩ := Int.eq_ofNat_of_zero_le h0
 refine ⟨_, @q0x _ _ _ _ _ (q1q (q0s x6e (pv 0) q0a (q0q _)) q2s q0t)
  (@q0x _ _ _ _ _ (q1c (i := 1) j8s.nd (by rfl) (by exact Or.inl rfl) q0r)
  (@q0x _ _ _ _ _ (z3b PassesOwn.never (q0s z1f (pv 0) q0a (q0q _)) (@q0x _ _ _ _ _ (q1c (i := 1) j8s.nd (by rfl) (by exact Or.inl rfl) (q0l q0k (q0w x3g q0r (q0l q1t (pv 0) q0a) j3x) (pv 1)))
   (@q1m _ _ _ (q1c (i := 0) j8s.nd (by rfl) (by exact Or.inl rfl) (q0l q2m (pv 0) q0a)))))
  (@q1m _ _ _ (q0j (q0l q0k (q0w x3g q0r (pv 0) w5z) (pv 1)))))), ?_⟩
 have hn : (q8i n).length ≤ 4000 := (x1d n (by decide)).mpr (by simpa using hb)
 refine ⟨_, rfl, _, _, rfl, rfl, _, rfl, ?_⟩
 rw [show decide ((n : Int) < 0) = false from decide_eq_false (by omega)]
 refine q0z ⟨fun k σ H' => ∃ (m : Nat) (x : Str), σ = [some (.int (m : Int)), some (.str x)] ∧ H = H' ∧ q8i n = q8i m ++ cL x ∧ k = m, ⟨n, n, "", rfl, rfl, by rw [show cL ("" : Str) = [] from rfl, List.append_nil], rfl⟩, ?_⟩
 rintro k σ H' ⟨m, x, rfl, rfl, hd, rfl⟩
 have hxl : x.length ≤ 4000 := by
  have := congrArg List.length hd
  rw [List.length_append] at this
  have e : (cL x).length = x.length := Array.length_toList
  omega
 refine ⟨_, rfl, _, _, rfl, rfl, _, rfl, x9q (fun hlt => ?_) (fun hge => ?_)⟩
 ·have hm : 10 ≤ k := by have := of_decide_eq_true hlt; omega
  have e10 : ((k : Int) % 10) = ((k % 10 : Nat) : Int) := by omega
  refine ⟨fun σ' H' => ∃ (m : Nat) (x : Str), σ' = [some (.int (m : Int)), some (.str x)] ∧ H = H' ∧ q8i n = q8i m ++ cL x ∧ m < k, fun σ' H' ⟨m, x, a, b, c, d⟩ => ⟨m, d, m, x, a, b, c, rfl⟩, ?_⟩
  refine ⟨_, rfl, _, _, rfl, rfl, (by show (0 : Int) < 10; decide), _, _, 48 + k % 10, rfl, rfl, (by rw [z6l, sizeLine_eq]; decide), ?_, _, rfl, _, _, rfl, rfl, ?_, ?_⟩
  ·rw [e10]; exact q0m (j4a _ (Nat.mod_lt _ (by decide)))
  ·show 1 + x.length ≤ _
   rw [sizeLine_eq]; omega
  ·refine ⟨_, rfl, _, _, rfl, rfl, ⟨by decide, by decide⟩, k / 10, (⟨#[48 + k % 10]⟩ : Str) ++ x, by show [some (V.int ((k : Int) / 10)), _] = _; rw [show ((k : Int) / 10) = ((k / 10 : Nat) : Int) by omega], rfl, ?_, by omega⟩
   rw [hd, z0a hm, x1o, List.append_assoc]
   rfl
 ·have hm : k < 10 := by have := w5j hge; omega
  refine ⟨_, rfl, _, _, 48 + k, rfl, rfl, (by rw [z6l, sizeLine_eq]; decide), q0m (j4a k hm), _, rfl, _, _, rfl, rfl, ?_, ?_⟩
  ·show 1 + x.length ≤ _
   rw [sizeLine_eq]; omega
  ·have : q1g (n : Int) = (⟨#[48 + k]⟩ : Str) ++ x := j9e (by rw [hd, z3g hm, x1o]; rfl)
   rw [← this]
   exact q
noncomputable def j8v : Sp := fun vs H Q _ => ∃ n : Int, vs = [.int n] ∧ n < 0 ∧ n.natAbs < 10 ^ 4000 ∧ Q (.str (q1g n)) H
theorem j5f {f : Addr} {fd : FuncData} (F : Fun K "_law_figures" "_law_figures" q4h f fd) (hm : mg "_law_figures" = some (.ref f)) (hk : PySem.W.keepIn K (.ref f) = true) (hbi : q3p K fd ["_law_number"] []) : FnOk P w K mg base CX0 2 f fd ["_law_number"] j8v := by
 have G := z7y (P := P) (w := w) (mg := mg) (base := base) F
 refine F.ok j8s (fun vs H Q E ⟨_, e, _⟩ => by subst e; rfl) (fun cdv A outer s H vs Q E hr h => ?_)
 obtain ⟨n, rfl, hn, hb, q⟩ := h
 refine ⟨_, @q0x _ _ _ _ _ (q1q (q0s x6e (pv 0) q0a (q0q _)) (@q1m _ _ _ (q0j (q0l q0k q0r (x2i G hr (by rfl) hm hk hbi .nil q6z (q0c (z6f x8d (pv 0)) q0b))))) q0t) (@q2s _ _), ?_⟩
 refine ⟨_, rfl, _, _, rfl, rfl, _, rfl, ?_⟩
 rw [show decide (n < 0) = true from decide_eq_true hn]
 have hl := q1f (n := -n) (k := 4000) (by decide) (by rw [Int.natAbs_neg]; exact hb)
 refine q1o ⟨_, rfl, _, rfl, -n, rfl, by omega, by rw [Int.natAbs_neg]; exact hb, _, _, rfl, rfl, ?_, ?_⟩
 ·show 1 + (q1g (-n)).length ≤ _
  rw [sizeLine_eq]; omega
 ·have e : q1g n = ("-" : Str) ++ q1g (-n) := by
   refine x1s ?_
   show j0c n = cL (("-" : Str) ++ q1g (-n))
   have e2 : (-n) = ((n.natAbs : Nat) : Int) := by omega
   rw [q6d hn, x1o, e2]
   show _ = cL ("-" : Str) ++ j0c ((n.natAbs : Nat) : Int)
   rw [q6j]
   rfl
  rw [← e]
  exact q
theorem j7w {f : Addr} {fd : FuncData} (F : Fun K "_law_figures" "_law_figures" q4h f fd) (hm : mg "_law_figures" = some (.ref f)) (hk : PySem.W.keepIn K (.ref f) = true) (hbi : q3p K fd ["_law_number"] []) : FnOk P w K mg base CX0 2 f fd ["_law_number"] z0n := by
 have F1 := (z7y (P := P) (w := w) (mg := mg) (base := base) F).mono (show 1 ≤ 2 by decide)
 have F2 := j5f (P := P) (w := w) (base := base) F hm hk hbi
 refine ⟨fun vs H Q E ⟨_, e, _⟩ => by subst e; rfl, fun A outer s H args us vs Q E hr he hb hv hs => ?_⟩
 obtain ⟨n, e, hn, q⟩ := hs
 by_cases h : n < 0
 ·exact F2.run A outer s H args us vs Q E hr he hb hv ⟨n, e, h, hn, q⟩
 ·exact F1.run A outer s H args us vs Q E hr he hb hv ⟨n, e, by omega, hn, q⟩
end
end K1
namespace Kp
open PySem L2 PySem.Spec PyProof.Rows PySem.NumText
noncomputable def J (ws : List Str) : Str := Str.join " " ws
theorem j2a : (" " : Str) = ⟨#[32]⟩ := by decide +kernel
theorem x3z (x : Str) : J [x] = x := rfl
theorem x2h (x y : Str) (r : List Str) : J (x :: y :: r) = x ++ " " ++ J (y :: r) := rfl
theorem x1g (a b c : Str) : a ++ b ++ c = a ++ (b ++ c) := by
 refine x1s ?_
 show cL (a ++ b ++ c) = cL (a ++ (b ++ c))
 rw [x1o, x1o, x1o, x1o, List.append_assoc]
theorem j9b (x : Str) {r : List Str} (h : r ≠ []) : J (x :: r) = x ++ " " ++ J r := by
 cases r with
 | nil => exact absurd rfl h
 | cons y r => rfl
theorem x2w : ∀ {a b : List Str}, a ≠ [] → b ≠ [] → J (a ++ b) = J a ++ " " ++ J b
 | [], _, h, _ => absurd rfl h
 | [x], b, _, hb => j9b x hb
 | x :: y :: r, b, _, hb => by
  have ih := x2w (a := y :: r) (b := b) (by simp) hb
  rw [List.cons_append, List.cons_append, x2h, x2h]
  rw [List.cons_append] at ih
  rw [ih]
  simp only [x1g]
theorem q0e (a b : Str) : (a ++ b).length = a.length + b.length := by
 show (a ++ b).cps.size = a.cps.size + b.cps.size
 rw [show (a ++ b).cps = a.cps ++ b.cps from rfl, Array.size_append]
theorem z0l {L : Nat} : ∀ {ws : List Str}, (∀ w ∈ ws, w.length ≤ L) → (J ws).length ≤ ws.length * (L + 1)
 | [], _ => Nat.zero_le _
 | [x], h => by
  have := h x (by simp)
  rw [x3z, List.length_singleton]
  omega
 | x :: y :: r, h => by
  have h1 := h x (by simp)
  have ih := z0l (ws := y :: r) fun w hw => h w (List.mem_cons_of_mem _ hw)
  rw [x2h, q0e, q0e]
  have e : (" " : Str).length = 1 := rfl
  simp only [List.length_cons, Nat.add_mul, Nat.succ_mul] at ih ⊢
  omega
theorem POk.text {n : Nat} {ds : List D} {ws : List Str} (h : POk n ds ws) (hs : smallL 4000 ds = true) : (J ws).length ≤ n * 4002 := by
 have := z0l (h.len 4000 (by decide) hs)
 exact Nat.le_trans this (Nat.mul_le_mul_right _ h.few)
theorem POk.split {n : Nat} {ds : List D} {ws : List Str} (h : POk n ds ws) (hne : ws ≠ []) : Txt.split (J ws) " " = ws := by
 unfold J
 rw [j2a]
 exact z3v hne h.free
end Kp
namespace K1
open PySem L2 Kp
theorem q1e : ∀ {ps : List (D → Bool)} {ds : List D}, q0v ps ds = true → ds.length = ps.length := fun {ps ds} h => by
 by_cases e : ds.length = ps.length
 ·exact e
 ·rw [x1j e] at h; cases h
noncomputable def spT (p : D → Bool) (f : D → List Str) : Sp := fun vs H Q _ => ∃ (B : Nat) (v : V) (d : D), B ≤ 200 ∧ vs = [v] ∧ Is B H v d ∧ p d = true ∧ q1x 4000 d = true ∧ ∀ H', q1a H H' → Q (.str (J (f d))) H'
theorem x2c {p : D → Bool} {f : D → List Str} {px : Str} : ∀ vs H Q E, spT p f vs H Q E → vs.length = [px].length := fun vs H Q E ⟨_, _, _, _, e, _⟩ => by subst e; rfl
theorem j2y {d : D} (h : q5j d = true) : (∃ x, d = .tup [.str "get", .str x] ∧ x4z x = true) ∨ ∃ (y x : Str) (i : Int), (y = "set" ∨ y = "add") ∧ d = .tup [.str y, .str x, .int i] ∧ x4z x = true := by
 obtain ⟨x, r, ps, rfl, e, hf⟩ := q2r h
 unfold x6k at e
 rw [List.lookup_cons] at e
 by_cases h1 : x = "set"
 ·subst h1
  cases e
  match r, q1e hf with
  | [a, b], _ =>
   simp only [q0v, Bool.and_true, Bool.and_eq_true] at hf
   obtain ⟨y, rfl, hy⟩ := q3t hf.1
   obtain ⟨i, rfl⟩ := q0u hf.2
   exact .inr ⟨_, y, i, .inl rfl, rfl, hy⟩
 ·rw [show (x == "set") = false from by rw [beq_eq_false_iff_ne]; exact h1, List.lookup_cons] at e
  by_cases h2 : x = "add"
  ·subst h2
   cases e
   match r, q1e hf with
   | [a, b], _ =>
    simp only [q0v, Bool.and_true, Bool.and_eq_true] at hf
    obtain ⟨y, rfl, hy⟩ := q3t hf.1
    obtain ⟨i, rfl⟩ := q0u hf.2
    exact .inr ⟨_, y, i, .inr rfl, rfl, hy⟩
  ·rw [show (x == "add") = false from by rw [beq_eq_false_iff_ne]; exact h2, List.lookup_cons] at e
   by_cases h3 : x = "get"
   ·subst h3
    cases e
    match r, q1e hf with
    | [a], _ =>
     simp only [q0v, Bool.and_true] at hf
     obtain ⟨y, rfl, hy⟩ := q3t hf
     exact .inl ⟨y, rfl, hy⟩
   ·rw [show (x == "get") = false from by rw [beq_eq_false_iff_ne]; exact h3] at e
    cases e
section
variable {P : Program} {w : World} {K : PySem.W.Frag} {mg : Str → Option Value} {base : Heap}
theorem w1i : FnScope ["_law_deed_here"] ["_law_deed_here"] (q0d q5e) := fSc
theorem x8t {f : Addr} {fd : FuncData} (F : Fun K "_law_deed_words" "_law_deed_words" q5e f fd) (T : Txt mg) (CF : Cal P w K mg base "_law_figures" 2 ["_law_number"] z0n) : FnOk P w K mg base CX0 3 f fd ["_law_deed_here"] (spT q5j q6q) := by
 refine F.ok w1i x2c (fun cdv A outer s H vs Q E hr h => ?_)
 obtain ⟨B, v, d, hB, rfl, I, hp, hs, q⟩ := h
 refine ⟨_, @q0x _ _ _ _ _ (q1q (q0s q2a (q0p q0y (by rfl) T.len PySem.boot_len (q1i (pv 0) q0b)) q0a (q0q _)) (@q1m _ _ _ (q0j (q0l q0k q0r (q0w q0n (pv 0) q0a q2q)))) q0t)
  (@q1m _ _ _ (q0j (q0l q0k (q0l q0k (q0l q0k (q0l q0k (q0w q0n (pv 0) q0a q2q) q0r) (q0w q0n (pv 0) q0a q2q)) q0r) (q0f CF hr (q0c (q0w q0n (pv 0) q0a q2q) q0b))))), ?_⟩
 rcases j2y hp with ⟨x, rfl, hx⟩ | ⟨y, x, i, hy, rfl, hx⟩
 ·cases I with
  | @tup a xs _ ea l r =>
  obtain ⟨w0, _, rfl, z0, rr0⟩ := IsL.un r
  obtain rfl := Is.vstr z0
  obtain ⟨w1, _, rfl, z1, rr1⟩ := IsL.un rr0
  obtain rfl := Is.vstr z1
  obtain rfl := IsL.un0 rr1
  have hl := q6u hx
  refine ⟨_, rfl, a, _, rfl, .inr (SqT.of ea), rfl, _, rfl, ?_⟩
  refine q1o ⟨_, rfl, a, _, _, .str x, rfl, rfl, SqT.of ea, q0m (j := 1) rfl, _, _, rfl, rfl, ?_, ?_⟩
  ·show 4 + x.length ≤ _
   rw [sizeLine_eq]; omega
  ·exact q H (q1a.refl _)
 ·cases I with
  | @tup a xs _ ea l r =>
  obtain ⟨w0, _, rfl, z0, rr0⟩ := IsL.un r
  obtain rfl := Is.vstr z0
  obtain ⟨w1, _, rfl, z1, rr1⟩ := IsL.un rr0
  obtain rfl := Is.vstr z1
  obtain ⟨w2, _, rfl, z2, rr2⟩ := IsL.un rr1
  obtain rfl := Is.vint z2
  obtain rfl := IsL.un0 rr2
  have hl := q6u hx
  have hi : i.natAbs < 10 ^ 4000 := by
   simp only [q1x, smallL, Bool.true_and, Bool.and_true, decide_eq_true_eq] at hs
   exact hs
  have hfl := q1f (n := i) (k := 4000) (by decide) hi
  have hyl : y.length = 3 := by rcases hy with rfl | rfl <;> rfl
  refine ⟨_, rfl, a, _, rfl, .inr (SqT.of ea), rfl, _, rfl, ?_⟩
  refine q0z ⟨_, rfl, a, _, _, .str y, rfl, rfl, SqT.of ea, q0m (j := 0) rfl, _, _, rfl, rfl, ?_, _, rfl, a, _, _, .str x, rfl, rfl, SqT.of ea, q0m (j := 1) rfl, _, _, rfl, rfl, ?_, _, _, rfl, rfl, ?_, _, rfl, a, _, _, .int i, rfl, rfl, SqT.of ea, q0m (j := 2) rfl, i, rfl, hi, _, _, rfl, rfl, ?_, ?_⟩
  ·show y.length + 1 ≤ _
   rw [sizeLine_eq]; omega
  ·rw [q0e, sizeLine_eq]
   show y.length + 1 + x.length ≤ _
   omega
  ·rw [q0e, q0e, sizeLine_eq]
   show y.length + 1 + x.length + 1 ≤ _
   omega
  ·rw [q0e, q0e, q0e, sizeLine_eq]
   show y.length + 1 + x.length + 1 + (q1g i).length ≤ _
   omega
  ·have e : q6q (.tup [.str y, .str x, .int i]) = [y, x, q1g i] := by rcases hy with rfl | rfl <;> rfl
   have q' := q H (q1a.refl _)
   rw [e, x2h, x2h, x3z] at q'
   simp only [x1g] at q' ⊢
   exact q'
end
theorem z3p : ∀ {ds : List D}, ds.all whole = true → ∃ ns : List Int, ds = ns.map D.int
 | [], _ => ⟨[], rfl⟩
 | d :: ds, h => by
  rw [List.all_cons, Bool.and_eq_true] at h
  obtain ⟨i, rfl⟩ := q0u h.1
  obtain ⟨ns, rfl⟩ := z3p h.2
  exact ⟨i :: ns, rfl⟩
theorem x4t : ∀ {d : D}, q2z d = true → ∃ ns : List Int, d = .tup (ns.map D.int) ∧ ns.length ≤ 9
 | .tup ds, h => by
  have h' : (ds.all q0h && ((decide (1 ≤ ds.length) && decide (ds.length ≤ 9)) && q8f (q3s ds))) = true := h
  rw [Bool.and_eq_true, Bool.and_eq_true, Bool.and_eq_true, decide_eq_true_eq, decide_eq_true_eq] at h'
  obtain ⟨ns, rfl⟩ := z3p (List.all_eq_true.mpr fun d hd => q1j (List.all_eq_true.mp h'.1 d hd))
  exact ⟨ns, rfl, by simpa using h'.2.1.2⟩
theorem z4o {k : Nat} {ns : List Int} (h : smallL k (ns.map D.int) = true) : ∀ n ∈ ns, n.natAbs < 10 ^ k := fun n hn => of_decide_eq_true (q2j.mp h _ (List.mem_map_of_mem hn))
theorem z2x : ∀ ns : List Int, (ns.map D.int).flatMap q3a = ns.map q1g
 | [] => rfl
 | n :: ns => by
  have := z2x ns
  rw [List.map_cons, List.flatMap_cons, this]
  rfl
theorem x1v {L n : Nat} {ws : List Str} (h : ∀ x ∈ ws, x.length ≤ L) (hl : ws.length ≤ n) (hn : n * (L + 1) ≤ 16777216) : JoinOk " " ws = true := by
 unfold JoinOk
 rw [StrLaws.joinFits (B := L) h (by
  have e1 : (" " : Str).length = 1 := rfl
  rw [e1, ← Nat.mul_add]
  exact Nat.le_trans (Nat.mul_le_mul_right _ hl) hn)]
 rfl
section
variable {P : Program} {w : World} {K : PySem.W.Frag} {mg : Str → Option Value} {base : Heap}
theorem w1p : FnScope ["_law_seats_here"] ["_law_seats_here"] (q0d q3n) := fSc
theorem x7k {f : Addr} {fd : FuncData} (F : Fun K "_law_seats_words" "_law_seats_words" q3n f fd) (T : Txt mg) (CF : Cal P w K mg base "_law_figures" 2 ["_law_number"] z0n) : FnOk P w K mg base CX0 3 f fd ["_law_seats_here"] (spT q2z q4t) := by
 refine F.ok w1p x2c (fun cdv A outer s H vs Q E hr h => ?_)
 obtain ⟨B, v, d, hB, rfl, I, hp, hs, q⟩ := h
 refine ⟨_, @q1m _ _ _ (q0j (x2x PySem.F.plainAttrs_str PySem.F.slot_str_join PySem.F.type_str_join x7o q0r (q0c (q3f (NB := ["_law_number"]) (n := 1) (fr := []) (q5u (outer := q0d q3n) (by rfl) (by decide +kernel) (by rfl)) (by rfl)
   (q7a (q0l q8t (q2v (q0c (q0p q0y (by rfl) T.len PySem.boot_len (q1i (pv 0) q0b)) q0b)) (pv 0)))
   (fun _ _ _ _ _ => q1h (i := 0) (show (["_law_number"] : List Str).Nodup by decide +kernel) (by rfl) (by exact Or.inl rfl)) (fun _ _ _ _ _ => q2t) (fun _ _ _ _ _ => q0f CF hr (q1i (pv 0) q0b))) q0b))), ?_⟩
 have hw := (I.mono hB (q1a.refl _)).wid
 obtain ⟨ns, rfl, hn⟩ := x4t hp
 cases I with
 | @tup a xs _ ea l r =>
 have hxs := x7h r
 subst hxs
 have hsm := z4o (k := 4000) hs
 refine ⟨rfl, _, rfl, a, _, rfl, .inr (SqT.of ea), q4m (by show 1 ≤ 1000; decide), fun t ht => ?_⟩
 have s1 := q0i (o := HO.tup [V.int ((ns.map V.int).length : Nat)]) ht
 refine ⟨_, rfl, t, a, _, _, rfl, rfl, q0g, s1 _ _ ea, ?_, fun p H2 hp2 s2 => ?_⟩
 ·rw [List.length_singleton, List.length_map, sizeLine_eq]; omega
 have hT : SqT K H2 p (((ns.length : Int) :: ns).map V.int) := SqT.of (by rw [hp2, List.length_map]; rfl)
 refine ⟨p, rfl, ⟨_, hT⟩, x6y (K := K) (ms := (ns.length : Int) :: ns) hT (by rw [List.length_cons]; omega) (fun _ => true) (fun n => V.str (q1g n)) ?_ ?_⟩
 ·intro i hi t' H3 R s3 ht' hR
  obtain ⟨t0, rfl⟩ := q4v ht'
  have hb : (((ns.length : Int) :: ns)[i]).natAbs < 10 ^ 4000 := by
   have hm := List.getElem_mem hi
   rcases List.mem_cons.mp hm with e | hm
   ·rw [e]
    have : (10 : Nat) ^ 1 ≤ 10 ^ 4000 := Nat.pow_le_pow_right (by decide) (by decide)
    simp only [Int.natAbs_natCast]
    omega
   ·exact hsm _ hm
  exact ⟨_, rfl, _, rfl, hb, hR [some _] H3 rfl (q1a.refl _)⟩
 ·intro D1 H3 s3 hD hd
  have hws : q4t (.tup (ns.map D.int)) = ((ns.length : Int) :: ns).map q1g := by
   show q1g ((ns.map D.int).length : Int) :: (ns.map D.int).flatMap q3a = _
   rw [z2x, List.length_map]
   rfl
  refine ⟨" ", D1, q4t (.tup (ns.map D.int)), rfl, rfl, SqL.of ?_, ?_, q H3 ((s1.trans s2).trans s3)⟩
  ·rw [hd, hws, List.filter_eq_self.mpr (fun _ _ => rfl), List.map_map]; rfl
  ·refine x1v (L := 4001) (n := 10) ?_ ?_ (by decide)
   ·exact (q8x (B := 200) (.tup (ns.map D.int)) hp hw).len 4000 (by decide) (by rw [smallL, hs]; rfl)
   ·rw [hws, List.length_map, List.length_cons]; omega
end
inductive ImpR : List (D → Bool) → List (D → Bool) → Prop
 | nil : ImpR [] []
 | cons {p q : D → Bool} {ps qs : List (D → Bool)} (h : ∀ d, p d = true → q d = true) (t : ImpR ps qs) : ImpR (p :: ps) (q :: qs)
theorem q3w : ∀ {ps qs : List (D → Bool)} {ds : List D}, ImpR ps qs → q0v ps ds = true → q0v qs ds = true
 | _, _, [], .nil, _ => rfl
 | _, _, _ :: _, .nil, h => by cases h
 | _, _, [], .cons _ _, h => by cases h
 | _, _, d :: ds, .cons h t, hf => by
  rw [q0v, Bool.and_eq_true] at hf ⊢
  exact ⟨h d hf.1, q3w t hf.2⟩
noncomputable def j5h : List (Str × List (D → Bool)) := [("ask", [whole, whole, whole, whole, whole]), ("voice", [whole, whole, whole, q3l]), ("hand", [whole, whole, whole, whole, whole, whole, q1y]), ("pack", [whole, whole, whole, q8d]),
 ("held", [whole, whole, whole, q3l, whole]), ("wish", [q2b, whole, whole, q5j]), ("told", [whole, q2b, whole, whole]), ("away", [whole, q2b, whole, q6w])]
theorem j9o {x : Str} {r : List D} (h : q2g q2l (.tup (.str x :: r)) = true) : ∃ ps, j5h.lookup x = some ps ∧ q0v ps (if x = "hand" then x2v r else r) = true := by
 obtain ⟨x', r', ps, e, el, hf⟩ := q2r h
 cases e
 have kw : ∀ d, q0h d = true → whole d = true := fun d => q1j
 have gw : ∀ n d, geD n d = true → whole d = true := fun n d => q1k
 have idd : ∀ (p : D → Bool) d, p d = true → p d = true := fun _ _ h => h
 unfold q2l at el
 rw [List.lookup_cons] at el
 by_cases g0 : x = "ask"
 ·subst g0
  cases el
  refine ⟨_, rfl, ?_⟩
  rw [if_neg (show ¬ (("ask" : Str) = "hand") by decide +kernel)]
  exact q3w (.cons kw (.cons kw (.cons (gw _) (.cons (gw _) (.cons (gw _) .nil))))) hf
 ·rw [show (x == "ask") = false from by rw [beq_eq_false_iff_ne]; exact g0, List.lookup_cons] at el
  by_cases g1 : x = "voice"
  ·subst g1
   cases el
   refine ⟨_, rfl, ?_⟩
   rw [if_neg (show ¬ (("voice" : Str) = "hand") by decide +kernel)]
   exact q3w (.cons kw (.cons kw (.cons (gw _) (.cons (idd _) .nil)))) hf
  ·rw [show (x == "voice") = false from by rw [beq_eq_false_iff_ne]; exact g1, List.lookup_cons] at el
   by_cases g2 : x = "hand"
   ·subst g2
    cases el
    obtain ⟨a, b, c, p, l, e, m, rfl, h1, h2, h3, h4, h5, h6, h7⟩ := x6w hf
    refine ⟨_, rfl, ?_⟩
    rw [if_pos rfl]
    show q0v [whole, whole, whole, whole, whole, whole, q1y] [a, b, c, p, l, m, e] = true
    simp only [q0v, kw a h1, kw b h2, gw _ c h3, gw _ p h4, gw _ l h5, gw _ m h7, h6, Bool.and_true]
   ·rw [show (x == "hand") = false from by rw [beq_eq_false_iff_ne]; exact g2, List.lookup_cons] at el
    by_cases g3 : x = "pack"
    ·subst g3
     cases el
     refine ⟨_, rfl, ?_⟩
     rw [if_neg (show ¬ (("pack" : Str) = "hand") by decide +kernel)]
     exact q3w (.cons kw (.cons kw (.cons (gw _) (.cons (idd _) .nil)))) hf
    ·rw [show (x == "pack") = false from by rw [beq_eq_false_iff_ne]; exact g3, List.lookup_cons] at el
     by_cases g4 : x = "held"
     ·subst g4
      cases el
      refine ⟨_, rfl, ?_⟩
      rw [if_neg (show ¬ (("held" : Str) = "hand") by decide +kernel)]
      exact q3w (.cons kw (.cons kw (.cons (gw _) (.cons (idd _) (.cons (gw _) .nil))))) hf
     ·rw [show (x == "held") = false from by rw [beq_eq_false_iff_ne]; exact g4, List.lookup_cons] at el
      by_cases g5 : x = "wish"
      ·subst g5
       cases el
       refine ⟨_, rfl, ?_⟩
       rw [if_neg (show ¬ (("wish" : Str) = "hand") by decide +kernel)]
       exact q3w (.cons (idd _) (.cons kw (.cons (gw _) (.cons (idd _) .nil)))) hf
      ·rw [show (x == "wish") = false from by rw [beq_eq_false_iff_ne]; exact g5, List.lookup_cons] at el
       by_cases g6 : x = "told"
       ·subst g6
        cases el
        refine ⟨_, rfl, ?_⟩
        rw [if_neg (show ¬ (("told" : Str) = "hand") by decide +kernel)]
        exact q3w (.cons kw (.cons (idd _) (.cons (gw _) (.cons (idd _) .nil)))) hf
       ·rw [show (x == "told") = false from by rw [beq_eq_false_iff_ne]; exact g6, List.lookup_cons] at el
        by_cases g7 : x = "away"
        ·subst g7
         cases el
         refine ⟨_, rfl, ?_⟩
         rw [if_neg (show ¬ (("away" : Str) = "hand") by decide +kernel)]
         exact q3w (.cons kw (.cons (idd _) (.cons (gw _) (.cons (idd _) .nil)))) hf
        ·rw [show (x == "away") = false from by rw [beq_eq_false_iff_ne]; exact g7] at el
         cases el
theorem q9t {p : D → Bool} : ∀ {d : D}, x4u p d = true → ∃ ds, d = .tup ds ∧ ds.all p = true
 | .tup ds, h => ⟨ds, rfl, (Bool.and_eq_true _ _ |>.mp h).1⟩
theorem x2p : ∀ {d : D}, q1y d = true → ∃ ds, d = .tup ds ∧ ds.all q3m = true
 | .tup ds, h => ⟨ds, rfl, (Bool.and_eq_true _ _ |>.mp h).1⟩
theorem x4y {d : D} (h : q3m d = true) : ∃ ds, d = .tup ds ∧ q0v [whole, x0c] ds = true := let ⟨ds, e, hf⟩ := q3i h; ⟨ds, e, q3w (.cons (fun _ => q1k) (.cons (fun _ h => h) .nil)) hf⟩
theorem x8s {d : D} (h : q4c d = true) : ∃ ds, d = .tup ds ∧ q0v [q2b, whole, whole] ds = true := let ⟨ds, e, hf⟩ := q3i h; ⟨ds, e, q3w (.cons (fun _ h => h) (.cons (fun _ => q1k) (.cons (fun _ h => h) .nil))) hf⟩
theorem z2f {d : D} (h : q8d d = true) : ∃ ds, d = .tup ds ∧ q0v [whole, whole, q2z, q3o] ds = true := by
 unfold q8d x6a at h
 rw [Bool.and_eq_true, Bool.and_eq_true] at h
 obtain ⟨ds, e, hf⟩ := q3i h.1.1
 exact ⟨ds, e, q3w (.cons (fun _ => q1k) (.cons (fun _ => q1k) (.cons (fun _ h => h) (.cons (fun _ h => h) .nil)))) hf⟩
theorem x8k {d : D} (h : q3o d = true) : ∃ a b, d = .tup [.tup a, .tup b] ∧ a.all x0l = true ∧ b.all q4c = true ∧ x2q (.tup a) = true ∧ q6f (.tup b) = true := by
 obtain ⟨ds, rfl, hf⟩ := q3i h
 have hl := q1e hf
 match ds, hl with
 | [x, y], _ =>
  rw [q0v, q0v, q0v, Bool.and_true, Bool.and_eq_true] at hf
  obtain ⟨a, rfl, ha⟩ := q9t hf.1
  obtain ⟨b, rfl, hb⟩ := q9t hf.2
  exact ⟨a, b, rfl, ha, hb, hf.1, hf.2⟩
theorem j1o {d : D} (h : x0c d = true) : d = .tup [.str "open"] ∨ (∃ s, d = .tup [.str "seats", s] ∧ q2z s = true) ∨ ∃ (x : Str) (n : Int) (e : D), d = .tup [.str "wish", .str x, .int n, e] ∧ x4z x = true ∧ q5j e = true := by
 obtain ⟨x, r, ps, rfl, e, hf⟩ := q2r h
 unfold x7l at e
 rw [List.lookup_cons] at e
 by_cases h1 : x = "open"
 ·subst h1
  cases e
  match r, q1e hf with
  | [], _ => exact .inl rfl
 ·rw [show (x == "open") = false from by rw [beq_eq_false_iff_ne]; exact h1, List.lookup_cons] at e
  by_cases h2 : x = "wish"
  ·subst h2
   cases e
   match r, q1e hf with
   | [a, b, c], _ =>
    simp only [q0v, Bool.and_true, Bool.and_eq_true] at hf
    obtain ⟨y, rfl, hy⟩ := q3t hf.1
    obtain ⟨i, rfl⟩ := q0u (q1k hf.2.1)
    exact .inr (.inr ⟨y, i, c, rfl, hy, hf.2.2⟩)
  ·rw [show (x == "wish") = false from by rw [beq_eq_false_iff_ne]; exact h2, List.lookup_cons] at e
   by_cases h3 : x = "seats"
   ·subst h3
    cases e
    match r, q1e hf with
    | [a], _ =>
     simp only [q0v, Bool.and_true] at hf
     exact .inr (.inl ⟨a, rfl, hf⟩)
   ·rw [show (x == "seats") = false from by rw [beq_eq_false_iff_ne]; exact h3] at e
    cases e
theorem z1e {d : D} (h : q3m d = true) : ∃ (t : Int) (wh : D), d = .tup [.int t, wh] ∧ x0c wh = true := by
 obtain ⟨ds, rfl, hf⟩ := x4y h
 match ds, q1e hf with
 | [a, b], _ =>
  simp only [q0v, Bool.and_true, Bool.and_eq_true] at hf
  obtain ⟨i, rfl⟩ := q0u hf.1
  exact ⟨i, b, rfl, hf.2⟩
theorem j9w {a ws : List Str} (ha : a ≠ []) (hw : ws ≠ []) : J (a ++ [J ws]) = J (a ++ ws) := by
 rw [x2w ha (by simp), x2w ha hw, x3z]
theorem x9l {d : D} (h : q2z d = true) : q4t d ≠ [] := by
 obtain ⟨ns, rfl, _⟩ := x4t h
 simp [q4t, q4r]
theorem z2e {d : D} (h : q5j d = true) : q6q d ≠ [] := by
 obtain ⟨x, r, ps, rfl, e, hf⟩ := q2r h
 simp [q6q, byW]
section
variable {P : Program} {w : World} {K : PySem.W.Frag} {mg : Str → Option Value} {base : Heap}
theorem j2t : FnScope ["_law_entry_here", "_law_term", "_law_what_here", "_law_words"] ["_law_entry_here"] (q0d q5b) := fSc
theorem x6c {f : Addr} {fd : FuncData} (F : Fun K "_law_entry_words" "_law_entry_words" q5b f fd) (T : Txt mg) (CF : Cal P w K mg base "_law_figures" 2 ["_law_number"] z0n) (CS : Cal P w K mg base "_law_seats_words" 3 ["_law_seats_here"] (spT q2z q4t)) (CD : Cal P w K mg base "_law_deed_words" 3 ["_law_deed_here"] (spT q5j q6q)) : FnOk P w K mg base CX0 4 f fd ["_law_entry_here"] (spT q3m q4f) := by
 refine F.ok j2t x2c (fun cdv A outer s H vs Q E hr h => ?_)
 obtain ⟨B, v, d, hB, rfl, I, hp, hs, q⟩ := h
 have r2 := hr.mono (show 2 ≤ 3 by decide)
 refine ⟨_, @q0x _ _ _ _ _ (z3f (pv 0) (x3p (n := 2) (by rfl) (q1v (q1h (i := 1) j2t.nd (by rfl) (by exact Or.inl rfl)) (q1v (q1h (i := 2) j2t.nd (by rfl) (by exact Or.inl rfl)) q5x))))
  (@q0x _ _ _ _ _ (q1c (i := 3) j2t.nd (by rfl) (by exact Or.inl rfl) (x2l (q0c (q0f CF r2 (q1i (pv 1) q0b)) (q0c (q0w q0n (pv 2) q0a q2q) q0b))))
  (@q0x _ _ _ _ _ (q1q (q0s q2a (q0w q0n (pv 2) q0a q2q) q0r (q0q _)) (@q1m _ _ _ (x6j (x2x PySem.F.plainAttrs_list PySem.F.slot_list_append PySem.F.type_list_append q9i (pv 3) (q0c (q0f CS hr (q0c (q0w q0n (pv 2) q0a q2q) q0b)) q0b)))) q0t)
  (@q0x _ _ _ _ _ (q1q (q0s q2a (q0w q0n (pv 2) q0a q2q) q0r (q0q _)) (@q0x _ _ _ _ _ (x6j (x2x PySem.F.plainAttrs_list PySem.F.slot_list_append PySem.F.type_list_append q9i (pv 3) (q0c (q0w q0n (pv 2) q0a q2q) q0b))) (@q0x _ _ _ _ _ (x6j (x2x PySem.F.plainAttrs_list PySem.F.slot_list_append PySem.F.type_list_append q9i (pv 3) (q0c (q0f CF r2 (q0c (q0w q0n (pv 2) q0a q2q) q0b)) q0b))) (@q1m _ _ _ (x6j (x2x PySem.F.plainAttrs_list PySem.F.slot_list_append PySem.F.type_list_append q9i (pv 3) (q0c (q0f CD hr (q0c (q0w q0n (pv 2) q0a q2q) q0b)) q0b)))))) q0t)
  (@q1m _ _ _ (q0j (x2x PySem.F.plainAttrs_str PySem.F.slot_str_join PySem.F.type_str_join x7o q0r (q1i (pv 3) q0b))))))), ?_⟩
 obtain ⟨t, wh, rfl, hw⟩ := z1e hp
 have hwid := (I.mono hB (q1a.refl _)).wid
 have hok := x4c (B := 200) _ hp hwid
 have hsm : t.natAbs < 10 ^ 4000 ∧ q1x 4000 wh = true := by
  have h1 : (q1x 4000 (.int t) && (q1x 4000 wh && true)) = true := hs
  rw [Bool.and_true, Bool.and_eq_true] at h1
  exact ⟨of_decide_eq_true h1.1, h1.2⟩
 cases I with
 | @tup a xs _ ea l r =>
 obtain ⟨w0, _, rfl, z0, rr0⟩ := IsL.un r
 obtain rfl := Is.vint z0
 obtain ⟨vw, _, rfl, iw, rr1⟩ := IsL.un rr0
 obtain rfl := IsL.un0 rr1
 refine ⟨_, rfl, a, _, rfl, SqT.of ea, rfl, _, _, rfl, _, _, rfl, rfl, ?_⟩
 have hft := q1f (n := t) (k := 4000) (by decide) hsm.1
 rcases j1o hw with rfl | ⟨sd, rfl, hsd⟩ | ⟨x, n, e, rfl, hx, he⟩
 ·cases iw with
  | @tup aw ws _ ew lw rw' =>
  obtain ⟨w0, _, rfl, z0, rr0⟩ := IsL.un rw'
  obtain rfl := Is.vstr z0
  obtain rfl := IsL.un0 rr0
  refine ⟨_, rfl, t, rfl, hsm.1, _, rfl, aw, _, _, .str "open", rfl, rfl, SqT.of ew, q0m (j := 0) rfl, q4m (by show 2 ≤ 1000; decide), fun l hl => ?_⟩
  have s1 := q0i (o := HO.lst [V.str (q1g t), V.str "open"]) hl
  refine ⟨_, rfl, aw, _, _, .str "open", rfl, rfl, SqT.of (s1 _ _ ew), q0m (j := 0) rfl, rfl, _, rfl, ?_⟩
  rw [(show decide (V.str ("open" : Str) = V.str ("seats" : Str)) = false from by decide +kernel)]
  refine q0z ⟨_, rfl, aw, _, _, .str "open", rfl, rfl, SqT.of (s1 _ _ ew), q0m (j := 0) rfl, rfl, _, rfl, ?_⟩
  rw [(show decide (V.str ("open" : Str) = V.str ("wish" : Str)) = false from by decide +kernel)]
  refine q0z ⟨rfl, _, rfl, " ", l, [q1g t, "open"], rfl, rfl, SqL.of q0g, x1v (L := 4001) (n := 12) (hok.len 4000 (by decide) (by rw [smallL, hs]; rfl)) hok.few (by decide), q _ s1⟩
 ·cases iw with
  | @tup aw ws _ ew lw rw' =>
  obtain ⟨w0, _, rfl, z0, rr0⟩ := IsL.un rw'
  obtain rfl := Is.vstr z0
  obtain ⟨vs, _, rfl, is, rr1⟩ := IsL.un rr0
  obtain rfl := IsL.un0 rr1
  refine ⟨_, rfl, t, rfl, hsm.1, _, rfl, aw, _, _, .str "seats", rfl, rfl, SqT.of ew, q0m (j := 0) rfl, q4m (by show 2 ≤ 1000; decide), fun l hl => ?_⟩
  have s1 := q0i (o := HO.lst [V.str (q1g t), V.str "seats"]) hl
  refine ⟨_, rfl, aw, _, _, .str "seats", rfl, rfl, SqT.of (s1 _ _ ew), q0m (j := 0) rfl, rfl, _, rfl, ?_⟩
  rw [(show decide (V.str ("seats" : Str) = V.str ("seats" : Str)) = true from by decide +kernel)]
  have hss : q1x 4000 sd = true := by
   have h1 : (q1x 4000 (.str "seats") && (q1x 4000 sd && true)) = true := hsm.2
   rw [Bool.and_true, Bool.and_eq_true] at h1
   exact h1.2
  refine q1o ⟨_, rfl, .inl ⟨rfl, _, SqL.of q0g⟩, _, rfl, aw, _, _, vs, rfl, rfl, SqT.of (s1 _ _ ew), q0m (j := 1) rfl, B, vs, sd, hB, rfl, is.same s1, hsd, hss, fun H2 s2 => ?_⟩
  have hl2 := s2 _ _ q0g
  refine ⟨l, _, _, rfl, rfl, hl2, q4m (by show 2 + 1 ≤ 1000; decide), ?_⟩
  have s3 : q1a H (upd H2 l (.lst ([V.str (q1g t), V.str "seats"] ++ [V.str (J (q4t sd))]))) := fun b o eb => by
   have hbl : b ≠ l := fun z => by subst z; rw [hl] at eb; cases eb
   rw [q1b hbl]
   exact (s1.trans s2) _ _ eb
  refine ⟨_, rfl, aw, _, _, .str "seats", rfl, rfl, SqT.of (s3 _ _ ew), q0m (j := 0) rfl, rfl, _, rfl, ?_⟩
  rw [(show decide (V.str ("seats" : Str) = V.str ("wish" : Str)) = false from by decide +kernel)]
  have hsl := (q8x (B := 200) sd hsd (is.mono hB (q1a.refl _)).wid).text (by rw [smallL, hss]; rfl)
  have hJ : J [q1g t, "seats", J (q4t sd)] = J (q4f (.tup [.int t, .tup [.str "seats", sd]])) := by
   rw [show ([q1g t, "seats", J (q4t sd)] : List Str) = [q1g t, "seats"] ++ [J (q4t sd)] from rfl, j9w (by simp) (x9l hsd)]
   congr 1
   show _ = q1g t :: (("seats" : Str) :: (q4t sd ++ [])) ++ []
   rw [List.append_nil, List.append_nil]
   rfl
  refine q0z ⟨rfl, _, rfl, " ", l, [q1g t, "seats", J (q4t sd)], rfl, rfl, SqL.of q0g, x1v (L := 50000) (n := 3) ?_ (by show 3 ≤ 3; decide) (by decide), ?_⟩
  ·intro y hy
   simp only [List.mem_cons, List.not_mem_nil, or_false] at hy
   rcases hy with rfl | rfl | rfl
   ·omega
   ·decide +kernel
   ·omega
  ·have := q _ s3
   rw [← hJ] at this
   exact this
 ·cases iw with
  | @tup aw ws _ ew lw rw' =>
  obtain ⟨w0, _, rfl, z0, rr0⟩ := IsL.un rw'
  obtain rfl := Is.vstr z0
  obtain ⟨w1, _, rfl, z1, rr1⟩ := IsL.un rr0
  obtain rfl := Is.vstr z1
  obtain ⟨w2, _, rfl, z2, rr2⟩ := IsL.un rr1
  obtain rfl := Is.vint z2
  obtain ⟨ve, _, rfl, ie, rr3⟩ := IsL.un rr2
  obtain rfl := IsL.un0 rr3
  have hss : n.natAbs < 10 ^ 4000 ∧ q1x 4000 e = true := by
   have h1 : (q1x 4000 (.str "wish") && (q1x 4000 (.str x) && (q1x 4000 (.int n) && (q1x 4000 e && true)))) = true := hsm.2
   rw [Bool.and_true, Bool.and_eq_true, Bool.and_eq_true, Bool.and_eq_true] at h1
   exact ⟨of_decide_eq_true h1.2.2.1, h1.2.2.2⟩
  have hfn := q1f (n := n) (k := 4000) (by decide) hss.1
  have hxl := q6u hx
  refine ⟨_, rfl, t, rfl, hsm.1, _, rfl, aw, _, _, .str "wish", rfl, rfl, SqT.of ew, q0m (j := 0) rfl, q4m (by show 2 ≤ 1000; decide), fun l hl => ?_⟩
  have s1 := q0i (o := HO.lst [V.str (q1g t), V.str "wish"]) hl
  refine ⟨_, rfl, aw, _, _, .str "wish", rfl, rfl, SqT.of (s1 _ _ ew), q0m (j := 0) rfl, rfl, _, rfl, ?_⟩
  rw [(show decide (V.str ("wish" : Str) = V.str ("seats" : Str)) = false from by decide +kernel)]
  refine q0z ⟨_, rfl, aw, _, _, .str "wish", rfl, rfl, SqT.of (s1 _ _ ew), q0m (j := 0) rfl, rfl, _, rfl, ?_⟩
  rw [(show decide (V.str ("wish" : Str) = V.str ("wish" : Str)) = true from by decide +kernel)]
  have off : ∀ {H2 : Hp} {o : HO}, q1a H H2 → q1a H (upd H2 l o) := fun {H2 o} s2 b u eb => by
   have hbl : b ≠ l := fun z => by subst z; rw [hl] at eb; cases eb
   rw [q1b hbl]
   exact s2 _ _ eb
  refine q1o ⟨_, rfl, .inl ⟨rfl, _, SqL.of q0g⟩, _, rfl, aw, _, _, .str x, rfl, rfl, SqT.of (s1 _ _ ew), q0m (j := 1) rfl, l, _, _, rfl, rfl, q0g, q4m (by show 2 + 1 ≤ 1000; decide), ?_⟩
  have s2 := off (o := .lst ([V.str (q1g t), V.str "wish"] ++ [V.str x])) s1
  refine ⟨_, rfl, .inl ⟨rfl, _, SqL.of q0g⟩, _, rfl, aw, _, _, .int n, rfl, rfl, SqT.of (s2 _ _ ew), q0m (j := 2) rfl, n, rfl, hss.1, l, _, _, rfl, rfl, q0g, q4m (by show 3 + 1 ≤ 1000; decide), ?_⟩
  have s3 := off (o := .lst ([V.str (q1g t), V.str "wish"] ++ [V.str x] ++ [V.str (q1g n)])) s2
  refine ⟨_, rfl, .inl ⟨rfl, _, SqL.of q0g⟩, _, rfl, aw, _, _, ve, rfl, rfl, SqT.of (s3 _ _ ew), q0m (j := 3) rfl, B, ve, e, hB, rfl, ie.same s3, he, hss.2, fun H4 s4 => ?_⟩
  have hl4 := s4 _ _ q0g
  refine ⟨l, _, _, rfl, rfl, hl4, q4m (by show 4 + 1 ≤ 1000; decide), ?_⟩
  have s5 := off (o := .lst ([V.str (q1g t), V.str "wish"] ++ [V.str x] ++ [V.str (q1g n)] ++ [V.str (J (q6q e))])) (s3.trans s4)
  have hsl := (x3b (B := 200) e he (ie.mono hB (q1a.refl _)).wid).text (by rw [smallL, hss.2]; rfl)
  have hJ : J [q1g t, "wish", x, q1g n, J (q6q e)] = J (q4f (.tup [.int t, .tup [.str "wish", .str x, .int n, e]])) := by
   rw [show ([q1g t, "wish", x, q1g n, J (q6q e)] : List Str) = [q1g t, "wish", x, q1g n] ++ [J (q6q e)] from rfl, j9w (by simp) (z2e he)]
   congr 1
   show _ = q1g t :: (("wish" : Str) :: x :: q1g n :: (q6q e ++ [])) ++ []
   rw [List.append_nil, List.append_nil]
   rfl
  refine ⟨rfl, _, rfl, " ", l, [q1g t, "wish", x, q1g n, J (q6q e)], rfl, rfl, SqL.of q0g, x1v (L := 50000) (n := 5) ?_ (by show 5 ≤ 5; decide) (by decide), ?_⟩
  ·intro y hy
   simp only [List.mem_cons, List.not_mem_nil, or_false] at hy
   rcases hy with rfl | rfl | rfl | rfl | rfl
   ·omega
   ·decide +kernel
   ·omega
   ·omega
   ·omega
  ·have := q _ s5
   rw [← hJ] at this
   exact this
end
theorem z5w {d : D} (h : x0l d = true) : ∃ (x : Str) (i : Int), d = .tup [.str x, .int i] ∧ x4z x = true := by
 obtain ⟨ds, rfl, hf⟩ := q3i h
 match ds, q1e hf with
 | [a, b], _ =>
  simp only [q0v, Bool.and_true, Bool.and_eq_true] at hf
  obtain ⟨x, rfl, hx⟩ := q3t hf.1
  obtain ⟨i, rfl⟩ := q0u hf.2
  exact ⟨x, i, rfl, hx⟩
theorem z9r {d : D} (h : q4c d = true) : ∃ (x : Str) (n i : Int), d = .tup [.str x, .int n, .int i] ∧ x4z x = true := by
 obtain ⟨ds, rfl, hf⟩ := x8s h
 match ds, q1e hf with
 | [a, b, c], _ =>
  simp only [q0v, Bool.and_true, Bool.and_eq_true] at hf
  obtain ⟨x, rfl, hx⟩ := q3t hf.1
  obtain ⟨n, rfl⟩ := q0u hf.2.1
  obtain ⟨i, rfl⟩ := q0u hf.2.2
  exact ⟨x, n, i, rfl, hx⟩
theorem j7z {ws : List Str} (h : ws ≠ []) (a b : Str) : J (ws ++ [a, b]) = J ws ++ " " ++ a ++ " " ++ b := by
 rw [x2w h (by simp), x2h, x3z]
 simp only [x1g]
theorem j1h {ws : List Str} (h : ws ≠ []) (a b c : Str) : J (ws ++ [a, b, c]) = J ws ++ " " ++ a ++ " " ++ b ++ " " ++ c := by
 rw [x2w h (by simp), x2h, x2h, x3z]
 simp only [x1g]
theorem x7u {f : D → List Str} {ds : List D} {i : Nat} {d : D} (hd : ds[i]? = some d) : (ds.take (i + 1)).flatMap f = (ds.take i).flatMap f ++ f d := by
 rw [List.take_add_one, hd, List.flatMap_append]
 simp
theorem x8c {n : Nat} {p : D → Bool} {f : D → List Str} (W : WOk 200 n p f) {ds : List D} (ha : ds.all p = true) (hw : widL 200 ds = true) (hs : smallL 4000 ds = true) (i : Nat) : (∀ w ∈ (ds.take i).flatMap f, w.length ≤ 4001) ∧ ((ds.take i).flatMap f).length ≤ ds.length * n := by
 have := x6q W (ds := ds.take i) (List.all_eq_true.mpr fun d hd => List.all_eq_true.mp ha d (List.mem_of_mem_take hd)) (q4q.mpr fun d hd => q4q.mp hw d (List.mem_of_mem_take hd))
 exact ⟨this.len 4000 (by decide) (q2j.mpr fun d hd => q2j.mp hs d (List.mem_of_mem_take hd)), Nat.le_trans this.few (Nat.mul_le_mul_right n (by rw [List.length_take]; exact Nat.min_le_right _ _))⟩
theorem z9i {n : Nat} (h : n ≤ 200) : ((n : Int)).natAbs < 10 ^ 4000 ∧ (q1g (n : Int)).length ≤ 4001 := by
 have h1 : (10 : Nat) ^ 3 ≤ 10 ^ 4000 := Nat.pow_le_pow_right (by decide) (by decide)
 have h2 : ((n : Int)).natAbs < 10 ^ 4000 := by
  simp only [Int.natAbs_natCast]
  omega
 exact ⟨h2, q1f (by decide) h2⟩
section
variable {P : Program} {w : World} {K : PySem.W.Frag} {mg : Str → Option Value} {base : Heap}
theorem x4l : FnScope ["_law_store_here", "_law_words", "_law_name_here", "_law_value", "_law_caller", "_law_number", "_law_answer"] ["_law_store_here"] (q0d q4o) := fSc
theorem x7b {f : Addr} {fd : FuncData} (F : Fun K "_law_store_words" "_law_store_words" q4o f fd) (T : Txt mg) (CF : Cal P w K mg base "_law_figures" 2 ["_law_number"] z0n) : FnOk P w K mg base CX0 3 f fd ["_law_store_here"] (spT q3o x0a) := by
 refine F.ok x4l x2c (fun cdv A outer s H vs Q E hr h => ?_)
 obtain ⟨B, v, d, hB, rfl, I, hp, hs, q⟩ := h
 refine ⟨_, @q0x _ _ _ _ _ (q1c (i := 1) x4l.nd (by rfl) (by exact Or.inl rfl) (q0f CF hr (q0c (q0p q0y (by rfl) T.len PySem.boot_len (q0c (q0w q0n (pv 0) q0a q2q) q0b)) q0b)))
  (@q0x _ _ _ _ _ (x9s PassesOwn.never (by rfl) (q7a (q0w q0n (pv 0) q0a q2q)) (x3p (n := 2) (by rfl) (q1v (q1h (i := 2) x4l.nd (by rfl) (by exact Or.inl rfl)) (q1v (q1h (i := 3) x4l.nd (by rfl) (by exact Or.inl rfl)) q5x)))
   (@q1m _ _ _ (q1c (i := 1) x4l.nd (by rfl) (by exact Or.inl rfl) (q0l q0k (q0l q0k (q0l q0k (q0l q0k (pv 1) q0r) (pv 2)) q0r) (q0f CF hr (q1i (pv 3) q0b))))))
  (@q0x _ _ _ _ _ (q1c (i := 1) x4l.nd (by rfl) (by exact Or.inl rfl) (q0l q0k (q0l q0k (pv 1) q0r) (q0f CF hr (q0c (q0p q0y (by rfl) T.len PySem.boot_len (q0c (q0w q0n (pv 0) q0a q2q) q0b)) q0b))))
  (@q0x _ _ _ _ _ (x9s PassesOwn.never (by rfl) (q7a (q0w q0n (pv 0) q0a q2q)) (x3p (n := 3) (by rfl) (q1v (q1h (i := 4) x4l.nd (by rfl) (by exact Or.inl rfl)) (q1v (q1h (i := 5) x4l.nd (by rfl) (by exact Or.inl rfl)) (q1v (q1h (i := 6) x4l.nd (by rfl) (by exact Or.inl rfl)) q5x))))
   (@q0x _ _ _ _ _ (q1c (i := 1) x4l.nd (by rfl) (by exact Or.inl rfl) (q0l q0k (q0l q0k (q0l q0k (q0l q0k (pv 1) q0r) (pv 4)) q0r) (q0f CF hr (q1i (pv 5) q0b))))
   (@q1m _ _ _ (q1c (i := 1) x4l.nd (by rfl) (by exact Or.inl rfl) (q0l q0k (q0l q0k (pv 1) q0r) (q0f CF hr (q1i (pv 6) q0b)))))))
  (@q1m _ _ _ (q0j (pv 1)))))), ?_⟩
 have hwid := (I.mono hB (q1a.refl _)).wid
 obtain ⟨da, db, rfl, ha, hb, na, nb⟩ := x8k hp
 have hsm : smallL 4000 da = true ∧ smallL 4000 db = true := by
  have h1 : (smallL 4000 da && (smallL 4000 db && true)) = true := hs
  rw [Bool.and_true, Bool.and_eq_true] at h1
  exact h1
 cases I with
 | @tup a xs _ ea l r =>
 obtain ⟨w0, _, rfl, z0, rr0⟩ := IsL.un r
 obtain ⟨a1, ys1, rfl, e1, q1, r1⟩ := Is.vtup z0
 obtain ⟨w1, _, rfl, z1, rr1⟩ := IsL.un rr0
 obtain ⟨a2, ys2, rfl, e2, q2, r2⟩ := Is.vtup z1
 obtain rfl := IsL.un0 rr1
 have l1 := r1.length
 have l2 := r2.length
 have wa := r1.wid
 have wb := r2.wid
 have wa' : widL 200 da = true := (r1.mono hB (q1a.refl _)).wid
 have wb' : widL 200 db = true := (r2.mono hB (q1a.refl _)).wid
 have ta := x8c z2p ha wa' hsm.1
 have tb := x8c x5m hb wb' hsm.2
 have ca := z9i (n := da.length) (by omega)
 have cb := z9i (n := db.length) (by omega)
 refine ⟨_, rfl, a, _, _, .ref a1, rfl, rfl, SqT.of ea, q0m (j := 0) rfl, a1, ys1, rfl, .inr (SqT.of e1), (da.length : Int), by rw [l1]; rfl, ca.1, ?_⟩
 refine ⟨_, rfl, a, _, _, .ref a1, rfl, rfl, SqT.of ea, q0m (j := 0) rfl, a1, rfl, ⟨ys1, SqT.of e1⟩, x4j (K := K) (a := a1) (xs := ys1) (fun i σ H' => ∃ x2 x3 : Option V, σ = [some (.ref a), some (.str (J (q1g (da.length : Int) :: (da.take i).flatMap q9j))), x2, x3, none, none, none] ∧ H = H')
  ⟨none, none, rfl, rfl⟩ (fun i σ H' _ ⟨_, _, _, z⟩ => z ▸ SqT.of e1) ?_ ?_⟩
 ·rintro i x σ H' hx ⟨x2, x3, rfl, rfl⟩
  obtain ⟨d, hd, hI⟩ := r1.get hx
  obtain ⟨nm, n, rfl, hnm⟩ := z5w (List.all_eq_true.mp ha d (List.mem_of_getElem? hd))
  cases hI with
  | @tup ap zs _ ep lp rp =>
  obtain ⟨w0, _, rfl, z0, rr0⟩ := IsL.un rp
  obtain rfl := Is.vstr z0
  obtain ⟨w1, _, rfl, z1, rr1⟩ := IsL.un rr0
  obtain rfl := Is.vint z1
  obtain rfl := IsL.un0 rr1
  have hn : n.natAbs < 10 ^ 4000 := by
   have h1 := q2j.mp hsm.1 _ (List.mem_of_getElem? hd)
   simp only [q1x, smallL, Bool.true_and, Bool.and_true, decide_eq_true_eq] at h1
   exact h1
  have hnl := q1f (n := n) (k := 4000) (by decide) hn
  have hml := q6u hnm
  have hJ := z0l (L := 4001) (ws := q1g (da.length : Int) :: (da.take i).flatMap q9j) (fun y hy => (List.mem_cons.mp hy).elim (fun z => z ▸ ca.2) ((ta i).1 y))
  have hcn := (ta i).2
  rw [List.length_cons] at hJ
  have hJ2 : (J (q1g (da.length : Int) :: (da.take i).flatMap q9j)).length ≤ 401 * 4002 := Nat.le_trans hJ (Nat.mul_le_mul_right _ (by omega))
  have e1' : (" " : Str).length = 1 := rfl
  refine ⟨ap, _, rfl, SqT.of ep, rfl, _, _, rfl, _, _, rfl, rfl, ?_⟩
  refine ⟨_, rfl, _, _, rfl, rfl, ?_, _, rfl, _, _, rfl, rfl, ?_, _, _, rfl, rfl, ?_, _, rfl, n, rfl, hn, _, _, rfl, rfl, ?_, ?_⟩
  ·rw [e1', sizeLine_eq]; omega
  ·rw [q0e, e1', sizeLine_eq]; omega
  ·rw [q0e, q0e, e1', sizeLine_eq]; omega
  ·rw [q0e, q0e, q0e, e1', sizeLine_eq]; omega
  ·refine ⟨some (.str nm), some (.int n), ?_, rfl⟩
   rw [x7u hd, ← List.cons_append, show q9j (.tup [.str nm, .int n]) = [nm, q1g n] from rfl, j7z (by simp)]
   rfl
 ·rintro σ H' ⟨x2, x3, rfl, rfl⟩
  rw [l1, List.take_length]
  have tA := ta da.length
  rw [List.take_length] at tA
  have hJ := z0l (L := 4001) (ws := q1g (da.length : Int) :: da.flatMap q9j) (fun y hy => (List.mem_cons.mp hy).elim (fun z => z ▸ ca.2) (tA.1 y))
  rw [List.length_cons] at hJ
  have hcA := tA.2
  have hJ2 : (J (q1g (da.length : Int) :: da.flatMap q9j)).length ≤ 401 * 4002 := Nat.le_trans hJ (Nat.mul_le_mul_right _ (by omega))
  have e1' : (" " : Str).length = 1 := rfl
  have hcb := cb.2
  refine ⟨_, rfl, _, _, rfl, rfl, ?_, _, rfl, a, _, _, .ref a2, rfl, rfl, SqT.of ea, q0m (j := 1) rfl, a2, ys2, rfl, .inr (SqT.of e2), (db.length : Int), by rw [l2]; rfl, cb.1, _, _, rfl, rfl, ?_, ?_⟩
  ·rw [e1', sizeLine_eq]; omega
  ·rw [q0e, e1', sizeLine_eq]; omega
  have base2 : J (q1g (da.length : Int) :: da.flatMap q9j) ++ " " ++ q1g (db.length : Int) = J ((q1g (da.length : Int) :: da.flatMap q9j) ++ [q1g (db.length : Int)]) := by rw [x2w (by simp) (by simp), x3z]
  refine ⟨_, rfl, a, _, _, .ref a2, rfl, rfl, SqT.of ea, q0m (j := 1) rfl, a2, rfl, ⟨ys2, SqT.of e2⟩, x4j (K := K) (a := a2) (xs := ys2) (fun i σ H' => ∃ x4 x5 x6 : Option V, σ = [some (.ref a), some (.str (J (((q1g (da.length : Int) :: da.flatMap q9j) ++ [q1g (db.length : Int)]) ++ (db.take i).flatMap q6t))), x2, x3, x4, x5, x6] ∧ H = H')
   ⟨none, none, none, ?_, rfl⟩ (fun i σ H' _ ⟨_, _, _, _, z⟩ => z ▸ SqT.of e2) ?_ ?_⟩
  ·rw [List.take_zero, List.flatMap_nil, List.append_nil, ← base2]
   rfl
  ·rintro i x σ H' hx ⟨x4, x5, x6, rfl, rfl⟩
   obtain ⟨d, hd, hI⟩ := r2.get hx
   obtain ⟨nm, n, m, rfl, hnm⟩ := z9r (List.all_eq_true.mp hb d (List.mem_of_getElem? hd))
   cases hI with
   | @tup ap zs _ ep lp rp =>
   obtain ⟨w0, _, rfl, z0, rr0⟩ := IsL.un rp
   obtain rfl := Is.vstr z0
   obtain ⟨w1, _, rfl, z1, rr1⟩ := IsL.un rr0
   obtain rfl := Is.vint z1
   obtain ⟨w2, _, rfl, z2, rr2⟩ := IsL.un rr1
   obtain rfl := Is.vint z2
   obtain rfl := IsL.un0 rr2
   have hnm2 : n.natAbs < 10 ^ 4000 ∧ m.natAbs < 10 ^ 4000 := by
    have h1 := q2j.mp hsm.2 _ (List.mem_of_getElem? hd)
    simp only [q1x, smallL, Bool.true_and, Bool.and_true, Bool.and_eq_true, decide_eq_true_eq] at h1
    exact h1
   have hnl := q1f (n := n) (k := 4000) (by decide) hnm2.1
   have hml2 := q1f (n := m) (k := 4000) (by decide) hnm2.2
   have hml := q6u hnm
   have hJ3 := z0l (L := 4001) (ws := ((q1g (da.length : Int) :: da.flatMap q9j) ++ [q1g (db.length : Int)]) ++ (db.take i).flatMap q6t) (fun y hy => by
    rcases List.mem_append.mp hy with hy | hy
    ·rcases List.mem_append.mp hy with hy | hy
     ·exact (List.mem_cons.mp hy).elim (fun z => z ▸ ca.2) (tA.1 y)
     ·exact (List.mem_singleton.mp hy) ▸ cb.2
    ·exact (tb i).1 y hy)
   have hcn := (tb i).2
   rw [List.length_append, List.length_append, List.length_cons, List.length_singleton] at hJ3
   have hJ4 : (J (((q1g (da.length : Int) :: da.flatMap q9j) ++ [q1g (db.length : Int)]) ++ (db.take i).flatMap q6t)).length ≤ 1002 * 4002 := Nat.le_trans hJ3 (Nat.mul_le_mul_right _ (by omega))
   refine ⟨ap, _, rfl, SqT.of ep, rfl, _, _, rfl, _, _, rfl, _, _, rfl, rfl, ?_⟩
   refine ⟨_, rfl, _, _, rfl, rfl, ?_, _, rfl, _, _, rfl, rfl, ?_, _, _, rfl, rfl, ?_, _, rfl, n, rfl, hnm2.1, _, _, rfl, rfl, ?_, ?_⟩
   ·rw [e1', sizeLine_eq]; omega
   ·rw [q0e, e1', sizeLine_eq]; omega
   ·rw [q0e, q0e, e1', sizeLine_eq]; omega
   ·rw [q0e, q0e, q0e, e1', sizeLine_eq]; omega
   refine ⟨_, rfl, _, _, rfl, rfl, ?_, _, rfl, m, rfl, hnm2.2, _, _, rfl, rfl, ?_, ?_⟩
   ·rw [q0e, q0e, q0e, q0e, e1', sizeLine_eq]; omega
   ·rw [q0e, q0e, q0e, q0e, q0e, e1', sizeLine_eq]; omega
   ·refine ⟨some (.str nm), some (.int n), some (.int m), ?_, rfl⟩
    rw [x7u hd, ← List.append_assoc, show q6t (.tup [.str nm, .int n, .int m]) = [nm, q1g n, q1g m] from rfl, j1h (by simp)]
    rfl
  ·rintro σ H' ⟨x4, x5, x6, rfl, rfl⟩
   refine ⟨_, rfl, ?_⟩
   rw [l2, List.take_length]
   have e : x0a (.tup [.tup da, .tup db]) = ((q1g (da.length : Int) :: da.flatMap q9j) ++ [q1g (db.length : Int)]) ++ db.flatMap q6t := by
    show (q1g (da.length : Int) :: da.flatMap q9j) ++ ((q1g (db.length : Int) :: db.flatMap q6t) ++ []) = _
    rw [List.append_nil, List.append_assoc]
    rfl
   rw [← e]
   exact q H (q1a.refl _)
end
inductive LetS : D → Prop
 | ask (x0 : Int) (x1 : Int) (x2 : Int) (x3 : Int) (x4 : Int) : LetS (.tup [.str "ask", .int x0, .int x1, .int x2, .int x3, .int x4])
 | voice (x0 : Int) (x1 : Int) (x2 : Int) (x3 : Bool) : LetS (.tup [.str "voice", .int x0, .int x1, .int x2, .bl x3])
 | hand (x0 : Int) (x1 : Int) (x2 : Int) (x3 : Int) (x4 : Int) (x5 : D) (x6 : Int) (h5 : q1y x5 = true) : LetS (.tup [.str "hand", .int x0, .int x1, .int x2, .int x3, .int x4, x5, .int x6])
 | pack (x0 : Int) (x1 : Int) (x2 : Int) (x3 : D) (h3 : q8d x3 = true) : LetS (.tup [.str "pack", .int x0, .int x1, .int x2, x3])
 | held (x0 : Int) (x1 : Int) (x2 : Int) (x3 : Bool) (x4 : Int) : LetS (.tup [.str "held", .int x0, .int x1, .int x2, .bl x3, .int x4])
 | wish (x0 : Str) (x1 : Int) (x2 : Int) (x3 : D) (h0 : x4z x0 = true) (h3 : q5j x3 = true) : LetS (.tup [.str "wish", .str x0, .int x1, .int x2, x3])
 | told (x0 : Int) (x1 : Str) (x2 : Int) (x3 : Int) (h1 : x4z x1 = true) : LetS (.tup [.str "told", .int x0, .str x1, .int x2, .int x3])
 | away (x0 : Int) (x1 : Str) (x2 : Int) (x3 : D) (h1 : x4z x1 = true) (h3 : q6w x3 = true) : LetS (.tup [.str "away", .int x0, .str x1, .int x2, x3])
theorem x3j {d : D} (h : q2g q2l d = true) : LetS d := by
 obtain ⟨x, r, ps, rfl, e, hf⟩ := q2r h
 unfold q2l at e
 rw [List.lookup_cons] at e
 by_cases g0 : x = "ask"
 ·subst g0
  cases e
  match r, q1e hf with
  | [y0, y1, y2, y3, y4], _ =>
   simp only [q0v, Bool.and_true, Bool.and_eq_true] at hf
   obtain ⟨f0, f1, f2, f3, f4⟩ := hf
   obtain ⟨i0, rfl⟩ := q0u (q1j f0)
   obtain ⟨i1, rfl⟩ := q0u (q1j f1)
   obtain ⟨i2, rfl⟩ := q0u (q1k f2)
   obtain ⟨i3, rfl⟩ := q0u (q1k f3)
   obtain ⟨i4, rfl⟩ := q0u (q1k f4)
   exact .ask i0 i1 i2 i3 i4
 ·rw [show (x == "ask") = false from by rw [beq_eq_false_iff_ne]; exact g0, List.lookup_cons] at e
  by_cases g1 : x = "voice"
  ·subst g1
   cases e
   match r, q1e hf with
   | [y0, y1, y2, y3], _ =>
    simp only [q0v, Bool.and_true, Bool.and_eq_true] at hf
    obtain ⟨f0, f1, f2, f3⟩ := hf
    obtain ⟨i0, rfl⟩ := q0u (q1j f0)
    obtain ⟨i1, rfl⟩ := q0u (q1j f1)
    obtain ⟨i2, rfl⟩ := q0u (q1k f2)
    obtain ⟨i3, rfl⟩ := q9o f3
    exact .voice i0 i1 i2 i3
  ·rw [show (x == "voice") = false from by rw [beq_eq_false_iff_ne]; exact g1, List.lookup_cons] at e
   by_cases g2 : x = "hand"
   ·subst g2
    cases e
    match r, q1e hf with
    | [y0, y1, y2, y3, y4, y5, y6], _ =>
     simp only [q0v, Bool.and_true, Bool.and_eq_true] at hf
     obtain ⟨f0, f1, f2, f3, f4, f5, f6⟩ := hf
     obtain ⟨i0, rfl⟩ := q0u (q1j f0)
     obtain ⟨i1, rfl⟩ := q0u (q1j f1)
     obtain ⟨i2, rfl⟩ := q0u (q1k f2)
     obtain ⟨i3, rfl⟩ := q0u (q1k f3)
     obtain ⟨i4, rfl⟩ := q0u (q1k f4)
     obtain ⟨i6, rfl⟩ := q0u (q1k f6)
     exact .hand i0 i1 i2 i3 i4 _ i6 f5
   ·rw [show (x == "hand") = false from by rw [beq_eq_false_iff_ne]; exact g2, List.lookup_cons] at e
    by_cases g3 : x = "pack"
    ·subst g3
     cases e
     match r, q1e hf with
     | [y0, y1, y2, y3], _ =>
      simp only [q0v, Bool.and_true, Bool.and_eq_true] at hf
      obtain ⟨f0, f1, f2, f3⟩ := hf
      obtain ⟨i0, rfl⟩ := q0u (q1j f0)
      obtain ⟨i1, rfl⟩ := q0u (q1j f1)
      obtain ⟨i2, rfl⟩ := q0u (q1k f2)
      exact .pack i0 i1 i2 _ f3
    ·rw [show (x == "pack") = false from by rw [beq_eq_false_iff_ne]; exact g3, List.lookup_cons] at e
     by_cases g4 : x = "held"
     ·subst g4
      cases e
      match r, q1e hf with
      | [y0, y1, y2, y3, y4], _ =>
       simp only [q0v, Bool.and_true, Bool.and_eq_true] at hf
       obtain ⟨f0, f1, f2, f3, f4⟩ := hf
       obtain ⟨i0, rfl⟩ := q0u (q1j f0)
       obtain ⟨i1, rfl⟩ := q0u (q1j f1)
       obtain ⟨i2, rfl⟩ := q0u (q1k f2)
       obtain ⟨i3, rfl⟩ := q9o f3
       obtain ⟨i4, rfl⟩ := q0u (q1k f4)
       exact .held i0 i1 i2 i3 i4
     ·rw [show (x == "held") = false from by rw [beq_eq_false_iff_ne]; exact g4, List.lookup_cons] at e
      by_cases g5 : x = "wish"
      ·subst g5
       cases e
       match r, q1e hf with
       | [y0, y1, y2, y3], _ =>
        simp only [q0v, Bool.and_true, Bool.and_eq_true] at hf
        obtain ⟨f0, f1, f2, f3⟩ := hf
        obtain ⟨i0, rfl, l0⟩ := q3t f0
        obtain ⟨i1, rfl⟩ := q0u (q1j f1)
        obtain ⟨i2, rfl⟩ := q0u (q1k f2)
        exact .wish i0 i1 i2 _ l0 f3
      ·rw [show (x == "wish") = false from by rw [beq_eq_false_iff_ne]; exact g5, List.lookup_cons] at e
       by_cases g6 : x = "told"
       ·subst g6
        cases e
        match r, q1e hf with
        | [y0, y1, y2, y3], _ =>
         simp only [q0v, Bool.and_true, Bool.and_eq_true] at hf
         obtain ⟨f0, f1, f2, f3⟩ := hf
         obtain ⟨i0, rfl⟩ := q0u (q1j f0)
         obtain ⟨i1, rfl, l1⟩ := q3t f1
         obtain ⟨i2, rfl⟩ := q0u (q1k f2)
         obtain ⟨i3, rfl⟩ := q0u (f3)
         exact .told i0 i1 i2 i3 l1
       ·rw [show (x == "told") = false from by rw [beq_eq_false_iff_ne]; exact g6, List.lookup_cons] at e
        by_cases g7 : x = "away"
        ·subst g7
         cases e
         match r, q1e hf with
         | [y0, y1, y2, y3], _ =>
          simp only [q0v, Bool.and_true, Bool.and_eq_true] at hf
          obtain ⟨f0, f1, f2, f3⟩ := hf
          obtain ⟨i0, rfl⟩ := q0u (q1j f0)
          obtain ⟨i1, rfl, l1⟩ := q3t f1
          obtain ⟨i2, rfl⟩ := q0u (q1k f2)
          exact .away i0 i1 i2 _ l1 f3
        ·rw [show (x == "away") = false from by rw [beq_eq_false_iff_ne]; exact g7] at e
         cases e
end K1
namespace Kp
open PySem
theorem j3j (r : List D) : q7k "ask" r = (match r with | [a, b, t, p, l] => x2u a b t && q4u p l | _ => false) := by unfold q7k; rw [if_pos rfl]; all_goals rfl
theorem z4a (r : List D) : q7k "voice" r = (match r with | [a, b, t, v] => x2u a b t && q3l v | _ => false) := by unfold q7k; rw [if_neg (by decide +kernel), if_pos rfl]; all_goals rfl
theorem j0a (r : List D) : q7k "hand" r = (match r with | [a, b, t, p, l, e, m] => x2u a b t && (q4u p l && (x2y e && geD 0 m)) | _ => false) := by unfold q7k; rw [if_neg (by decide +kernel), if_neg (by decide +kernel), if_pos rfl]; all_goals rfl
theorem z7a (r : List D) : q7k "pack" r = (match r with | [a, b, t, k] => x2u a b t && (x0q k && nzD k) | _ => false) := by unfold q7k; rw [if_neg (by decide +kernel), if_neg (by decide +kernel), if_neg (by decide +kernel), if_pos rfl]; all_goals rfl
theorem z9h (r : List D) : q7k "held" r = (match r with | [a, b, t, v, m] => x2u a b t && (q3l v && geD 0 m) | _ => false) := by unfold q7k; rw [if_neg (by decide +kernel), if_neg (by decide +kernel), if_neg (by decide +kernel), if_neg (by decide +kernel), if_pos rfl]; all_goals rfl
theorem z5y (r : List D) : q7k "wish" r = (match r with | [n, k, c, d] => geD 1 c && (q1w n && (q0h k && q6a d)) | _ => false) := by unfold q7k; rw [if_neg (by decide +kernel), if_neg (by decide +kernel), if_neg (by decide +kernel), if_neg (by decide +kernel), if_neg (by decide +kernel), if_pos rfl]; all_goals rfl
theorem z7g (r : List D) : q7k "told" r = (match r with | [k, n, c, v] => geD 1 c && ((q0h k && q1w n) && whole v) | _ => false) := by unfold q7k; rw [if_neg (by decide +kernel), if_neg (by decide +kernel), if_neg (by decide +kernel), if_neg (by decide +kernel), if_neg (by decide +kernel), if_neg (by decide +kernel), if_pos rfl]; all_goals rfl
theorem z9z (r : List D) : q7k "away" r = (match r with | [k, n, c, h] => geD 1 c && ((q0h k && q1w n) && q6w h) | _ => false) := by unfold q7k; rw [if_neg (by decide +kernel), if_neg (by decide +kernel), if_neg (by decide +kernel), if_neg (by decide +kernel), if_neg (by decide +kernel), if_neg (by decide +kernel), if_neg (by decide +kernel), if_pos rfl]; all_goals rfl
end Kp
namespace K1
open PySem L2 Kp
theorem PS.weak {X : Cx} {st : Stmt} {t t' : TS} (h : PS X st t) (w : ∀ D σ H, t' D σ H → t D σ H) : PS X st t' := fun pins s σ H D I q => h pins s σ H D I (w D σ H q)
theorem j7r {s t : Str} (h : s = t) : decide (V.str s = V.str t) = true := by rw [h]; simp
theorem z4c {s t : Str} (h : s ≠ t) : decide (V.str s = V.str t) = false := decide_eq_false fun z => h (V.str.inj z)
structure BtY (a b t : D) : Prop where
 k1 : q0h a = true
 k2 : q0h b = true
 ne : q9b a b = false
 ge : geD 1 t = true
inductive BtwY : Str → Nat → List D → Prop
 | ask {a b t p l : D} (h : BtY a b t) (hs : q4u p l = true) : BtwY "ask" 6 [a, b, t, p, l]
 | voice {a b t : D} {c : Bool} (h : BtY a b t) : BtwY "voice" 5 [a, b, t, .bl c]
 | held {a b t m : D} {c : Bool} (h : BtY a b t) (hm : geD 0 m = true) : BtwY "held" 6 [a, b, t, .bl c, m]
 | pack {a b t : D} {i : Int} {r : List D} (h : BtY a b t) (hp : x0q (.tup (.int i :: r)) = true) (hi : i ≠ 0) : BtwY "pack" 5 [a, b, t, .tup (.int i :: r)]
 | hand {a b t p l m : D} {ds : List D} (h : BtY a b t) (hs : q4u p l = true) (h5 : ds.length ≤ 5) (he : ds.all q8a = true) (hm : geD 0 m = true) : BtwY "hand" 8 [a, b, t, p, l, .tup ds, m]
inductive LetY : D → Prop
 | five {x : Str} {n : Nat} {r : List D} (h : BtwY x n r) : LetY (.tup (.str x :: r))
 | wish {n k c d : D} (h1 : q1w n = true) (h2 : q0h k = true) (h3 : geD 1 c = true) (h4 : q6a d = true) : LetY (.tup [.str "wish", n, k, c, d])
 | told {k n c v : D} (h1 : q0h k = true) (h2 : q1w n = true) (h3 : geD 1 c = true) (h4 : whole v = true) : LetY (.tup [.str "told", k, n, c, v])
 | away {k n c h : D} (h1 : q0h k = true) (h2 : q1w n = true) (h3 : geD 1 c = true) (h4 : q6w h = true) : LetY (.tup [.str "away", k, n, c, h])
theorem q5n {x : Str} {r : List D} (h : z1k (.tup (.str x :: r)) = true) : q7k x r = true := h
theorem w0r {d : D} (h : q2p d = true) : LetY d := by
 have hb : q2g q2l d = true := (Bool.and_eq_true _ _ |>.mp h).1
 rw [z8s] at h
 cases x3j hb with
 | ask x0 x1 x2 x3 x4 =>
  replace h := q5n h
  rw [j3j] at h
  simp only [x2u, Bool.and_eq_true, Bool.not_eq_true'] at h
  exact .five (.ask ⟨h.1.1.1.1, h.1.1.1.2, h.1.1.2, h.1.2⟩ h.2)
 | voice x0 x1 x2 x3 =>
  replace h := q5n h
  rw [z4a] at h
  simp only [x2u, Bool.and_eq_true, Bool.not_eq_true'] at h
  exact .five (.voice ⟨h.1.1.1.1, h.1.1.1.2, h.1.1.2, h.1.2⟩)
 | hand x0 x1 x2 x3 x4 x5 x6 h5 =>
  replace h := q5n h
  rw [j0a] at h
  simp only [x2u, Bool.and_eq_true, Bool.not_eq_true'] at h
  cases x5 with
  | tup ds =>
   have he : (decide (ds.length ≤ 5) && ds.all q8a) = true := h.2.2.1
   rw [Bool.and_eq_true] at he
   exact .five (.hand ⟨h.1.1.1.1, h.1.1.1.2, h.1.1.2, h.1.2⟩ h.2.1 (of_decide_eq_true he.1) he.2 h.2.2.2)
  | _ => cases h5
 | pack x0 x1 x2 x3 h3 =>
  replace h := q5n h
  rw [z7a] at h
  simp only [x2u, Bool.and_eq_true, Bool.not_eq_true'] at h
  obtain ⟨i, r, rfl, _⟩ := x6h h.2.1
  have hn : (!decide (i = 0)) = true := h.2.2
  exact .five (.pack ⟨h.1.1.1.1, h.1.1.1.2, h.1.1.2, h.1.2⟩ h.2.1 (by simpa using hn))
 | held x0 x1 x2 x3 x4 =>
  replace h := q5n h
  rw [z9h] at h
  simp only [x2u, Bool.and_eq_true, Bool.not_eq_true'] at h
  exact .five (.held ⟨h.1.1.1.1, h.1.1.1.2, h.1.1.2, h.1.2⟩ h.2.2)
 | wish x0 x1 x2 x3 h0 h3 =>
  replace h := q5n h
  rw [z5y] at h
  simp only [Bool.and_eq_true] at h
  exact .wish h.2.1 h.2.2.1 h.1 h.2.2.2
 | told x0 x1 x2 x3 h1 =>
  replace h := q5n h
  rw [z7g] at h
  simp only [Bool.and_eq_true] at h
  exact .told h.2.1.1 h.2.1.2 h.1 h.2.2
 | away x0 x1 x2 x3 h1 h3 =>
  replace h := q5n h
  rw [z9z] at h
  simp only [Bool.and_eq_true] at h
  exact .away h.2.1.1 h.2.1.2 h.1 h.2.2
section
variable {P : Program} {w : World} {K : PySem.W.Frag} {mg : Str → Option Value} {base : Heap}
theorem w3i : FnScope ["_law_thing"] ["_law_thing"] (q0d q7p) := fSc
theorem z5k {f : Addr} {fd : FuncData} (F : Fun K "_law_keeper" "_law_keeper" q7p f fd) (CF : Cal P w K mg base "_law_from" 1 ["_law_thing", "_law_least"] x1l) : FnOk P w K mg base CX0 2 f fd ["_law_thing"] (spP q0h) := by
 refine F.ok w3i q2c (fun cdv A outer s H vs Q E hr h => ?_)
 obtain ⟨B, v, d, hB, rfl, I, k⟩ := h
 refine ⟨_, q0o (q0j (q1z (q0f CF hr (q1i (pv 0) (q8e q0a q0b))) (q2h (q1r x6e (pv 0) q0a (q0q _))))), ?_⟩
 refine ⟨_, rfl, B, v, d, 0, hB, rfl, I, fun H1 s1 => ⟨_, rfl, ?_⟩⟩
 have k0 := k H1 s1
 cases hg : geD 0 d with
 | false =>
  have e : q0h d = false := by
   cases d with
   | int i =>
    have hg' : decide (0 ≤ i) = false := hg
    show (decide (0 ≤ i) && decide (i ≤ 8)) = false
    rw [hg']; rfl
   | _ => rfl
  rw [e] at k0
  exact q0z k0
 | true =>
  obtain ⟨i, rfl⟩ := ge_int hg
  cases I
  have hg' : decide (0 ≤ i) = true := hg
  have k1 : Q (.bl (decide (0 ≤ i) && decide (i ≤ 8))) H1 := k0
  rw [hg'] at k1
  refine q1o ⟨_, rfl, _, _, rfl, rfl, ?_⟩
  show Q (.bl (decide (i < 9))) H1
  have e : decide (i < 9) = (true && decide (i ≤ 8)) := by
   rw [Bool.true_and, Bool.eq_iff_iff]; simp only [decide_eq_true_eq]; omega
  rw [e]
  exact k1
noncomputable def j3r : Sp := fun vs H Q _ => ∃ B v x n r, B ≤ 1000 ∧ vs = [v] ∧ BtwY x n r ∧ Is B H v (.tup (.str x :: r)) ∧ ∀ H', q1a H H' → Q (.bl true) H'
noncomputable def j4c : Sp := fun vs H Q _ => ∃ B v d, B ≤ 1000 ∧ vs = [v] ∧ Is B H v d ∧ q2p d = true ∧ ∀ H', q1a H H' → Q (.bl true) H'
theorem w1t : FnScope ["_law_thing", "_law_kind_here", "_law_sizes"] ["_law_thing"] (q0d q5h) := fSc
noncomputable def w5u : TS := fun D σ H => ∃ (B : Nat) (v : V) (x : Str) (a b t : Kp.D) (r : List Kp.D) (n : Nat) (p : Addr), σ = [some v, some (.str x), some (.ref p)] ∧ B ≤ 1000 ∧ Is B H v (.tup (.str x :: a :: b :: t :: r)) ∧ BtY a b t ∧ r.length + 4 = n ∧ j3t H p (.str x) (some (.int ((n : Nat) : Int))) ∧ ∀ H', q1a H H' → D.nx σ H'
noncomputable def w3x : TS := fun D σ H => ∃ (B : Nat) (v : V) (x1 x2 : Option V) (x a b t : Kp.D) (r : List Kp.D), σ = [some v, x1, x2] ∧ B ≤ 1000 ∧ Is B H v (.tup (x :: a :: b :: t :: r)) ∧ geD 1 t = true ∧ ∀ H', q1a H H' → D.nx σ H'
theorem z1n {f : Addr} {fd : FuncData} (F : Fun K "_law_between" "_law_between" q5h f fd) (T : Txt mg) (CK : Cal P w K mg base "_law_kind" 1 ["_law_thing"] q9y) (CF : Cal P w K mg base "_law_from" 1 ["_law_thing", "_law_least"] x1l) (CR : Cal P w K mg base "_law_keeper" 2 ["_law_thing"] (spP q0h))
  (CS : Cal P w K mg base "_law_stand" 2 ["_law_place", "_law_last"] z0u) (CP : Cal P w K mg base "_law_pack" 4 ["_law_thing"] (spP x0q)) (CE : Cal P w K mg base "_law_entry" 4 ["_law_thing"] (spP q8a)) : FnOk P w K mg base CX0 5 f fd ["_law_thing"] j3r := by
 refine F.ok w1t (fun vs H Q E ⟨_, _, _, _, _, _, e, _⟩ => by subst e; rfl) (fun cdv A outer s H vs Q E hr h => ?_)
 obtain ⟨B, v, x, n, r, hB, rfl, hx, I, k⟩ := h
 have r1 := hr.mono (show 1 ≤ 4 by decide)
 have r2 := hr.mono (show 2 ≤ 4 by decide)
 refine ⟨_, @q0x _ _ _ _ _ (q1c (i := 1) w1t.nd (by rfl) (by exact Or.inl rfl) (q0f CK r1 (q1i (pv 0) q0b)))
  (@q0x _ _ _ _ _ (q1c (i := 2) w1t.nd (by rfl) (by exact Or.inl rfl) (j6r (x1e q0r q0a (x1e q0r q0a (x1e q0r q0a (x1e q0r q0a (x1e q0r q0a j6u))))) (by rfl) (by rfl) (by simp) (by decide)))
  (@q0x _ _ _ _ _ (PS.weak (t' := w5u) (q1q (PW.pt (q7j (q0s j1x (q0p q0y (by rfl) T.len PySem.boot_len (q1i (pv 0) q0b)) (j6b (w1g hr) (pv 2) (pv 1) (fun _ _ => rfl)) (q0q _))
    (q7j (q3b (q2n (q0f CR r2 (q4n (q0w q0n (pv 0) q0a q2q) q0b)))) (q7j (q3b (q2n (q0f CR r2 (q4n (q0w q0n (pv 0) q0a q2q) q0b))))
    (q7y (q0s q2a (q0w q0n (pv 0) q0a q2q) (q0w q0n (pv 0) q0a q2q) (q0q _))))))) q2s q0t) ?w1)
  (@q0x _ _ _ _ _ (PS.weak (t' := w3x) (q1q (q3b (q2n (q0f CF r1 (q4n (q0w q0n (pv 0) q0a q2q) (q8e q0a q0b))))) q2s q0t) ?w2)
  (@q0x _ _ _ _ _ (q1q (q0s q2a (pv 1) q0r (q0q _)) (@q1m _ _ _ (q0j (q0f CS r2 (q4n (q0w q0n (pv 0) q0a q2q) (q4n (q0w q0n (pv 0) q0a q2q) q0b))))) q0t)
  (@q0x _ _ _ _ _ (q1q (q0s q2a (pv 1) q0r (q0q _)) (@q1m _ _ _ (q0j (q0p q2f (by rfl) T.isi q2e (q4n (q0w q0n (pv 0) q0a q2q) (q1i (q6p (by rfl) T.bool q7c) q0b))))) q0t)
  (@q0x _ _ _ _ _ (q1q (q0s q2a (pv 1) q0r (q0q _)) (@q1m _ _ _ (q0j (q1z (q0p q2f (by rfl) T.isi q2e (q4n (q0w q0n (pv 0) q0a q2q) (q1i (q6p (by rfl) T.bool q7c) q0b))) (q2h (q0f CF r1 (q4n (q0w q0n (pv 0) q0a q2q) (q8e q0a q0b))))))) q0t)
  (@q0x _ _ _ _ _ (q1q (q0s q2a (pv 1) q0r (q0q _)) (@q1m _ _ _ (q0j (q1z (q0f CP hr (q4n (q0w q0n (pv 0) q0a q2q) q0b)) (q2h (q1r j1x (q0w q0n (q0w q0n (pv 0) q0a q2q) q0a q2q) q0a (q0q _)))))) q0t)
  (@q0x _ _ _ _ _ (q1q (PW.pt (q7j (q3b (q2n (q0f CS r2 (q4n (q0w q0n (pv 0) q0a q2q) (q4n (q0w q0n (pv 0) q0a q2q) q0b)))))
    (q7j (q3b (q2n (q0p q2f (by rfl) T.isi q2e (q4n (q0w q0n (pv 0) q0a q2q) (q1i (q6p (by rfl) T.tuple q2i) q0b))))) (q7y (q0s z1f (q0p q0y (by rfl) T.len PySem.boot_len (q4n (q0w q0n (pv 0) q0a q2q) q0b)) q0a (q0q _)))))) q2s q0t)
  (@q1m _ _ _ (q0j (q1z (q1r (j7x hr.units0) (q3f (NB := ["_law_one"]) (n := 1) (fr := []) (q5u (outer := q0d q5h) (by rfl) (by decide +kernel) (by rfl)) (by rfl) (q7a (q0w q0n (pv 0) q0a q2q))
    (fun _ _ _ _ _ => q1h (i := 0) (show (["_law_one"] : List Str).Nodup by decide +kernel) (by rfl) (by exact Or.inl rfl)) (fun _ _ _ _ _ => x3c (q3b (q2n (q0f CE hr (q1i (pv 0) q0b))))) (fun _ _ _ _ _ => pv 0)) (x2l q0b) (q0q _))
   (q2h (q0f CF r1 (q4n (q0w q0n (pv 0) q0a q2q) (q8e q0a q0b))))))))))))))), ?_⟩
 case w1 =>
  rintro D σ H ⟨B, v, x, a1, b1, t1, r, n, p, rfl, hB, I, bt, hn, g, q⟩
  cases I with
  | @tup a xs _ ea hl rr =>
  have hlen := rr.length
  refine ⟨_, rfl, a, xs, rfl, .inr (SqT.of ea), _, rfl, _, rfl, p, _, rfl, g, rfl, _, rfl, ?_⟩
  rw [show (!decide (V.int (xs.length : Int) = V.int (n : Int))) = false by rw [hlen, ← hn]; simp; omega]
  obtain ⟨v1, e1, I1⟩ := rr.at (i := 1) rfl
  obtain ⟨v2, e2, I2⟩ := rr.at (i := 2) rfl
  refine q0z ⟨_, rfl, a, xs, 1, v1, rfl, rfl, SqT.of ea, e1, B, v1, a1, hB, rfl, I1, fun H1 s1 => ⟨_, rfl, ?_⟩⟩
  rw [bt.k1]
  refine q0z ⟨_, rfl, a, xs, 2, v2, rfl, rfl, SqT.of (s1 _ _ ea), e2, B, v2, b1, hB, rfl, I2.same s1, fun H2 s2 => ⟨_, rfl, ?_⟩⟩
  rw [bt.k2]
  obtain ⟨sc, sd⟩ := z3m (I1.same (s1.trans s2)) (I2.same (s1.trans s2)) (.inl bt.k1) (.inl bt.k2)
  refine q0z ⟨_, rfl, a, xs, 1, v1, rfl, rfl, SqT.of (s2 _ _ (s1 _ _ ea)), e1, _, rfl, a, xs, 2, v2, rfl, rfl, SqT.of (s2 _ _ (s1 _ _ ea)), e2, sc, _, rfl, ?_⟩
  rw [sd, bt.ne]
  exact q0z (q _ (s1.trans s2))
 case w2 =>
  rintro D σ H ⟨B, v, x1, x2, x, a1, b1, t1, r, rfl, hB, I, hg, q⟩
  cases I with
  | @tup a xs _ ea hl rr =>
  obtain ⟨v3, e3, I3⟩ := rr.at (i := 3) rfl
  refine ⟨_, rfl, a, xs, 3, v3, rfl, rfl, SqT.of ea, e3, B, v3, t1, 1, hB, rfl, I3, fun H3 s3 => ⟨_, rfl, ?_⟩⟩
  rw [hg]
  exact q0z (q _ s3)
 refine ⟨_, rfl, B, v, _, hB, rfl, I, fun p hp => ⟨q0g, [(Sum.inr "ask", V.int 6), (Sum.inr "voice", V.int 5), (Sum.inr "hand", V.int 8), (Sum.inr "pack", V.int 5), (Sum.inr "held", V.int 6)], rfl, by decide, ?_⟩⟩
 rw [j6p]
 have sd := q0i (o := HO.dK (q8r [] [(Sum.inr "ask", V.int 6), (Sum.inr "voice", V.int 5), (Sum.inr "hand", V.int 8), (Sum.inr "pack", V.int 5), (Sum.inr "held", V.int 6)])) hp
 have dg : ∀ {x : Str} {n : Nat}, z5r (q8r [] [((Sum.inr "ask" : Key), V.int 6), (Sum.inr "voice", V.int 5), (Sum.inr "hand", V.int 8), (Sum.inr "pack", V.int 5), (Sum.inr "held", V.int 6)]) (Sum.inr x) = some (.int (n : Int)) → j3t (upd H p (.dK (q8r [] [(Sum.inr "ask", V.int 6), (Sum.inr "voice", V.int 5), (Sum.inr "hand", V.int 8), (Sum.inr "pack", V.int 5), (Sum.inr "held", V.int 6)]))) p (.str x) (some (.int (n : Int))) := fun {x n} e => by
  rw [← e]; exact j3t.k (k := Sum.inr x) q0g
 generalize hH1 : upd H p (.dK (q8r [] [((Sum.inr "ask" : Key), V.int 6), (Sum.inr "voice", V.int 5), (Sum.inr "hand", V.int 8), (Sum.inr "pack", V.int 5), (Sum.inr "held", V.int 6)])) = H1 at sd dg ⊢
 cases hx with
 | @ask a b t p1 l1 bt hs =>
  refine ⟨B, v, "ask", _, _, _, _, 6, p, rfl, hB, I.same sd, bt, rfl, dg (q7b (by decide +kernel)), fun H2 s2 => ?_⟩
  refine ⟨B, v, _, _, _, _, _, _, _, rfl, hB, I.same (sd.trans s2), bt.ge, fun H3 s3 => ?_⟩
  have s03 := (sd.trans s2).trans s3
  have I3 := I.same s03
  cases I3 with
  | @tup q xs _ ea hl rr =>
  obtain ⟨v4, e4, I4⟩ := rr.at (i := 4) rfl
  obtain ⟨v5, e5, I5⟩ := rr.at (i := 5) rfl
  refine ⟨V.str "ask", rfl, rfl, _, rfl, ?_⟩
  rw [j7r rfl]
  exact q1o ⟨_, rfl, q, xs, 4, v4, rfl, rfl, SqT.of ea, e4, _, rfl, q, xs, 5, v5, rfl, rfl, SqT.of ea, e5, B, v4, v5, _, _, hB, rfl, I4, I5, fun H4 s4 => by rw [hs]; exact k _ (s03.trans s4)⟩
 | @voice a b t c bt =>
  refine ⟨B, v, "voice", _, _, _, _, 5, p, rfl, hB, I.same sd, bt, rfl, dg (q7b (by decide +kernel)), fun H2 s2 => ?_⟩
  refine ⟨B, v, _, _, _, _, _, _, _, rfl, hB, I.same (sd.trans s2), bt.ge, fun H3 s3 => ?_⟩
  have s03 := (sd.trans s2).trans s3
  have I3 := I.same s03
  cases I3 with
  | @tup q xs _ ea hl rr =>
  obtain ⟨v4, e4, I4⟩ := rr.at (i := 4) rfl
  refine ⟨V.str "voice", rfl, rfl, _, rfl, ?_⟩
  rw [z4c (by decide +kernel)]
  refine q0z ?_
  refine ⟨V.str "voice", rfl, rfl, _, rfl, ?_⟩
  rw [j7r rfl]
  exact q1o ⟨_, rfl, q, xs, 4, v4, rfl, rfl, SqT.of ea, e4, _, _, _, _, rfl, I4.ty, q7n K (.bl c), k _ s03⟩
 | @held a b t m c bt hm =>
  refine ⟨B, v, "held", _, _, _, _, 6, p, rfl, hB, I.same sd, bt, rfl, dg (q7b (by decide +kernel)), fun H2 s2 => ?_⟩
  refine ⟨B, v, _, _, _, _, _, _, _, rfl, hB, I.same (sd.trans s2), bt.ge, fun H3 s3 => ?_⟩
  have s03 := (sd.trans s2).trans s3
  have I3 := I.same s03
  cases I3 with
  | @tup q xs _ ea hl rr =>
  obtain ⟨v4, e4, I4⟩ := rr.at (i := 4) rfl
  obtain ⟨v5, e5, I5⟩ := rr.at (i := 5) rfl
  refine ⟨V.str "held", rfl, rfl, _, rfl, ?_⟩
  rw [z4c (by decide +kernel)]
  refine q0z ?_
  refine ⟨V.str "held", rfl, rfl, _, rfl, ?_⟩
  rw [z4c (by decide +kernel)]
  refine q0z ?_
  refine ⟨V.str "held", rfl, rfl, _, rfl, ?_⟩
  rw [j7r rfl]
  refine q1o ⟨_, rfl, q, xs, 4, v4, rfl, rfl, SqT.of ea, e4, _, _, _, _, rfl, I4.ty, q7n K (.bl c), _, rfl, ?_⟩
  exact q1o ⟨_, rfl, q, xs, 5, v5, rfl, rfl, SqT.of ea, e5, B, v5, m, 0, hB, rfl, I5, fun H4 s4 => by rw [hm]; exact k _ (s03.trans s4)⟩
 | @pack a b t i0 r0 bt hp0 hi0 =>
  refine ⟨B, v, "pack", _, _, _, _, 5, p, rfl, hB, I.same sd, bt, rfl, dg (q7b (by decide +kernel)), fun H2 s2 => ?_⟩
  refine ⟨B, v, _, _, _, _, _, _, _, rfl, hB, I.same (sd.trans s2), bt.ge, fun H3 s3 => ?_⟩
  have s03 := (sd.trans s2).trans s3
  have I3 := I.same s03
  cases I3 with
  | @tup q xs _ ea hl rr =>
  obtain ⟨v4, e4, I4⟩ := rr.at (i := 4) rfl
  refine ⟨V.str "pack", rfl, rfl, _, rfl, ?_⟩
  rw [z4c (by decide +kernel)]
  refine q0z ?_
  refine ⟨V.str "pack", rfl, rfl, _, rfl, ?_⟩
  rw [z4c (by decide +kernel)]
  refine q0z ?_
  refine ⟨V.str "pack", rfl, rfl, _, rfl, ?_⟩
  rw [z4c (by decide +kernel)]
  refine q0z ?_
  refine ⟨V.str "pack", rfl, rfl, _, rfl, ?_⟩
  rw [j7r rfl]
  refine q1o ⟨_, rfl, q, xs, 4, v4, rfl, rfl, SqT.of ea, e4, B, v4, _, hB, rfl, I4, fun H4 s4 => ⟨_, rfl, ?_⟩⟩
  rw [hp0]
  have I4' := I4.same s4
  cases I4' with
  | @tup q4 xs4 _ ea4 hl4 rr4 =>
  obtain ⟨v0, e0, I0⟩ := rr4.at (i := 0) rfl
  cases I0
  refine q1o ⟨_, rfl, q, xs, 4, _, rfl, rfl, SqT.of (s4 _ _ ea), e4, q4, xs4, 0, _, rfl, rfl, SqT.of ea4, e0, rfl, ?_⟩
  show Q (.bl (!decide (V.int i0 = V.int 0))) H4
  rw [decide_eq_false (fun z => hi0 (V.int.inj z))]
  exact k _ (s03.trans s4)
 | @hand a b t p1 l1 m ds bt hs h5 hal hm =>
  refine ⟨B, v, "hand", _, _, _, _, 8, p, rfl, hB, I.same sd, bt, rfl, dg (q7b (by decide +kernel)), fun H2 s2 => ?_⟩
  refine ⟨B, v, _, _, _, _, _, _, _, rfl, hB, I.same (sd.trans s2), bt.ge, fun H3 s3 => ?_⟩
  have s03 := (sd.trans s2).trans s3
  have I3 := I.same s03
  cases I3 with
  | @tup q xs _ ea hl rr =>
  obtain ⟨v4, e4, I4⟩ := rr.at (i := 4) rfl
  obtain ⟨v5, e5, I5⟩ := rr.at (i := 5) rfl
  obtain ⟨v6, e6, I6⟩ := rr.at (i := 6) rfl
  obtain ⟨v7, e7, I7⟩ := rr.at (i := 7) rfl
  refine ⟨V.str "hand", rfl, rfl, _, rfl, ?_⟩
  rw [z4c (by decide +kernel)]
  refine q0z ?_
  refine ⟨V.str "hand", rfl, rfl, _, rfl, ?_⟩
  rw [z4c (by decide +kernel)]
  refine q0z ?_
  refine ⟨V.str "hand", rfl, rfl, _, rfl, ?_⟩
  rw [z4c (by decide +kernel)]
  refine q0z ?_
  refine ⟨V.str "hand", rfl, rfl, _, rfl, ?_⟩
  rw [z4c (by decide +kernel)]
  refine q0z ?_
  refine ⟨_, rfl, q, xs, 4, v4, rfl, rfl, SqT.of ea, e4, _, rfl, q, xs, 5, v5, rfl, rfl, SqT.of ea, e5, B, v4, v5, p1, l1, hB, rfl, I4, I5, fun H4 s4 => ⟨_, rfl, ?_⟩⟩
  rw [hs]
  refine q0z ⟨_, rfl, q, xs, 6, v6, rfl, rfl, SqT.of (s4 _ _ ea), e6, _, _, _, _, rfl, (I6.same s4).ty, q8o K (.tup ds), _, rfl, ?_⟩
  have I6' := I6.same s4
  cases I6' with
  | @tup q6 xs6 _ ea6 hl6 rr6 =>
  have l6 := rr6.length
  refine q0z ⟨_, rfl, q, xs, 6, _, rfl, rfl, SqT.of (s4 _ _ ea), e6, q6, xs6, rfl, .inr (SqT.of ea6), _, _, rfl, rfl, _, rfl, ?_⟩
  rw [decide_eq_false (show ¬ (5 : Int) < (xs6.length : Int) by omega)]
  refine q0z ⟨_, rfl, q, xs, 6, _, rfl, rfl, SqT.of (s4 _ _ ea), e6, q6, rfl, ⟨xs6, SqT.of ea6⟩, q2y (J := Itt K q6) (k := 1) (n := xs6.length) (fun i => false) (fun i => .non) (show xs6.length < sizeLine by rw [sizeLine_eq]; omega)
   (fun i H2 hi s1 => ⟨xs6, xs6[i], SqT.of (s1 _ _ ea6), by simp [hi]⟩) (fun H2 s1 => ⟨xs6, SqT.of (s1 _ _ ea6), Nat.le_refl _⟩) ?_ ?_⟩
  ·intro i H2 t v H3 R hi s1 ht y hR
   obtain ⟨rfl, hy⟩ := y
   obtain ⟨di, hdi, Ii⟩ := rr6.get (hy xs6 (SqT.of (s1 _ _ ea6)))
   obtain ⟨t0, rfl⟩ := q4v ht
   refine ⟨_, rfl, B, v, di, hB, rfl, Ii.same s1, fun H' s2 => ⟨_, rfl, ?_⟩⟩
   rw [List.all_eq_true.mp hal di (List.mem_of_getElem? hdi)]
   exact q0z (hR [some v] H' rfl s2)
  ·intro D1 H' s1 hD hd
   refine ⟨by simp [sizeLine_eq], fun p7 h7 => ⟨D1, p7, _, rfl, rfl, SqL.of (q0i h7 _ _ hd), SqL.of q0g, _, rfl, ?_⟩⟩
   have s7 := s1.trans (q0i (o := HO.lst []) h7)
   rw [show ((((List.range xs6.length).filter fun _ => false).map fun _ : Nat => V.non).isEmpty) = true by simp]
   exact q1o ⟨_, rfl, q, xs, 7, v7, rfl, rfl, SqT.of (s7 _ _ (s4 _ _ ea)), e7, B, v7, m, 0, hB, rfl, (I7.same s4).same s7, fun H8 s8 => by rw [hm]; exact k _ (((s03.trans s4).trans s7).trans s8)⟩
theorem q7o (x : Str) : ∀ l : List Str, inV (V.str x) (l.map V.str) = decide (x ∈ l)
 | [] => rfl
 | y :: l => by
  show (decide ((y : Str) = x) || inV (V.str x) (l.map V.str)) = _
  rw [q7o x l, Bool.eq_iff_iff]
  simp only [Bool.or_eq_true, decide_eq_true_eq, List.mem_cons]
  exact ⟨fun h => h.imp Eq.symm id, fun h => h.imp Eq.symm id⟩
theorem w2u : FnScope ["_law_thing", "_law_kind_here"] ["_law_thing"] (q0d q7t) := fSc
theorem z5l {f : Addr} {fd : FuncData} (F : Fun K "_law_letter" "_law_letter" q7t f fd) (T : Txt mg) (CK : Cal P w K mg base "_law_kind" 1 ["_law_thing"] q9y) (CB : Cal P w K mg base "_law_between" 5 ["_law_thing"] j3r) (CF : Cal P w K mg base "_law_from" 1 ["_law_thing", "_law_least"] x1l) (CR : Cal P w K mg base "_law_keeper" 2 ["_law_thing"] (spP q0h))
  (CN : Cal P w K mg base "_law_name" 1 ["_law_thing"] (spP q1w)) (CA : Cal P w K mg base "_law_any" 1 ["_law_thing"] (spP whole)) (CD : Cal P w K mg base "_law_deed" 2 ["_law_thing"] (spP q6a)) : FnOk P w K mg base CX0 6 f fd ["_law_thing"] j4c := by
 refine F.ok w2u (fun vs H Q E ⟨_, _, _, _, e, _⟩ => by subst e; rfl) (fun cdv A outer s H vs Q E hr h => ?_)
 obtain ⟨B, v, d, hB, rfl, I, hd, k⟩ := h
 have r1 := hr.mono (show 1 ≤ 5 by decide)
 have r2 := hr.mono (show 2 ≤ 5 by decide)
 refine ⟨_, @q0x _ _ _ _ _ (q1c (i := 1) w2u.nd (by rfl) (by exact Or.inl rfl) (q0f CK r1 (q1i (pv 0) q0b)))
  (@q0x _ _ _ _ _ (q1q (q0s x9i (pv 1) (QE.h (q6g (q2u (q2u (q2u (q2u (q2u q5k))))))) rfl) (@q1m _ _ _ (q0j (q0f CB hr (q1i (pv 0) q0b)))) q0t)
  (@q0x _ _ _ _ _ (q1q (PW.pt (q7j (q0s q6i (pv 1) (QE.h (q6g (q2u (q2u (q2u q5k))))) rfl) (q7j (q0s j1x (q0p q0y (by rfl) T.len PySem.boot_len (q1i (pv 0) q0b)) q0a (q0q _)) (q7y (q3b (q2n (q0f CF r1 (q4n (q0w q0n (pv 0) q0a q2q) (q8e q0a q0b))))))))) q2s q0t)
  (@q0x _ _ _ _ _ (q1q (q0s q2a (pv 1) q0r (q0q _)) (@q1m _ _ _ (q0j (q1z (q0f CN r1 (q4n (q0w q0n (pv 0) q0a q2q) q0b)) (q1z (q0f CR r2 (q4n (q0w q0n (pv 0) q0a q2q) q0b)) (q2h (q0f CD r2 (q4n (q0w q0n (pv 0) q0a q2q) q0b))))))) q0t)
  (@q0x _ _ _ _ _ (q1q (PW.pt (q7j (q3b (q2n (q0f CR r2 (q4n (q0w q0n (pv 0) q0a q2q) q0b)))) (q7y (q3b (q2n (q0f CN r1 (q4n (q0w q0n (pv 0) q0a q2q) q0b))))))) q2s q0t)
  (@q0x _ _ _ _ _ (q1q (q0s q2a (pv 1) q0r (q0q _)) (@q1m _ _ _ (q0j (q0f CA r1 (q4n (q0w q0n (pv 0) q0a q2q) q0b)))) q0t)
  (@q1m _ _ _ (q0j (z7c (q1r z2b (q0w q0n (pv 0) q0a q2q) x2r (q0q _)) (q2h (q0f CR r2 (q4n (q0w q0n (pv 0) q0a q2q) q0b))))))))))), ?_⟩
 refine ⟨_, rfl, B, v, d, hB, rfl, I, _, rfl, q4m (by show 5 ≤ 1000; decide), fun p hp => ⟨p, _, rfl, .inr (SqT.of q0g), rfl, rfl, _, rfl, ?_⟩⟩
 have s1 := q0i (o := HO.tup ((["ask", "voice", "hand", "pack", "held"] : List Str).map V.str)) hp
 show if inV (V.str (q1l d)) ((["ask", "voice", "hand", "pack", "held"] : List Str).map V.str) = true then _ else _
 rw [q7o]
 have hy := w0r hd
 cases hy with
 | @five x n r h =>
  have hm : x ∈ (["ask", "voice", "hand", "pack", "held"] : List Str) := by cases h <;> decide +kernel
  rw [show decide (q1l (.tup (.str x :: r)) ∈ (["ask", "voice", "hand", "pack", "held"] : List Str)) = true from decide_eq_true hm]
  exact q1o ⟨_, rfl, B, v, x, n, r, hB, rfl, h, I.same s1, fun H' s' => k H' (s1.trans s')⟩
 | @wish n1 k1 c1 d1 h1 h2 h3 h4 =>
  rw [decide_eq_false (show q1l (.tup [.str "wish", n1, k1, c1, d1]) ∉ (["ask", "voice", "hand", "pack", "held"] : List Str) by show ("wish" : Str) ∉ _; decide +kernel)]
  refine q0z ⟨_, rfl, q4m (by show 3 ≤ 1000; decide), fun p2 hp2 => ⟨p2, _, rfl, .inr (SqT.of q0g), rfl, rfl, _, rfl, ?_⟩⟩
  have s2 := s1.trans (q0i (o := HO.tup ((["wish", "told", "away"] : List Str).map V.str)) hp2)
  show if (!inV (V.str "wish") ((["wish", "told", "away"] : List Str).map V.str)) = true then _ else _
  rw [q7o, show decide (("wish" : Str) ∈ (["wish", "told", "away"] : List Str)) = true by decide +kernel]
  have I2 := I.same s2
  cases I2 with
  | @tup q xs _ ea hl rr =>
  have hlen := rr.length
  refine q0z ⟨_, rfl, q, xs, rfl, .inr (SqT.of ea), rfl, _, rfl, ?_⟩
  rw [show (!decide (V.int (xs.length : Int) = V.int 5)) = false by rw [hlen]; rfl]
  obtain ⟨v1, e1, I1⟩ := rr.at (i := 1) rfl
  obtain ⟨v2, e2, I2⟩ := rr.at (i := 2) rfl
  obtain ⟨v3, e3, I3⟩ := rr.at (i := 3) rfl
  obtain ⟨v4, e4, I4⟩ := rr.at (i := 4) rfl
  refine q0z ⟨_, rfl, q, xs, 3, v3, rfl, rfl, SqT.of ea, e3, B, v3, c1, 1, hB, rfl, I3, fun H3 s3 => ⟨_, rfl, ?_⟩⟩
  rw [h3]
  have s03 := s2.trans s3
  refine q0z ⟨_, rfl, rfl, _, rfl, ?_⟩
  rw [show decide (V.str (q1l (.tup [.str "wish", n1, k1, c1, d1])) = V.str "wish") = true from j7r rfl]
  refine q1o ⟨_, rfl, q, xs, 1, v1, rfl, rfl, SqT.of (s3 _ _ ea), e1, B, v1, n1, hB, rfl, I1.same s3, fun H4 s4 => ⟨_, rfl, ?_⟩⟩
  rw [h1]
  refine q1o ⟨_, rfl, q, xs, 2, v2, rfl, rfl, SqT.of (s4 _ _ (s3 _ _ ea)), e2, B, v2, k1, hB, rfl, (I2.same s3).same s4, fun H5 s5 => ⟨_, rfl, ?_⟩⟩
  rw [h2]
  exact q1o ⟨_, rfl, q, xs, 4, v4, rfl, rfl, SqT.of (s5 _ _ (s4 _ _ (s3 _ _ ea))), e4, B, v4, d1, hB, rfl, ((I4.same s3).same s4).same s5, fun H6 s6 => by rw [h4]; exact k _ (((s03.trans s4).trans s5).trans s6)⟩
 | @told k1 n1 c1 d1 h1 h2 h3 h4 =>
  rw [decide_eq_false (show q1l (.tup [.str "told", k1, n1, c1, d1]) ∉ (["ask", "voice", "hand", "pack", "held"] : List Str) by show ("told" : Str) ∉ _; decide +kernel)]
  refine q0z ⟨_, rfl, q4m (by show 3 ≤ 1000; decide), fun p2 hp2 => ⟨p2, _, rfl, .inr (SqT.of q0g), rfl, rfl, _, rfl, ?_⟩⟩
  have s2 := s1.trans (q0i (o := HO.tup ((["wish", "told", "away"] : List Str).map V.str)) hp2)
  show if (!inV (V.str "told") ((["wish", "told", "away"] : List Str).map V.str)) = true then _ else _
  rw [q7o, show decide (("told" : Str) ∈ (["wish", "told", "away"] : List Str)) = true by decide +kernel]
  have I2 := I.same s2
  cases I2 with
  | @tup q xs _ ea hl rr =>
  have hlen := rr.length
  refine q0z ⟨_, rfl, q, xs, rfl, .inr (SqT.of ea), rfl, _, rfl, ?_⟩
  rw [show (!decide (V.int (xs.length : Int) = V.int 5)) = false by rw [hlen]; rfl]
  obtain ⟨v1, e1, I1⟩ := rr.at (i := 1) rfl
  obtain ⟨v2, e2, I2⟩ := rr.at (i := 2) rfl
  obtain ⟨v3, e3, I3⟩ := rr.at (i := 3) rfl
  obtain ⟨v4, e4, I4⟩ := rr.at (i := 4) rfl
  refine q0z ⟨_, rfl, q, xs, 3, v3, rfl, rfl, SqT.of ea, e3, B, v3, c1, 1, hB, rfl, I3, fun H3 s3 => ⟨_, rfl, ?_⟩⟩
  rw [h3]
  have s03 := s2.trans s3
  refine q0z ⟨_, rfl, rfl, _, rfl, ?_⟩
  rw [show decide (V.str (q1l (.tup [.str "told", k1, n1, c1, d1])) = V.str "wish") = false from z4c (by show ("told" : Str) ≠ _; decide +kernel)]
  refine q0z ⟨_, rfl, q, xs, 1, v1, rfl, rfl, SqT.of (s3 _ _ ea), e1, B, v1, k1, hB, rfl, I1.same s3, fun H4 s4 => ⟨_, rfl, ?_⟩⟩
  rw [h1]
  refine q0z ⟨_, rfl, q, xs, 2, v2, rfl, rfl, SqT.of (s4 _ _ (s3 _ _ ea)), e2, B, v2, n1, hB, rfl, (I2.same s3).same s4, fun H5 s5 => ⟨_, rfl, ?_⟩⟩
  rw [h2]
  have s05 := (s03.trans s4).trans s5
  have ea5 := s5 _ _ (s4 _ _ (s3 _ _ ea))
  have I5 := ((I4.same s3).same s4).same s5
  refine q0z ⟨_, rfl, rfl, _, rfl, ?_⟩
  rw [show decide (V.str (q1l (.tup [.str "told", k1, n1, c1, d1])) = V.str "told") = true from j7r rfl]
  exact q1o ⟨_, rfl, q, xs, 4, v4, rfl, rfl, SqT.of ea5, e4, B, v4, d1, hB, rfl, I5, fun H6 s6 => by rw [h4]; exact k _ (s05.trans s6)⟩
 | @away k1 n1 c1 d1 h1 h2 h3 h4 =>
  rw [decide_eq_false (show q1l (.tup [.str "away", k1, n1, c1, d1]) ∉ (["ask", "voice", "hand", "pack", "held"] : List Str) by show ("away" : Str) ∉ _; decide +kernel)]
  refine q0z ⟨_, rfl, q4m (by show 3 ≤ 1000; decide), fun p2 hp2 => ⟨p2, _, rfl, .inr (SqT.of q0g), rfl, rfl, _, rfl, ?_⟩⟩
  have s2 := s1.trans (q0i (o := HO.tup ((["wish", "told", "away"] : List Str).map V.str)) hp2)
  show if (!inV (V.str "away") ((["wish", "told", "away"] : List Str).map V.str)) = true then _ else _
  rw [q7o, show decide (("away" : Str) ∈ (["wish", "told", "away"] : List Str)) = true by decide +kernel]
  have I2 := I.same s2
  cases I2 with
  | @tup q xs _ ea hl rr =>
  have hlen := rr.length
  refine q0z ⟨_, rfl, q, xs, rfl, .inr (SqT.of ea), rfl, _, rfl, ?_⟩
  rw [show (!decide (V.int (xs.length : Int) = V.int 5)) = false by rw [hlen]; rfl]
  obtain ⟨v1, e1, I1⟩ := rr.at (i := 1) rfl
  obtain ⟨v2, e2, I2⟩ := rr.at (i := 2) rfl
  obtain ⟨v3, e3, I3⟩ := rr.at (i := 3) rfl
  obtain ⟨v4, e4, I4⟩ := rr.at (i := 4) rfl
  refine q0z ⟨_, rfl, q, xs, 3, v3, rfl, rfl, SqT.of ea, e3, B, v3, c1, 1, hB, rfl, I3, fun H3 s3 => ⟨_, rfl, ?_⟩⟩
  rw [h3]
  have s03 := s2.trans s3
  refine q0z ⟨_, rfl, rfl, _, rfl, ?_⟩
  rw [show decide (V.str (q1l (.tup [.str "away", k1, n1, c1, d1])) = V.str "wish") = false from z4c (by show ("away" : Str) ≠ _; decide +kernel)]
  refine q0z ⟨_, rfl, q, xs, 1, v1, rfl, rfl, SqT.of (s3 _ _ ea), e1, B, v1, k1, hB, rfl, I1.same s3, fun H4 s4 => ⟨_, rfl, ?_⟩⟩
  rw [h1]
  refine q0z ⟨_, rfl, q, xs, 2, v2, rfl, rfl, SqT.of (s4 _ _ (s3 _ _ ea)), e2, B, v2, n1, hB, rfl, (I2.same s3).same s4, fun H5 s5 => ⟨_, rfl, ?_⟩⟩
  rw [h2]
  have s05 := (s03.trans s4).trans s5
  have ea5 := s5 _ _ (s4 _ _ (s3 _ _ ea))
  have I5 := ((I4.same s3).same s4).same s5
  refine q0z ⟨_, rfl, rfl, _, rfl, ?_⟩
  rw [show decide (V.str (q1l (.tup [.str "away", k1, n1, c1, d1])) = V.str "told") = false from z4c (by show ("away" : Str) ≠ _; decide +kernel)]
  refine q0z ⟨_, rfl, q, xs, 4, v4, rfl, rfl, SqT.of ea5, e4, rfl, _, rfl, ?_⟩
  by_cases hd : d1 = .non
  ·subst hd
   cases I5
   exact q1o (k _ s05)
  ·have go : decide (v4 = V.non) = false ∧ q6w d1 = q0h d1 := by
    cases I5 with
    | non => exact absurd rfl hd
    | _ => exact ⟨rfl, rfl⟩
   rw [go.1]
   rw [go.2] at h4
   exact q0z ⟨_, rfl, q, xs, 4, v4, rfl, rfl, SqT.of ea5, e4, B, v4, d1, hB, rfl, I5, fun H6 s6 => by rw [h4]; exact k _ (s05.trans s6)⟩
end
noncomputable def q5o (C : Addr) (pr : D → Bool) (f : D → List Str) : Sp := fun vs H Q _ => ∃ (a l : Addr) (ws : List Str) (p : Nat) (d : D) (q3y : List Str), vs = [.ref a] ∧ Wd C a l ws p H ∧ ws.drop p = f d ++ q3y ∧ pr d = true ∧ q1x 60 d = true ∧ z0t 200 d = true ∧ j1q d = true ∧ ws.length ≤ 100000 ∧ (∀ x ∈ ws, x.length ≤ 100) ∧
 ∀ v H', Is 200 H' v d → Wd C a l ws (p + (f d).length) H' → q3e a H H' → Q v H'
theorem q3h {C : Addr} {pr : D → Bool} {f : D → List Str} {px : Str} : ∀ vs H Q E, q5o C pr f vs H Q E → vs.length = [px].length := fun vs H Q E ⟨_, _, _, _, _, _, e, _⟩ => by subst e; rfl
theorem x0e {ws q3y : List Str} {p : Nat} {x : Str} (h : ws.drop p = x :: q3y) : ws[p]? = some x := by
 have : (ws.drop p)[0]? = some x := by rw [h]; rfl
 rw [List.getElem?_drop, Nat.add_zero] at this
 exact this
theorem Wd.same {C a l : Addr} {ws : List Str} {p : Nat} {H H' : Hp} (h : Wd C a l ws p H) (s : q1a H H') : Wd C a l ws p H' := let ⟨⟨dx, e⟩, e2⟩ := h; ⟨⟨dx, s _ _ e⟩, s _ _ e2⟩
theorem j3w {v u : V} : ([("words", v), ("passed", u)] : List (Str × V)).lookup ("word" : Str) = none := by
 have h1 : (("word" : Str) == "words") = false := by decide +kernel
 have h2 : (("word" : Str) == "passed") = false := by decide +kernel
 simp [List.lookup, h1, h2]
theorem j0t {n : Int} (h : q1g n = "none") : False := by
 have h1 : (cL (q4e (q1g n))).head? = some 110 := by rw [h]; decide +kernel
 rw [z2k] at h1
 have := x5k h1
 omega
section
variable {P : Program} {w : World} {K : PySem.W.Frag} {mg : Str → Option Value} {base : Heap}
theorem w2y : FnScope ["words", "word"] ["words"] (q0d q7m) := fSc
theorem x5c {f fW : Addr} {fd dW : FuncData} {C : Addr} (Y : WoC K C) (F : Fun K "read_number" "read_number" q7m f fd) (T : Txt mg) (MW : Meth K C "word" fW) (FW : FnOk P w K mg base CX0 2 fW dW ["self"] (q9l C)) (bW : q3p K dW ["self"] []) (CI : Cal P w K mg base "is_number_word" 1 ["word"] z3j) :
  FnOk P w K mg base CX0 3 f fd ["words"] (q5o C whole q3a) := by
 refine F.ok w2y q3h (fun cdv A outer s H vs Q E hr h => ?_)
 obtain ⟨a, l, ws, p, d, q3y, rfl, W, hd, hp, hs, hw, hno, hl, hx, q⟩ := h
 obtain ⟨n, rfl⟩ := q0u hp
 have r1 := hr.mono (show 1 ≤ 2 by decide)
 refine ⟨_, @q0x _ _ _ _ _ (q1c (i := 1) w2y.nd (by rfl) (by exact Or.inl rfl) (q5v (pv 0) Y.cl MW FW hr bW .nil q6z))
  (@q0x _ _ _ _ _ (q1q (q3b (q2n (q0f CI r1 (q1i (pv 1) q0b)))) q2s q0t)
  (@q1m _ _ _ (q0j (q4g x8x (by rfl) T.int q7r (q1i (pv 1) q0b))))), ?_⟩
 have hn : n.natAbs < 10 ^ 60 := of_decide_eq_true hs
 have hat : ws[p]? = some (q1g n) := x0e hd
 have hlen : (q1g n).length ≤ 100 := hx _ (List.mem_of_getElem? hat)
 obtain ⟨⟨dx, ha⟩, _⟩ := id W
 refine ⟨_, rfl, a, dx, _, rfl, ha, j3w, a, l, ws, p, q1g n, rfl, W, hat, hl, fun H1 W1 s1 => ?_⟩
 refine ⟨_, rfl, q1g n, rfl, by omega, fun H2 s2 => ⟨_, rfl, ?_⟩⟩
 rw [z3d hn]
 refine q0z ⟨_, rfl, q1g n, n, rfl, x7y (Nat.lt_of_lt_of_le hn (Nat.pow_le_pow_right (by decide) (by decide))), by omega, ?_⟩
 exact q _ _ (.int n) (W1.same s2) (s1.trans (q3e.of s2))
theorem w5s : FnScope ["words"] ["words"] (q0d x0o) := fSc
theorem x7z {f fW : Addr} {fd dW : FuncData} {C : Addr} (Y : WoC K C) (F : Fun K "read_name" "read_name" x0o f fd) (MW : Meth K C "word" fW) (FW : FnOk P w K mg base CX0 2 fW dW ["self"] (q9l C)) (bW : q3p K dW ["self"] []) : FnOk P w K mg base CX0 3 f fd ["words"] (q5o C q2b z0v) := by
 refine F.ok w5s q3h (fun cdv A outer s H vs Q E hr h => ?_)
 obtain ⟨a, l, ws, p, d, q3y, rfl, W, hd, hp, hs, hw, hno, hl, hx, q⟩ := h
 obtain ⟨x, rfl, hlow⟩ := q3t hp
 refine ⟨_, @q1m _ _ _ (q0j (q5v (pv 0) Y.cl MW FW hr bW .nil q6z)), ?_⟩
 obtain ⟨⟨dx, ha⟩, _⟩ := id W
 have hlen := q6u hlow
 exact ⟨_, rfl, a, dx, _, rfl, ha, j3w, a, l, ws, p, x, rfl, W, x0e hd, hl, fun H1 W1 s1 => q _ _ (.str x (by omega)) W1 s1⟩
theorem w2t : FnScope ["words", "word"] ["words"] (q0d q8u) := fSc
theorem x5v {f fW : Addr} {fd dW : FuncData} {C : Addr} (Y : WoC K C) (F : Fun K "read_truth" "read_truth" q8u f fd) (MW : Meth K C "word" fW) (FW : FnOk P w K mg base CX0 2 fW dW ["self"] (q9l C)) (bW : q3p K dW ["self"] []) : FnOk P w K mg base CX0 3 f fd ["words"] (q5o C q3l j6s) := by
 refine F.ok w2t q3h (fun cdv A outer s H vs Q E hr h => ?_)
 obtain ⟨a, l, ws, p, d, q3y, rfl, W, hd, hp, hs, hw, hno, hl, hx, q⟩ := h
 obtain ⟨b, rfl⟩ := q9o hp
 refine ⟨_, @q0x _ _ _ _ _ (q1c (i := 1) w2t.nd (by rfl) (by exact Or.inl rfl) (q5v (pv 0) Y.cl MW FW hr bW .nil q6z))
  (@q0x _ _ _ _ _ (q1q (q0s q6i (pv 1) (QE.h (q6g (q2u (q2u q5k)))) rfl) q2s q0t)
  (@q1m _ _ _ (q0j (q1r q2a (pv 1) q0r (q0q _))))), ?_⟩
 obtain ⟨⟨dx, ha⟩, _⟩ := id W
 refine ⟨_, rfl, a, dx, _, rfl, ha, j3w, a, l, ws, p, _, rfl, W, x0e hd, hl, fun H1 W1 s1 => ?_⟩
 refine ⟨_, rfl, q4m (by show 2 ≤ 1000; decide), fun p2 hp2 => ⟨p2, _, rfl, .inr (SqT.of q0g), rfl, rfl, _, rfl, ?_⟩⟩
 have s2 := q0i (o := HO.tup ((["yes", "no"] : List Str).map V.str)) hp2
 show if (!inV (V.str (if b then "yes" else "no")) ((["yes", "no"] : List Str).map V.str)) = true then _ else _
 rw [q7o, show decide ((if b then "yes" else "no" : Str) ∈ (["yes", "no"] : List Str)) = true by cases b <;> decide +kernel]
 refine q0z ⟨_, rfl, rfl, ?_⟩
 rw [show decide (V.str (if b then "yes" else "no") = V.str ("yes" : Str)) = b by cases b <;> decide +kernel]
 exact q _ _ (.bl b) (W1.same s2) (s1.trans (q3e.of s2))
theorem w2z : FnScope ["words", "word"] ["words"] (q0d x0w) := fSc
theorem x9w {f fW : Addr} {fd dW : FuncData} {C : Addr} (Y : WoC K C) (F : Fun K "read_head" "read_head" x0w f fd) (T : Txt mg) (MW : Meth K C "word" fW) (FW : FnOk P w K mg base CX0 2 fW dW ["self"] (q9l C)) (bW : q3p K dW ["self"] []) (CI : Cal P w K mg base "is_number_word" 1 ["word"] z3j) :
  FnOk P w K mg base CX0 3 f fd ["words"] (q5o C q6w j7o) := by
 refine F.ok w2z q3h (fun cdv A outer s H vs Q E hr h => ?_)
 obtain ⟨a, l, ws, p, d, q3y, rfl, W, hd, hp, hs, hw, hno, hl, hx, q⟩ := h
 have r1 := hr.mono (show 1 ≤ 2 by decide)
 refine ⟨_, @q0x _ _ _ _ _ (q1c (i := 1) w2z.nd (by rfl) (by exact Or.inl rfl) (q5v (pv 0) Y.cl MW FW hr bW .nil q6z))
  (@q0x _ _ _ _ _ (q1q (q0s q2a (pv 1) q0r (q0q _)) (@q1m _ _ _ (q0j x2r)) q0t)
  (@q0x _ _ _ _ _ (q1q (q3b (q2n (q0f CI r1 (q1i (pv 1) q0b)))) q2s q0t)
  (@q1m _ _ _ (q0j (q4g x8x (by rfl) T.int q7r (q1i (pv 1) q0b)))))), ?_⟩
 obtain ⟨⟨dx, ha⟩, _⟩ := id W
 have hd2 : d = .non ∨ ∃ n, d = .int n := by
  cases d with
  | non => exact .inl rfl
  | int n => exact .inr ⟨n, rfl⟩
  | _ => cases hp
 rcases hd2 with rfl | ⟨n, rfl⟩
 ·refine ⟨_, rfl, a, dx, _, rfl, ha, j3w, a, l, ws, p, "none", rfl, W, x0e hd, hl, fun H1 W1 s1 => ?_⟩
  refine ⟨_, rfl, rfl, _, rfl, ?_⟩
  rw [decide_eq_true (show V.str ("none" : Str) = V.str "none" from rfl)]
  exact q1o (q _ _ .non W1 s1)
 ·have hn : n.natAbs < 10 ^ 60 := of_decide_eq_true hs
  have hat : ws[p]? = some (q1g n) := x0e hd
  have hlen : (q1g n).length ≤ 100 := hx _ (List.mem_of_getElem? hat)
  refine ⟨_, rfl, a, dx, _, rfl, ha, j3w, a, l, ws, p, q1g n, rfl, W, hat, hl, fun H1 W1 s1 => ?_⟩
  refine ⟨_, rfl, rfl, _, rfl, ?_⟩
  rw [decide_eq_false (fun z => j0t (V.str.inj z))]
  refine q0z ⟨_, rfl, q1g n, rfl, by omega, fun H2 s2 => ⟨_, rfl, ?_⟩⟩
  rw [z3d hn]
  refine q0z ⟨_, rfl, q1g n, n, rfl, x7y (Nat.lt_of_lt_of_le hn (Nat.pow_le_pow_right (by decide) (by decide))), by omega, ?_⟩
  exact q _ _ (.int n) (W1.same s2) (s1.trans (q3e.of s2))
end
structure Rdt (P : Program) (w : World) (K : PySem.W.Frag) (mg : Str → Option Value) (base : Heap) (C : Addr) (k : Nat) (g : Addr) (p : D → Bool) (f : D → List Str) : Prop where
 ex : ∃ k' fd px, k' ≤ k ∧ FnOk P w K mg base CX0 k' g fd [px] (q5o C p f) ∧ PySem.W.keepIn K (.ref g) = true ∧ q3p K fd [px] []
inductive Rds (P : Program) (w : World) (K : PySem.W.Frag) (mg : Str → Option Value) (base : Heap) (C : Addr) (k : Nat) : List V → List (D → Bool) → List (D → List Str) → Prop
 | nil : Rds P w K mg base C k [] [] []
 | cons {g : Addr} {p : D → Bool} {f : D → List Str} {gs : List V} {ps : List (D → Bool)} {fs : List (D → List Str)} (h : Rdt P w K mg base C k g p f) (t : Rds P w K mg base C k gs ps fs) : Rds P w K mg base C k (.ref g :: gs) (p :: ps) (f :: fs)
theorem Rds.length {P : Program} {w : World} {K : PySem.W.Frag} {mg : Str → Option Value} {base : Heap} {C : Addr} {k : Nat} : ∀ {gs : List V} {ps : List (D → Bool)} {fs : List (D → List Str)}, Rds P w K mg base C k gs ps fs → gs.length = ps.length ∧ gs.length = fs.length
 | _, _, _, .nil => ⟨rfl, rfl⟩
 | _, _, _, .cons _ t => by have := t.length; simp [this.1, ← this.2]
theorem Rds.get {P : Program} {w : World} {K : PySem.W.Frag} {mg : Str → Option Value} {base : Heap} {C : Addr} {k : Nat} : ∀ {gs : List V} {ps : List (D → Bool)} {fs : List (D → List Str)} {i : Nat} {v : V}, Rds P w K mg base C k gs ps fs → gs[i]? = some v → ∃ g p f, v = .ref g ∧ ps[i]? = some p ∧ fs[i]? = some f ∧ Rdt P w K mg base C k g p f
 | _, _, _, 0, _, .cons h t, e => by cases e; exact ⟨_, _, _, rfl, rfl, rfl, h⟩
 | _, _, _, i + 1, v, .cons h t, e => by
  obtain ⟨g, p, f, a, b, c, d⟩ := Rds.get (i := i) (v := v) t (by simpa using e)
  exact ⟨g, p, f, a, by simpa using b, by simpa using c, d⟩
noncomputable def j4m (P : Program) (w : World) (K : PySem.W.Frag) (mg : Str → Option Value) (base : Heap) (C : Addr) (k : Nat) (E : XK) (tf : TE) (t : TA) : TE := fun σ H Q => tf σ H fun x H1 => ∃ g p f, x = .ref g ∧ Rdt P w K mg base C k g p f ∧ t σ H1 fun vs H2 => q5o C p f (vs ++ []) H2 Q E
theorem x9d {X : Cx} {P : Program} {w : World} {K : PySem.W.Frag} {mg : Str → Option Value} {base : Heap} {C : Addr} {k : Nat} {E : XK} {x : Str} {p pos : Pos} {e : Expr} {es : List Expr} {tf : TE} {t : TA} (h1 : X.prog = P) (h2 : X.w = w) (h3 : X.K = K) (h4 : X.mg = mg) (h5 : X.base = base) (hr : Room k X.A)
  (hx : x1n CX0 X E) (hf : PE X (.Name x p) tf) (ha : PA X (e :: es) t)
  (he : starEach (e :: es) X.env = (false, eval e X.env) :: starEach es X.env := by rfl) (hpl : (backTo pos (starEach es X.env)).any (·.1) = false := by rfl) :
  PE X (.Call (.Name x p) (e :: es) [] pos) (j4m P w K mg base C k E tf t) := by
 subst h1 h2 h3 h4 h5
 intro pins s σ H Q I h
 obtain h' := hf pins s σ H _ I h
 refine wpAny_Call_Name_kw (thn h' fun u s0 ⟨v, H0, I0, r0, g, p, f, e0, T, q0⟩ => ?_)
 subst e0
 cases r0
 obtain ⟨k', fd, px, hk', F, hk, hb⟩ := T.ex
 have hA := ha pos pins s0 σ H0 _ I0 q0
 exact PySem.W.callWith_K (h₀ := X.base) I.ok.mod.kin hk (thn hA fun us s1 ⟨vs, H1, I1, r, q⟩ => ⟨I1.kIn, x9r F (hr.mono hk') hb .nil hx I1 r q⟩) he hpl
theorem x4n : ∀ (i : Nat) (fs : List (D → List Str)) (ds : List D) {f : D → List Str} {d : D}, fs[i]? = some f → ds[i]? = some d → q1u fs ds = q1u (fs.take i) (ds.take i) ++ (f d ++ q1u (fs.drop (i + 1)) (ds.drop (i + 1))) ∧ q1u (fs.take (i + 1)) (ds.take (i + 1)) = q1u (fs.take i) (ds.take i) ++ f d
 | 0, f :: fs, d :: ds, _, _, e1, e2 => by
  cases e1; cases e2
  simp [q1u]
 | i + 1, f :: fs, d :: ds, f', d', e1, e2 => by
  obtain ⟨h1, h2⟩ := x4n i fs ds (f := f') (d := d') (by simpa using e1) (by simpa using e2)
  refine ⟨?_, ?_⟩
  ·show f d ++ q1u fs ds = (f d ++ q1u (fs.take i) (ds.take i)) ++ _
   rw [List.append_assoc, h1]
   rfl
  ·show f d ++ q1u (fs.take (i + 1)) (ds.take (i + 1)) = (f d ++ q1u (fs.take i) (ds.take i)) ++ f' d'
   rw [List.append_assoc, h2]
 | _, [], _, _, _, e1, _ => by simp at e1
 | _, _ :: _, [], _, _, _, e2 => by simp at e2
theorem Wd.tup_ne {C a l : Addr} {ws : List Str} {p : Nat} {H : Hp} (h : Wd C a l ws p H) (xs : List V) : H a ≠ some (.tup xs) := fun z => by
 obtain ⟨⟨dx, e⟩, _⟩ := h
 rw [e] at z
 cases z
theorem q9w : ∀ {ps : List (D → Bool)} {ds : List D}, q0v ps ds = true → ds.length = ps.length := fun {ps ds} h => by
 by_cases e : ds.length = ps.length
 ·exact e
 ·rw [x1j e] at h; cases h
theorem z2w : ∀ {ps : List (D → Bool)} {ds : List D} {i : Nat} {p : D → Bool} {d : D}, q0v ps ds = true → ps[i]? = some p → ds[i]? = some d → p d = true
 | p :: ps, d :: ds, 0, _, _, h, e1, e2 => by
  cases e1; cases e2
  exact (Bool.and_eq_true _ _ |>.mp h).1
 | p :: ps, d :: ds, i + 1, p', d', h, e1, e2 => z2w (ps := ps) (ds := ds) (i := i) (Bool.and_eq_true _ _ |>.mp h).2 (by simpa using e1) (by simpa using e2)
 | [], _, _, _, _, _, e1, _ => by simp at e1
 | _ :: _, [], _, _, _, _, _, e2 => by simp at e2
theorem q4q {B : Nat} : ∀ {ds : List D}, widL B ds = true ↔ ∀ d ∈ ds, z0t B d = true
 | [] => by
  constructor
  ·intro _ d h
   cases h
  ·intro _
   rfl
 | d :: ds => by
  rw [widL, Bool.and_eq_true, q4q]
  simp
section
variable {P : Program} {w : World} {K : PySem.W.Frag} {mg : Str → Option Value} {base : Heap}
noncomputable def q3j (P : Program) (w : World) (K : PySem.W.Frag) (mg : Str → Option Value) (base : Heap) (C : Addr) (k : Nat) : Sp := fun vs H Q _ => ∃ (a l t : Addr) (ws : List Str) (p : Nat) (ds : List D) (q3y : List Str) (gs : List V) (ps : List (D → Bool)) (fs : List (D → List Str)), vs = [.ref a, .ref t] ∧ Wd C a l ws p H ∧ (∀ H', q3e a H H' → SqT K H' t gs) ∧ Rds P w K mg base C k gs ps fs ∧ ws.drop p = q1u fs ds ++ q3y ∧ q0v ps ds = true ∧ smallL 60 ds = true ∧ widL 200 ds = true ∧ noLL ds = true ∧ ds.length ≤ 200 ∧ ws.length ≤ 100000 ∧ (∀ x ∈ ws, x.length ≤ 100) ∧
 ∀ (b : Addr) (xs : List V) H', H' b = some (.tup xs) → IsL 200 H' xs ds → Wd C a l ws (p + (q1u fs ds).length) H' → q3e a H H' → Q (.ref b) H'
theorem w2d : FnScope ["words", "readers"] ["words", "readers"] (q0d q6h) := fSc
theorem q4p {f : Addr} {fd : FuncData} {C : Addr} {kk : Nat} (F : Fun K "read_parts" "read_parts" q6h f fd) (T : Txt mg) : FnOk P w K mg base CX0 (kk + 1) f fd ["words", "readers"] (q3j P w K mg base C kk) := by
 refine F.ok w2d (fun vs H Q E ⟨_, _, _, _, _, _, _, _, _, _, e, _⟩ => by subst e; rfl) (fun cdv A outer s H vs Q E hr h => ?_)
 obtain ⟨a, l, t, ws, p, ds, q3y, gs, ps, fs, rfl, W, hS, hR, hd, hf, hs, hw, hno, hl2, hl, hx, q⟩ := h
 refine ⟨_, @q1m _ _ _ (q0j (q4g q3z (by rfl) T.tuple q2i (q0c (q3f (NB := ["reader", "words"]) (n := 1) (fr := [0]) (x7j (outer := q0d q6h) (x := "words") (by rfl) (by decide +kernel) (by rfl) (by rfl) (by rfl) (by rfl)) (by rfl)
  (q7a (pv 1)) (fun _ _ _ _ _ => q1h (i := 0) (show (["reader", "words"] : List Str).Nodup by decide +kernel) (by rfl) (by exact Or.inl rfl)) (fun _ _ _ _ _ => q2t)
  (fun _ _ _ _ _ => x9d (P := P) (w := w) (K := K) (mg := mg) (base := base) (C := C) (k := kk) rfl rfl rfl rfl rfl hr q6z (pv 0) (q1i (pv 1) q0b))) q0b))), ?_⟩
 obtain ⟨hl1, hl1'⟩ := hR.length
 have hfl := q9w hf
 have hgl : gs.length = ds.length := by omega
 have hSq := hS H (q3e.refl H)
 obtain ⟨⟨dx, ha⟩, hlw⟩ := id W
 refine ⟨_, rfl, t, rfl, ⟨_, hSq⟩, z2q (J := Itt K t) (a := a) (n := ds.length) (k := 1) (fun i ys H' => q3e a H H' ∧ Wd C a l ws (p + (q1u (fs.take i) (ds.take i)).length) H' ∧ IsL 200 H' ys (ds.take i)) (by rw [sizeLine_eq]; omega) ⟨_, ha⟩ ?_ ?_ ?_ ?_ ?_ ?_⟩
 ·intro D hD
  have s1 := q0i (o := HO.lst []) hD
  exact ⟨q3e.of s1, W.same s1, .nil⟩
 ·rintro i ys H' D zs us hD hDa hDl ⟨s1, W1, I1⟩
  have nl : l ≠ D := fun z => by rw [← z, hlw] at hD; cases hD
  refine ⟨fun b o hb e => ?_, ?_, I1.sameT (x8g (fun xs z => by rw [hDl] at z; cases z)) (q4b.mpr fun d hd' => q4b.mp hno d (List.mem_of_mem_take hd'))⟩
  ·rw [q1b (fun z => by rw [z, hD] at e; cases e)]
   exact s1 b o hb e
  ·obtain ⟨⟨dx1, e1⟩, e2⟩ := W1
   exact ⟨⟨dx1, by rw [q1b hDa.symm]; exact e1⟩, by rw [q1b nl]; exact e2⟩
 ·rintro i ys H' hi ⟨s1, _, _⟩
  exact ⟨_, gs[i]'(by omega), hS H' s1, List.getElem?_eq_getElem (by omega)⟩
 ·rintro ys H' ⟨s1, _, _⟩
  exact ⟨_, hS H' s1, by omega⟩
 ·rintro i ys H' tt x H2 R hi hyl ⟨s1, W1, I1⟩ ht y hRR
  obtain ⟨rfl, hy⟩ := y
  obtain ⟨t0, rfl⟩ := q4v ht
  have hg := hy _ (hS _ s1)
  obtain ⟨g, pr, fr, rfl, hp1, hf1, hT⟩ := hR.get hg
  have hdi : ds[i]? = some ds[i] := List.getElem?_eq_getElem hi
  obtain ⟨e1, e2⟩ := x4n i fs ds hf1 hdi
  have hmem := List.getElem_mem hi
  have hdrop : ws.drop (p + (q1u (fs.take i) (ds.take i)).length) = fr ds[i] ++ (q1u (fs.drop (i + 1)) (ds.drop (i + 1)) ++ q3y) := by
   rw [← List.drop_drop, hd, e1, List.append_assoc, List.drop_left, List.append_assoc]
  refine ⟨_, rfl, g, pr, fr, rfl, hT, _, rfl, a, l, ws, _, ds[i], _, rfl, W1, hdrop, z2w hf hp1 hdi, q2j.mp hs _ hmem, q4q.mp hw _ hmem, q4b.mp hno _ hmem, hl, hx, fun v H3 I3 W3 s3 => ?_⟩
  have hsT := s3.tups W1.tup_ne
  refine hRR [some (.ref g)] H3 v rfl s3 ⟨s1.trans s3, ?_, ?_⟩
  ·rw [e2, List.length_append, ← Nat.add_assoc]
   exact W3
  ·rw [List.take_succ, hdi]
   exact (I1.sameT hsT (q4b.mpr fun d hd' => q4b.mp hno d (List.mem_of_mem_take hd'))).append (.cons I3 .nil)
 ·rintro D H' ys hDa hyl ⟨s1, W1, I1⟩ hD
  refine ⟨D, ys, rfl, .inl ⟨SqL.of hD, fun t2 ht2 => ?_⟩⟩
  have s2 := q0i (o := HO.tup ys) ht2
  rw [List.take_length] at I1
  have e : fs.take ds.length = fs := List.take_of_length_le (by omega)
  rw [e, List.take_length] at W1
  exact q t2 ys _ q0g (I1.same s2) (W1.same s2) (s1.trans (q3e.of s2))
end
theorem x5l (f : D → List Str) : ∀ (i : Nat) (ds : List D) {d : D}, ds[i]? = some d → ds.flatMap f = (ds.take i).flatMap f ++ (f d ++ (ds.drop (i + 1)).flatMap f) ∧ (ds.take (i + 1)).flatMap f = (ds.take i).flatMap f ++ f d
 | 0, d :: ds, _, e => by
  cases e
  simp
 | i + 1, d :: ds, d', e => by
  obtain ⟨h1, h2⟩ := x5l f i ds (d := d') (by simpa using e)
  refine ⟨?_, ?_⟩
  ·simp only [List.flatMap_cons, List.take_succ_cons, List.drop_succ_cons, List.append_assoc]
   rw [h1]
  ·simp only [List.flatMap_cons, List.take_succ_cons, List.append_assoc]
   rw [h2]
 | _, [], _, e => by simp at e
section
variable {P : Program} {w : World} {K : PySem.W.Frag} {mg : Str → Option Value} {base : Heap}
noncomputable def q8v (P : Program) (w : World) (K : PySem.W.Frag) (mg : Str → Option Value) (base : Heap) (C : Addr) (k : Nat) : Sp := fun vs H Q _ => ∃ (a l g : Addr) (ws : List Str) (p : Nat) (ds : List D) (q3y : List Str) (pr : D → Bool) (f : D → List Str), vs = [.ref a, .ref g] ∧ Wd C a l ws p H ∧ Rdt P w K mg base C k g pr f ∧ ws.drop p = q4r f (.tup ds) ++ q3y ∧ ds.all pr = true ∧ smallL 60 ds = true ∧ widL 200 ds = true ∧ noLL ds = true ∧ ds.length ≤ 200 ∧ ws.length ≤ 100000 ∧ (∀ x ∈ ws, x.length ≤ 100) ∧
 ∀ v H', Is 200 H' v (.tup ds) → Wd C a l ws (p + (q4r f (.tup ds)).length) H' → q3e a H H' → Q v H'
theorem j8i : FnScope ["words", "reader", "count"] ["words", "reader"] (q0d q5i) := fSc
theorem q5w {f : Addr} {fd : FuncData} {C : Addr} {kk : Nat} (hk : 3 ≤ kk) (F : Fun K "read_counted" "read_counted" q5i f fd) (T : Txt mg) (CN : Cal P w K mg base "read_number" 3 ["words"] (q5o C whole q3a)) : FnOk P w K mg base CX0 (kk + 1) f fd ["words", "reader"] (q8v P w K mg base C kk) := by
 refine F.ok j8i (fun vs H Q E ⟨_, _, _, _, _, _, _, _, _, e, _⟩ => by subst e; rfl) (fun cdv A outer s H vs Q E hr h => ?_)
 obtain ⟨a, l, g, ws, p, ds, q3y, pr, fr, rfl, W, hT, hd, hall, hs, hw, hno, hl2, hl, hx, q⟩ := h
 have r3 := hr.mono hk
 refine ⟨_, @q0x _ _ _ _ _ (q1c (i := 2) j8i.nd (by rfl) (by exact Or.inl rfl) (q0f CN r3 (q1i (pv 0) q0b)))
  (@q0x _ _ _ _ _ (q1q (q0s x6e (pv 2) q0a (q0q _)) q2s q0t)
  (@q1m _ _ _ (q0j (q4g q3z (by rfl) T.tuple q2i (q0c (q3f (NB := ["turn", "reader", "words"]) (n := 1) (fr := [1, 0]) (x1p (outer := q0d q5i) (x := "reader") (y := "words") (by rfl) (by decide +kernel) (by rfl) (by rfl) (by rfl) (by rfl) (by rfl) (by rfl) (by rfl)) (by rfl)
   (q8y (by rfl) T.range (q1i (pv 2) q0b)) (fun _ _ _ _ _ => q1h (i := 0) (show (["turn", "reader", "words"] : List Str).Nodup by decide +kernel) (by rfl) (by exact Or.inl rfl)) (fun _ _ _ _ _ => q2t)
   (fun _ _ _ _ _ => x9d (P := P) (w := w) (K := K) (mg := mg) (base := base) (C := C) (k := kk) rfl rfl rfl rfl rfl hr q6z (pv 1) (q1i (pv 2) q0b))) q0b))))), ?_⟩
 have hd1 : ws.drop p = [q1g (ds.length : Int)] ++ (ds.flatMap fr ++ q3y) := hd
 have hsn : q1x 60 (.int (ds.length : Int)) = true := decide_eq_true (by
  have : (1000 : Nat) ≤ 10 ^ 60 := by decide
  rw [Int.natAbs_natCast]; omega)
 refine ⟨_, rfl, a, l, ws, p, .int (ds.length : Int), _, rfl, W, hd1, rfl, hsn, rfl, rfl, hl, hx, fun v H1 I1 W1 s1 => ?_⟩
 obtain rfl := Is.vint I1
 replace W1 : Wd C a l ws (p + 1) H1 := W1
 refine ⟨_, rfl, _, _, rfl, rfl, _, rfl, ?_⟩
 rw [decide_eq_false (show ¬ ((ds.length : Int) < 0) by omega)]
 obtain ⟨⟨dx, ha⟩, hlw⟩ := id W1
 have hdrop1 : ws.drop (p + 1) = ds.flatMap fr ++ q3y := by rw [← List.drop_drop, hd1]; rfl
 refine q0z ⟨_, rfl, _, rfl, by omega, by omega, z2q (a := a) (n := (ds.length : Int).toNat) (k := 1) (fun i ys H' => q3e a H1 H' ∧ Wd C a l ws (p + 1 + ((ds.take i).flatMap fr).length) H' ∧ IsL 200 H' ys (ds.take i)) (by rw [sizeLine_eq]; omega) ⟨_, ha⟩ ?_ ?_ ?_ ?_ ?_ ?_⟩
 ·intro D hD
  have s2 := q0i (o := HO.lst []) hD
  exact ⟨q3e.of s2, W1.same s2, .nil⟩
 ·rintro i ys H' D zs us hD hDa hDl ⟨s2, W2, I2⟩
  have nl : l ≠ D := fun z => by rw [← z, hlw] at hD; cases hD
  refine ⟨fun b o hb e => ?_, ?_, I2.sameT (x8g (fun xs z => by rw [hDl] at z; cases z)) (q4b.mpr fun d hd' => q4b.mp hno d (List.mem_of_mem_take hd'))⟩
  ·rw [q1b (fun z => by rw [z, hD] at e; cases e)]
   exact s2 b o hb e
  ·obtain ⟨⟨dx1, e1⟩, e2⟩ := W2
   exact ⟨⟨dx1, by rw [q1b hDa.symm]; exact e1⟩, by rw [q1b nl]; exact e2⟩
 ·rintro i ys H' hi ⟨s2, _, _⟩
  exact hi
 ·rintro ys H' ⟨s2, _, _⟩
  exact Nat.le_refl _
 ·rintro i ys H' tt x H2 R hi hyl ⟨s2, W2, I2⟩ ht y hRR
  obtain ⟨rfl, rfl⟩ := y
  obtain ⟨t0, rfl⟩ := q4v ht
  have hi' : i < ds.length := by omega
  have hdi : ds[i]? = some ds[i] := List.getElem?_eq_getElem hi'
  obtain ⟨e1, e2⟩ := x5l fr i ds hdi
  have hmem := List.getElem_mem hi'
  have hdrop : ws.drop (p + 1 + ((ds.take i).flatMap fr).length) = fr ds[i] ++ ((ds.drop (i + 1)).flatMap fr ++ q3y) := by
   rw [← List.drop_drop, hdrop1, e1, List.append_assoc, List.drop_left, List.append_assoc]
  refine ⟨_, rfl, g, pr, fr, rfl, hT, _, rfl, a, l, ws, _, ds[i], _, rfl, W2, hdrop, List.all_eq_true.mp hall _ hmem, q2j.mp hs _ hmem, q4q.mp hw _ hmem, q4b.mp hno _ hmem, hl, hx, fun v H3 I3 W3 s3 => ?_⟩
  have hsT := s3.tups W2.tup_ne
  refine hRR [some _] H3 v rfl s3 ⟨s2.trans s3, ?_, ?_⟩
  ·rw [e2, List.length_append, ← Nat.add_assoc]
   exact W3
  ·rw [List.take_succ, hdi]
   exact (I2.sameT hsT (q4b.mpr fun d hd' => q4b.mp hno d (List.mem_of_mem_take hd'))).append (.cons I3 .nil)
 ·rintro D H' ys hDa hyl ⟨s2, W2, I2⟩ hD
  refine ⟨D, ys, rfl, .inl ⟨SqL.of hD, fun t2 ht2 => ?_⟩⟩
  have s4 := q0i (o := HO.tup ys) ht2
  have eN : (ds.length : Int).toNat = ds.length := by omega
  rw [eN, List.take_length] at I2 W2
  refine q _ _ (.tup q0g (by rw [I2.length]; exact hl2) (I2.same s4)) ?_ (s1.trans (s2.trans (q3e.of s4)))
  have : p + (q4r fr (.tup ds)).length = p + 1 + (ds.flatMap fr).length := by
   show p + (q1g (ds.length : Int) :: ds.flatMap fr).length = _
   rw [List.length_cons]; omega
  rw [this]
  exact W2.same s4
noncomputable def x3i (P : Program) (w : World) (K : PySem.W.Frag) (mg : Str → Option Value) (base : Heap) (C : Addr) (k : Nat) : Sp := fun vs H Q _ => ∃ (a l t : Addr) (x : Str) (ws : List Str) (p : Nat) (ds : List D) (q3y : List Str) (gs : List V) (ps : List (D → Bool)) (fs : List (D → List Str)), vs = [.ref a, .str x, .ref t] ∧ x.length ≤ 200 ∧ Wd C a l ws p H ∧ (∀ H', SqT K H' t gs) ∧ Rds P w K mg base C k gs ps fs ∧ ws.drop p = q1u fs ds ++ q3y ∧ q0v ps ds = true ∧ smallL 60 ds = true ∧ widL 200 ds = true ∧ noLL ds = true ∧ ds.length ≤ 100 ∧ ws.length ≤ 100000 ∧ (∀ x ∈ ws, x.length ≤ 100) ∧
 ∀ v H', Is 200 H' v (.tup (.str x :: ds)) → Wd C a l ws (p + (q1u fs ds).length) H' → q3e a H H' → Q v H'
theorem w1w : FnScope ["words", "word", "readers"] ["words", "word", "readers"] (q0d q4s) := fSc
theorem q6n {f : Addr} {fd : FuncData} {C : Addr} {kk : Nat} (F : Fun K "read_behind_word" "read_behind_word" q4s f fd) (CP : Cal P w K mg base "read_parts" (kk + 1) ["words", "readers"] (q3j P w K mg base C kk)) : FnOk P w K mg base CX0 (kk + 2) f fd ["words", "word", "readers"] (x3i P w K mg base C kk) := by
 refine F.ok w1w (fun vs H Q E ⟨_, _, _, _, _, _, _, _, _, _, _, e, _⟩ => by subst e; rfl) (fun cdv A outer s H vs Q E hr h => ?_)
 obtain ⟨a, l, t, x, ws, p, ds, q3y, gs, ps, fs, rfl, hxl, W, hS, hR, hd, hf, hs, hw, hno, hl2, hl, hx, q⟩ := h
 refine ⟨_, @q0x _ _ _ _ _ (q1q (q0s z2b (pv 2) x2r (q0q _)) q2s q0t)
  (@q1m _ _ _ (q0j (q0l q8t (q2v (q1i (pv 1) q0b)) (q0f CP hr (q1i (pv 0) (q1i (pv 2) q0b)))))), ?_⟩
 refine ⟨_, rfl, rfl, _, rfl, ?_⟩
 rw [decide_eq_false (show ¬ (V.ref t = V.non) by intro z; cases z)]
 refine q0z ⟨_, rfl, q4m (by show 1 ≤ 1000; decide), fun p1 h1 => ?_⟩
 have s1 := q0i (o := HO.tup [V.str x]) h1
 have na : p1 ≠ a := fun z => by obtain ⟨⟨dx, e⟩, _⟩ := W; rw [← z, h1] at e; cases e
 refine ⟨_, rfl, _, rfl, a, l, t, ws, p, ds, q3y, gs, ps, fs, rfl, W.same s1, fun H' _ => hS H', hR, hd, hf, hs, hw, hno, by omega, hl, hx, fun b xs H2 e2 I2 W2 s2 => ?_⟩
 have hxl2 : xs.length = ds.length := I2.length
 refine ⟨p1, b, _, xs, rfl, rfl, s2 _ _ na q0g, e2, q4m (by show 1 + xs.length ≤ 1000; omega), fun p3 H3 e3 s3 => ?_⟩
 refine q _ _ (.tup e3 (by rw [List.length_append]; show 1 + xs.length ≤ 200; omega) (.cons (.str x hxl) (I2.same s3))) (W2.same s3) ((q3e.of s1).trans (s2.trans (q3e.of s3)))
structure RTab (P : Program) (w : World) (K : PySem.W.Frag) (mg : Str → Option Value) (base : Heap) (C : Addr) (name : Str) (kk : Nat) (tp : List (Str × List (D → Bool))) (tw : List (Str × List (D → List Str))) : Prop where
 ex : ∃ a es n, mg name = some (.ref a) ∧ K.lookup a = some ⟨.type "dict", none, .dict es n, #[]⟩ ∧ PySem.W.KeysLit w.params es.toList ∧ (a == sysModules) = false ∧
  ∀ x ps, tp.lookup x = some ps → x.length ≤ 200 ∧ ps.length ≤ 100 ∧ ∃ fs t gs, tw.lookup x = some fs ∧ findBy Value.isStrOf es x = some (.ref t) ∧ (∀ H, SqT K H t gs) ∧ Rds P w K mg base C kk gs ps fs
end
theorem x4o {B : Nat} {x : Str} {r : List D} (h : z0t B (.tup (.str x :: r)) = true) : widL B r = true := by
 unfold z0t at h
 rw [Bool.and_eq_true] at h
 have h2 := h.2
 unfold widL at h2
 exact (Bool.and_eq_true _ _ |>.mp h2).2
section
variable {P : Program} {w : World} {K : PySem.W.Frag} {mg : Str → Option Value} {base : Heap}
theorem x2n : FnScope ["words", "word"] ["words"] (q0d x0n) := fSc
theorem x8f {f fW : Addr} {fd dW : FuncData} {C : Addr} {kk : Nat} {tp : List (Str × List (D → Bool))} {tw : List (Str × List (D → List Str))} (Y : WoC K C) (F : Fun K "read_deed" "read_deed" x0n f fd) (MW : Meth K C "word" fW) (FW : FnOk P w K mg base CX0 2 fW dW ["self"] (q9l C)) (bW : q3p K dW ["self"] []) (TB : RTab P w K mg base C "DEED_READERS" kk tp tw) (CB : Cal P w K mg base "read_behind_word" (kk + 2) ["words", "word", "readers"] (x3i P w K mg base C kk)) : FnOk P w K mg base CX0 (kk + 3) f fd ["words"] (q5o C (q2g tp) (byW tw)) := by
 refine F.ok x2n q3h (fun cdv A outer s H vs Q E hr h => ?_)
 obtain ⟨a, l, ws, p, d, q3y, rfl, W, hd, hp, hs, hw, hno, hl, hx, q⟩ := h
 obtain ⟨aD, es, n, mD, lD, hK, hsys, hT⟩ := TB.ex
 obtain ⟨x, r, ps, rfl, e, hf⟩ := q2r hp
 obtain ⟨hx2, hps, fs, t, gs, e2, e3, hS, hR⟩ := hT x ps e
 refine ⟨_, @q0x _ _ _ _ _ (q1c (i := 1) x2n.nd (by rfl) (by exact Or.inl rfl) (q5v (pv 0) Y.cl MW FW (hr.mono (by omega)) bW .nil q6z))
  (@q1m _ _ _ (q0j (q0f CB hr (q1i (pv 0) (q1i (pv 1) (q7f (x2j (q3d (by rfl) mD) (q1i (pv 1) q0b)) q0b)))))), ?_⟩
 have ew : byW tw (.tup (.str x :: r)) = x :: q1u fs r := by
  show x :: q1u ((tw.lookup x).getD []) r = _
  rw [e2]; rfl
 rw [ew] at hd
 obtain ⟨⟨dx, ha⟩, _⟩ := id W
 have hfl := q9w hf
 have hd1 : ws.drop (p + 1) = q1u fs r ++ q3y := by rw [← List.drop_drop, hd]; rfl
 have hs1 : smallL 60 r = true := (Bool.and_eq_true _ _ |>.mp (show (q1x 60 (.str x) && smallL 60 r) = true from hs)).2
 have hn1 : noLL r = true := (Bool.and_eq_true _ _ |>.mp (show (j1q (.str x) && noLL r) = true from hno)).2
 refine ⟨_, rfl, a, dx, _, rfl, ha, j3w, a, l, ws, p, x, rfl, W, x0e hd, hl, fun H1 W1 s1 => ?_⟩
 refine ⟨_, rfl, _, rfl, aD, es, n, rfl, lD, hK, hsys, _, rfl, x, .ref t, rfl, (by rw [e3]; rfl), a, l, t, x, ws, p + 1, r, q3y, gs, ps, fs, rfl, hx2, W1, hS, hR, hd1, hf, hs1, x4o hw, hn1, by omega, hl, hx, fun v H2 I2 W2 s2 => ?_⟩
 refine q v H2 I2 ?_ (s1.trans s2)
 rw [ew, List.length_cons, show p + ((q1u fs r).length + 1) = p + 1 + (q1u fs r).length by omega]
 exact W2
theorem x2t : FnScope ["words", "word"] ["words"] (q0d x0x) := fSc
theorem x8q {f fW : Addr} {fd dW : FuncData} {C : Addr} {kk : Nat} {tp : List (Str × List (D → Bool))} {tw : List (Str × List (D → List Str))} (Y : WoC K C) (F : Fun K "read_what" "read_what" x0x f fd) (MW : Meth K C "word" fW) (FW : FnOk P w K mg base CX0 2 fW dW ["self"] (q9l C)) (bW : q3p K dW ["self"] []) (TB : RTab P w K mg base C "WHAT_READERS" kk tp tw) (CB : Cal P w K mg base "read_behind_word" (kk + 2) ["words", "word", "readers"] (x3i P w K mg base C kk)) : FnOk P w K mg base CX0 (kk + 3) f fd ["words"] (q5o C (q2g tp) (byW tw)) := by
 refine F.ok x2t q3h (fun cdv A outer s H vs Q E hr h => ?_)
 obtain ⟨a, l, ws, p, d, q3y, rfl, W, hd, hp, hs, hw, hno, hl, hx, q⟩ := h
 obtain ⟨aD, es, n, mD, lD, hK, hsys, hT⟩ := TB.ex
 obtain ⟨x, r, ps, rfl, e, hf⟩ := q2r hp
 obtain ⟨hx2, hps, fs, t, gs, e2, e3, hS, hR⟩ := hT x ps e
 refine ⟨_, @q0x _ _ _ _ _ (q1c (i := 1) x2t.nd (by rfl) (by exact Or.inl rfl) (q5v (pv 0) Y.cl MW FW (hr.mono (by omega)) bW .nil q6z))
  (@q1m _ _ _ (q0j (q0f CB hr (q1i (pv 0) (q1i (pv 1) (q7f (x2j (q3d (by rfl) mD) (q1i (pv 1) q0b)) q0b)))))), ?_⟩
 have ew : byW tw (.tup (.str x :: r)) = x :: q1u fs r := by
  show x :: q1u ((tw.lookup x).getD []) r = _
  rw [e2]; rfl
 rw [ew] at hd
 obtain ⟨⟨dx, ha⟩, _⟩ := id W
 have hfl := q9w hf
 have hd1 : ws.drop (p + 1) = q1u fs r ++ q3y := by rw [← List.drop_drop, hd]; rfl
 have hs1 : smallL 60 r = true := (Bool.and_eq_true _ _ |>.mp (show (q1x 60 (.str x) && smallL 60 r) = true from hs)).2
 have hn1 : noLL r = true := (Bool.and_eq_true _ _ |>.mp (show (j1q (.str x) && noLL r) = true from hno)).2
 refine ⟨_, rfl, a, dx, _, rfl, ha, j3w, a, l, ws, p, x, rfl, W, x0e hd, hl, fun H1 W1 s1 => ?_⟩
 refine ⟨_, rfl, _, rfl, aD, es, n, rfl, lD, hK, hsys, _, rfl, x, .ref t, rfl, (by rw [e3]; rfl), a, l, t, x, ws, p + 1, r, q3y, gs, ps, fs, rfl, hx2, W1, hS, hR, hd1, hf, hs1, x4o hw, hn1, by omega, hl, hx, fun v H2 I2 W2 s2 => ?_⟩
 refine q v H2 I2 ?_ (s1.trans s2)
 rw [ew, List.length_cons, show p + ((q1u fs r).length + 1) = p + 1 + (q1u fs r).length by omega]
 exact W2
theorem x5w : FnScope ["words"] ["words"] (q0d q8p) := fSc
theorem x6p {f : Addr} {fd : FuncData} {C : Addr} {kk kr : Nat} {pr pe : D → Bool} {fe : D → List Str} (hinv : ∀ d, pr d = true → ∃ ds, d = .tup ds ∧ ds.all pe = true) (F : Fun K "read_seats" "read_seats" q8p f fd) (CR : Cal P w K mg base "read_number" kr ["words"] (q5o C pe fe)) (hk : kr ≤ kk) (CC : Cal P w K mg base "read_counted" (kk + 1) ["words", "reader"] (q8v P w K mg base C kk)) : FnOk P w K mg base CX0 (kk + 2) f fd ["words"] (q5o C pr (q4r fe)) := by
 refine F.ok x5w q3h (fun cdv A outer s H vs Q E hr h => ?_)
 obtain ⟨a, l, ws, p, d, q3y, rfl, W, hd, hp, hs, hw, hno, hl, hx, q⟩ := h
 obtain ⟨gR, dR, GR, mR, kR, bR⟩ := CR.ex
 obtain ⟨ds, rfl, hall⟩ := hinv d hp
 have hw2 : decide (ds.length ≤ 200) = true ∧ widL 200 ds = true := Bool.and_eq_true _ _ |>.mp hw
 exact ⟨_, @q1m _ _ _ (q0j (q0f CC hr (q1i (pv 0) (q1i (q3d (by rfl) mR) q0b)))), _, rfl, a, l, gR, ws, p, ds, q3y, pe, fe, rfl, W, ⟨⟨kr, dR, "words", hk, GR, kR, bR⟩⟩, hd, hall, hs, hw2.2, hno, of_decide_eq_true hw2.1, hl, hx, q⟩
theorem x3o : FnScope ["words"] ["words"] (q0d q6r) := fSc
theorem x4p {f : Addr} {fd : FuncData} {C : Addr} {kk kr : Nat} {pr pe : D → Bool} {fe : D → List Str} (hinv : ∀ d, pr d = true → ∃ ds, d = .tup ds ∧ ds.all pe = true) (F : Fun K "read_entries" "read_entries" q6r f fd) (CR : Cal P w K mg base "read_entry" kr ["words"] (q5o C pe fe)) (hk : kr ≤ kk) (CC : Cal P w K mg base "read_counted" (kk + 1) ["words", "reader"] (q8v P w K mg base C kk)) : FnOk P w K mg base CX0 (kk + 2) f fd ["words"] (q5o C pr (q4r fe)) := by
 refine F.ok x3o q3h (fun cdv A outer s H vs Q E hr h => ?_)
 obtain ⟨a, l, ws, p, d, q3y, rfl, W, hd, hp, hs, hw, hno, hl, hx, q⟩ := h
 obtain ⟨gR, dR, GR, mR, kR, bR⟩ := CR.ex
 obtain ⟨ds, rfl, hall⟩ := hinv d hp
 have hw2 : decide (ds.length ≤ 200) = true ∧ widL 200 ds = true := Bool.and_eq_true _ _ |>.mp hw
 exact ⟨_, @q1m _ _ _ (q0j (q0f CC hr (q1i (pv 0) (q1i (q3d (by rfl) mR) q0b)))), _, rfl, a, l, gR, ws, p, ds, q3y, pe, fe, rfl, W, ⟨⟨kr, dR, "words", hk, GR, kR, bR⟩⟩, hd, hall, hs, hw2.2, hno, of_decide_eq_true hw2.1, hl, hx, q⟩
theorem x1c : FnScope ["words"] ["words"] (q0d q5g) := fSc
theorem x1h {f : Addr} {fd : FuncData} {C : Addr} {kk kr : Nat} {pr pe : D → Bool} {fe : D → List Str} (hinv : ∀ d, pr d = true → ∃ ds, d = .tup ds ∧ ds.all pe = true) (F : Fun K "read_name_pairs" "read_name_pairs" q5g f fd) (CR : Cal P w K mg base "read_name_pair" kr ["words"] (q5o C pe fe)) (hk : kr ≤ kk) (CC : Cal P w K mg base "read_counted" (kk + 1) ["words", "reader"] (q8v P w K mg base C kk)) : FnOk P w K mg base CX0 (kk + 2) f fd ["words"] (q5o C pr (q4r fe)) := by
 refine F.ok x1c q3h (fun cdv A outer s H vs Q E hr h => ?_)
 obtain ⟨a, l, ws, p, d, q3y, rfl, W, hd, hp, hs, hw, hno, hl, hx, q⟩ := h
 obtain ⟨gR, dR, GR, mR, kR, bR⟩ := CR.ex
 obtain ⟨ds, rfl, hall⟩ := hinv d hp
 have hw2 : decide (ds.length ≤ 200) = true ∧ widL 200 ds = true := Bool.and_eq_true _ _ |>.mp hw
 exact ⟨_, @q1m _ _ _ (q0j (q0f CC hr (q1i (pv 0) (q1i (q3d (by rfl) mR) q0b)))), _, rfl, a, l, gR, ws, p, ds, q3y, pe, fe, rfl, W, ⟨⟨kr, dR, "words", hk, GR, kR, bR⟩⟩, hd, hall, hs, hw2.2, hno, of_decide_eq_true hw2.1, hl, hx, q⟩
theorem q8b : FnScope ["words"] ["words"] (q0d q3q) := fSc
theorem q8h {f : Addr} {fd : FuncData} {C : Addr} {kk kr : Nat} {pr pe : D → Bool} {fe : D → List Str} (hinv : ∀ d, pr d = true → ∃ ds, d = .tup ds ∧ ds.all pe = true) (F : Fun K "read_caller_triples" "read_caller_triples" q3q f fd) (CR : Cal P w K mg base "read_caller_triple" kr ["words"] (q5o C pe fe)) (hk : kr ≤ kk) (CC : Cal P w K mg base "read_counted" (kk + 1) ["words", "reader"] (q8v P w K mg base C kk)) : FnOk P w K mg base CX0 (kk + 2) f fd ["words"] (q5o C pr (q4r fe)) := by
 refine F.ok q8b q3h (fun cdv A outer s H vs Q E hr h => ?_)
 obtain ⟨a, l, ws, p, d, q3y, rfl, W, hd, hp, hs, hw, hno, hl, hx, q⟩ := h
 obtain ⟨gR, dR, GR, mR, kR, bR⟩ := CR.ex
 obtain ⟨ds, rfl, hall⟩ := hinv d hp
 have hw2 : decide (ds.length ≤ 200) = true ∧ widL 200 ds = true := Bool.and_eq_true _ _ |>.mp hw
 exact ⟨_, @q1m _ _ _ (q0j (q0f CC hr (q1i (pv 0) (q1i (q3d (by rfl) mR) q0b)))), _, rfl, a, l, gR, ws, p, ds, q3y, pe, fe, rfl, W, ⟨⟨kr, dR, "words", hk, GR, kR, bR⟩⟩, hd, hall, hs, hw2.2, hno, of_decide_eq_true hw2.1, hl, hx, q⟩
theorem x6v : FnScope ["words"] ["words"] (q0d q9e) := fSc
theorem x7q {f : Addr} {fd : FuncData} {C : Addr} {kk k0 k1 : Nat} {pr p0 p1 : D → Bool} {f0 f1 : D → List Str} (hinv : ∀ d, pr d = true → ∃ ds, d = .tup ds ∧ q0v [p0, p1] ds = true) (F : Fun K "read_entry" "read_entry" q9e f fd) (C0 : Cal P w K mg base "read_number" k0 ["words"] (q5o C p0 f0)) (h0 : k0 ≤ kk) (C1 : Cal P w K mg base "read_what" k1 ["words"] (q5o C p1 f1)) (h1 : k1 ≤ kk) (CP : Cal P w K mg base "read_parts" (kk + 1) ["words", "readers"] (q3j P w K mg base C kk)) : FnOk P w K mg base CX0 (kk + 2) f fd ["words"] (q5o C pr (z4i [f0, f1])) := by
 refine F.ok x6v q3h (fun cdv A outer s H vs Q E hr h => ?_)
 obtain ⟨a, l, ws, p, d, q3y, rfl, W, hd, hp, hs, hw, hno, hl, hx, q⟩ := h
 obtain ⟨g0, d0, G0, m0, q0, b0⟩ := C0.ex
 obtain ⟨g1, d1, G1, m1, q1, b1⟩ := C1.ex
 obtain ⟨ds, rfl, hf⟩ := hinv d hp
 have hw2 : decide (ds.length ≤ 200) = true ∧ widL 200 ds = true := Bool.and_eq_true _ _ |>.mp hw
 refine ⟨_, @q1m _ _ _ (q0j (q0f CP hr (q1i (pv 0) (j7l (q2v (q1i (q3d (by rfl) m0) (q1i (q3d (by rfl) m1) q0b))) q0b)))), _, rfl, q4m (by show 2 ≤ 1000; decide), fun t ht => ?_⟩
 have s1 := q0i (o := HO.tup [V.ref g0, V.ref g1]) ht
 have na : t ≠ a := fun z => by obtain ⟨⟨dx, e⟩, _⟩ := W; rw [← z, ht] at e; cases e
 refine ⟨a, l, t, ws, p, ds, q3y, [V.ref g0, V.ref g1], [p0, p1], [f0, f1], rfl, W.same s1, fun H' s' => SqT.of (s' _ _ na q0g), .cons ⟨⟨k0, d0, "words", h0, G0, q0, b0⟩⟩ (.cons ⟨⟨k1, d1, "words", h1, G1, q1, b1⟩⟩ (.nil)), hd, hf, hs, hw2.2, hno, of_decide_eq_true hw2.1, hl, hx, fun b xs H2 e2 I2 W2 s2 => ?_⟩
 exact q _ _ (.tup e2 (by rw [I2.length]; exact of_decide_eq_true hw2.1) I2) W2 ((q3e.of s1).trans s2)
theorem x1z : FnScope ["words"] ["words"] (q0d q5p) := fSc
theorem x1x {f : Addr} {fd : FuncData} {C : Addr} {kk k0 k1 : Nat} {pr p0 p1 : D → Bool} {f0 f1 : D → List Str} (hinv : ∀ d, pr d = true → ∃ ds, d = .tup ds ∧ q0v [p0, p1] ds = true) (F : Fun K "read_name_pair" "read_name_pair" q5p f fd) (C0 : Cal P w K mg base "read_name" k0 ["words"] (q5o C p0 f0)) (h0 : k0 ≤ kk) (C1 : Cal P w K mg base "read_number" k1 ["words"] (q5o C p1 f1)) (h1 : k1 ≤ kk) (CP : Cal P w K mg base "read_parts" (kk + 1) ["words", "readers"] (q3j P w K mg base C kk)) : FnOk P w K mg base CX0 (kk + 2) f fd ["words"] (q5o C pr (z4i [f0, f1])) := by
 refine F.ok x1z q3h (fun cdv A outer s H vs Q E hr h => ?_)
 obtain ⟨a, l, ws, p, d, q3y, rfl, W, hd, hp, hs, hw, hno, hl, hx, q⟩ := h
 obtain ⟨g0, d0, G0, m0, q0, b0⟩ := C0.ex
 obtain ⟨g1, d1, G1, m1, q1, b1⟩ := C1.ex
 obtain ⟨ds, rfl, hf⟩ := hinv d hp
 have hw2 : decide (ds.length ≤ 200) = true ∧ widL 200 ds = true := Bool.and_eq_true _ _ |>.mp hw
 refine ⟨_, @q1m _ _ _ (q0j (q0f CP hr (q1i (pv 0) (j7l (q2v (q1i (q3d (by rfl) m0) (q1i (q3d (by rfl) m1) q0b))) q0b)))), _, rfl, q4m (by show 2 ≤ 1000; decide), fun t ht => ?_⟩
 have s1 := q0i (o := HO.tup [V.ref g0, V.ref g1]) ht
 have na : t ≠ a := fun z => by obtain ⟨⟨dx, e⟩, _⟩ := W; rw [← z, ht] at e; cases e
 refine ⟨a, l, t, ws, p, ds, q3y, [V.ref g0, V.ref g1], [p0, p1], [f0, f1], rfl, W.same s1, fun H' s' => SqT.of (s' _ _ na q0g), .cons ⟨⟨k0, d0, "words", h0, G0, q0, b0⟩⟩ (.cons ⟨⟨k1, d1, "words", h1, G1, q1, b1⟩⟩ (.nil)), hd, hf, hs, hw2.2, hno, of_decide_eq_true hw2.1, hl, hx, fun b xs H2 e2 I2 W2 s2 => ?_⟩
 exact q _ _ (.tup e2 (by rw [I2.length]; exact of_decide_eq_true hw2.1) I2) W2 ((q3e.of s1).trans s2)
theorem q8z : FnScope ["words"] ["words"] (q0d q4d) := fSc
theorem q8j {f : Addr} {fd : FuncData} {C : Addr} {kk k0 k1 k2 : Nat} {pr p0 p1 p2 : D → Bool} {f0 f1 f2 : D → List Str} (hinv : ∀ d, pr d = true → ∃ ds, d = .tup ds ∧ q0v [p0, p1, p2] ds = true) (F : Fun K "read_caller_triple" "read_caller_triple" q4d f fd) (C0 : Cal P w K mg base "read_name" k0 ["words"] (q5o C p0 f0)) (h0 : k0 ≤ kk) (C1 : Cal P w K mg base "read_number" k1 ["words"] (q5o C p1 f1)) (h1 : k1 ≤ kk) (C2 : Cal P w K mg base "read_number" k2 ["words"] (q5o C p2 f2)) (h2 : k2 ≤ kk) (CP : Cal P w K mg base "read_parts" (kk + 1) ["words", "readers"] (q3j P w K mg base C kk)) : FnOk P w K mg base CX0 (kk + 2) f fd ["words"] (q5o C pr (z4i [f0, f1, f2])) := by
 refine F.ok q8z q3h (fun cdv A outer s H vs Q E hr h => ?_)
 obtain ⟨a, l, ws, p, d, q3y, rfl, W, hd, hp, hs, hw, hno, hl, hx, q⟩ := h
 obtain ⟨g0, d0, G0, m0, q0, b0⟩ := C0.ex
 obtain ⟨g1, d1, G1, m1, q1, b1⟩ := C1.ex
 obtain ⟨g2, d2, G2, m2, q2, b2⟩ := C2.ex
 obtain ⟨ds, rfl, hf⟩ := hinv d hp
 have hw2 : decide (ds.length ≤ 200) = true ∧ widL 200 ds = true := Bool.and_eq_true _ _ |>.mp hw
 refine ⟨_, @q1m _ _ _ (q0j (q0f CP hr (q1i (pv 0) (j7l (q2v (q1i (q3d (by rfl) m0) (q1i (q3d (by rfl) m1) (q1i (q3d (by rfl) m2) q0b)))) q0b)))), _, rfl, q4m (by show 3 ≤ 1000; decide), fun t ht => ?_⟩
 have s1 := q0i (o := HO.tup [V.ref g0, V.ref g1, V.ref g2]) ht
 have na : t ≠ a := fun z => by obtain ⟨⟨dx, e⟩, _⟩ := W; rw [← z, ht] at e; cases e
 refine ⟨a, l, t, ws, p, ds, q3y, [V.ref g0, V.ref g1, V.ref g2], [p0, p1, p2], [f0, f1, f2], rfl, W.same s1, fun H' s' => SqT.of (s' _ _ na q0g), .cons ⟨⟨k0, d0, "words", h0, G0, q0, b0⟩⟩ (.cons ⟨⟨k1, d1, "words", h1, G1, q1, b1⟩⟩ (.cons ⟨⟨k2, d2, "words", h2, G2, q2, b2⟩⟩ (.nil))), hd, hf, hs, hw2.2, hno, of_decide_eq_true hw2.1, hl, hx, fun b xs H2 e2 I2 W2 s2 => ?_⟩
 exact q _ _ (.tup e2 (by rw [I2.length]; exact of_decide_eq_true hw2.1) I2) W2 ((q3e.of s1).trans s2)
theorem x6o : FnScope ["words"] ["words"] (q0d q9g) := fSc
theorem x7c {f : Addr} {fd : FuncData} {C : Addr} {kk k0 k1 : Nat} {pr p0 p1 : D → Bool} {f0 f1 : D → List Str} (hinv : ∀ d, pr d = true → ∃ ds, d = .tup ds ∧ q0v [p0, p1] ds = true) (F : Fun K "read_store" "read_store" q9g f fd) (C0 : Cal P w K mg base "read_name_pairs" k0 ["words"] (q5o C p0 f0)) (h0 : k0 ≤ kk) (C1 : Cal P w K mg base "read_caller_triples" k1 ["words"] (q5o C p1 f1)) (h1 : k1 ≤ kk) (CP : Cal P w K mg base "read_parts" (kk + 1) ["words", "readers"] (q3j P w K mg base C kk)) : FnOk P w K mg base CX0 (kk + 2) f fd ["words"] (q5o C pr (z4i [f0, f1])) := by
 refine F.ok x6o q3h (fun cdv A outer s H vs Q E hr h => ?_)
 obtain ⟨a, l, ws, p, d, q3y, rfl, W, hd, hp, hs, hw, hno, hl, hx, q⟩ := h
 obtain ⟨g0, d0, G0, m0, q0, b0⟩ := C0.ex
 obtain ⟨g1, d1, G1, m1, q1, b1⟩ := C1.ex
 obtain ⟨ds, rfl, hf⟩ := hinv d hp
 have hw2 : decide (ds.length ≤ 200) = true ∧ widL 200 ds = true := Bool.and_eq_true _ _ |>.mp hw
 refine ⟨_, @q1m _ _ _ (q0j (q0f CP hr (q1i (pv 0) (j7l (q2v (q1i (q3d (by rfl) m0) (q1i (q3d (by rfl) m1) q0b))) q0b)))), _, rfl, q4m (by show 2 ≤ 1000; decide), fun t ht => ?_⟩
 have s1 := q0i (o := HO.tup [V.ref g0, V.ref g1]) ht
 have na : t ≠ a := fun z => by obtain ⟨⟨dx, e⟩, _⟩ := W; rw [← z, ht] at e; cases e
 refine ⟨a, l, t, ws, p, ds, q3y, [V.ref g0, V.ref g1], [p0, p1], [f0, f1], rfl, W.same s1, fun H' s' => SqT.of (s' _ _ na q0g), .cons ⟨⟨k0, d0, "words", h0, G0, q0, b0⟩⟩ (.cons ⟨⟨k1, d1, "words", h1, G1, q1, b1⟩⟩ (.nil)), hd, hf, hs, hw2.2, hno, of_decide_eq_true hw2.1, hl, hx, fun b xs H2 e2 I2 W2 s2 => ?_⟩
 exact q _ _ (.tup e2 (by rw [I2.length]; exact of_decide_eq_true hw2.1) I2) W2 ((q3e.of s1).trans s2)
theorem x9y : FnScope ["words"] ["words"] (q0d x0p) := fSc
theorem x8r {f : Addr} {fd : FuncData} {C : Addr} {kk k0 k1 k2 k3 : Nat} {pr p0 p1 p2 p3 : D → Bool} {f0 f1 f2 f3 : D → List Str} (hinv : ∀ d, pr d = true → ∃ ds, d = .tup ds ∧ q0v [p0, p1, p2, p3] ds = true) (F : Fun K "read_pack" "read_pack" x0p f fd) (C0 : Cal P w K mg base "read_number" k0 ["words"] (q5o C p0 f0)) (h0 : k0 ≤ kk) (C1 : Cal P w K mg base "read_number" k1 ["words"] (q5o C p1 f1)) (h1 : k1 ≤ kk) (C2 : Cal P w K mg base "read_seats" k2 ["words"] (q5o C p2 f2)) (h2 : k2 ≤ kk) (C3 : Cal P w K mg base "read_store" k3 ["words"] (q5o C p3 f3)) (h3 : k3 ≤ kk) (CP : Cal P w K mg base "read_parts" (kk + 1) ["words", "readers"] (q3j P w K mg base C kk)) : FnOk P w K mg base CX0 (kk + 2) f fd ["words"] (q5o C pr (z4i [f0, f1, f2, f3])) := by
 refine F.ok x9y q3h (fun cdv A outer s H vs Q E hr h => ?_)
 obtain ⟨a, l, ws, p, d, q3y, rfl, W, hd, hp, hs, hw, hno, hl, hx, q⟩ := h
 obtain ⟨g0, d0, G0, m0, q0, b0⟩ := C0.ex
 obtain ⟨g1, d1, G1, m1, q1, b1⟩ := C1.ex
 obtain ⟨g2, d2, G2, m2, q2, b2⟩ := C2.ex
 obtain ⟨g3, d3, G3, m3, q3, b3⟩ := C3.ex
 obtain ⟨ds, rfl, hf⟩ := hinv d hp
 have hw2 : decide (ds.length ≤ 200) = true ∧ widL 200 ds = true := Bool.and_eq_true _ _ |>.mp hw
 refine ⟨_, @q1m _ _ _ (q0j (q0f CP hr (q1i (pv 0) (j7l (q2v (q1i (q3d (by rfl) m0) (q1i (q3d (by rfl) m1) (q1i (q3d (by rfl) m2) (q1i (q3d (by rfl) m3) q0b))))) q0b)))), _, rfl, q4m (by show 4 ≤ 1000; decide), fun t ht => ?_⟩
 have s1 := q0i (o := HO.tup [V.ref g0, V.ref g1, V.ref g2, V.ref g3]) ht
 have na : t ≠ a := fun z => by obtain ⟨⟨dx, e⟩, _⟩ := W; rw [← z, ht] at e; cases e
 refine ⟨a, l, t, ws, p, ds, q3y, [V.ref g0, V.ref g1, V.ref g2, V.ref g3], [p0, p1, p2, p3], [f0, f1, f2, f3], rfl, W.same s1, fun H' s' => SqT.of (s' _ _ na q0g), .cons ⟨⟨k0, d0, "words", h0, G0, q0, b0⟩⟩ (.cons ⟨⟨k1, d1, "words", h1, G1, q1, b1⟩⟩ (.cons ⟨⟨k2, d2, "words", h2, G2, q2, b2⟩⟩ (.cons ⟨⟨k3, d3, "words", h3, G3, q3, b3⟩⟩ (.nil)))), hd, hf, hs, hw2.2, hno, of_decide_eq_true hw2.1, hl, hx, fun b xs H2 e2 I2 W2 s2 => ?_⟩
 exact q _ _ (.tup e2 (by rw [I2.length]; exact of_decide_eq_true hw2.1) I2) W2 ((q3e.of s1).trans s2)
noncomputable def z1t : Sp := fun vs H Q _ => ∃ (a : Addr) (x0 x1 x2 x3 x4 x5 x6 x7 : V), vs = [.ref a] ∧ H a = some (.tup [x0, x1, x2, x3, x4, x5, x6, x7]) ∧ ∀ p H', H' p = some (.tup [x0, x1, x2, x3, x4, x5, x7, x6]) → q1a H H' → Q (.ref p) H'
theorem w5d : FnScope ["parts"] ["parts"] (q0d q4x) := fSc
theorem x7s {f : Addr} {fd : FuncData} (F : Fun K "last_two_changed" "last_two_changed" q4x f fd) : FnOk P w K mg base CX0 1 f fd ["parts"] z1t := by
 refine F.ok w5d (fun vs H Q E ⟨_, _, _, _, _, _, _, _, _, e, _⟩ => by subst e; rfl) (fun cdv A outer s H vs Q E hr h => ?_)
 obtain ⟨a, x0, x1, x2, x3, x4, x5, x6, x7, rfl, ha, q⟩ := h
 refine ⟨_, @q1m _ _ _ (q0j (q0l q8t (q9u z6m (pv 0) x4f (x0b (z6f x8d q0a))) (q2v (q0c (q0w q0n (pv 0) (z6f x8d q0a) w2r) (q0c (q0w q0n (pv 0) (z6f x8d q0a) w2r) q0b))))), ?_⟩
 refine ⟨_, rfl, _, rfl, _, rfl, a, _, rfl, ha, fun b H1 hb s1 => ?_⟩
 replace hb : H1 b = some (.tup [x0, x1, x2, x3, x4, x5]) := hb
 refine ⟨_, rfl, _, rfl, a, _, _, x7, rfl, rfl, SqT.of (s1 _ _ ha), by rfl, _, rfl, _, rfl, a, _, _, x6, rfl, rfl, SqT.of (s1 _ _ ha), by rfl, q4m (by show 2 ≤ 1000; decide), fun c hc => ?_⟩
 have s2 := q0i (o := HO.tup [x7, x6]) hc
 exact ⟨b, c, _, _, rfl, rfl, s2 _ _ hb, q0g, q4m (by show 8 ≤ 1000; decide), fun p H3 hp s3 => q p H3 hp ((s1.trans s2).trans s3)⟩
end
theorem x9v : ∀ {r : List D} {d : D}, d ∈ x2v r → d ∈ r
 | [], _, h => h
 | [a], _, h => by
  have h' : _ ∈ a :: x2v [] := h
  simpa [x2v] using h'
 | [a, b], _, h => by
  have h' : _ ∈ [b, a] := h
  simp at h' ⊢
  exact h'.symm
 | a :: b :: c :: r, d, h => by
  have h' : d ∈ a :: x2v (b :: c :: r) := h
  rcases List.mem_cons.mp h' with rfl | h'
  ·simp
  ·exact List.mem_cons_of_mem _ (x9v h')
theorem w2h {v u : V} : ([("words", v), ("passed", u)] : List (Str × V)).lookup ("all_passed" : Str) = none := lkA
mutual
theorem x2e {k k' : Nat} (h : k ≤ k') : ∀ d : D, q1x k d = true → q1x k' d = true
 | .int i, e => decide_eq_true (Nat.lt_of_lt_of_le (of_decide_eq_true e) (Nat.pow_le_pow_right (by decide) h))
 | .non, _ => rfl
 | .bl _, _ => rfl
 | .str _, _ => rfl
 | .tup ds, e => smallL_up6 h ds e
 | .lst ds, e => smallL_up6 h ds e
theorem smallL_up6 {k k' : Nat} (h : k ≤ k') : ∀ ds : List D, smallL k ds = true → smallL k' ds = true
 | [], _ => rfl
 | d :: ds, e => by
  rw [smallL, Bool.and_eq_true] at e ⊢
  exact ⟨x2e h d e.1, smallL_up6 h ds e.2⟩
end
section
variable {P : Program} {w : World} {K : PySem.W.Frag} {mg : Str → Option Value} {base : Heap}
noncomputable def x9g : Sp := fun vs H Q _ => ∃ (d : D), vs = [.str (J (q2k d))] ∧ q2p d = true ∧ q1x 60 d = true ∧ z0t 200 d = true ∧ j1q d = true ∧ ∀ v H', Is 200 H' v d → q1a H H' → Q v H'
theorem x9x : FnScope ["line", "words", "word", "parts", "letter"] ["line"] (q0d z6o) := fSc
theorem j7e {f fI fW fA : Addr} {fd dI dW dA : FuncData} {C : Addr} {kk : Nat} {tp : List (Str × List (D → Bool))} (h3 : 3 ≤ kk) (hfit : ∀ x r, q2g q2l (.tup (.str x :: r)) = true → ∃ ps, tp.lookup x = some ps ∧ q0v ps (if x = "hand" then x2v r else r) = true) (Y : WoC K C) (F : Fun K "read" "read" z6o f fd) (hC : mg "Words" = some (.ref C)) (M : Mk K C fI) (FI : FnOk P w K mg base CX0 1 fI dI ["self", "line"] (z9k C)) (bI : q3p K dI ["self", "line"] [])
  (MW : Meth K C "word" fW) (FW : FnOk P w K mg base CX0 2 fW dW ["self"] (q9l C)) (bW : q3p K dW ["self"] []) (MA : Meth K C "all_passed" fA) (FA : FnOk P w K mg base CX0 1 fA dA ["self"] (z6c C)) (bA : q3p K dA ["self"] []) (TB : RTab P w K mg base C "LETTER_READERS" kk tp q9n) (CB : Cal P w K mg base "read_behind_word" (kk + 2) ["words", "word", "readers"] (x3i P w K mg base C kk)) (CL : Cal P w K mg base "last_two_changed" 1 ["parts"] z1t) {ki : Nat} (CI : Cal P w K mg base "is_letter" ki ["thing"] (spP q2p)) (hki : ki ≤ kk + 2) :
  FnOk P w K mg base (CXe P w) (kk + 3) f fd ["line"] x9g := by
 refine F.okE x9x (fun vs H Q E ⟨_, e, _⟩ => by subst e; rfl) (fun cdv A outer s H vs Q E hr h => ?_)
 obtain ⟨d, rfl, hp, hs, hw, hno, q⟩ := h
 obtain ⟨aD, es, n, mD, lD, hK, hsys, hT⟩ := TB.ex
 have hb : q2g q2l d = true := (Bool.and_eq_true _ _ |>.mp hp).1
 have ok := x5n (B := 200) (by decide) d hb hw
 obtain ⟨x, r, ps0, rfl, e0, hf0⟩ := q2r hb
 obtain ⟨ps, e, hf⟩ := hfit x r hb
 obtain ⟨hx2, hps, fs, t, gs, e2, e3, hS, hR⟩ := hT x ps e
 refine ⟨_, @q0x _ _ _ _ _ (q1c (i := 1) x9x.nd (by rfl) (by exact Or.inl rfl) (j6g M FI (hr.mono (by omega)) (by rfl) hC bI .nil q6z (q1i (pv 0) q0b)))
  (@q0x _ _ _ _ _ (q1c (i := 2) x9x.nd (by rfl) (by exact Or.inl rfl) (q5v (pv 1) Y.cl MW FW (hr.mono (by omega)) bW .nil q6z))
  (@q0x _ _ _ _ _ (q1c (i := 3) x9x.nd (by rfl) (by exact Or.inl rfl) (q0f CB hr (q1i (pv 1) (q1i (pv 2) (q7f (x2j (q3d (by rfl) mD) (q1i (pv 2) q0b)) q0b)))))
  (@q0x _ _ _ _ _ (q1c (i := 4) x9x.nd (by rfl) (by exact Or.inl rfl) (z3q (q0s q2a (pv 2) q0r (q0q _)) (q0f CL (hr.mono (by omega)) (q1i (pv 3) q0b)) (pv 3)))
  (@q0x _ _ _ _ _ (q1q (PW.pt (q7j (q3b (q2n (q5v (pv 1) Y.cl MA FA (hr.mono (by omega)) bA .nil q6z))) (q7y (q3b (q2n (q0f CI (hr.mono hki) (q1i (pv 4) q0b))))))) q2s q0t)
  (@q1m _ _ _ (q0j (pv 4))))))), ?_⟩
 have ew : q2k (.tup (.str x :: r)) = x :: q1u fs (if x = "hand" then x2v r else r) := by
  show x :: q1u ((q9n.lookup x).getD []) _ = _
  rw [e2]; rfl
 have hws : Txt.split (J (q2k (.tup (.str x :: r)))) " " = q2k (.tup (.str x :: r)) := ok.split (by rw [ew]; simp)
 have hs1 : smallL 60 r = true := (Bool.and_eq_true _ _ |>.mp (show (q1x 60 (.str x) && smallL 60 r) = true from hs)).2
 have hn1 : noLL r = true := (Bool.and_eq_true _ _ |>.mp (show (j1q (.str x) && noLL r) = true from hno)).2
 have hw1 := x4o hw
 have hmem : ∀ d ∈ (if x = "hand" then x2v r else r), d ∈ r := by
  intro d hd
  split at hd
  ·exact x9v hd
  ·exact hd
 have hfl := q9w hf
 have hlenJ : (J (q2k (.tup (.str x :: r)))).length + 1 ≤ sizeLine := by
  have := ok.text (by rw [smallL, x2e (by decide : 60 ≤ 4000) _ hs]; rfl)
  exact Nat.le_trans (Nat.add_le_add_right this 1) (by rw [sizeLine_eq]; decide)
 have hwl : ∀ y ∈ q2k (.tup (.str x :: r)), y.length ≤ 100 := fun y hy => Nat.le_trans (ok.len 60 (Nat.le_refl _) (by rw [smallL, hs]; rfl) y hy) (by decide)
 have hfew : (q2k (.tup (.str x :: r))).length ≤ 100000 := Nat.le_trans ok.few (by decide)
 refine ⟨_, rfl, fun a dx ha hdx hne => ⟨a, dx, _, rfl, q0g, hlenJ, fun l H1 hl W1 s1 => ⟨rfl, ?_⟩⟩⟩
 have sH1 : q1a H H1 := fun b o e => s1 b o (fun z => by rw [z, ha] at e; cases e) (by
  rw [q1b (fun z => by rw [z, ha] at e; cases e), q1b (fun z => by rw [z, hdx] at e; cases e)]
  exact e)
 rw [hws] at W1
 have sB : ∀ {H2 H3 : Hp}, q1a H H2 → q3e a H2 H3 → q1a H H3 := fun {H2 H3} u v b o e => v b o (fun z => by rw [z, ha] at e; cases e) (u b o e)
 obtain ⟨⟨dx1, ha1⟩, _⟩ := id W1
 refine ⟨_, rfl, a, dx1, _, rfl, ha1, j3w, a, l, _, 0, x, rfl, W1, by rw [ew]; rfl, hfew, fun H2 W2 s2 => ?_⟩
 have sH2 := sB sH1 s2
 refine ⟨_, rfl, _, rfl, aD, es, n, rfl, lD, hK, hsys, _, rfl, x, .ref t, rfl, (by rw [e3]; rfl), a, l, t, x, _, 1, _, [], gs, ps, fs, rfl, hx2, W2, hS, hR, (by rw [ew, List.append_nil]; rfl), hf, q2j.mpr fun d hd => q2j.mp hs1 d (hmem d hd), q4q.mpr fun d hd => q4q.mp hw1 d (hmem d hd), q4b.mpr fun d hd => q4b.mp hn1 d (hmem d hd), by omega, hfew, hwl, fun v3 H3 I3 W3 s3 => ?_⟩
 have sH3 := sB sH2 s3
 have hpl : 1 + (q1u fs (if x = "hand" then x2v r else r)).length = (q2k (.tup (.str x :: r))).length := by rw [ew, List.length_cons]; omega
 refine ⟨_, rfl, rfl, _, rfl, ?_⟩
 by_cases hh : x = "hand"
 ·rw [decide_eq_true (show V.str x = V.str "hand" by rw [hh])]
  subst hh
  rw [if_pos rfl] at I3 W3 hpl
  have e9 : ps0 = [q0h, q0h, geD 1, geD 0, geD 0, q1y, geD 0] := (Option.some.inj e0).symm
  rw [e9] at hf0
  obtain ⟨d1, d2, d3, d4, d5, d6, d7, rfl, _⟩ := x6w hf0
  obtain ⟨b3, xs, rfl, h3', _, r3⟩ := Is.vtup I3
  obtain ⟨y0, _, rfl, i0, r30⟩ := IsL.un r3
  obtain ⟨y1, _, rfl, i1, r31⟩ := IsL.un r30
  obtain ⟨y2, _, rfl, i2, r32⟩ := IsL.un r31
  obtain ⟨y3, _, rfl, i3, r33⟩ := IsL.un r32
  obtain ⟨y4, _, rfl, i4, r34⟩ := IsL.un r33
  obtain ⟨y5, _, rfl, i5, r35⟩ := IsL.un r34
  obtain ⟨y6, _, rfl, i6, r36⟩ := IsL.un r35
  obtain ⟨y7, _, rfl, i7, r37⟩ := IsL.un r36
  obtain rfl := IsL.un0 r37
  refine q1o ⟨_, rfl, b3, y0, y1, y2, y3, y4, y5, y6, y7, rfl, h3', fun b4 H4 e4 s4 => ?_⟩
  have sH4 := sH3.trans s4
  have W4 := W3.same s4
  have I4 : Is 200 H4 (.ref b4) (.tup (.str "hand" :: [d1, d2, d3, d4, d5, d6, d7])) := .tup e4 (by show 8 ≤ 200; decide) (.cons (i0.same s4) (.cons (i1.same s4) (.cons (i2.same s4) (.cons (i3.same s4) (.cons (i4.same s4) (.cons (i5.same s4) (.cons (i7.same s4) (.cons (i6.same s4) .nil))))))))
  obtain ⟨⟨dx4, ha4⟩, _⟩ := id W4
  refine ⟨_, rfl, a, dx4, _, rfl, ha4, w2h, a, l, _, _, rfl, W4, _, rfl, ?_⟩
  rw [decide_eq_true hpl]
  refine q0z ⟨_, rfl, 200, (.ref b4), _, by decide, rfl, I4, fun H5 s5 => ⟨_, rfl, ?_⟩⟩
  rw [hp]
  exact q0z ⟨_, rfl, q _ _ (I4.same s5) (sH4.trans s5)⟩
 ·rw [decide_eq_false (fun z => hh (V.str.inj z))]
  rw [if_neg hh] at I3 W3 hpl
  have sH4 := sH3
  have W4 := W3
  have I4 := I3
  refine q0z ⟨_, rfl, ?_⟩
  obtain ⟨⟨dx4, ha4⟩, _⟩ := id W4
  refine ⟨_, rfl, a, dx4, _, rfl, ha4, w2h, a, l, _, _, rfl, W4, _, rfl, ?_⟩
  rw [decide_eq_true hpl]
  refine q0z ⟨_, rfl, 200, v3, _, by decide, rfl, I4, fun H5 s5 => ⟨_, rfl, ?_⟩⟩
  rw [hp]
  exact q0z ⟨_, rfl, q _ _ (I4.same s5) (sH4.trans s5)⟩
theorem w1u : FnScope ["_law_text"] ["_law_text"] (q0d x0k) := fSc
theorem z1v {f : Addr} {fd : FuncData} {cN : Addr} {kk : Nat} (F : Fun K "_law_read" "_law_read" x0k f fd) (mN : mg "NoLetter" = some (.ref cN)) (CR : CalE P w K mg base "read" kk ["line"] x9g) : FnOk P w K mg base CX0 (kk + 1) f fd ["_law_text"] x9g := by
 refine F.ok w1u (fun vs H Q E ⟨_, e, _⟩ => by subst e; rfl) (fun cdv A outer s H vs Q E hr h => ?_)
 obtain ⟨d, rfl, hp, hs, hw, hno, q⟩ := h
 obtain ⟨gR, dR, GR, mR, kR, bR⟩ := CR.ex
 exact ⟨_, @q1m _ _ _ (z8t (by rfl) (by rfl) GR hr (by rfl) mR kR bR (fun _ => q1i (pv 0) q0b) (by rfl) mN (fun _ => @q1m _ _ _ (q0j x2r))), _, rfl, d, rfl, hp, hs, hw, hno, q⟩
end
theorem j1i (ds : List D) (f : D → V) : (((List.range ds.length).filter fun _ => true).map fun i => f (ds.getD i .non)) = ds.map f := by
 rw [List.filter_eq_self.mpr (fun _ _ => rfl)]
 apply List.ext_getElem?
 intro i
 by_cases hi : i < ds.length
 ·simp [hi]
 ·rw [List.getElem?_eq_none (by simp; omega), List.getElem?_eq_none (by simp; omega)]
theorem j6o {K : PySem.W.Frag} {a : Addr} {B : Nat} {vs : List V} {ds : List D} {H1 : Hp} {frs : St} {g : TG} {tt : TT} {te : TE} {Q : VK} (hS : SqT K H1 a vs) (r : IsL B H1 vs ds) (hn : ds.length ≤ 1000) (f : D → V)
  (turn : ∀ (v : V) (d : D), d ∈ ds → Is B H1 v d → ∀ t H2 (R : St → Hp → Option V → Prop), q1a H1 H2 → t.length = 1 → (∀ t' H', t'.length = 1 → q1a H2 H' → R (t' ++ frs) H' (some (f d))) →
   g v (t ++ frs) H2 fun σ3 H3 => tt σ3 H3 fun b H4 => if b = true then te σ3 H4 fun v H5 => R σ3 H5 (some v) else R σ3 H4 none)
  (hq : ∀ D H', q1a H1 H' → H1 D = none → H' D = some (.lst (ds.map f)) → Q (.ref D) H') : x3y (List.replicate 1 none ++ frs) g tt te Q (Itt K a) H1 := by
 have hl := r.length
 refine q2y (J := Itt K a) (k := 1) (n := ds.length) (fun _ => true) (fun i => f (ds.getD i .non)) (by rw [sizeLine_eq]; omega) (fun i H3 hi s4 => ⟨_, vs[i]'(by omega), SqT.same' hS s4, List.getElem?_eq_getElem (by omega)⟩) (fun H3 s4 => ⟨_, SqT.same' hS s4, by omega⟩) ?_ ?_
 ·intro i H3 t v H4 R hi s4 ht y hR
  obtain ⟨rfl, hy⟩ := y
  have hv := hy _ (SqT.same' hS s4)
  obtain ⟨d, hd, I⟩ := r.get hv
  have eg : ds.getD i .non = d := by rw [List.getD_eq_getElem?_getD, hd]; rfl
  rw [eg] at hR
  exact turn v d (List.mem_of_getElem? hd) I t H4 R s4 ht hR
 ·intro D1 H3 s4 hD hd
  rw [j1i] at hd
  exact hq D1 H3 s4 hD hd
noncomputable def j9x (d : D) : Bool := q2g q2l d && (["ask", "voice", "hand", "pack", "held"] : List Str).contains (q1l d)
theorem w5y (W f0 f1 f2 f3 : Str) : W ++ " " ++ J [f0, f1, f2] ++ " " ++ f3 = J [W, f0, f1, f2, f3] := by simp only [x2h, x3z, x1g]
theorem w0t (W f0 f1 f2 f3 f4 : Str) : W ++ " " ++ J [f0, f1, f2] ++ " " ++ f3 ++ " " ++ f4 = J [W, f0, f1, f2, f3, f4] := by simp only [x2h, x3z, x1g]
theorem w4x (W f0 f1 f2 f3 f4 : Str) {s t : List Str} (hs : s ≠ []) (ht : t ≠ []) : W ++ " " ++ J [f0, f1, f2] ++ " " ++ f3 ++ " " ++ f4 ++ " " ++ J s ++ " " ++ J t = J (([W, f0, f1, f2, f3, f4] ++ s) ++ t) := by
 rw [x2w (by simp) ht, x2w (by simp) hs, w0t]
theorem w5h (W f0 f1 f2 : Str) {s : List Str} (hs : s ≠ []) : J ([W, f0, f1, f2] ++ s) = (W ++ " " ++ J [f0, f1, f2] ++ " ") ++ J s := by
 rw [x2w (by simp) hs]
 simp only [x2h, x3z, x1g]
theorem z5v {d : D} (h : q3m d = true) : q4f d ≠ [] := by
 obtain ⟨ds, rfl, hf⟩ := x4y h
 match ds, q1e hf with
 | [a, b], _ =>
  simp only [q0v, Bool.and_true, Bool.and_eq_true] at hf
  obtain ⟨t, rfl⟩ := q0u hf.1
  simp [q4f, z4i, q1u, q3a]
theorem z4m {B : Nat} {H : Hp} {v : V} {d : D} (hB : B ≤ 200) (I : Is B H v d) (h : q3m d = true) (hs : q1x 4000 d = true) : (J (q4f d)).length ≤ 100000 ∧ q4f d ≠ [] :=
 ⟨Nat.le_trans ((x4c (B := 200) d h (I.mono hB (q1a.refl _)).wid).text (by rw [smallL, hs]; rfl)) (by decide), z5v h⟩
theorem z8f {d : D} (h : q3o d = true) : x0a d ≠ [] := by
 obtain ⟨a, b, rfl, _⟩ := x8k h
 simp [x0a, z4i, q1u, q4r]
theorem z4y {d : D} (h : q8d d = true) : ∃ (p l : Int) (s t : D), d = .tup [.int p, .int l, s, t] ∧ q2z s = true ∧ q3o t = true := by
 obtain ⟨ds, rfl, hf⟩ := z2f h
 match ds, q1e hf with
 | [a, b, c, d], _ =>
  simp only [q0v, Bool.and_true, Bool.and_eq_true] at hf
  obtain ⟨p, rfl⟩ := q0u hf.1
  obtain ⟨l, rfl⟩ := q0u hf.2.1
  exact ⟨p, l, c, d, rfl, hf.2.2.1, hf.2.2.2⟩
theorem z6t {f : D → List Str} : ∀ {ds : List D} {a : List Str}, a ≠ [] → (∀ d ∈ ds, f d ≠ []) → J (a ++ ds.map fun d => J (f d)) = J (a ++ ds.flatMap f)
 | [], a, _, _ => by simp
 | d :: ds, a, ha, h => by
  have e1 : a ++ (d :: ds).map (fun d => J (f d)) = (a ++ [J (f d)]) ++ ds.map fun d => J (f d) := by simp
  have e2 : a ++ (d :: ds).flatMap f = (a ++ f d) ++ ds.flatMap f := by simp
  have hd := h d (by simp)
  have hds := fun x hx => h x (List.mem_cons_of_mem d hx)
  have i1 := z6t (ds := ds) (a := a ++ [J (f d)]) (by simp) hds
  have i2 := z6t (ds := ds) (a := a ++ f d) (by simp [ha]) hds
  rw [e1, e2, ← i2]
  cases ds with
  | nil => simp only [List.map_nil, List.append_nil]; exact j9w ha hd
  | cons x r => rw [x2w (by simp) (by simp), x2w (a := a ++ f d) (by simp [ha]) (by simp), j9w ha hd]
section
variable {P : Program} {w : World} {K : PySem.W.Frag} {mg : Str → Option Value} {base : Heap}
theorem x6n : FnScope ["_law_letter_here", "_law_words", "_law_place", "_law_last", "_law_seats_here", "_law_store_here", "_law_numbers"] ["_law_letter_here"] (q0d q2d) := fSc
noncomputable def w4v : TS := fun D σ H => ∃ (a : Addr) (W : Str) (x0 x1 x2 : Int) (vs : List V), σ = [some (.ref a), none, none, none, none, none, none] ∧ H a = some (.tup (.str W :: .int x0 :: .int x1 :: .int x2 :: vs)) ∧ W.length ≤ 8 ∧ x0.natAbs < 10 ^ 4000 ∧ x1.natAbs < 10 ^ 4000 ∧ x2.natAbs < 10 ^ 4000 ∧ z0f (.str W :: .int x0 :: .int x1 :: .int x2 :: vs) (some 1) (some 4) = [.int x0, .int x1, .int x2] ∧
 ∀ H', q1a H H' → ((W ++ " " ++ J [q1g x0, q1g x1, q1g x2]) ++ " ").length ≤ 13000 → D.nx [some (.ref a), some (.str (W ++ " " ++ J [q1g x0, q1g x1, q1g x2] ++ " ")), none, none, none, none, none] H'
theorem PS.weakB {X : Cx} {st : Stmt} {t t' : TS} (h : PS X st t) (w : ∀ D σ H, t' D σ H → t D σ H) : PS X st t' := fun pins s σ H D I q => h pins s σ H D I (w D σ H q)
theorem x3w {f : Addr} {fd : FuncData} (F : Fun K "_law_text_between" "_law_text_between" q2d f fd) (T : Txt mg) (CF : Cal P w K mg base "_law_figures" 2 ["_law_number"] z0n) (CS : Cal P w K mg base "_law_seats_words" 3 ["_law_seats_here"] (spT q2z q4t)) (CT : Cal P w K mg base "_law_store_words" 3 ["_law_store_here"] (spT q3o x0a)) (CE : Cal P w K mg base "_law_entry_words" 4 ["_law_entry_here"] (spT q3m q4f)) : FnOk P w K mg base CX0 5 f fd ["_law_letter_here"] (spT j9x q2k) := by
 refine F.ok x6n x2c (fun cdv A outer s H vs Q E hr h => ?_)
 obtain ⟨B, v, d, hB, rfl, I, hp, hs, q⟩ := h
 have r2 := hr.mono (show 2 ≤ 4 by decide)
 have r3 := hr.mono (show 3 ≤ 4 by decide)
 refine ⟨_, (@q0x _ _ _ _ _ (PS.weakB (t' := w4v) (q1c (i := 1) x6n.nd (by rfl) (by exact Or.inl rfl) (q0l q0k (q0l q0k (q0l q0k (q0w q0n (pv 0) q0a q2q) q0r) (x2x PySem.F.plainAttrs_str PySem.F.slot_str_join PySem.F.type_str_join x7o q0r (q0c (q3f (NB := ["_law_number"]) (n := 1) (fr := []) (q5u (outer := q0d q2d) (by rfl) (by decide +kernel) (by rfl)) (by rfl) (q7a (q9u z6m (pv 0) (x0b q0a) (x0b q0a))) (fun _ _ _ _ _ => q1h (i := 0) (show (["_law_number"] : List Str).Nodup by decide +kernel) (by rfl) (by exact Or.inl rfl)) (fun _ _ _ _ _ => q2t) (fun _ _ _ _ _ => q0f CF r2 (q1i (pv 0) q0b))) q0b))) q0r)) ?w1)
  (@q0x _ _ _ _ _ (q1q (q0s q2a (q0w q0n (pv 0) q0a q2q) q0r (q0q _)) (@q1m _ _ _ (q0j (q0l q0k (q0l q0k (q0l q0k (pv 1) (q0f CF r2 (q4n (q0w q0n (pv 0) q0a q2q) q0b))) q0r) (q0f CF r2 (q4n (q0w q0n (pv 0) q0a q2q) q0b))))) q0t)
  (@q0x _ _ _ _ _ (q1q (q0s q2a (q0w q0n (pv 0) q0a q2q) q0r (q0q _)) (@q1m _ _ _ (q0j (q0l q0k (pv 1) (q0w q7v (x2l (q8e q0r (q8e q0r q0b))) (q4g x8y (by rfl) T.int q7r (q4n (q0w q0n (pv 0) q0a q2q) q0b)) (fun _ _ => rfl))))) q0t)
  (@q0x _ _ _ _ _ (q1q (q0s q2a (q0w q0n (pv 0) q0a q2q) q0r (q0q _)) (@q1m _ _ _ (q0j (q0l q0k (q0l q0k (q0l q0k (pv 1) (q0w q7v (x2l (q8e q0r (q8e q0r q0b))) (q4g x8y (by rfl) T.int q7r (q4n (q0w q0n (pv 0) q0a q2q) q0b)) (fun _ _ => rfl))) q0r) (q0f CF r2 (q4n (q0w q0n (pv 0) q0a q2q) q0b))))) q0t)
  (@q0x _ _ _ _ _ (q1q (q0s q2a (q0w q0n (pv 0) q0a q2q) q0r (q0q _)) (@q0x _ _ _ _ _ (z3f (q0w q0n (pv 0) q0a q2q) (x3p (n := 4) (by rfl) (q1v (q1h (i := 2) x6n.nd (by rfl) (by exact Or.inl rfl)) (q1v (q1h (i := 3) x6n.nd (by rfl) (by exact Or.inl rfl)) (q1v (q1h (i := 4) x6n.nd (by rfl) (by exact Or.inl rfl)) (q1v (q1h (i := 5) x6n.nd (by rfl) (by exact Or.inl rfl)) q5x)))))) (@q0x _ _ _ _ _ (q1c (i := 1) x6n.nd (by rfl) (by exact Or.inl rfl) (q0l q0k (q0l q0k (q0l q0k (pv 1) (q0f CF r2 (q1i (pv 2) q0b))) q0r) (q0f CF r2 (q1i (pv 3) q0b)))) (@q1m _ _ _ (q0j (q0l q0k (q0l q0k (q0l q0k (q0l q0k (pv 1) q0r) (q0f CS r3 (q1i (pv 4) q0b))) q0r) (q0f CT r3 (q1i (pv 5) q0b))))))) q0t)
  (@q0x _ _ _ _ _ (q1c (i := 6) x6n.nd (by rfl) (by exact Or.inl rfl) (QE.h (q6g (j9z (q0w q0n (pv 0) q0a q2q) (j9z (q0w q0n (pv 0) q0a q2q) (j9z (q0w q0n (pv 0) q0a q2q) (j4j (q0p q0y (by rfl) T.len PySem.boot_len (q4n (q0w q0n (pv 0) q0a q2q) q0b)) q5k)))))))
  (@q0x _ _ _ _ _ (z0y (i := 6) x6n.nd (by rfl) (by exact Or.inl rfl) (NB := ["_law_number"]) (n := 1) (fr := []) (q5u (outer := q0d q2d) (by rfl) (by decide +kernel) (by rfl)) (by rfl) (q7a (pv 6)) (fun _ _ _ _ _ => q1h (i := 0) (show (["_law_number"] : List Str).Nodup by decide +kernel) (by rfl) (by exact Or.inl rfl)) (fun _ _ _ _ _ => q2t) (fun _ _ _ _ _ => q0f CF r2 (q1i (pv 0) q0b)))
  (@q1m _ _ _ (q0j (q0l q0k (pv 1) (x2x PySem.F.plainAttrs_str PySem.F.slot_str_join PySem.F.type_str_join x7o q0r (q9r (q0l j9l (pv 6) (q3f (NB := ["_law_entry_here"]) (n := 1) (fr := []) (q5u (outer := q0d q2d) (by rfl) (by decide +kernel) (by rfl)) (by rfl) (q7a (q0w q0n (pv 0) q0a q2q)) (fun _ _ _ _ _ => q1h (i := 0) (show (["_law_entry_here"] : List Str).Nodup by decide +kernel) (by rfl) (by exact Or.inl rfl)) (fun _ _ _ _ _ => q2t) (fun _ _ _ _ _ => q0f CE hr (q1i (pv 0) q0b)))) q0b)))))))))))), ?_⟩
 case w1 =>
  rintro D σ H ⟨a, W, x0, x1, x2, vs, rfl, ea, eW, m0, m1, m2, hsl, q⟩
  have e1' : (" " : Str).length = 1 := rfl
  have f0 := q1f (n := x0) (k := 4000) (by decide) m0
  have f1 := q1f (n := x1) (k := 4000) (by decide) m1
  have f2 := q1f (n := x2) (k := 4000) (by decide) m2
  have h3 : ∀ y ∈ [q1g x0, q1g x1, q1g x2], y.length ≤ 4001 := by
   intro y hy
   simp only [List.mem_cons, List.not_mem_nil, or_false] at hy
   rcases hy with rfl | rfl | rfl <;> assumption
  have hJ3 := z0l h3
  have hJ3' : (J [q1g x0, q1g x1, q1g x2]).length ≤ 3 * 4002 := hJ3
  refine ⟨_, rfl, a, _, _, .str W, rfl, rfl, SqT.of ea, q0m (j := 0) rfl, _, _, rfl, rfl, ?_, rfl, _, rfl, _, rfl, _, rfl, a, _, rfl, ea, fun p1 H1 hp1 s1 => ?_⟩
  ·rw [e1', sizeLine_eq]; omega
  rw [hsl] at hp1
  have hT1 : SqT K H1 p1 ([x0, x1, x2].map V.int) := SqT.of hp1
  refine ⟨p1, rfl, ⟨_, hT1⟩, x6y (K := K) (ms := [x0, x1, x2]) hT1 (by show 3 ≤ 1000; decide) (fun _ => true) (fun n => V.str (q1g n)) ?_ ?_⟩
  ·intro i hi t' H3 R s3 ht' hR
   obtain ⟨t0, rfl⟩ := q4v ht'
   have hb : (([x0, x1, x2] : List Int)[i]).natAbs < 10 ^ 4000 := by
    have hm := List.getElem_mem hi
    simp only [List.mem_cons, List.not_mem_nil, or_false] at hm
    rcases hm with e | e | e <;> rw [e] <;> assumption
   exact ⟨_, rfl, _, rfl, hb, hR [some _] H3 rfl (q1a.refl _)⟩
  intro D1 H2 s2' hD hd
  have s2 := s1.trans s2'
  refine ⟨" ", D1, [q1g x0, q1g x1, q1g x2], rfl, rfl, SqL.of hd, x1v (L := 4001) (n := 3) h3 (by show 3 ≤ 3; decide) (by decide), _, _, rfl, rfl, ?_, _, _, rfl, rfl, ?_, ?_⟩
  ·rw [q0e, e1', sizeLine_eq]
   show _ + 1 + (J [q1g x0, q1g x1, q1g x2]).length ≤ _
   omega
  ·rw [q0e, q0e, e1', sizeLine_eq]
   show _ + 1 + (J [q1g x0, q1g x1, q1g x2]).length + 1 ≤ _
   omega
  have hW0 : ((W ++ " " ++ J [q1g x0, q1g x1, q1g x2]) ++ " ").length ≤ 13000 := by
   rw [q0e, q0e, q0e, e1']
   omega
  exact q H2 s2 hW0
 have hb : q2g q2l d = true := (Bool.and_eq_true _ _ |>.mp hp).1
 have hwid := (I.mono hB (q1a.refl _)).wid
 have hok := x5n (B := 200) (by decide) d hb hwid
 cases x3j hb with
 | ask x0 x1 x2 x3 x4 =>
  cases I with
  | @tup a xs _ ea l r =>
  obtain ⟨w0, _, rfl, z0, rr0⟩ := IsL.un r
  obtain rfl := Is.vstr z0
  obtain ⟨w1, _, rfl, z1, rr1⟩ := IsL.un rr0
  obtain rfl := Is.vint z1
  obtain ⟨w2, _, rfl, z2, rr2⟩ := IsL.un rr1
  obtain rfl := Is.vint z2
  obtain ⟨w3, _, rfl, z3, rr3⟩ := IsL.un rr2
  obtain rfl := Is.vint z3
  obtain ⟨w4, _, rfl, z4, rr4⟩ := IsL.un rr3
  obtain rfl := Is.vint z4
  obtain ⟨w5, _, rfl, z5, rr5⟩ := IsL.un rr4
  obtain rfl := Is.vint z5
  obtain rfl := IsL.un0 rr5
  simp only [q1x, smallL, Bool.true_and, Bool.and_true, Bool.and_eq_true, decide_eq_true_eq] at hs
  obtain ⟨m0, m1, m2, m3, m4⟩ := hs
  have e1' : (" " : Str).length = 1 := rfl
  refine ⟨a, "ask", x0, x1, x2, _, rfl, ea, by decide +kernel, m0, m1, m2, by rfl, fun H2 s2 hW0 => ?_⟩
  refine ⟨_, rfl, a, _, _, .str "ask", rfl, rfl, SqT.of (s2 _ _ ea), q0m (j := 0) rfl, rfl, _, rfl, ?_⟩
  rw [(show decide (V.str ("ask" : Str) = V.str ("ask" : Str)) = true from by decide +kernel)]
  have f3 := q1f (n := x3) (k := 4000) (by decide) m3
  have f4 := q1f (n := x4) (k := 4000) (by decide) m4
  refine q1o ⟨_, rfl, _, rfl, a, _, _, .int x3, rfl, rfl, SqT.of (s2 _ _ ea), q0m (j := 4) rfl, x3, rfl, m3, _, _, rfl, rfl, ?_, _, _, rfl, rfl, ?_, _, rfl, a, _, _, .int x4, rfl, rfl, SqT.of (s2 _ _ ea), q0m (j := 5) rfl, x4, rfl, m4, _, _, rfl, rfl, ?_, ?_⟩
  ·refine Nat.le_trans (Nat.add_le_add hW0 f3) ?_
   rw [sizeLine_eq]; decide
  ·rw [q0e, e1']
   refine Nat.le_trans (Nat.add_le_add_right (Nat.add_le_add hW0 f3) 1) ?_
   rw [sizeLine_eq]; decide
  ·rw [q0e, q0e, e1']
   refine Nat.le_trans (Nat.add_le_add (Nat.add_le_add_right (Nat.add_le_add hW0 f3) 1) f4) ?_
   rw [sizeLine_eq]; decide
  ·have q' := q H2 s2
   rw [show q2k (.tup [.str "ask", .int x0, .int x1, .int x2, .int x3, .int x4]) = [("ask" : Str), q1g x0, q1g x1, q1g x2, q1g x3, q1g x4] from rfl] at q'
   rw [← w0t] at q'
   exact q'
 | voice x0 x1 x2 x3 =>
  cases I with
  | @tup a xs _ ea l r =>
  obtain ⟨w0, _, rfl, z0, rr0⟩ := IsL.un r
  obtain rfl := Is.vstr z0
  obtain ⟨w1, _, rfl, z1, rr1⟩ := IsL.un rr0
  obtain rfl := Is.vint z1
  obtain ⟨w2, _, rfl, z2, rr2⟩ := IsL.un rr1
  obtain rfl := Is.vint z2
  obtain ⟨w3, _, rfl, z3, rr3⟩ := IsL.un rr2
  obtain rfl := Is.vint z3
  obtain ⟨w4, _, rfl, z4, rr4⟩ := IsL.un rr3
  obtain rfl := Is.vbl z4
  obtain rfl := IsL.un0 rr4
  simp only [q1x, smallL, Bool.true_and, Bool.and_true, Bool.and_eq_true, decide_eq_true_eq] at hs
  obtain ⟨m0, m1, m2⟩ := hs
  have e1' : (" " : Str).length = 1 := rfl
  refine ⟨a, "voice", x0, x1, x2, _, rfl, ea, by decide +kernel, m0, m1, m2, by rfl, fun H2 s2 hW0 => ?_⟩
  refine ⟨_, rfl, a, _, _, .str "voice", rfl, rfl, SqT.of (s2 _ _ ea), q0m (j := 0) rfl, rfl, _, rfl, ?_⟩
  rw [(show decide (V.str ("voice" : Str) = V.str ("ask" : Str)) = false from by decide +kernel)]
  refine q0z ⟨_, rfl, a, _, _, .str "voice", rfl, rfl, SqT.of (s2 _ _ ea), q0m (j := 0) rfl, rfl, _, rfl, ?_⟩
  rw [(show decide (V.str ("voice" : Str) = V.str ("voice" : Str)) = true from by decide +kernel)]
  refine q1o ⟨_, rfl, q4m (by show 2 ≤ 1000; decide), fun py hpy => ?_⟩
  have s3 := q0i (o := HO.lst [V.str "no", V.str "yes"]) hpy
  have s23 := s2.trans s3
  have hyn : atI [V.str "no", V.str "yes"] (if x3 then 1 else 0) = some (V.str (if x3 then "yes" else "no")) := by cases x3 <;> rfl
  have lyn : ((if x3 then "yes" else "no" : Str)).length ≤ 3 := by cases x3 <;> decide +kernel
  refine ⟨_, rfl, a, _, _, .bl x3, rfl, rfl, SqT.of (s23 _ _ ea), q0m (j := 4) rfl, .inr ⟨x3, rfl, py, _, _, _, rfl, rfl, SqL.of q0g, hyn, _, _, rfl, rfl, ?_, ?_⟩⟩
  ·refine Nat.le_trans (Nat.add_le_add hW0 lyn) ?_
   rw [sizeLine_eq]; decide
  ·have q' := q _ s23
   rw [show q2k (.tup [.str "voice", .int x0, .int x1, .int x2, .bl x3]) = [("voice" : Str), q1g x0, q1g x1, q1g x2, if x3 then "yes" else "no"] from rfl] at q'
   rw [← w5y] at q'
   exact q'
 | held x0 x1 x2 x3 x4 =>
  cases I with
  | @tup a xs _ ea l r =>
  obtain ⟨w0, _, rfl, z0, rr0⟩ := IsL.un r
  obtain rfl := Is.vstr z0
  obtain ⟨w1, _, rfl, z1, rr1⟩ := IsL.un rr0
  obtain rfl := Is.vint z1
  obtain ⟨w2, _, rfl, z2, rr2⟩ := IsL.un rr1
  obtain rfl := Is.vint z2
  obtain ⟨w3, _, rfl, z3, rr3⟩ := IsL.un rr2
  obtain rfl := Is.vint z3
  obtain ⟨w4, _, rfl, z4, rr4⟩ := IsL.un rr3
  obtain rfl := Is.vbl z4
  obtain ⟨w5, _, rfl, z5, rr5⟩ := IsL.un rr4
  obtain rfl := Is.vint z5
  obtain rfl := IsL.un0 rr5
  simp only [q1x, smallL, Bool.true_and, Bool.and_true, Bool.and_eq_true, decide_eq_true_eq] at hs
  obtain ⟨m0, m1, m2, m4⟩ := hs
  have e1' : (" " : Str).length = 1 := rfl
  refine ⟨a, "held", x0, x1, x2, _, rfl, ea, by decide +kernel, m0, m1, m2, by rfl, fun H2 s2 hW0 => ?_⟩
  refine ⟨_, rfl, a, _, _, .str "held", rfl, rfl, SqT.of (s2 _ _ ea), q0m (j := 0) rfl, rfl, _, rfl, ?_⟩
  rw [(show decide (V.str ("held" : Str) = V.str ("ask" : Str)) = false from by decide +kernel)]
  refine q0z ⟨_, rfl, a, _, _, .str "held", rfl, rfl, SqT.of (s2 _ _ ea), q0m (j := 0) rfl, rfl, _, rfl, ?_⟩
  rw [(show decide (V.str ("held" : Str) = V.str ("voice" : Str)) = false from by decide +kernel)]
  refine q0z ⟨_, rfl, a, _, _, .str "held", rfl, rfl, SqT.of (s2 _ _ ea), q0m (j := 0) rfl, rfl, _, rfl, ?_⟩
  rw [(show decide (V.str ("held" : Str) = V.str ("held" : Str)) = true from by decide +kernel)]
  have f4 := q1f (n := x4) (k := 4000) (by decide) m4
  refine q1o ⟨_, rfl, q4m (by show 2 ≤ 1000; decide), fun py hpy => ?_⟩
  have s3 := q0i (o := HO.lst [V.str "no", V.str "yes"]) hpy
  have s23 := s2.trans s3
  have hyn : atI [V.str "no", V.str "yes"] (if x3 then 1 else 0) = some (V.str (if x3 then "yes" else "no")) := by cases x3 <;> rfl
  have lyn : ((if x3 then "yes" else "no" : Str)).length ≤ 3 := by cases x3 <;> decide +kernel
  refine ⟨_, rfl, a, _, _, .bl x3, rfl, rfl, SqT.of (s23 _ _ ea), q0m (j := 4) rfl, .inr ⟨x3, rfl, py, _, _, _, rfl, rfl, SqL.of q0g, hyn, _, _, rfl, rfl, ?_, _, _, rfl, rfl, ?_, _, rfl, a, _, _, .int x4, rfl, rfl, SqT.of (s23 _ _ ea), q0m (j := 5) rfl, x4, rfl, m4, _, _, rfl, rfl, ?_, ?_⟩⟩
  ·refine Nat.le_trans (Nat.add_le_add hW0 lyn) ?_
   rw [sizeLine_eq]; decide
  ·rw [q0e, e1']
   refine Nat.le_trans (Nat.add_le_add_right (Nat.add_le_add hW0 lyn) 1) ?_
   rw [sizeLine_eq]; decide
  ·rw [q0e, q0e, e1']
   refine Nat.le_trans (Nat.add_le_add (Nat.add_le_add_right (Nat.add_le_add hW0 lyn) 1) f4) ?_
   rw [sizeLine_eq]; decide
  ·have q' := q _ s23
   rw [show q2k (.tup [.str "held", .int x0, .int x1, .int x2, .bl x3, .int x4]) = [("held" : Str), q1g x0, q1g x1, q1g x2, if x3 then "yes" else "no", q1g x4] from rfl] at q'
   rw [← w0t] at q'
   exact q'
 | pack x0 x1 x2 x3 hpk =>
  cases I with
  | @tup a xs _ ea l r =>
  obtain ⟨w0, _, rfl, z0, rr0⟩ := IsL.un r
  obtain rfl := Is.vstr z0
  obtain ⟨w1, _, rfl, z1, rr1⟩ := IsL.un rr0
  obtain rfl := Is.vint z1
  obtain ⟨w2, _, rfl, z2, rr2⟩ := IsL.un rr1
  obtain rfl := Is.vint z2
  obtain ⟨w3, _, rfl, z3, rr3⟩ := IsL.un rr2
  obtain rfl := Is.vint z3
  obtain ⟨vk, _, rfl, ik, rr4⟩ := IsL.un rr3
  obtain rfl := IsL.un0 rr4
  simp only [q1x, smallL, Bool.true_and, Bool.and_true, Bool.and_eq_true, decide_eq_true_eq] at hs
  obtain ⟨m0, m1, m2, m3⟩ := hs
  have e1' : (" " : Str).length = 1 := rfl
  refine ⟨a, "pack", x0, x1, x2, _, rfl, ea, by decide +kernel, m0, m1, m2, by rfl, fun H2 s2 hW0 => ?_⟩
  obtain ⟨pp, ll, sd, st, rfl, hsd, hst⟩ := z4y hpk
  clear hpk
  simp only [q1x, smallL, Bool.true_and, Bool.and_true, Bool.and_eq_true, decide_eq_true_eq] at m3
  obtain ⟨m3, m4, m5, m6⟩ := m3
  cases ik with
  | @tup ak ks _ ek lk rk =>
  obtain ⟨w0, _, rfl, z0, rr0⟩ := IsL.un rk
  obtain rfl := Is.vint z0
  obtain ⟨w1, _, rfl, z1, rr1⟩ := IsL.un rr0
  obtain rfl := Is.vint z1
  obtain ⟨vsd, _, rfl, isd, rr2⟩ := IsL.un rr1
  obtain ⟨vst, _, rfl, ist, rr3⟩ := IsL.un rr2
  obtain rfl := IsL.un0 rr3
  refine ⟨_, rfl, a, _, _, .str "pack", rfl, rfl, SqT.of (s2 _ _ ea), q0m (j := 0) rfl, rfl, _, rfl, ?_⟩
  rw [(show decide (V.str ("pack" : Str) = V.str ("ask" : Str)) = false from by decide +kernel)]
  refine q0z ⟨_, rfl, a, _, _, .str "pack", rfl, rfl, SqT.of (s2 _ _ ea), q0m (j := 0) rfl, rfl, _, rfl, ?_⟩
  rw [(show decide (V.str ("pack" : Str) = V.str ("voice" : Str)) = false from by decide +kernel)]
  refine q0z ⟨_, rfl, a, _, _, .str "pack", rfl, rfl, SqT.of (s2 _ _ ea), q0m (j := 0) rfl, rfl, _, rfl, ?_⟩
  rw [(show decide (V.str ("pack" : Str) = V.str ("held" : Str)) = false from by decide +kernel)]
  refine q0z ⟨_, rfl, a, _, _, .str "pack", rfl, rfl, SqT.of (s2 _ _ ea), q0m (j := 0) rfl, rfl, _, rfl, ?_⟩
  rw [(show decide (V.str ("pack" : Str) = V.str ("pack" : Str)) = true from by decide +kernel)]
  have f3 := q1f (n := pp) (k := 4000) (by decide) m3
  have f4 := q1f (n := ll) (k := 4000) (by decide) m4
  have gs := (q8x (B := 200) sd hsd (isd.mono hB (q1a.refl _)).wid).text (by rw [smallL, m5]; rfl)
  have gt := (x9z (B := 200) (by decide) st hst (ist.mono hB (q1a.refl _)).wid).text (by rw [smallL, m6]; rfl)
  have hW1 : ((((("pack" : Str) ++ " " ++ J [q1g x0, q1g x1, q1g x2]) ++ " ") ++ q1g pp ++ " ") ++ q1g ll).length ≤ 22000 := by
   rw [q0e, q0e, q0e, e1']
   exact Nat.le_trans (Nat.add_le_add (Nat.add_le_add_right (Nat.add_le_add hW0 f3) 1) f4) (by decide)
  refine q1o ⟨_, rfl, a, _, _, .ref ak, rfl, rfl, SqT.of (s2 _ _ ea), q0m (j := 4) rfl, ak, _, rfl, SqT.of (s2 _ _ ek), rfl, _, _, rfl, _, _, rfl, _, _, rfl, _, _, rfl, rfl, ?_⟩
  refine ⟨_, rfl, _, rfl, pp, rfl, m3, _, _, rfl, rfl, ?_, _, _, rfl, rfl, ?_, _, rfl, ll, rfl, m4, _, _, rfl, rfl, ?_, ?_⟩
  ·exact Nat.le_trans (Nat.add_le_add hW0 f3) (by rw [sizeLine_eq]; decide)
  ·rw [q0e, e1']
   exact Nat.le_trans (Nat.add_le_add_right (Nat.add_le_add hW0 f3) 1) (by rw [sizeLine_eq]; decide)
  ·rw [q0e, q0e, e1']
   exact Nat.le_trans (Nat.add_le_add (Nat.add_le_add_right (Nat.add_le_add hW0 f3) 1) f4) (by rw [sizeLine_eq]; decide)
  refine ⟨_, rfl, _, _, rfl, rfl, ?_, _, rfl, B, vsd, sd, hB, rfl, isd.same s2, hsd, m5, fun H3 s3 => ⟨_, _, rfl, rfl, ?_, _, _, rfl, rfl, ?_, _, rfl, B, vst, st, hB, rfl, ist.same (s2.trans s3), hst, m6, fun H4 s4 => ⟨_, _, rfl, rfl, ?_, ?_⟩⟩⟩
  ·rw [e1']
   exact Nat.le_trans (Nat.add_le_add_right hW1 1) (by rw [sizeLine_eq]; decide)
  ·rw [q0e, e1']
   exact Nat.le_trans (Nat.add_le_add (Nat.add_le_add_right hW1 1) gs) (by rw [sizeLine_eq]; decide)
  ·rw [q0e, q0e, e1']
   exact Nat.le_trans (Nat.add_le_add_right (Nat.add_le_add (Nat.add_le_add_right hW1 1) gs) 1) (by rw [sizeLine_eq]; decide)
  ·rw [q0e, q0e, q0e, e1']
   exact Nat.le_trans (Nat.add_le_add (Nat.add_le_add_right (Nat.add_le_add (Nat.add_le_add_right hW1 1) gs) 1) gt) (by rw [sizeLine_eq]; decide)
  ·have q' := q H4 ((s2.trans s3).trans s4)
   have ew : q2k (.tup [.str "pack", .int x0, .int x1, .int x2, .tup [.int pp, .int ll, sd, st]]) = ([("pack" : Str), q1g x0, q1g x1, q1g x2, q1g pp, q1g ll] ++ q4t sd) ++ x0a st := by
    show ("pack" : Str) :: q1g x0 :: q1g x1 :: q1g x2 :: ((q1g pp :: q1g ll :: (q4t sd ++ (x0a st ++ []))) ++ []) = _
    simp only [List.append_nil, List.append_assoc, List.cons_append, List.nil_append]
   rw [ew, ← w4x _ _ _ _ _ _ (x9l hsd) (z8f hst)] at q'
   exact q'
 | hand x0 x1 x2 x3 x4 x5 x6 h5 =>
  cases I with
  | @tup a xs _ ea l r =>
  cases r with | cons i0 r =>
  cases r with | cons i1 r =>
  cases r with | cons i2 r =>
  cases r with | cons i3 r =>
  cases r with | cons i4 r =>
  cases r with | cons i5 r =>
  cases r with | cons i6 r =>
  cases r with | cons i7 r =>
  cases r
  cases i0
  cases i1
  cases i2
  cases i3
  cases i4
  cases i5
  cases i7
  have ie := i6
  clear i6
  simp only [q1x, smallL, Bool.true_and, Bool.and_true, Bool.and_eq_true, decide_eq_true_eq] at hs
  obtain ⟨m0, m1, m2, m3, m4, m5, m6⟩ := hs
  have e1' : (" " : Str).length = 1 := rfl
  refine ⟨a, "hand", x0, x1, x2, _, rfl, ea, by decide +kernel, m0, m1, m2, by rfl, fun H2 s2 hW0 => ?_⟩
  obtain ⟨es, rfl, hes⟩ := x2p h5
  have hel : es.length ≤ 5 := of_decide_eq_true (Bool.and_eq_true _ _ |>.mp h5).2
  clear h5
  cases ie with
  | @tup av ys _ ev lv rv =>
  have hyl : ys.length = es.length := rv.length
  refine ⟨_, rfl, a, _, _, .str "hand", rfl, rfl, SqT.of (s2 _ _ ea), q0m (j := 0) rfl, rfl, _, rfl, ?_⟩
  rw [(show decide (V.str ("hand" : Str) = V.str ("ask" : Str)) = false from by decide +kernel)]
  refine q0z ⟨_, rfl, a, _, _, .str "hand", rfl, rfl, SqT.of (s2 _ _ ea), q0m (j := 0) rfl, rfl, _, rfl, ?_⟩
  rw [(show decide (V.str ("hand" : Str) = V.str ("voice" : Str)) = false from by decide +kernel)]
  refine q0z ⟨_, rfl, a, _, _, .str "hand", rfl, rfl, SqT.of (s2 _ _ ea), q0m (j := 0) rfl, rfl, _, rfl, ?_⟩
  rw [(show decide (V.str ("hand" : Str) = V.str ("held" : Str)) = false from by decide +kernel)]
  refine q0z ⟨_, rfl, a, _, _, .str "hand", rfl, rfl, SqT.of (s2 _ _ ea), q0m (j := 0) rfl, rfl, _, rfl, ?_⟩
  rw [(show decide (V.str ("hand" : Str) = V.str ("pack" : Str)) = false from by decide +kernel)]
  refine q0z ⟨_, rfl, a, _, _, .int x3, rfl, rfl, SqT.of (s2 _ _ ea), q0m (j := 4) rfl, _, rfl, a, _, _, .int x4, rfl, rfl, SqT.of (s2 _ _ ea), q0m (j := 5) rfl, _, rfl, a, _, _, .int x6, rfl, rfl, SqT.of (s2 _ _ ea), q0m (j := 7) rfl, _, rfl, a, _, _, .ref av, rfl, rfl, SqT.of (s2 _ _ ea), q0m (j := 6) rfl, av, _, rfl, .inr (SqT.of (s2 _ _ ev)), q4m (by show 4 ≤ 1000; decide), fun p2 hp2 => ?_⟩
  have s3 := q0i (o := HO.tup [V.int x3, V.int x4, V.int x6, V.int (ys.length : Nat)]) hp2
  have s23 := s2.trans s3
  have hlen4 : ((ys.length : Int)).natAbs < 10 ^ 4000 := by
   have h5' : (10 : Nat) ^ 1 ≤ 10 ^ 4000 := Nat.pow_le_pow_right (by decide) (by decide)
   rw [Int.natAbs_natCast]
   exact Nat.lt_of_lt_of_le (by omega) h5'
  have hT2 : SqT K (upd H2 p2 (HO.tup [V.int x3, V.int x4, V.int x6, V.int (ys.length : Nat)])) p2 ([x3, x4, x6, (ys.length : Int)].map V.int) := SqT.of q0g
  refine ⟨_, rfl, p2, rfl, ⟨_, hT2⟩, x6y (K := K) (ms := [x3, x4, x6, (ys.length : Int)]) hT2 (by show 4 ≤ 1000; decide) (fun _ => true) (fun n => V.str (q1g n)) ?_ ?_⟩
  ·intro i hi t' H3 R s3 ht' hR
   obtain ⟨t0, rfl⟩ := q4v ht'
   have hb : (([x3, x4, x6, (ys.length : Int)] : List Int)[i]).natAbs < 10 ^ 4000 := by
    have hm := List.getElem_mem hi
    simp only [List.mem_cons, List.not_mem_nil, or_false] at hm
    rcases hm with e | e | e | e <;> rw [e] <;> assumption
   exact ⟨_, rfl, _, rfl, hb, hR [some _] H3 rfl (q1a.refl _)⟩
  intro D2 H4 s4 hD2 hd2
  have sA := s23.trans s4
  have hTv : SqT K H4 av ys := SqT.of (sA _ _ ev)
  have hsm := q2j.mp (show smallL 4000 es = true from m5)
  refine ⟨_, rfl, rfl, _, rfl, _, rfl, a, _, _, .ref av, rfl, rfl, SqT.of (sA _ _ ea), q0m (j := 6) rfl, av, rfl, ⟨_, hTv⟩, j6o (K := K) hTv (rv.same sA) (by omega) (fun d => V.str (J (q4f d))) ?_ ?_⟩
  ·intro v d hd' I' t' H5 R s5 ht' hR
   obtain ⟨t0, rfl⟩ := q4v ht'
   exact ⟨_, rfl, B, v, d, hB, rfl, I'.same s5, List.all_eq_true.mp hes d hd', hsm d hd', fun H6 s6 => hR [some _] H6 rfl s6⟩
  intro D3 H5 s5 hD3 hd3
  have sB := sA.trans s5
  have hx : ∀ d ∈ es, (J (q4f d)).length ≤ 100000 ∧ q4f d ≠ [] := by
   intro d hd'
   obtain ⟨i, hi⟩ := List.getElem?_of_mem hd'
   have hiy : i < ys.length := by
    have := (List.getElem?_eq_some_iff.mp hi).1
    omega
   obtain ⟨d2, hd2', I2⟩ := rv.get (List.getElem?_eq_getElem hiy)
   rw [hi] at hd2'
   cases hd2'
   exact z4m hB I2 (List.all_eq_true.mp hes d hd') (hsm d hd')
  have hJw : ∀ y ∈ ([x3, x4, x6, (ys.length : Int)].map q1g) ++ es.map (fun d => J (q4f d)), y.length ≤ 100000 := by
   intro y hy
   rcases List.mem_append.mp hy with hy | hy
   ·obtain ⟨n, hn, rfl⟩ := List.mem_map.mp hy
    refine Nat.le_trans (q1f (n := n) (k := 4000) (by decide) ?_) (by decide)
    simp only [List.mem_cons, List.not_mem_nil, or_false] at hn
    rcases hn with e | e | e | e <;> rw [e] <;> assumption
   ·obtain ⟨d, hd', rfl⟩ := List.mem_map.mp hy
    exact (hx d hd').1
  have hJl : (([x3, x4, x6, (ys.length : Int)].map q1g) ++ es.map (fun d => J (q4f d))).length ≤ 9 := by
   rw [List.length_append, List.length_map, List.length_map]
   show 4 + es.length ≤ 9
   omega
  refine ⟨D2, D3, [x3, x4, x6, (ys.length : Int)].map fun n => V.str (q1g n), es.map fun d => V.str (J (q4f d)), rfl, rfl, (s5 _ _ hd2).trans (by rw [List.filter_eq_self.mpr (fun _ _ => rfl)]), hd3, q4m (by rw [List.length_map, List.length_map]; show 4 + es.length ≤ 1000; omega), fun p6 hp6 => ?_⟩
  have s6 := q0i (H := H5) (p := p6) (o := HO.lst (([x3, x4, x6, (ys.length : Int)].map fun n => V.str (q1g n)) ++ es.map fun d => V.str (J (q4f d)))) hp6
  refine ⟨" ", p6, ([x3, x4, x6, (ys.length : Int)].map q1g) ++ es.map (fun d => J (q4f d)), rfl, rfl, SqL.of (q0g.trans (by rw [List.map_append, List.map_map, List.map_map]; rfl)), x1v (L := 100000) (n := 9) hJw hJl (by decide), _, _, rfl, rfl, ?_, ?_⟩
  ·refine Nat.le_trans (Nat.add_le_add hW0 (Nat.le_trans (z0l hJw) (Nat.mul_le_mul_right _ hJl))) ?_
   rw [sizeLine_eq]; decide
  ·have q' := q _ (sB.trans s6)
   have ew : q2k (.tup [.str "hand", .int x0, .int x1, .int x2, .int x3, .int x4, .tup es, .int x6]) = [("hand" : Str), q1g x0, q1g x1, q1g x2] ++ (([x3, x4, x6, (ys.length : Int)].map q1g) ++ es.flatMap q4f) := by
    show ("hand" : Str) :: q1g x0 :: q1g x1 :: q1g x2 :: q1g x3 :: q1g x4 :: q1g x6 :: ((q1g (es.length : Int) :: es.flatMap q4f) ++ []) = _
    rw [List.append_nil, hyl]
    rfl
   rw [ew, w5h _ _ _ _ (by simp), ← z6t (by simp) (fun d hd' => (hx d hd').2)] at q'
   exact q'
 | wish x0 x1 x2 x3 h0 h3 =>
  have hp2 : (["ask", "voice", "hand", "pack", "held"] : List Str).contains ("wish" : Str) = true := (Bool.and_eq_true _ _ |>.mp hp).2
  exact absurd hp2 (by decide +kernel)
 | told x0 x1 x2 x3 h1 =>
  have hp2 : (["ask", "voice", "hand", "pack", "held"] : List Str).contains ("told" : Str) = true := (Bool.and_eq_true _ _ |>.mp hp).2
  exact absurd hp2 (by decide +kernel)
 | away x0 x1 x2 x3 h1 h3 =>
  have hp2 : (["ask", "voice", "hand", "pack", "held"] : List Str).contains ("away" : Str) = true := (Bool.and_eq_true _ _ |>.mp hp).2
  exact absurd hp2 (by decide +kernel)
end
theorem j0m {B : Nat} {H : Hp} {v : V} {W : Str} {ds : List D} (I : Is B H v (.tup (.str W :: ds))) : ∃ a xs, v = .ref a ∧ H a = some (.tup (.str W :: xs)) := by
 cases I with
 | tup e l r => cases r with | cons h t => cases h; exact ⟨_, _, rfl, e⟩
theorem w3m {x0 : Str} {x1 x2 : Int} {x3 : D} (h : q6q x3 ≠ []) : J (q2k (.tup [.str "wish", .str x0, .int x1, .int x2, x3])) = "wish " ++ x0 ++ " " ++ (q1g x1 ++ " " ++ q1g x2) ++ " " ++ J (q6q x3) := by
 have e : q2k (.tup [.str "wish", .str x0, .int x1, .int x2, x3]) = [("wish" : Str), x0, q1g x1, q1g x2] ++ q6q x3 := by
  show ("wish" : Str) :: x0 :: q1g x1 :: q1g x2 :: (q6q x3 ++ []) = _
  rw [List.append_nil]
  rfl
 have e2 : ("wish " : Str) = "wish" ++ " " := by decide +kernel
 rw [e, x2w (by simp) h, e2]
 simp only [x2h, x3z, x1g]
theorem j7a (W f0 f1 f2 f3 : Str) : J [W, f0, f1, f2, f3] = W ++ " " ++ f0 ++ " " ++ f1 ++ " " ++ f2 ++ " " ++ f3 := by simp only [x2h, x3z, x1g]
section
variable {P : Program} {w : World} {K : PySem.W.Frag} {mg : Str → Option Value} {base : Heap}
theorem j1l : FnScope ["_law_letter_here", "_law_numbers", "_law_words"] ["_law_letter_here"] (q0d q6s) := fSc
theorem z5c {f : Addr} {fd : FuncData} (F : Fun K "_law_text_of" "_law_text_of" q6s f fd) (CF : Cal P w K mg base "_law_figures" 2 ["_law_number"] z0n) (CD : Cal P w K mg base "_law_deed_words" 3 ["_law_deed_here"] (spT q5j q6q)) (CB : Cal P w K mg base "_law_text_between" 5 ["_law_letter_here"] (spT j9x q2k)) : FnOk P w K mg base CX0 6 f fd ["_law_letter_here"] (spT (q2g q2l) q2k) := by
 refine F.ok j1l x2c (fun cdv A outer s H vs Q E hr h => ?_)
 obtain ⟨B, v, d, hB, rfl, I, hp, hs, q⟩ := h
 have r2 := hr.mono (show 2 ≤ 5 by decide)
 have r3 := hr.mono (show 3 ≤ 5 by decide)
 refine ⟨_, (@q0x _ _ _ _ _ (q1q (q0s q2a (q0w q0n (pv 0) q0a q2q) q0r (q0q _)) (@q0x _ _ _ _ _ (q1c (i := 1) j1l.nd (by rfl) (by exact Or.inl rfl) (q0l q0k (q0l q0k (q0f CF r2 (q4n (q0w q0n (pv 0) q0a q2q) q0b)) q0r) (q0f CF r2 (q4n (q0w q0n (pv 0) q0a q2q) q0b)))) (@q1m _ _ _ (q0j (q0l q0k (q0l q0k (q0l q0k (q0l q0k (q0l q0k q0r (q0w q0n (pv 0) q0a q2q)) q0r) (pv 1)) q0r) (q0f CD r3 (q4n (q0w q0n (pv 0) q0a q2q) q0b)))))) q0t)
  (@q0x _ _ _ _ _ (q1q (q0s q6i (q0w q0n (pv 0) q0a q2q) (QE.h (q6g (q2u (q2u q5k)))) rfl) (@q1m _ _ _ (q0j (q0f CB hr (q1i (pv 0) q0b)))) q0t)
  (@q0x _ _ _ _ _ (q1c (i := 2) j1l.nd (by rfl) (by exact Or.inl rfl) (q0l q0k (q0l q0k (q0l q0k (q0l q0k (q0l q0k (q0w q0n (pv 0) q0a q2q) q0r) (q0f CF r2 (q4n (q0w q0n (pv 0) q0a q2q) q0b))) q0r) (q0w q0n (pv 0) q0a q2q)) q0r))
  (@q0x _ _ _ _ _ (q1c (i := 2) j1l.nd (by rfl) (by exact Or.inl rfl) (q0l q0k (q0l q0k (pv 2) (q0f CF r2 (q4n (q0w q0n (pv 0) q0a q2q) q0b))) q0r))
  (@q0x _ _ _ _ _ (q1q (q0s z2b (q0w q0n (pv 0) q0a q2q) x2r (q0q _)) (@q1m _ _ _ (q0j (q0l q0k (pv 2) q0r))) q0t)
  (@q1m _ _ _ (q0j (q0l q0k (pv 2) (q0f CF r2 (q4n (q0w q0n (pv 0) q0a q2q) q0b)))))))))), ?_⟩
 have hb : q2g q2l d = true := hp
 have hwid := (I.mono hB (q1a.refl _)).wid
 have e1' : (" " : Str).length = 1 := rfl
 have e4' : ("none" : Str).length = 4 := rfl
 have e5' : ("wish " : Str).length = 5 := rfl
 by_cases hf : (["ask", "voice", "hand", "pack", "held"] : List Str).contains (q1l d) = true
 ·have hbt : j9x d = true := by unfold j9x; rw [hb, hf]; rfl
  obtain ⟨x, r, ps, rfl, e, _⟩ := q2r hb
  obtain ⟨a, xs, rfl, ea⟩ := j0m I
  have hx : x ∈ (["ask", "voice", "hand", "pack", "held"] : List Str) := List.contains_iff_mem.mp hf
  have n1 : decide (V.str x = V.str ("wish" : Str)) = false := by
   simp only [List.mem_cons, List.not_mem_nil, or_false] at hx
   rcases hx with rfl | rfl | rfl | rfl | rfl <;> decide +kernel
  have n2 : ¬ x ∈ (["told", "away"] : List Str) := by
   simp only [List.mem_cons, List.not_mem_nil, or_false] at hx
   rcases hx with rfl | rfl | rfl | rfl | rfl <;> decide +kernel
  refine ⟨_, rfl, a, _, _, .str x, rfl, rfl, SqT.of ea, q0m (j := 0) rfl, rfl, _, rfl, ?_⟩
  rw [n1]
  refine q0z ⟨_, rfl, a, _, _, .str x, rfl, rfl, SqT.of ea, q0m (j := 0) rfl, q4m (by show 2 ≤ 1000; decide), fun p hp' => ⟨p, _, rfl, .inr (SqT.of q0g), rfl, rfl, _, rfl, ?_⟩⟩
  have s1 := q0i (o := HO.tup ((["told", "away"] : List Str).map V.str)) hp'
  show if (!inV (V.str x) ((["told", "away"] : List Str).map V.str)) = true then _ else _
  rw [q7o, decide_eq_false n2]
  exact q1o ⟨_, rfl, B, _, _, hB, rfl, I.same s1, hbt, hs, fun H' s' => q H' (s1.trans s')⟩
 cases x3j hb with
 | ask x0 x1 x2 x3 x4 => exact absurd (show (["ask", "voice", "hand", "pack", "held"] : List Str).contains ("ask" : Str) = true from by decide +kernel) hf
 | voice x0 x1 x2 x3 => exact absurd (show (["ask", "voice", "hand", "pack", "held"] : List Str).contains ("voice" : Str) = true from by decide +kernel) hf
 | hand x0 x1 x2 x3 x4 x5 x6 h5 => exact absurd (show (["ask", "voice", "hand", "pack", "held"] : List Str).contains ("hand" : Str) = true from by decide +kernel) hf
 | pack x0 x1 x2 x3 h3 => exact absurd (show (["ask", "voice", "hand", "pack", "held"] : List Str).contains ("pack" : Str) = true from by decide +kernel) hf
 | held x0 x1 x2 x3 x4 => exact absurd (show (["ask", "voice", "hand", "pack", "held"] : List Str).contains ("held" : Str) = true from by decide +kernel) hf
 | wish x0 x1 x2 x3 h0 h3 =>
  cases I with
  | @tup a xs _ ea l r =>
  obtain ⟨w0, _, rfl, z0, rr0⟩ := IsL.un r
  obtain rfl := Is.vstr z0
  obtain ⟨w1, _, rfl, z1, rr1⟩ := IsL.un rr0
  obtain rfl := Is.vstr z1
  obtain ⟨w2, _, rfl, z2, rr2⟩ := IsL.un rr1
  obtain rfl := Is.vint z2
  obtain ⟨w3, _, rfl, z3, rr3⟩ := IsL.un rr2
  obtain rfl := Is.vint z3
  obtain ⟨ve, _, rfl, ie, rr4⟩ := IsL.un rr3
  obtain rfl := IsL.un0 rr4
  simp only [q1x, smallL, Bool.true_and, Bool.and_true, Bool.and_eq_true, decide_eq_true_eq] at hs
  have f1 := q1f (n := x1) (k := 4000) (by decide) hs.1
  have f2 := q1f (n := x2) (k := 4000) (by decide) hs.2.1
  have hxl := q6u h0
  have fd := (x3b (B := 200) x3 h3 (ie.mono hB (q1a.refl _)).wid).text (by rw [smallL, hs.2.2]; rfl)
  refine ⟨_, rfl, a, _, _, .str "wish", rfl, rfl, SqT.of ea, q0m (j := 0) rfl, rfl, _, rfl, ?_⟩
  rw [(show decide (V.str ("wish" : Str) = V.str ("wish" : Str)) = true from by decide +kernel)]
  refine q1o ⟨_, rfl, a, _, _, .int x1, rfl, rfl, SqT.of ea, q0m (j := 2) rfl, x1, rfl, hs.1, _, _, rfl, rfl, ?_, _, rfl, a, _, _, .int x2, rfl, rfl, SqT.of ea, q0m (j := 3) rfl, x2, rfl, hs.2.1, _, _, rfl, rfl, ?_, ?_⟩
  ·simp only [q0e, e1', e4', e5']
   rw [sizeLine_eq]
   clear hs
   omega
  ·simp only [q0e, e1', e4', e5']
   rw [sizeLine_eq]
   clear hs
   omega
  refine ⟨_, rfl, a, _, _, .str x0, rfl, rfl, SqT.of ea, q0m (j := 1) rfl, _, _, rfl, rfl, ?_, _, _, rfl, rfl, ?_, _, rfl, _, _, rfl, rfl, ?_, _, _, rfl, rfl, ?_, _, rfl, a, _, _, ve, rfl, rfl, SqT.of ea, q0m (j := 4) rfl, B, ve, x3, hB, rfl, ie, h3, hs.2.2, fun H' s' => ⟨_, _, rfl, rfl, ?_, ?_⟩⟩
  ·simp only [q0e, e1', e4', e5']
   rw [sizeLine_eq]
   clear hs
   omega
  ·simp only [q0e, e1', e4', e5']
   rw [sizeLine_eq]
   clear hs
   omega
  ·simp only [q0e, e1', e4', e5']
   rw [sizeLine_eq]
   clear hs
   omega
  ·simp only [q0e, e1', e4', e5']
   rw [sizeLine_eq]
   clear hs
   omega
  ·simp only [q0e, e1', e4', e5']
   rw [sizeLine_eq]
   clear hs
   omega
  ·have q' := q H' s'
   rw [w3m (z2e h3)] at q'
   exact q'
 | told x0 x1 x2 x3 h1 =>
  cases I with
  | @tup a xs _ ea l r =>
  obtain ⟨w0, _, rfl, z0, rr0⟩ := IsL.un r
  obtain rfl := Is.vstr z0
  obtain ⟨w1, _, rfl, z1, rr1⟩ := IsL.un rr0
  obtain rfl := Is.vint z1
  obtain ⟨w2, _, rfl, z2, rr2⟩ := IsL.un rr1
  obtain rfl := Is.vstr z2
  obtain ⟨w3, _, rfl, z3, rr3⟩ := IsL.un rr2
  obtain rfl := Is.vint z3
  obtain ⟨v3, _, rfl, i3, rr4⟩ := IsL.un rr3
  obtain rfl := IsL.un0 rr4
  simp only [q1x, smallL, Bool.true_and, Bool.and_true, Bool.and_eq_true, decide_eq_true_eq] at hs
  have f0 := q1f (n := x0) (k := 4000) (by decide) hs.1
  have f2 := q1f (n := x2) (k := 4000) (by decide) hs.2.1
  have hxl := q6u h1
  refine ⟨_, rfl, a, _, _, .str "told", rfl, rfl, SqT.of ea, q0m (j := 0) rfl, rfl, _, rfl, ?_⟩
  rw [(show decide (V.str ("told" : Str) = V.str ("wish" : Str)) = false from by decide +kernel)]
  refine q0z ⟨_, rfl, a, _, _, .str "told", rfl, rfl, SqT.of ea, q0m (j := 0) rfl, q4m (by show 2 ≤ 1000; decide), fun p hp' => ⟨p, _, rfl, .inr (SqT.of q0g), rfl, rfl, _, rfl, ?_⟩⟩
  have s1 := q0i (o := HO.tup ((["told", "away"] : List Str).map V.str)) hp'
  show if (!inV (V.str ("told" : Str)) ((["told", "away"] : List Str).map V.str)) = true then _ else _
  rw [q7o, show decide (("told" : Str) ∈ (["told", "away"] : List Str)) = true from by decide +kernel]
  have eW : ("told" : Str).length = 4 := by decide +kernel
  refine q0z ⟨_, rfl, a, _, _, .str "told", rfl, rfl, SqT.of (s1 _ _ ea), q0m (j := 0) rfl, _, _, rfl, rfl, ?_, _, rfl, a, _, _, .int x0, rfl, rfl, SqT.of (s1 _ _ ea), q0m (j := 1) rfl, x0, rfl, hs.1, _, _, rfl, rfl, ?_, _, _, rfl, rfl, ?_, _, rfl, a, _, _, .str x1, rfl, rfl, SqT.of (s1 _ _ ea), q0m (j := 2) rfl, _, _, rfl, rfl, ?_, _, _, rfl, rfl, ?_, ?_⟩
  ·simp only [q0e, e1', e4', e5']
   rw [sizeLine_eq]
   clear hs
   omega
  ·simp only [q0e, e1', e4', e5']
   rw [sizeLine_eq]
   clear hs
   omega
  ·simp only [q0e, e1', e4', e5']
   rw [sizeLine_eq]
   clear hs
   omega
  ·simp only [q0e, e1', e4', e5']
   rw [sizeLine_eq]
   clear hs
   omega
  ·simp only [q0e, e1', e4', e5']
   rw [sizeLine_eq]
   clear hs
   omega
  refine ⟨_, rfl, _, rfl, a, _, _, .int x2, rfl, rfl, SqT.of (s1 _ _ ea), q0m (j := 3) rfl, x2, rfl, hs.2.1, _, _, rfl, rfl, ?_, _, _, rfl, rfl, ?_, ?_⟩
  ·simp only [q0e, e1', e4', e5']
   rw [sizeLine_eq]
   clear hs
   omega
  ·simp only [q0e, e1', e4', e5']
   rw [sizeLine_eq]
   clear hs
   omega
  cases i3
  have f3 := q1f (n := x3) (k := 4000) (by decide) hs.2.2
  refine ⟨_, rfl, a, _, _, .int x3, rfl, rfl, SqT.of (s1 _ _ ea), q0m (j := 4) rfl, rfl, _, rfl, q0z ⟨_, rfl, _, rfl, a, _, _, .int x3, rfl, rfl, SqT.of (s1 _ _ ea), q0m (j := 4) rfl, x3, rfl, hs.2.2, _, _, rfl, rfl, ?_, ?_⟩⟩
  ·simp only [q0e, e1', e4', e5']
   rw [sizeLine_eq]
   clear hs
   omega
  ·have q' := q _ s1
   rw [show q2k (.tup [.str "told", .int x0, .str x1, .int x2, .int x3]) = [("told" : Str), q1g x0, x1, q1g x2, q1g x3] from rfl, j7a] at q'
   exact q'
 | away x0 x1 x2 x3 h1 h3 =>
  have hx3 : x3 = .non ∨ ∃ i, x3 = .int i := by
   cases x3 with
   | non => exact .inl rfl
   | int i => exact .inr ⟨i, rfl⟩
   | _ => cases h3
  cases I with
  | @tup a xs _ ea l r =>
  obtain ⟨w0, _, rfl, z0, rr0⟩ := IsL.un r
  obtain rfl := Is.vstr z0
  obtain ⟨w1, _, rfl, z1, rr1⟩ := IsL.un rr0
  obtain rfl := Is.vint z1
  obtain ⟨w2, _, rfl, z2, rr2⟩ := IsL.un rr1
  obtain rfl := Is.vstr z2
  obtain ⟨w3, _, rfl, z3, rr3⟩ := IsL.un rr2
  obtain rfl := Is.vint z3
  obtain ⟨v3, _, rfl, i3, rr4⟩ := IsL.un rr3
  obtain rfl := IsL.un0 rr4
  simp only [q1x, smallL, Bool.true_and, Bool.and_true, Bool.and_eq_true, decide_eq_true_eq] at hs
  have f0 := q1f (n := x0) (k := 4000) (by decide) hs.1
  have f2 := q1f (n := x2) (k := 4000) (by decide) hs.2.1
  have hxl := q6u h1
  refine ⟨_, rfl, a, _, _, .str "away", rfl, rfl, SqT.of ea, q0m (j := 0) rfl, rfl, _, rfl, ?_⟩
  rw [(show decide (V.str ("away" : Str) = V.str ("wish" : Str)) = false from by decide +kernel)]
  refine q0z ⟨_, rfl, a, _, _, .str "away", rfl, rfl, SqT.of ea, q0m (j := 0) rfl, q4m (by show 2 ≤ 1000; decide), fun p hp' => ⟨p, _, rfl, .inr (SqT.of q0g), rfl, rfl, _, rfl, ?_⟩⟩
  have s1 := q0i (o := HO.tup ((["told", "away"] : List Str).map V.str)) hp'
  show if (!inV (V.str ("away" : Str)) ((["told", "away"] : List Str).map V.str)) = true then _ else _
  rw [q7o, show decide (("away" : Str) ∈ (["told", "away"] : List Str)) = true from by decide +kernel]
  have eW : ("away" : Str).length = 4 := by decide +kernel
  refine q0z ⟨_, rfl, a, _, _, .str "away", rfl, rfl, SqT.of (s1 _ _ ea), q0m (j := 0) rfl, _, _, rfl, rfl, ?_, _, rfl, a, _, _, .int x0, rfl, rfl, SqT.of (s1 _ _ ea), q0m (j := 1) rfl, x0, rfl, hs.1, _, _, rfl, rfl, ?_, _, _, rfl, rfl, ?_, _, rfl, a, _, _, .str x1, rfl, rfl, SqT.of (s1 _ _ ea), q0m (j := 2) rfl, _, _, rfl, rfl, ?_, _, _, rfl, rfl, ?_, ?_⟩
  ·simp only [q0e, e1', e4', e5']
   rw [sizeLine_eq]
   clear hs
   omega
  ·simp only [q0e, e1', e4', e5']
   rw [sizeLine_eq]
   clear hs
   omega
  ·simp only [q0e, e1', e4', e5']
   rw [sizeLine_eq]
   clear hs
   omega
  ·simp only [q0e, e1', e4', e5']
   rw [sizeLine_eq]
   clear hs
   omega
  ·simp only [q0e, e1', e4', e5']
   rw [sizeLine_eq]
   clear hs
   omega
  refine ⟨_, rfl, _, rfl, a, _, _, .int x2, rfl, rfl, SqT.of (s1 _ _ ea), q0m (j := 3) rfl, x2, rfl, hs.2.1, _, _, rfl, rfl, ?_, _, _, rfl, rfl, ?_, ?_⟩
  ·simp only [q0e, e1', e4', e5']
   rw [sizeLine_eq]
   clear hs
   omega
  ·simp only [q0e, e1', e4', e5']
   rw [sizeLine_eq]
   clear hs
   omega
  rcases hx3 with rfl | ⟨i, rfl⟩
  ·cases i3
   refine ⟨_, rfl, a, _, _, .non, rfl, rfl, SqT.of (s1 _ _ ea), q0m (j := 4) rfl, rfl, _, rfl, q1o ⟨_, rfl, _, _, rfl, rfl, ?_, ?_⟩⟩
   ·simp only [q0e, e1', e4', e5']
    rw [sizeLine_eq]
    clear hs
    omega
   ·have q' := q _ s1
    rw [show q2k (.tup [.str "away", .int x0, .str x1, .int x2, .non]) = [("away" : Str), q1g x0, x1, q1g x2, ("none" : Str)] from rfl, j7a] at q'
    exact q'
  ·simp only [q1x, decide_eq_true_eq] at hs
   cases i3
   have f3 := q1f (n := i) (k := 4000) (by decide) hs.2.2
   refine ⟨_, rfl, a, _, _, .int i, rfl, rfl, SqT.of (s1 _ _ ea), q0m (j := 4) rfl, rfl, _, rfl, q0z ⟨_, rfl, _, rfl, a, _, _, .int i, rfl, rfl, SqT.of (s1 _ _ ea), q0m (j := 4) rfl, i, rfl, hs.2.2, _, _, rfl, rfl, ?_, ?_⟩⟩
   ·simp only [q0e, e1', e4', e5']
    rw [sizeLine_eq]
    clear hs
    omega
   ·have q' := q _ s1
    rw [show q2k (.tup [.str "away", .int x0, .str x1, .int x2, .int i]) = [("away" : Str), q1g x0, x1, q1g x2, q1g i] from rfl, j7a] at q'
    exact q'
end
end K1
namespace K1
open PySem L2 Kp Kz
theorem z2m {n : Nat} : ∀ {m : Nat} {d : D}, q7e n d → n ≤ m → q7e m d := by
 induction n with
 | zero => intro m d h _; cases d <;> cases m <;> first | trivial | exact h.elim
 | succ n ih =>
  intro m d h hm
  obtain ⟨m, rfl⟩ : ∃ k, m = k + 1 := ⟨m - 1, by omega⟩
  cases d <;> first | trivial | exact fun x hx => ih (h x hx) (by omega)
theorem q9q {n : Nat} : ∀ {ps : List (D → Bool)} {ds : List D}, (∀ p ∈ ps, ∀ d, p d = true → q7e n d) → q0v ps ds = true → ∀ d ∈ ds, q7e n d
 | [], [], _, _, _, h => (List.not_mem_nil h).elim
 | [], _ :: _, _, h, _, _ => by cases h
 | _ :: _, [], _, _, _, h => (List.not_mem_nil h).elim
 | p :: ps, d :: ds, hp, hf, x, hx => by
  rw [q0v, Bool.and_eq_true] at hf
  rcases List.mem_cons.mp hx with rfl | hx
  ·exact hp p List.mem_cons_self _ hf.1
  ·exact q9q (fun q hq => hp q (List.mem_cons_of_mem _ hq)) hf.2 x hx
theorem z5z {tb : List (Str × List (D → Bool))} {n : Nat} (h : ∀ q ∈ tb, ∀ p ∈ q.2, ∀ d, p d = true → q7e n d) {d : D} (hd : q2g tb d = true) : q7e (n + 1) d := by
 obtain ⟨x, r, ps, rfl, e, hf⟩ := q2r hd
 obtain ⟨l1, l2, e1, _⟩ := List.lookup_eq_some_iff.mp e
 intro y hy
 rcases List.mem_cons.mp hy with rfl | hy
 ·cases n <;> trivial
 ·exact q9q (h (x, ps) (by rw [e1]; simp)) hf y hy
noncomputable def x6z : D → Bool
 | .tup _ => false
 | .lst _ => false
 | _ => true
theorem q3x {n : Nat} {d : D} (h : x6z d = true) : q7e n d := by cases d <;> cases n <;> first | trivial | cases h
theorem q7h (d : D) (h : q2b d = true) : x6z d = true := by cases d <;> first | rfl | cases h
theorem x1a (d : D) (h : whole d = true) : x6z d = true := by cases d <;> first | rfl | cases h
theorem q2x (d : D) (h : q0h d = true) : x6z d = true := by cases d <;> first | rfl | cases h
theorem q8w {l : Int} (d : D) (h : geD l d = true) : x6z d = true := by cases d <;> first | rfl | cases h
theorem z3t (d : D) (h : q3l d = true) : x6z d = true := by cases d <;> first | rfl | cases h
theorem j7i (d : D) (h : q6w d = true) : x6z d = true := by cases d <;> first | rfl | cases h
theorem z2u (d : D) (h : q5j d = true) : q7e 1 d := by
 refine z5z (tb := x6k q2b) (n := 0) ?_ h
 intro q hq p hp d hd
 simp only [x6k, List.mem_cons, List.not_mem_nil, or_false] at hq
 rcases hq with rfl | rfl | rfl
 all_goals simp only [List.mem_cons, List.not_mem_nil, or_false] at hp
 ·rcases hp with rfl | rfl
  ·exact q3x (q7h d hd)
  ·exact q3x (x1a d hd)
 ·rcases hp with rfl | rfl
  ·exact q3x (q7h d hd)
  ·exact q3x (x1a d hd)
 ·subst hp
  exact q3x (q7h d hd)
theorem x8v (d : D) (h : q2z d = true) : q7e 1 d := by
 cases d with
 | tup ds =>
  have h1 := (Bool.and_eq_true _ _ |>.mp (show (ds.all q0h && ((decide (1 ≤ ds.length) && decide (ds.length ≤ 9)) && q8f (q3s ds))) = true from h)).1
  exact fun x hx => q3x (q2x x (List.all_eq_true.mp h1 x hx))
 | _ => cases h
theorem j0k (d : D) (h : x0c d = true) : q7e 2 d := by
 refine z5z (tb := x7l) (n := 1) ?_ h
 intro q hq p hp d hd
 simp only [x7l, List.mem_cons, List.not_mem_nil, or_false] at hq
 rcases hq with rfl | rfl | rfl
 all_goals simp only [List.mem_cons, List.not_mem_nil, or_false] at hp
 ·rcases hp with rfl | rfl | rfl
  ·exact q3x (q7h d hd)
  ·exact q3x (q8w d hd)
  ·exact z2u d hd
 ·subst hp
  exact x8v d hd
theorem z7t (d : D) (h : q3m d = true) : q7e 3 d := by
 obtain ⟨ds, rfl, hf⟩ := q3i h
 refine q9q (n := 2) ?_ hf
 intro p hp d hd
 simp only [List.mem_cons, List.not_mem_nil, or_false] at hp
 rcases hp with rfl | rfl
 ·exact q3x (q8w d hd)
 ·exact j0k d hd
theorem z1l (d : D) (h : q1y d = true) : q7e 4 d := by
 have h1 := (Bool.and_eq_true _ _ |>.mp (show (w0e q3m d && decide (z5q d ≤ 5)) = true from h)).1
 cases d with
 | tup ds => exact fun x hx => z7t x (List.all_eq_true.mp h1 x hx)
 | _ => cases h1
theorem x8j {p : D → Bool} {ps : List (D → Bool)} (hps : ∀ q ∈ ps, ∀ d, q d = true → x6z d = true) (e : p = q9x ps) (d : D) (h : x4u p d = true) : q7e 2 d := by
 cases d with
 | tup ds =>
  have h1 := (Bool.and_eq_true _ _ |>.mp (show (ds.all p && q8c (ds.map q1l)) = true from h)).1
  intro x hx
  have hx' := List.all_eq_true.mp h1 x hx
  rw [e] at hx'
  obtain ⟨ys, rfl, hf⟩ := q3i hx'
  exact q9q (n := 0) (fun q hq d hd => q3x (hps q hq d hd)) hf
 | _ => cases h
theorem z7f (d : D) (h : q3o d = true) : q7e 3 d := by
 obtain ⟨ds, rfl, hf⟩ := q3i h
 refine q9q (n := 2) ?_ hf
 intro p hp d hd
 simp only [List.mem_cons, List.not_mem_nil, or_false] at hp
 rcases hp with rfl | rfl
 ·refine x8j (ps := [q2b, whole]) ?_ rfl d hd
  intro q hq
  simp only [List.mem_cons, List.not_mem_nil, or_false] at hq
  rcases hq with rfl | rfl
  ·exact q7h
  ·exact x1a
 ·refine x8j (ps := [q2b, geD 1, whole]) ?_ rfl d hd
  intro q hq
  simp only [List.mem_cons, List.not_mem_nil, or_false] at hq
  rcases hq with rfl | rfl | rfl
  ·exact q7h
  ·exact fun d => q8w d
  ·exact x1a
theorem j2c (d : D) (h : q8d d = true) : q7e 4 d := by
 have h1 := (Bool.and_eq_true _ _ |>.mp (Bool.and_eq_true _ _ |>.mp (show ((q9x [geD 0, geD 0, q2z, q3o] d && z0c d) && j3u d) = true from h)).1).1
 obtain ⟨ds, rfl, hf⟩ := q3i h1
 refine q9q (n := 3) ?_ hf
 intro p hp d hd
 simp only [List.mem_cons, List.not_mem_nil, or_false] at hp
 rcases hp with rfl | rfl | rfl | rfl
 ·exact q3x (q8w d hd)
 ·exact q3x (q8w d hd)
 ·exact z2m (x8v d hd) (by decide)
 ·exact z7f d hd
theorem z4e (d : D) (h : q2g q2l d = true) : q7e 5 d := by
 refine z5z (tb := q2l) (n := 4) ?_ h
 intro q hq p hp d hd
 have hc : (∀ d, p d = true → x6z d = true) ∨ p = q1y ∨ p = q8d ∨ p = q5j := by
  simp only [q2l, List.mem_cons, List.not_mem_nil, or_false] at hq
  rcases hq with rfl | rfl | rfl | rfl | rfl | rfl | rfl | rfl
  all_goals simp only [List.mem_cons, List.not_mem_nil, or_false] at hp
  ·rcases hp with rfl | rfl | rfl | rfl | rfl
   ·exact .inl q2x
   ·exact .inl q2x
   all_goals exact .inl q8w
  ·rcases hp with rfl | rfl | rfl | rfl
   ·exact .inl q2x
   ·exact .inl q2x
   ·exact .inl q8w
   ·exact .inl z3t
  ·rcases hp with rfl | rfl | rfl | rfl | rfl | rfl | rfl
   ·exact .inl q2x
   ·exact .inl q2x
   ·exact .inl q8w
   ·exact .inl q8w
   ·exact .inl q8w
   ·exact .inr (.inl rfl)
   ·exact .inl q8w
  ·rcases hp with rfl | rfl | rfl | rfl
   ·exact .inl q2x
   ·exact .inl q2x
   ·exact .inl q8w
   ·exact .inr (.inr (.inl rfl))
  ·rcases hp with rfl | rfl | rfl | rfl | rfl
   ·exact .inl q2x
   ·exact .inl q2x
   ·exact .inl q8w
   ·exact .inl z3t
   ·exact .inl q8w
  ·rcases hp with rfl | rfl | rfl | rfl
   ·exact .inl q7h
   ·exact .inl q2x
   ·exact .inl q8w
   ·exact .inr (.inr (.inr rfl))
  ·rcases hp with rfl | rfl | rfl | rfl
   ·exact .inl q2x
   ·exact .inl q7h
   ·exact .inl q8w
   ·exact .inl x1a
  ·rcases hp with rfl | rfl | rfl | rfl
   ·exact .inl q2x
   ·exact .inl q7h
   ·exact .inl q8w
   ·exact .inl j7i
 rcases hc with hc | rfl | rfl | rfl
 ·exact q3x (hc d hd)
 ·exact z1l d hd
 ·exact j2c d hd
 ·exact z2m (z2u d hd) (by decide)
section
variable {P : Program} {w : World} {K : PySem.W.Frag} {mg : Str → Option Value} {base : Heap}
noncomputable def j3a (K : PySem.W.Frag) : Sp := fun vs H Q _ => ∃ (a : Addr) (ns : List Int), vs = [.ref a] ∧ SqL K H a (ns.map V.int) ∧ ns.length ≤ 63 ∧ ∀ H', Q (.bl true) H'
theorem j9p : FnScope ["_law_script", "_law_one", "_law_other", "_law_letter_here", "_law_found"] ["_law_script"] (q0d j0q) := fSc
theorem j8d {f : Addr} {fd : FuncData} {kk : Nat} (hk : 7 ≤ kk) (F : Fun K "law" "law" j0q f fd) (CB : Cal P w K mg base "_law_letter_by" 7 ["_law_script", "_law_at"] (z0d K 800 (ThP q2p))) (CT : Cal P w K mg base "_law_text_of" 6 ["_law_letter_here"] (spT (q2g q2l) q2k)) (CR : Cal P w K mg base "_law_read" kk ["_law_text"] x9g) (CL : Cal P w K mg base "_law_letter" 6 ["_law_thing"] j4c) :
  FnOk P w K mg base CX0 (kk + 1) f fd ["_law_script"] (j3a K) := by
 refine F.ok j9p (fun vs H Q E ⟨_, _, e, _⟩ => by subst e; rfl) (fun cdv A outer s H vs Q E hr h => ?_)
 obtain ⟨a, ns, rfl, hS, hlen, k⟩ := h
 have r6 := hr.mono (show 6 ≤ kk by omega)
 have r7 := hr.mono (show 7 ≤ kk by omega)
 refine ⟨_, @q0x _ _ _ _ _ (q1c (i := 1) j9p.nd (by rfl) (by exact Or.inl rfl) (q0f CB r7 (q1i (pv 0) (q8e q0a q0b))))
  (@q0x _ _ _ _ _ (q1c (i := 2) j9p.nd (by rfl) (by exact Or.inl rfl) (q0f CB r7 (q1i (pv 0) (q8e q0a q0b))))
  (@q0x _ _ _ _ _ (x9s PassesOwn.never (by rfl) (q7a (q2v (q1i (pv 1) (q1i (pv 2) (q1i (pv 1) q0b))))) (q1h (i := 3) j9p.nd (by rfl) (by exact Or.inl rfl))
   (@q0x _ _ _ _ _ (q1c (i := 4) j9p.nd (by rfl) (by exact Or.inl rfl) (q0f CR hr (q7f (q0f CT r6 (q1i (pv 3) q0b)) q0b)))
   (@q1m _ _ _ (q1q (PW.pt (q7j (q3b (q2n (q0f CL r6 (q1i (pv 4) q0b)))) (q7y (q0s (j9a hr.units100) (pv 4) (pv 3) (q0q _))))) q2s q0t))))
  (@q1m _ _ _ (q0j x0m)))), ?_⟩
 refine ⟨_, rfl, a, ns, 1, rfl, hS, by decide, by decide, fun v1 H1 t1 s1 => ?_⟩
 refine ⟨_, rfl, a, ns, 40, rfl, SqL.same hS s1, by decide, by decide, fun v2 H2 t2 s2 => ?_⟩
 have t1' := t1.same s2
 refine ⟨_, rfl, _, rfl, _, rfl, q4m (by show 3 ≤ 1000; decide), fun p hp => ?_⟩
 have s3 := q0i (o := HO.tup [v1, v2, v1]) hp
 refine ⟨p, rfl, ⟨_, SqT.of q0g⟩, x4j (K := K) (a := p) (xs := [v1, v2, v1]) (fun i σ H' => ∃ x3 x4 : Option V, σ = [some (.ref a), some v1, some v2, x3, x4] ∧ q1a (upd H2 p (.tup [v1, v2, v1])) H')
  ⟨none, none, rfl, q1a.refl _⟩ (fun i σ H' _ ⟨_, _, _, s4⟩ => SqT.of (s4 _ _ q0g)) ?_ ?_⟩
 ·rintro i x σ H' hx ⟨x3, x4, rfl, s4⟩
  have tx : ThP q2p H' x := by
   have : x ∈ [v1, v2, v1] := List.mem_of_getElem? hx
   simp only [List.mem_cons, List.not_mem_nil, or_false] at this
   rcases this with rfl | rfl | rfl
   ·exact t1'.same (s3.trans s4)
   ·exact t2.same (s3.trans s4)
   ·exact t1'.same (s3.trans s4)
  obtain ⟨d, I, hp1, hsm, hno⟩ := tx
  have hb : q2g q2l d = true := (Bool.and_eq_true _ _ |>.mp hp1).1
  refine ⟨_, rfl, 200, x, d, by decide, rfl, I, hb, x2e (by decide) d hsm, fun H5 s5 => ⟨d, rfl, hp1, hsm, I.wid, hno, fun v6 H6 I6 s6 => ?_⟩⟩
  refine ⟨_, rfl, 200, v6, d, by decide, rfl, I6, hp1, fun H7 s7 => ⟨_, rfl, ?_⟩⟩
  obtain ⟨y, r, _, rfl, _, _⟩ := q2r hb
  exact q0z ⟨_, rfl, _, rfl, 200, 200, _, 5, I6.same s7, I.same (s5.trans (s6.trans s7)), z4e _ hb, by decide, _, rfl, q0z ⟨_, _, rfl, s4.trans (s5.trans (s6.trans s7))⟩⟩
 ·rintro σ H' ⟨x3, x4, rfl, s4⟩
  exact k _
end
end K1
namespace K1
open PySem L2 Kp
theorem z0i {d : D} (h : q2z d = true) : ∃ ds, d = .tup ds ∧ ds.all whole = true := by
 cases d with
 | tup ds => exact ⟨ds, rfl, List.all_eq_true.mpr fun d hd => q1j (List.all_eq_true.mp (Bool.and_eq_true _ _ |>.mp h).1 d hd)⟩
 | _ => cases h
section
variable {P : Program} {w : World} {K : PySem.W.Frag} {mg : Str → Option Value} {base : Heap}
theorem q1p {x px : Str} {k k2 : Nat} {C g : Addr} {p p' : D → Bool} {f : D → List Str} (R : Cal P w K mg base x k [px] (q5o C p f)) (hm : mg x = some (.ref g)) (hs : ∀ d, p' d = true → p d = true) (hk : k ≤ k2) : Rdt P w K mg base C k2 g p' f := by
 obtain ⟨g', fd, F, m, kp, b⟩ := R.ex
 have e : g' = g := by
  rw [m] at hm
  exact Value.ref.inj (Option.some.inj hm)
 subst e
 refine ⟨⟨k, fd, px, hk, ⟨fun vs H Q E h => ?_, fun A outer s H args us vs Q E hr he hb hv h => ?_⟩, kp, b⟩⟩
 ·obtain ⟨a, l, ws, p, d, q3y, e, _⟩ := h
  subst e; rfl
 ·obtain ⟨a, l, ws, p, d, q3y, e, W, hd, hp, q⟩ := h
  exact F.run A outer s H args us vs Q E hr he hb hv ⟨a, l, ws, p, d, q3y, e, W, hd, hs d hp, q⟩
end
theorem cal {P : Program} {w : World} {K : PySem.W.Frag} {mg : Str → Option Value} {base : Heap} {x : Str} {st : Stmt} {f : Addr} {fd : FuncData} {ps : List Str} {k : Nat} {sp : Sp} (F : Fun K x x st f fd) (hm : mg x = some (.ref f)) (b : q3p K fd ps []) (ok : FnOk P w K mg base CX0 k f fd ps sp) : Cal P w K mg base x k ps sp := ⟨f, fd, ok, hm, F.kp, b⟩
theorem w4k {P : Program} {w : World} {K : PySem.W.Frag} {mg : Str → Option Value} {base : Heap} {x : Str} {st : Stmt} {f : Addr} {fd : FuncData} {ps : List Str} {k : Nat} {sp : Sp} (F : Fun K x x st f fd) (hm : mg x = some (.ref f)) (b : q3p K fd ps []) (ok : FnOk P w K mg base (CXe P w) k f fd ps sp) : CalE P w K mg base x k ps sp := ⟨f, fd, ok, hm, F.kp, b⟩
structure DF (K : PySem.W.Frag) (n : Str) (st : Stmt) (f : Addr) : Prop where
 a : PySem.W.nsIn K mainGlobals n = some (some (.ref f))
 F : ∃ fd, Fun K n n st f fd
noncomputable def TF (K : PySem.W.Frag) (q : Addr) (vs : Array Value) : Prop := ∃ o n s, K.lookup q = some ⟨.type "tuple", o, .seq vs n, s⟩
theorem TF.sq {K : PySem.W.Frag} {q : Addr} {vs : Array Value} {gs : List V} (h : TF K q vs) (hl : Nat.ble vs.size 1000 = true) (r : q3r gs vs.toList) (H : Hp) : SqT K H q gs := let ⟨o, n, s, e⟩ := h; .inr ⟨_, _, _, e, rfl, rfl, q4m (Nat.le_of_ble_eq_true hl), r⟩
theorem bd {K : PySem.W.Frag} {x : Str} {st : Stmt} {f : Addr} {fd : FuncData} (p : Str) (F : Fun K x x st f fd) (h : ∀ (kV doc pm : Value) (an : Option Addr) (cdv ct u : Value), bindArgs (PySem.W.fnOf x x (q9h st) (q6o st) (q0d st) .none kV doc pm an cdv ct) ⟨[u], []⟩ = pure ([p].zip [u])) : q3p K fd [p] [] := F.binds fun _ _ _ _ _ _ us hl => match us, hl with | [_], _ => h _ _ _ _ _ _ _
theorem bd2 {K : PySem.W.Frag} {x : Str} {st : Stmt} {f : Addr} {fd : FuncData} (p r : Str) (F : Fun K x x st f fd) (h : ∀ (kV doc pm : Value) (an : Option Addr) (cdv ct u v : Value), bindArgs (PySem.W.fnOf x x (q9h st) (q6o st) (q0d st) .none kV doc pm an cdv ct) ⟨[u, v], []⟩ = pure ([p, r].zip [u, v])) : q3p K fd [p, r] [] := F.binds fun _ _ _ _ _ _ us hl => match us, hl with | [_, _], _ => h _ _ _ _ _ _ _ _
structure DMt (K : PySem.W.Frag) (C : Addr) (n q : Str) (st : Stmt) (g : Addr) : Prop where
 a : PySem.W.findIn K (.ref C) n = some (some (.ref g))
 i : PySem.W.isFn K (.ref g) = true
 F : ∃ fd, Fun K n q st g fd
theorem all_mk {l : PySem.W.OpenLaw} {w : World} {K : PySem.W.Frag} {h : Heap} {mg : Str → Option Value} {fa f0 f1 f2 f3 f4 f5 f6 f7 f8 f9 f10 f11 f12 f13 f14 f15 f16 f17 f18 f19 f20 f21 f22 f23 f24 f25 f26 f27 f28 f29 f30 f31 f32 f33 f34 f35 f36 f37 f38 f39 f40 f41 f42 f43 f44 f45 f46 f47 f48 f49 f50 f51 f52 f53 f54 f55 f56 f57 f58 f59 f60 f61 f62 f63 f64 f65 f66 f67 f68 f69 f70 f71 f72 f73 f74 f75 f76 f77 f78 f79 f80 f81 f82 f83 f84 f85 f86 f87 : Addr} (X : K.In h) (G : h.Ns mainGlobals mg) (hfa : mg "law" = some (.ref fa))
(d0 : DF K "is_whole" z7i f0)(d1 : DF K "is_truth" x2b f1)(d2 : DF K "is_from_nought" q5r f2)(d3 : DF K "is_from_one" q7q f3)(d4 : DF K "is_keeper" z0q f4)(d5 : DF K "is_head" x4k f5)(d6 : DF K "is_name" j1k f6)(d7 : DF K "is_rising" x1t f7)(d8 : DF K "is_row_of" w0b f8)(d9 : DF K "fits" z3a f9)(d10 : DF K "first_word" q8k f10)(d11 : DF K "fits_behind_word" q5a f11)(d12 : DF K "is_deed" x3x f12)(d13 : DF K "is_seats" z9u f13)(d14 : DF K "is_what" x4g f14)(d15 : DF K "is_entry" x1r f15)(d16 : DF K "is_entries" q9c f16)(d17 : DF K "is_name_pair" q6v f17)(d18 : DF K "is_caller_triple" q4w f18)(d19 : DF K "is_by_alphabet" q4i f19)(d20 : DF K "is_names" x1q f20)(d21 : DF K "is_callers" q9k f21)(d22 : DF K "is_store" x2f f22)(d23 : DF K "is_end" x6x f23)(d24 : DF K "is_pack" x3u f24)(d25 : DF K "is_pack_to_send" q5f f25)(d26 : DF K "is_letter" x0i f26)(d27 : DF K "last_two_changed" q4x f27)(d28 : DF K "is_number_word" q4j f28)(d29 : DF K "read_number" q7m f29)(d30 : DF K "read_name" x0o f30)(d31 : DF K "read_truth" q8u f31)(d32 : DF K "read_head" x0w f32)(d33 : DF K "read_parts" q6h f33)(d34 : DF K "read_behind_word" q4s f34)(d35 : DF K "read_counted" q5i f35)(d36 : DF K "read_seats" q8p f36)(d37 : DF K "read_deed" x0n f37)(d38 : DF K "read_what" x0x f38)(d39 : DF K "read_entry" q9e f39)(d40 : DF K "read_entries" q6r f40)(d41 : DF K "read_name_pair" q5p f41)(d42 : DF K "read_caller_triple" q4d f42)(d43 : DF K "read_name_pairs" q5g f43)(d44 : DF K "read_caller_triples" q3q f44)(d45 : DF K "read_store" q9g f45)(d46 : DF K "read_pack" x0p f46)(d47 : DF K "read" z6o f47)(d48 : DF K "_law_cell_at" j5a f48)(d49 : DF K "_law_mixed" z8a f49)(d50 : DF K "_law_name_by" z1r f50)(d51 : DF K "_law_number_by" q5q f51)(d52 : DF K "_law_value_by" q6b f52)(d53 : DF K "_law_deed_by" q6m f53)(d54 : DF K "_law_seats_by" x2z f54)(d55 : DF K "_law_what_by" q6l f55)(d56 : DF K "_law_entry_by" q5y f56)(d57 : DF K "_law_names_by" q3c f57)(d58 : DF K "_law_store_by" q3v f58)(d59 : DF K "_law_stand_by" q5z f59)(d60 : DF K "_law_pack_by" q6k f60)(d61 : DF K "_law_between_by" q4a f61)(d62 : DF K "_law_letter_by" q5t f62)(d63 : DF K "_law_from" j7h f63)(d64 : DF K "_law_any" x1w f64)(d65 : DF K "_law_sized" q9f f65)(d66 : DF K "_law_keeper" q7p f66)(d67 : DF K "_law_name" z3c f67)(d68 : DF K "_law_kind" x0d f68)(d69 : DF K "_law_deed" x0y f69)(d70 : DF K "_law_seats" z1s f70)(d71 : DF K "_law_what" x0v f71)(d72 : DF K "_law_entry" q8n f72)(d73 : DF K "_law_rises" q9a f73)(d74 : DF K "_law_store" q9m f74)(d75 : DF K "_law_stand" q8m f75)(d76 : DF K "_law_pack" x0u f76)(d77 : DF K "_law_between" q5h f77)(d78 : DF K "_law_letter" q7t f78)(d79 : DF K "_law_figures" q4h f79)(d80 : DF K "_law_deed_words" q5e f80)(d81 : DF K "_law_seats_words" q3n f81)(d82 : DF K "_law_entry_words" q5b f82)(d83 : DF K "_law_store_words" q4o f83)(d84 : DF K "_law_text_between" q2d f84)(d85 : DF K "_law_text_of" q6s f85)(d86 : DF K "_law_read" x0k f86)
  {odL anL : Option Addr} {slL : Array (Option Value)} {ocL kVL dcL pmL cdL ctL : Value} (aL : PySem.W.nsIn K mainGlobals "law" = some (some (.ref f87))) (lL : K.lookup f87 = some ⟨ocL, odL, .func (PySem.W.fnOf "law" "law" (q9h j0q) (q6o j0q) (q0d j0q) .none kVL dcL pmL anL cdL ctL), slL⟩) (cL' : PySem.W.codeIn K cdL "law" = true) (kL : PySem.W.keepIn K (.ref f87) = true)
  {u0 q0_0 q0_1 q0_2 : Addr} {tkq0_0 tkq0_1 tkq0_2 : Tok} {nd0 : Nat}
  (da0 : PySem.W.nsIn K mainGlobals "DEED_TELLERS" = some (some (.ref u0))) (dl0 : K.lookup u0 = some ⟨.type "dict", none, .dict #[⟨PyData.keyHash w.params "set", .str "set" tkq0_0, .ref q0_0⟩, ⟨PyData.keyHash w.params "add", .str "add" tkq0_1, .ref q0_1⟩, ⟨PyData.keyHash w.params "get", .str "get" tkq0_2, .ref q0_2⟩] nd0, #[]⟩) (ds0 : (u0 == sysModules) = false)
(tq0_0 : TF K q0_0 #[.ref f6, .ref f0])(tq0_1 : TF K q0_1 #[.ref f6, .ref f0])(tq0_2 : TF K q0_2 #[.ref f6])
  {u1 q1_0 q1_1 q1_2 : Addr} {tkq1_0 tkq1_1 tkq1_2 : Tok} {nd1 : Nat}
  (da1 : PySem.W.nsIn K mainGlobals "WHAT_TELLERS" = some (some (.ref u1))) (dl1 : K.lookup u1 = some ⟨.type "dict", none, .dict #[⟨PyData.keyHash w.params "open", .str "open" tkq1_0, .ref q1_0⟩, ⟨PyData.keyHash w.params "wish", .str "wish" tkq1_1, .ref q1_1⟩, ⟨PyData.keyHash w.params "seats", .str "seats" tkq1_2, .ref q1_2⟩] nd1, #[]⟩) (ds1 : (u1 == sysModules) = false)
(tq1_0 : TF K q1_0 #[])(tq1_1 : TF K q1_1 #[.ref f6, .ref f3, .ref f12])(tq1_2 : TF K q1_2 #[.ref f13])
  {u2 q2_0 q2_1 q2_2 q2_3 q2_4 q2_5 q2_6 q2_7 : Addr} {tkq2_0 tkq2_1 tkq2_2 tkq2_3 tkq2_4 tkq2_5 tkq2_6 tkq2_7 : Tok} {nd2 : Nat}
  (da2 : PySem.W.nsIn K mainGlobals "LETTER_TELLERS" = some (some (.ref u2))) (dl2 : K.lookup u2 = some ⟨.type "dict", none, .dict #[⟨PyData.keyHash w.params "ask", .str "ask" tkq2_0, .ref q2_0⟩, ⟨PyData.keyHash w.params "voice", .str "voice" tkq2_1, .ref q2_1⟩, ⟨PyData.keyHash w.params "hand", .str "hand" tkq2_2, .ref q2_2⟩, ⟨PyData.keyHash w.params "pack", .str "pack" tkq2_3, .ref q2_3⟩, ⟨PyData.keyHash w.params "held", .str "held" tkq2_4, .ref q2_4⟩, ⟨PyData.keyHash w.params "wish", .str "wish" tkq2_5, .ref q2_5⟩, ⟨PyData.keyHash w.params "told", .str "told" tkq2_6, .ref q2_6⟩, ⟨PyData.keyHash w.params "away", .str "away" tkq2_7, .ref q2_7⟩] nd2, #[]⟩) (ds2 : (u2 == sysModules) = false)
(tq2_0 : TF K q2_0 #[.ref f4, .ref f4, .ref f3, .ref f2, .ref f2])(tq2_1 : TF K q2_1 #[.ref f4, .ref f4, .ref f3, .ref f1])(tq2_2 : TF K q2_2 #[.ref f4, .ref f4, .ref f3, .ref f2, .ref f2, .ref f16, .ref f2])(tq2_3 : TF K q2_3 #[.ref f4, .ref f4, .ref f3, .ref f25])(tq2_4 : TF K q2_4 #[.ref f4, .ref f4, .ref f3, .ref f1, .ref f2])(tq2_5 : TF K q2_5 #[.ref f6, .ref f4, .ref f3, .ref f12])(tq2_6 : TF K q2_6 #[.ref f4, .ref f6, .ref f3, .ref f0])(tq2_7 : TF K q2_7 #[.ref f4, .ref f6, .ref f3, .ref f5])
  {u3 q3_0 q3_1 q3_2 : Addr} {tkq3_0 tkq3_1 tkq3_2 : Tok} {nd3 : Nat}
  (da3 : PySem.W.nsIn K mainGlobals "DEED_READERS" = some (some (.ref u3))) (dl3 : K.lookup u3 = some ⟨.type "dict", none, .dict #[⟨PyData.keyHash w.params "set", .str "set" tkq3_0, .ref q3_0⟩, ⟨PyData.keyHash w.params "add", .str "add" tkq3_1, .ref q3_1⟩, ⟨PyData.keyHash w.params "get", .str "get" tkq3_2, .ref q3_2⟩] nd3, #[]⟩) (ds3 : (u3 == sysModules) = false)
(tq3_0 : TF K q3_0 #[.ref f30, .ref f29])(tq3_1 : TF K q3_1 #[.ref f30, .ref f29])(tq3_2 : TF K q3_2 #[.ref f30])
  {u4 q4_0 q4_1 q4_2 : Addr} {tkq4_0 tkq4_1 tkq4_2 : Tok} {nd4 : Nat}
  (da4 : PySem.W.nsIn K mainGlobals "WHAT_READERS" = some (some (.ref u4))) (dl4 : K.lookup u4 = some ⟨.type "dict", none, .dict #[⟨PyData.keyHash w.params "open", .str "open" tkq4_0, .ref q4_0⟩, ⟨PyData.keyHash w.params "wish", .str "wish" tkq4_1, .ref q4_1⟩, ⟨PyData.keyHash w.params "seats", .str "seats" tkq4_2, .ref q4_2⟩] nd4, #[]⟩) (ds4 : (u4 == sysModules) = false)
(tq4_0 : TF K q4_0 #[])(tq4_1 : TF K q4_1 #[.ref f30, .ref f29, .ref f37])(tq4_2 : TF K q4_2 #[.ref f36])
  {u5 q5_0 q5_1 q5_2 q5_3 q5_4 q5_5 q5_6 q5_7 : Addr} {tkq5_0 tkq5_1 tkq5_2 tkq5_3 tkq5_4 tkq5_5 tkq5_6 tkq5_7 : Tok} {nd5 : Nat}
  (da5 : PySem.W.nsIn K mainGlobals "LETTER_READERS" = some (some (.ref u5))) (dl5 : K.lookup u5 = some ⟨.type "dict", none, .dict #[⟨PyData.keyHash w.params "ask", .str "ask" tkq5_0, .ref q5_0⟩, ⟨PyData.keyHash w.params "voice", .str "voice" tkq5_1, .ref q5_1⟩, ⟨PyData.keyHash w.params "hand", .str "hand" tkq5_2, .ref q5_2⟩, ⟨PyData.keyHash w.params "pack", .str "pack" tkq5_3, .ref q5_3⟩, ⟨PyData.keyHash w.params "held", .str "held" tkq5_4, .ref q5_4⟩, ⟨PyData.keyHash w.params "wish", .str "wish" tkq5_5, .ref q5_5⟩, ⟨PyData.keyHash w.params "told", .str "told" tkq5_6, .ref q5_6⟩, ⟨PyData.keyHash w.params "away", .str "away" tkq5_7, .ref q5_7⟩] nd5, #[]⟩) (ds5 : (u5 == sysModules) = false)
(tq5_0 : TF K q5_0 #[.ref f29, .ref f29, .ref f29, .ref f29, .ref f29])(tq5_1 : TF K q5_1 #[.ref f29, .ref f29, .ref f29, .ref f31])(tq5_2 : TF K q5_2 #[.ref f29, .ref f29, .ref f29, .ref f29, .ref f29, .ref f29, .ref f40])(tq5_3 : TF K q5_3 #[.ref f29, .ref f29, .ref f29, .ref f46])(tq5_4 : TF K q5_4 #[.ref f29, .ref f29, .ref f29, .ref f31, .ref f29])(tq5_5 : TF K q5_5 #[.ref f30, .ref f29, .ref f29, .ref f37])(tq5_6 : TF K q5_6 #[.ref f29, .ref f30, .ref f29, .ref f29])(tq5_7 : TF K q5_7 #[.ref f29, .ref f30, .ref f29, .ref f32])
  {cN C0 g0 g1 g2 : Addr} (ncN : PySem.W.nsIn K mainGlobals "NoLetter" = some (some (.ref cN))) (aC : PySem.W.nsIn K mainGlobals "Words" = some (some (.ref C0)))
  (w0 : DMt K C0 "__init__" "Words.__init__" q5s g0)
  (w1 : DMt K C0 "word" "Words.word" q8l g1)
  (w2 : DMt K C0 "all_passed" "Words.all_passed" q4z g2)
  (pg : PySem.W.plainGet K C0 Str.empty = true) (hd : PySem.W.hasDictIn K C0 = true) (po : PySem.W.plainOver K C0 = true) (sa : PySem.W.findIn K (.ref C0) "__setattr__" = some (some (.builtin "object.__setattr__"))) (mk : PySem.W.makesIn K C0 = true) (kc : PySem.W.keepIn K (.ref C0) = true) (nw : PySem.W.findIn K (.ref C0) "words" = some none) (np : PySem.W.findIn K (.ref C0) "passed" = some none)
  (z0 : PySem.W.nsIn K mainGlobals "isinstance" = some none) (z1 : PySem.W.nsIn K mainGlobals "int" = some none) (z2 : PySem.W.nsIn K mainGlobals "bool" = some none) (z3 : PySem.W.nsIn K mainGlobals "str" = some none) (z4 : PySem.W.nsIn K mainGlobals "tuple" = some none) (z5 : PySem.W.nsIn K mainGlobals "list" = some none) (z6 : PySem.W.nsIn K mainGlobals "all" = some none) (z7 : PySem.W.nsIn K mainGlobals "zip" = some none) (z8 : PySem.W.nsIn K mainGlobals "len" = some none) (z9 : PySem.W.nsIn K mainGlobals "range" = some none) (z10 : PySem.W.nsIn K mainGlobals "sorted" = some none) (z11 : PySem.W.nsIn K mainGlobals "enumerate" = some none) (z12 : PySem.W.nsIn K mainGlobals "max" = some none) :
  ∃ fd : FuncData, (∀ (s : Shared) (v : Value), BindsTo s fd ⟨[v], []⟩ [("_law_script", v)]) ∧ ∀ base : Heap, K.In base → base.Ns mainGlobals mg → FnOk l.prog w K mg base CX0 18 fa fd ["_law_script"] (j3a K) := by
 have e := hfa.symm.trans (PySem.W.mg_of X G aL)
 cases e
 have T : Txt mg := ⟨PySem.W.mg_none_of X G z0, PySem.W.mg_none_of X G z1, PySem.W.mg_none_of X G z2, PySem.W.mg_none_of X G z3, PySem.W.mg_none_of X G z4, PySem.W.mg_none_of X G z5, PySem.W.mg_none_of X G z6, PySem.W.mg_none_of X G z7, PySem.W.mg_none_of X G z8, PySem.W.mg_none_of X G z9⟩
 have hso := PySem.W.mg_none_of X G z10
 have hen := PySem.W.mg_none_of X G z11
 have hmx := PySem.W.mg_none_of X G z12
 obtain ⟨_, F0⟩ := d0.F
 have m0 := PySem.W.mg_of X G d0.a
 have b0 := bd "thing" F0 fun _ _ _ _ _ _ _ => rfl
 obtain ⟨_, F1⟩ := d1.F
 have m1 := PySem.W.mg_of X G d1.a
 have b1 := bd "thing" F1 fun _ _ _ _ _ _ _ => rfl
 obtain ⟨_, F2⟩ := d2.F
 have m2 := PySem.W.mg_of X G d2.a
 have b2 := bd "thing" F2 fun _ _ _ _ _ _ _ => rfl
 obtain ⟨_, F3⟩ := d3.F
 have m3 := PySem.W.mg_of X G d3.a
 have b3 := bd "thing" F3 fun _ _ _ _ _ _ _ => rfl
 obtain ⟨_, F4⟩ := d4.F
 have m4 := PySem.W.mg_of X G d4.a
 have b4 := bd "thing" F4 fun _ _ _ _ _ _ _ => rfl
 obtain ⟨_, F5⟩ := d5.F
 have m5 := PySem.W.mg_of X G d5.a
 have b5 := bd "thing" F5 fun _ _ _ _ _ _ _ => rfl
 obtain ⟨_, F6⟩ := d6.F
 have m6 := PySem.W.mg_of X G d6.a
 have b6 := bd "thing" F6 fun _ _ _ _ _ _ _ => rfl
 obtain ⟨_, F7⟩ := d7.F
 have m7 := PySem.W.mg_of X G d7.a
 have b7 := bd "parts" F7 fun _ _ _ _ _ _ _ => rfl
 obtain ⟨_, F8⟩ := d8.F
 have m8 := PySem.W.mg_of X G d8.a
 have b8 := bd2 "thing" "teller" F8 fun _ _ _ _ _ _ _ _ => rfl
 obtain ⟨_, F9⟩ := d9.F
 have m9 := PySem.W.mg_of X G d9.a
 have b9 := bd2 "thing" "tellers" F9 fun _ _ _ _ _ _ _ _ => rfl
 obtain ⟨_, F10⟩ := d10.F
 have m10 := PySem.W.mg_of X G d10.a
 have b10 := bd "thing" F10 fun _ _ _ _ _ _ _ => rfl
 obtain ⟨_, F11⟩ := d11.F
 have m11 := PySem.W.mg_of X G d11.a
 have b11 := bd2 "thing" "tellers" F11 fun _ _ _ _ _ _ _ _ => rfl
 obtain ⟨_, F12⟩ := d12.F
 have m12 := PySem.W.mg_of X G d12.a
 have b12 := bd "thing" F12 fun _ _ _ _ _ _ _ => rfl
 obtain ⟨_, F13⟩ := d13.F
 have m13 := PySem.W.mg_of X G d13.a
 have b13 := bd "thing" F13 fun _ _ _ _ _ _ _ => rfl
 obtain ⟨_, F14⟩ := d14.F
 have m14 := PySem.W.mg_of X G d14.a
 have b14 := bd "thing" F14 fun _ _ _ _ _ _ _ => rfl
 obtain ⟨_, F15⟩ := d15.F
 have m15 := PySem.W.mg_of X G d15.a
 have b15 := bd "thing" F15 fun _ _ _ _ _ _ _ => rfl
 obtain ⟨_, F16⟩ := d16.F
 have m16 := PySem.W.mg_of X G d16.a
 have b16 := bd "thing" F16 fun _ _ _ _ _ _ _ => rfl
 obtain ⟨_, F17⟩ := d17.F
 have m17 := PySem.W.mg_of X G d17.a
 have b17 := bd "thing" F17 fun _ _ _ _ _ _ _ => rfl
 obtain ⟨_, F18⟩ := d18.F
 have m18 := PySem.W.mg_of X G d18.a
 have b18 := bd "thing" F18 fun _ _ _ _ _ _ _ => rfl
 obtain ⟨_, F19⟩ := d19.F
 have m19 := PySem.W.mg_of X G d19.a
 have b19 := bd2 "thing" "teller" F19 fun _ _ _ _ _ _ _ _ => rfl
 obtain ⟨_, F20⟩ := d20.F
 have m20 := PySem.W.mg_of X G d20.a
 have b20 := bd "thing" F20 fun _ _ _ _ _ _ _ => rfl
 obtain ⟨_, F21⟩ := d21.F
 have m21 := PySem.W.mg_of X G d21.a
 have b21 := bd "thing" F21 fun _ _ _ _ _ _ _ => rfl
 obtain ⟨_, F22⟩ := d22.F
 have m22 := PySem.W.mg_of X G d22.a
 have b22 := bd "thing" F22 fun _ _ _ _ _ _ _ => rfl
 obtain ⟨_, F23⟩ := d23.F
 have m23 := PySem.W.mg_of X G d23.a
 have b23 := bd2 "place" "last" F23 fun _ _ _ _ _ _ _ _ => rfl
 obtain ⟨_, F24⟩ := d24.F
 have m24 := PySem.W.mg_of X G d24.a
 have b24 := bd "thing" F24 fun _ _ _ _ _ _ _ => rfl
 obtain ⟨_, F25⟩ := d25.F
 have m25 := PySem.W.mg_of X G d25.a
 have b25 := bd "thing" F25 fun _ _ _ _ _ _ _ => rfl
 obtain ⟨_, F26⟩ := d26.F
 have m26 := PySem.W.mg_of X G d26.a
 have b26 := bd "thing" F26 fun _ _ _ _ _ _ _ => rfl
 obtain ⟨_, F27⟩ := d27.F
 have m27 := PySem.W.mg_of X G d27.a
 have b27 := bd "parts" F27 fun _ _ _ _ _ _ _ => rfl
 obtain ⟨_, F28⟩ := d28.F
 have m28 := PySem.W.mg_of X G d28.a
 have b28 := bd "word" F28 fun _ _ _ _ _ _ _ => rfl
 obtain ⟨_, F29⟩ := d29.F
 have m29 := PySem.W.mg_of X G d29.a
 have b29 := bd "words" F29 fun _ _ _ _ _ _ _ => rfl
 obtain ⟨_, F30⟩ := d30.F
 have m30 := PySem.W.mg_of X G d30.a
 have b30 := bd "words" F30 fun _ _ _ _ _ _ _ => rfl
 obtain ⟨_, F31⟩ := d31.F
 have m31 := PySem.W.mg_of X G d31.a
 have b31 := bd "words" F31 fun _ _ _ _ _ _ _ => rfl
 obtain ⟨_, F32⟩ := d32.F
 have m32 := PySem.W.mg_of X G d32.a
 have b32 := bd "words" F32 fun _ _ _ _ _ _ _ => rfl
 obtain ⟨_, F33⟩ := d33.F
 have m33 := PySem.W.mg_of X G d33.a
 have b33 := bd2 "words" "readers" F33 fun _ _ _ _ _ _ _ _ => rfl
 obtain ⟨_, F34⟩ := d34.F
 have m34 := PySem.W.mg_of X G d34.a
 have b34 := F34.binds (ps := ["words", "word", "readers"]) fun _ _ _ _ _ _ us hl => match us, hl with | [_, _, _], _ => rfl
 obtain ⟨_, F35⟩ := d35.F
 have m35 := PySem.W.mg_of X G d35.a
 have b35 := bd2 "words" "reader" F35 fun _ _ _ _ _ _ _ _ => rfl
 obtain ⟨_, F36⟩ := d36.F
 have m36 := PySem.W.mg_of X G d36.a
 have b36 := bd "words" F36 fun _ _ _ _ _ _ _ => rfl
 obtain ⟨_, F37⟩ := d37.F
 have m37 := PySem.W.mg_of X G d37.a
 have b37 := bd "words" F37 fun _ _ _ _ _ _ _ => rfl
 obtain ⟨_, F38⟩ := d38.F
 have m38 := PySem.W.mg_of X G d38.a
 have b38 := bd "words" F38 fun _ _ _ _ _ _ _ => rfl
 obtain ⟨_, F39⟩ := d39.F
 have m39 := PySem.W.mg_of X G d39.a
 have b39 := bd "words" F39 fun _ _ _ _ _ _ _ => rfl
 obtain ⟨_, F40⟩ := d40.F
 have m40 := PySem.W.mg_of X G d40.a
 have b40 := bd "words" F40 fun _ _ _ _ _ _ _ => rfl
 obtain ⟨_, F41⟩ := d41.F
 have m41 := PySem.W.mg_of X G d41.a
 have b41 := bd "words" F41 fun _ _ _ _ _ _ _ => rfl
 obtain ⟨_, F42⟩ := d42.F
 have m42 := PySem.W.mg_of X G d42.a
 have b42 := bd "words" F42 fun _ _ _ _ _ _ _ => rfl
 obtain ⟨_, F43⟩ := d43.F
 have m43 := PySem.W.mg_of X G d43.a
 have b43 := bd "words" F43 fun _ _ _ _ _ _ _ => rfl
 obtain ⟨_, F44⟩ := d44.F
 have m44 := PySem.W.mg_of X G d44.a
 have b44 := bd "words" F44 fun _ _ _ _ _ _ _ => rfl
 obtain ⟨_, F45⟩ := d45.F
 have m45 := PySem.W.mg_of X G d45.a
 have b45 := bd "words" F45 fun _ _ _ _ _ _ _ => rfl
 obtain ⟨_, F46⟩ := d46.F
 have m46 := PySem.W.mg_of X G d46.a
 have b46 := bd "words" F46 fun _ _ _ _ _ _ _ => rfl
 obtain ⟨_, F47⟩ := d47.F
 have m47 := PySem.W.mg_of X G d47.a
 have b47 := bd "line" F47 fun _ _ _ _ _ _ _ => rfl
 obtain ⟨_, F48⟩ := d48.F
 have m48 := PySem.W.mg_of X G d48.a
 have b48 := bd2 "_law_script" "_law_k" F48 fun _ _ _ _ _ _ _ _ => rfl
 obtain ⟨_, F49⟩ := d49.F
 have m49 := PySem.W.mg_of X G d49.a
 have b49 := bd2 "_law_script" "_law_k" F49 fun _ _ _ _ _ _ _ _ => rfl
 obtain ⟨_, F50⟩ := d50.F
 have m50 := PySem.W.mg_of X G d50.a
 have b50 := bd "_law_number" F50 fun _ _ _ _ _ _ _ => rfl
 obtain ⟨_, F51⟩ := d51.F
 have m51 := PySem.W.mg_of X G d51.a
 have b51 := bd2 "_law_number" "_law_least" F51 fun _ _ _ _ _ _ _ _ => rfl
 obtain ⟨_, F52⟩ := d52.F
 have m52 := PySem.W.mg_of X G d52.a
 have b52 := bd "_law_number" F52 fun _ _ _ _ _ _ _ => rfl
 obtain ⟨_, F53⟩ := d53.F
 have m53 := PySem.W.mg_of X G d53.a
 have b53 := bd2 "_law_script" "_law_at" F53 fun _ _ _ _ _ _ _ _ => rfl
 obtain ⟨_, F54⟩ := d54.F
 have m54 := PySem.W.mg_of X G d54.a
 have b54 := bd "_law_number" F54 fun _ _ _ _ _ _ _ => rfl
 obtain ⟨_, F55⟩ := d55.F
 have m55 := PySem.W.mg_of X G d55.a
 have b55 := bd2 "_law_script" "_law_at" F55 fun _ _ _ _ _ _ _ _ => rfl
 obtain ⟨_, F56⟩ := d56.F
 have m56 := PySem.W.mg_of X G d56.a
 have b56 := bd2 "_law_script" "_law_at" F56 fun _ _ _ _ _ _ _ _ => rfl
 obtain ⟨_, F57⟩ := d57.F
 have m57 := PySem.W.mg_of X G d57.a
 have b57 := bd2 "_law_script" "_law_at" F57 fun _ _ _ _ _ _ _ _ => rfl
 obtain ⟨_, F58⟩ := d58.F
 have m58 := PySem.W.mg_of X G d58.a
 have b58 := bd2 "_law_script" "_law_at" F58 fun _ _ _ _ _ _ _ _ => rfl
 obtain ⟨_, F59⟩ := d59.F
 have m59 := PySem.W.mg_of X G d59.a
 have b59 := bd "_law_number" F59 fun _ _ _ _ _ _ _ => rfl
 obtain ⟨_, F60⟩ := d60.F
 have m60 := PySem.W.mg_of X G d60.a
 have b60 := bd2 "_law_script" "_law_at" F60 fun _ _ _ _ _ _ _ _ => rfl
 obtain ⟨_, F61⟩ := d61.F
 have m61 := PySem.W.mg_of X G d61.a
 have b61 := F61.binds (ps := ["_law_kind_here", "_law_script", "_law_at"]) fun _ _ _ _ _ _ us hl => match us, hl with | [_, _, _], _ => rfl
 obtain ⟨_, F62⟩ := d62.F
 have m62 := PySem.W.mg_of X G d62.a
 have b62 := bd2 "_law_script" "_law_at" F62 fun _ _ _ _ _ _ _ _ => rfl
 obtain ⟨_, F63⟩ := d63.F
 have m63 := PySem.W.mg_of X G d63.a
 have b63 := bd2 "_law_thing" "_law_least" F63 fun _ _ _ _ _ _ _ _ => rfl
 obtain ⟨_, F64⟩ := d64.F
 have m64 := PySem.W.mg_of X G d64.a
 have b64 := bd "_law_thing" F64 fun _ _ _ _ _ _ _ => rfl
 obtain ⟨_, F65⟩ := d65.F
 have m65 := PySem.W.mg_of X G d65.a
 have b65 := bd2 "_law_thing" "_law_size" F65 fun _ _ _ _ _ _ _ _ => rfl
 obtain ⟨_, F66⟩ := d66.F
 have m66 := PySem.W.mg_of X G d66.a
 have b66 := bd "_law_thing" F66 fun _ _ _ _ _ _ _ => rfl
 obtain ⟨_, F67⟩ := d67.F
 have m67 := PySem.W.mg_of X G d67.a
 have b67 := bd "_law_thing" F67 fun _ _ _ _ _ _ _ => rfl
 obtain ⟨_, F68⟩ := d68.F
 have m68 := PySem.W.mg_of X G d68.a
 have b68 := bd "_law_thing" F68 fun _ _ _ _ _ _ _ => rfl
 obtain ⟨_, F69⟩ := d69.F
 have m69 := PySem.W.mg_of X G d69.a
 have b69 := bd "_law_thing" F69 fun _ _ _ _ _ _ _ => rfl
 obtain ⟨_, F70⟩ := d70.F
 have m70 := PySem.W.mg_of X G d70.a
 have b70 := bd "_law_thing" F70 fun _ _ _ _ _ _ _ => rfl
 obtain ⟨_, F71⟩ := d71.F
 have m71 := PySem.W.mg_of X G d71.a
 have b71 := bd "_law_thing" F71 fun _ _ _ _ _ _ _ => rfl
 obtain ⟨_, F72⟩ := d72.F
 have m72 := PySem.W.mg_of X G d72.a
 have b72 := bd "_law_thing" F72 fun _ _ _ _ _ _ _ => rfl
 obtain ⟨_, F73⟩ := d73.F
 have m73 := PySem.W.mg_of X G d73.a
 have b73 := bd2 "_law_thing" "_law_size" F73 fun _ _ _ _ _ _ _ _ => rfl
 obtain ⟨_, F74⟩ := d74.F
 have m74 := PySem.W.mg_of X G d74.a
 have b74 := bd "_law_thing" F74 fun _ _ _ _ _ _ _ => rfl
 obtain ⟨_, F75⟩ := d75.F
 have m75 := PySem.W.mg_of X G d75.a
 have b75 := bd2 "_law_place" "_law_last" F75 fun _ _ _ _ _ _ _ _ => rfl
 obtain ⟨_, F76⟩ := d76.F
 have m76 := PySem.W.mg_of X G d76.a
 have b76 := bd "_law_thing" F76 fun _ _ _ _ _ _ _ => rfl
 obtain ⟨_, F77⟩ := d77.F
 have m77 := PySem.W.mg_of X G d77.a
 have b77 := bd "_law_thing" F77 fun _ _ _ _ _ _ _ => rfl
 obtain ⟨_, F78⟩ := d78.F
 have m78 := PySem.W.mg_of X G d78.a
 have b78 := bd "_law_thing" F78 fun _ _ _ _ _ _ _ => rfl
 obtain ⟨_, F79⟩ := d79.F
 have m79 := PySem.W.mg_of X G d79.a
 have b79 := bd "_law_number" F79 fun _ _ _ _ _ _ _ => rfl
 obtain ⟨_, F80⟩ := d80.F
 have m80 := PySem.W.mg_of X G d80.a
 have b80 := bd "_law_deed_here" F80 fun _ _ _ _ _ _ _ => rfl
 obtain ⟨_, F81⟩ := d81.F
 have m81 := PySem.W.mg_of X G d81.a
 have b81 := bd "_law_seats_here" F81 fun _ _ _ _ _ _ _ => rfl
 obtain ⟨_, F82⟩ := d82.F
 have m82 := PySem.W.mg_of X G d82.a
 have b82 := bd "_law_entry_here" F82 fun _ _ _ _ _ _ _ => rfl
 obtain ⟨_, F83⟩ := d83.F
 have m83 := PySem.W.mg_of X G d83.a
 have b83 := bd "_law_store_here" F83 fun _ _ _ _ _ _ _ => rfl
 obtain ⟨_, F84⟩ := d84.F
 have m84 := PySem.W.mg_of X G d84.a
 have b84 := bd "_law_letter_here" F84 fun _ _ _ _ _ _ _ => rfl
 obtain ⟨_, F85⟩ := d85.F
 have m85 := PySem.W.mg_of X G d85.a
 have b85 := bd "_law_letter_here" F85 fun _ _ _ _ _ _ _ => rfl
 obtain ⟨_, F86⟩ := d86.F
 have m86 := PySem.W.mg_of X G d86.a
 have b86 := bd "_law_text" F86 fun _ _ _ _ _ _ _ => rfl
 have F87 := j9j (st := j0q) lL cL' kL
 have Y : WoC K C0 := ⟨⟨pg, hd, po, sa⟩, nw, np⟩
 have mC := PySem.W.mg_of X G aC
 obtain ⟨_, G0⟩ := w0.F
 have bI := G0.binds (ps := ["self", "line"]) fun _ _ _ _ _ _ us hl => match us, hl with | [_, _], _ => rfl
 obtain ⟨_, G1⟩ := w1.F
 have bW := G1.binds (ps := ["self"]) fun _ _ _ _ _ _ us hl => match us, hl with | [_], _ => rfl
 obtain ⟨_, G2⟩ := w2.F
 have bA := G2.binds (ps := ["self"]) fun _ _ _ _ _ _ us hl => match us, hl with | [_], _ => rfl
 have M0 : Mk K C0 g0 := ⟨mk, w0.a, w0.i, kc⟩
 have MW : Meth K C0 "word" g1 := ⟨w1.a, w1.i, G1.kp⟩
 have MA : Meth K C0 "all_passed" g2 := ⟨w2.a, w2.i, G2.kp⟩
 refine ⟨PySem.W.fnOf "law" "law" (q9h j0q) (q6o j0q) (q0d j0q) .none kVL dcL pmL anL cdL ctL, fun s v => .of_eq rfl, fun base _ _ => ?_⟩
 have FI := j0z (P := l.prog) (w := w) (mg := mg) (base := base) Y G0
 have FA := j5g (P := l.prog) (w := w) (mg := mg) (base := base) Y G2 T
 have FW := j2o (P := l.prog) (w := w) (mg := mg) (base := base) Y G1 MA FA bA
 have CW := cal (P := l.prog) (w := w) (base := base) F0 m0 b0 (j2v F0 T)
 have CF0 := cal (P := l.prog) (w := w) (base := base) F2 m2 b2 (x5a F2 T CW)
 have CF1 := cal (P := l.prog) (w := w) (base := base) F3 m3 b3 (z1c F3 T CW)
 have CK := cal (P := l.prog) (w := w) (base := base) F4 m4 b4 (z9l F4 T CW)
 have CN := cal (P := l.prog) (w := w) (base := base) F6 m6 b6 (j6w F6 T)
 have CI := cal (P := l.prog) (w := w) (base := base) F7 m7 b7 (z8c F7 T)
 have CI2 := cal (P := l.prog) (w := w) (base := base) F7 m7 b7 (z4g F7 T)
 have CS := cal (P := l.prog) (w := w) (base := base) F13 m13 b13 (j1b F13 T CK (fun g gd hg kp b => cal F8 m8 b8 (z2g F8 T hg kp b)) CI)
 have CFi1 : Cal l.prog w K mg base "fits" 2 ["thing", "tellers"] (q6x l.prog w K mg base 1) := cal F9 m9 b9 (x2a F9 T)
 have CPr := cal (P := l.prog) (w := w) (base := base) F17 m17 b17 (j5c F17 CN CW (by decide) (by decide) CFi1)
 have CFi2 : Cal l.prog w K mg base "fits" 3 ["thing", "tellers"] (q6x l.prog w K mg base 2) := cal F9 m9 b9 (x2a F9 T)
 have CTr := cal (P := l.prog) (w := w) (base := base) F18 m18 b18 (z7z F18 CN CF1 CW (by decide) (by decide) (by decide) CFi2)
 have CNs := cal (P := l.prog) (w := w) (base := base) F20 m20 b20 (j2l F20 CPr (fun g gd hg kp b => cal F19 m19 b19 (z2z F19 j3c (cal F8 m8 b8 (z2g F8 T hg kp b)) CI2)))
 have CCs := cal (P := l.prog) (w := w) (base := base) F21 m21 b21 (z5n F21 CTr (fun g gd hg kp b => cal F19 m19 b19 (z2z F19 z4v (cal F8 m8 b8 (z2g F8 T hg kp b)) CI2)))
 have CFi7 : Cal l.prog w K mg base "fits" 8 ["thing", "tellers"] (q6x l.prog w K mg base 7) := cal F9 m9 b9 (x2a F9 T)
 have CSt := cal (P := l.prog) (w := w) (base := base) F22 m22 b22 (j1s F22 CNs CCs (by decide) (by decide) CFi7)
 have CEn := cal (P := l.prog) (w := w) (base := base) F23 m23 b23 (j8l F23)
 have CFi9 : Cal l.prog w K mg base "fits" 10 ["thing", "tellers"] (q6x l.prog w K mg base 9) := cal F9 m9 b9 (x2a F9 T)
 have CPk := cal (P := l.prog) (w := w) (base := base) F24 m24 b24 (j4r F24 CF0 CS CSt (by decide) (by decide) (by decide) CFi9 CEn)
 have CTt := cal (P := l.prog) (w := w) (base := base) F1 m1 b1 (j2w F1 T)
 have CHd := cal (P := l.prog) (w := w) (base := base) F5 m5 b5 (j7f F5 CK)
 have CFW := cal (P := l.prog) (w := w) (base := base) F10 m10 b10 (x7p F10 T)
 have CFb1 : Cal l.prog w K mg base "fits_behind_word" 3 ["thing", "tellers"] (z1j l.prog w K mg base 1) := cal F11 m11 b11 (z5u F11 T CFi1)
 have TD : TabOk l.prog w K mg base "DEED_TELLERS" 1 (x6k q2b) := ⟨⟨u0, _, _, PySem.W.mg_of X G da0, dl0, ds0, .cons (gs := [V.ref f6, V.ref f0]) (tq0_0.sq rfl (.cons rfl (.cons rfl (.nil)))) (.cons (CN.tl m6 (by decide)) (.cons (CW.tl m0 (by decide)) (.nil))) (.cons (gs := [V.ref f6, V.ref f0]) (tq0_1.sq rfl (.cons rfl (.cons rfl (.nil)))) (.cons (CN.tl m6 (by decide)) (.cons (CW.tl m0 (by decide)) (.nil))) (.cons (gs := [V.ref f6]) (tq0_2.sq rfl (.cons rfl (.nil))) (.cons (CN.tl m6 (by decide)) (.nil)) (.nil)))⟩, by rfl, fun q hq => by
  simp only [x6k, List.mem_cons, List.not_mem_nil, or_false] at hq
  rcases hq with rfl | rfl | rfl <;> exact Nat.le_of_ble_eq_true rfl⟩
 have CD := cal (P := l.prog) (w := w) (base := base) F12 m12 b12 (j6k F12 TD CFW CFb1)
 have CFi4 : Cal l.prog w K mg base "fits" 5 ["thing", "tellers"] (q6x l.prog w K mg base 4) := cal F9 m9 b9 (x2a F9 T)
 have CFb4 : Cal l.prog w K mg base "fits_behind_word" 6 ["thing", "tellers"] (z1j l.prog w K mg base 4) := cal F11 m11 b11 (z5u F11 T CFi4)
 have TW : TabOk l.prog w K mg base "WHAT_TELLERS" 4 (x7l) := ⟨⟨u1, _, _, PySem.W.mg_of X G da1, dl1, ds1, .cons (gs := []) (tq1_0.sq rfl (.nil)) (.nil) (.cons (gs := [V.ref f6, V.ref f3, V.ref f12]) (tq1_1.sq rfl (.cons rfl (.cons rfl (.cons rfl (.nil))))) (.cons (CN.tl m6 (by decide)) (.cons (CF1.tl m3 (by decide)) (.cons (CD.tl m12 (by decide)) (.nil)))) (.cons (gs := [V.ref f13]) (tq1_2.sq rfl (.cons rfl (.nil))) (.cons (CS.tl m13 (by decide)) (.nil)) (.nil)))⟩, by rfl, fun q hq => by
  simp only [x7l, List.mem_cons, List.not_mem_nil, or_false] at hq
  rcases hq with rfl | rfl | rfl <;> exact Nat.le_of_ble_eq_true rfl⟩
 have CWh := cal (P := l.prog) (w := w) (base := base) F14 m14 b14 (j4z F14 TW CFW CFb4)
 have CE := cal (P := l.prog) (w := w) (base := base) F15 m15 b15 (j3f F15 CF1 CWh (by decide) (by decide) CFi7)
 have CEs := cal (P := l.prog) (w := w) (base := base) F16 m16 b16 (z5p F16 T CE (fun g gd hg kp b => cal F8 m8 b8 (z2g F8 T hg kp b)))
 have CSe := cal (P := l.prog) (w := w) (base := base) F25 m25 b25 (j6c F25 CPk)
 have CFi12 : Cal l.prog w K mg base "fits" 13 ["thing", "tellers"] (q6x l.prog w K mg base 12) := cal F9 m9 b9 (x2a F9 T)
 have CFb12 : Cal l.prog w K mg base "fits_behind_word" 14 ["thing", "tellers"] (z1j l.prog w K mg base 12) := cal F11 m11 b11 (z5u F11 T CFi12)
 have TL : TabOk l.prog w K mg base "LETTER_TELLERS" 12 (q2l) := ⟨⟨u2, _, _, PySem.W.mg_of X G da2, dl2, ds2, .cons (gs := [V.ref f4, V.ref f4, V.ref f3, V.ref f2, V.ref f2]) (tq2_0.sq rfl (.cons rfl (.cons rfl (.cons rfl (.cons rfl (.cons rfl (.nil))))))) (.cons (CK.tl m4 (by decide)) (.cons (CK.tl m4 (by decide)) (.cons (CF1.tl m3 (by decide)) (.cons (CF0.tl m2 (by decide)) (.cons (CF0.tl m2 (by decide)) (.nil)))))) (.cons (gs := [V.ref f4, V.ref f4, V.ref f3, V.ref f1]) (tq2_1.sq rfl (.cons rfl (.cons rfl (.cons rfl (.cons rfl (.nil)))))) (.cons (CK.tl m4 (by decide)) (.cons (CK.tl m4 (by decide)) (.cons (CF1.tl m3 (by decide)) (.cons (CTt.tl m1 (by decide)) (.nil))))) (.cons (gs := [V.ref f4, V.ref f4, V.ref f3, V.ref f2, V.ref f2, V.ref f16, V.ref f2]) (tq2_2.sq rfl (.cons rfl (.cons rfl (.cons rfl (.cons rfl (.cons rfl (.cons rfl (.cons rfl (.nil))))))))) (.cons (CK.tl m4 (by decide)) (.cons (CK.tl m4 (by decide)) (.cons (CF1.tl m3 (by decide)) (.cons (CF0.tl m2 (by decide)) (.cons (CF0.tl m2 (by decide)) (.cons (CEs.tl m16 (by decide)) (.cons (CF0.tl m2 (by decide)) (.nil)))))))) (.cons (gs := [V.ref f4, V.ref f4, V.ref f3, V.ref f25]) (tq2_3.sq rfl (.cons rfl (.cons rfl (.cons rfl (.cons rfl (.nil)))))) (.cons (CK.tl m4 (by decide)) (.cons (CK.tl m4 (by decide)) (.cons (CF1.tl m3 (by decide)) (.cons (CSe.tl m25 (by decide)) (.nil))))) (.cons (gs := [V.ref f4, V.ref f4, V.ref f3, V.ref f1, V.ref f2]) (tq2_4.sq rfl (.cons rfl (.cons rfl (.cons rfl (.cons rfl (.cons rfl (.nil))))))) (.cons (CK.tl m4 (by decide)) (.cons (CK.tl m4 (by decide)) (.cons (CF1.tl m3 (by decide)) (.cons (CTt.tl m1 (by decide)) (.cons (CF0.tl m2 (by decide)) (.nil)))))) (.cons (gs := [V.ref f6, V.ref f4, V.ref f3, V.ref f12]) (tq2_5.sq rfl (.cons rfl (.cons rfl (.cons rfl (.cons rfl (.nil)))))) (.cons (CN.tl m6 (by decide)) (.cons (CK.tl m4 (by decide)) (.cons (CF1.tl m3 (by decide)) (.cons (CD.tl m12 (by decide)) (.nil))))) (.cons (gs := [V.ref f4, V.ref f6, V.ref f3, V.ref f0]) (tq2_6.sq rfl (.cons rfl (.cons rfl (.cons rfl (.cons rfl (.nil)))))) (.cons (CK.tl m4 (by decide)) (.cons (CN.tl m6 (by decide)) (.cons (CF1.tl m3 (by decide)) (.cons (CW.tl m0 (by decide)) (.nil))))) (.cons (gs := [V.ref f4, V.ref f6, V.ref f3, V.ref f5]) (tq2_7.sq rfl (.cons rfl (.cons rfl (.cons rfl (.cons rfl (.nil)))))) (.cons (CK.tl m4 (by decide)) (.cons (CN.tl m6 (by decide)) (.cons (CF1.tl m3 (by decide)) (.cons (CHd.tl m5 (by decide)) (.nil))))) (.nil))))))))⟩, by rfl, fun q hq => by
  simp only [q2l, List.mem_cons, List.not_mem_nil, or_false] at hq
  rcases hq with rfl | rfl | rfl | rfl | rfl | rfl | rfl | rfl <;> exact Nat.le_of_ble_eq_true rfl⟩
 have CLe := cal (P := l.prog) (w := w) (base := base) F26 m26 b26 (z6a F26 TL CFW CFb12 CEn)
 have CC := cal (P := l.prog) (w := w) (base := base) F48 m48 b48 (j4y F48 T)
 have CM := cal (P := l.prog) (w := w) (base := base) F49 m49 b49 (j2i F49 CC)
 have CNB := cal (P := l.prog) (w := w) (base := base) F50 m50 b50 (z0h F50 T)
 have CSB := cal (P := l.prog) (w := w) (base := base) F54 m54 b54 (Kz.z1b F54 T)
 have CNu := cal (P := l.prog) (w := w) (base := base) F51 m51 b51 (Kz.x7x F51)
 have CVa := cal (P := l.prog) (w := w) (base := base) F52 m52 b52 (Kz.z0s F52 CNu)
 have CNsB := cal (P := l.prog) (w := w) (base := base) F57 m57 b57 (Kz.z0g F57 T hso CM CNB)
 have CDB := cal (P := l.prog) (w := w) (base := base) F53 m53 b53 (Kz.z4z F53 CM CNB CVa)
 have CWB := cal (P := l.prog) (w := w) (base := base) F55 m55 b55 (Kz.z4t F55 CM CNB CSB CNu CDB)
 have CEB := cal (P := l.prog) (w := w) (base := base) F56 m56 b56 (Kz.z0o F56 CM CNu CWB)
 have CStB := cal (P := l.prog) (w := w) (base := base) F58 m58 b58 (Kz.z0p F58 T hen CM CNsB CVa CNu)
 have CSdB := cal (P := l.prog) (w := w) (base := base) F59 m59 b59 (Kz.z0r F59 CNu)
 have CPkB := cal (P := l.prog) (w := w) (base := base) F60 m60 b60 (Kz.z4w F60 CM CSdB CSB CStB)
 have CBB := cal (P := l.prog) (w := w) (base := base) F61 m61 b61 (Kz.x6m F61 T hmx CM CNu CSdB CPkB CEB)
 have CLB := cal (P := l.prog) (w := w) (base := base) F62 m62 b62 (Kz.x8z F62 CM CNu CNB CVa CDB CBB)
 have CF := cal (P := l.prog) (w := w) (base := base) F63 m63 b63 (j4p F63 T)
 have CNL := cal (P := l.prog) (w := w) (base := base) F67 m67 b67 (j1d F67 T)
 have CSL := cal (P := l.prog) (w := w) (base := base) F70 m70 b70 (z7e F70 T CF)
 have CA := cal (P := l.prog) (w := w) (base := base) F64 m64 b64 (j9r F64 T)
 have CZ := cal (P := l.prog) (w := w) (base := base) F65 m65 b65 (j1m F65 T)
 have CRs := cal (P := l.prog) (w := w) (base := base) F73 m73 b73 (j1a F73 T CF CA CZ CNL)
 have CStL := cal (P := l.prog) (w := w) (base := base) F74 m74 b74 (z9w F74 CZ CRs)
 have CSdL := cal (P := l.prog) (w := w) (base := base) F75 m75 b75 (z6b F75 CF)
 have CPkL := cal (P := l.prog) (w := w) (base := base) F76 m76 b76 (j2x F76 CZ CSdL CSL CStL)
 have CKi := cal (P := l.prog) (w := w) (base := base) F68 m68 b68 (j6e F68 T)
 have CDL := cal (P := l.prog) (w := w) (base := base) F69 m69 b69 (j2n F69 T CKi CNL CA)
 have CWL := cal (P := l.prog) (w := w) (base := base) F71 m71 b71 (j2p F71 T CKi CNL CF CDL CSL)
 have CEL := cal (P := l.prog) (w := w) (base := base) F72 m72 b72 (z6h F72 CZ CF CWL)
 have CKL := cal (P := l.prog) (w := w) (base := base) F66 m66 b66 (z5k F66 CF)
 have CBt := cal (P := l.prog) (w := w) (base := base) F77 m77 b77 (z1n F77 T CKi CF CKL CSdL CPkL CEL)
 have CLL := cal (P := l.prog) (w := w) (base := base) F78 m78 b78 (z5l F78 T CKi CBt CF CKL CNL CA CDL)
 have CFg := cal (P := l.prog) (w := w) (base := base) F79 m79 b79 (j7w F79 m79 F79.kp b79)
 have CDt := cal (P := l.prog) (w := w) (base := base) F80 m80 b80 (x8t F80 T CFg)
 have CSt2 := cal (P := l.prog) (w := w) (base := base) F81 m81 b81 (x7k F81 T CFg)
 have CEt := cal (P := l.prog) (w := w) (base := base) F82 m82 b82 (x6c F82 T CFg CSt2 CDt)
 have CTt2 := cal (P := l.prog) (w := w) (base := base) F83 m83 b83 (x7b F83 T CFg)
 have CBx := cal (P := l.prog) (w := w) (base := base) F84 m84 b84 (x3w F84 T CFg CSt2 CTt2 CEt)
 have CXt := cal (P := l.prog) (w := w) (base := base) F85 m85 b85 (z5c F85 CFg CDt CBx)
 have RW : Cal l.prog w K mg base "is_number_word" 1 ["word"] (z3j) := cal F28 m28 b28 (z0k F28 T)
 have RNu : Cal l.prog w K mg base "read_number" 3 ["words"] (q5o C0 whole q3a) := cal F29 m29 b29 (x5c Y F29 T MW FW bW RW)
 have RNa : Cal l.prog w K mg base "read_name" 3 ["words"] (q5o C0 q2b z0v) := cal F30 m30 b30 (x7z Y F30 MW FW bW)
 have RTr : Cal l.prog w K mg base "read_truth" 3 ["words"] (q5o C0 q3l j6s) := cal F31 m31 b31 (x5v Y F31 MW FW bW)
 have RHe : Cal l.prog w K mg base "read_head" 3 ["words"] (q5o C0 q6w j7o) := cal F32 m32 b32 (x9w Y F32 T MW FW bW RW)
 have RP3 : Cal l.prog w K mg base "read_parts" 4 ["words", "readers"] (q3j l.prog w K mg base C0 3) := cal F33 m33 b33 (q4p F33 T)
 have RP6 : Cal l.prog w K mg base "read_parts" 7 ["words", "readers"] (q3j l.prog w K mg base C0 6) := cal F33 m33 b33 (q4p F33 T)
 have RP7 : Cal l.prog w K mg base "read_parts" 8 ["words", "readers"] (q3j l.prog w K mg base C0 7) := cal F33 m33 b33 (q4p F33 T)
 have RP9 : Cal l.prog w K mg base "read_parts" 10 ["words", "readers"] (q3j l.prog w K mg base C0 9) := cal F33 m33 b33 (q4p F33 T)
 have RP13 : Cal l.prog w K mg base "read_parts" 14 ["words", "readers"] (q3j l.prog w K mg base C0 13) := cal F33 m33 b33 (q4p F33 T)
 have RB3 : Cal l.prog w K mg base "read_behind_word" 5 ["words", "word", "readers"] (x3i l.prog w K mg base C0 3) := cal F34 m34 b34 (q6n F34 RP3)
 have RB6 : Cal l.prog w K mg base "read_behind_word" 8 ["words", "word", "readers"] (x3i l.prog w K mg base C0 6) := cal F34 m34 b34 (q6n F34 RP6)
 have RB13 : Cal l.prog w K mg base "read_behind_word" 15 ["words", "word", "readers"] (x3i l.prog w K mg base C0 13) := cal F34 m34 b34 (q6n F34 RP13)
 have RC3 : Cal l.prog w K mg base "read_counted" 4 ["words", "reader"] (q8v l.prog w K mg base C0 3) := cal F35 m35 b35 (q5w (by decide) F35 T RNu)
 have RC5 : Cal l.prog w K mg base "read_counted" 6 ["words", "reader"] (q8v l.prog w K mg base C0 5) := cal F35 m35 b35 (q5w (by decide) F35 T RNu)
 have RC11 : Cal l.prog w K mg base "read_counted" 12 ["words", "reader"] (q8v l.prog w K mg base C0 11) := cal F35 m35 b35 (q5w (by decide) F35 T RNu)
 have RSe : Cal l.prog w K mg base "read_seats" 5 ["words"] (q5o C0 q2z q4t) := cal F36 m36 b36 (x6p (fun _ => z0i) F36 RNu (by decide) RC3)
 have TD : RTab l.prog w K mg base C0 "DEED_READERS" 3 (x6k q2b) j4g := ⟨u3, _, _, PySem.W.mg_of X G da3, dl3, ⟨⟨_, _, rfl, rfl⟩, ⟨⟨_, _, rfl, rfl⟩, ⟨⟨_, _, rfl, rfl⟩, trivial⟩⟩⟩, ds3, fun x ps hx => by
  unfold x6k at hx
  rw [List.lookup_cons] at hx
  by_cases g0 : x = "set"
  ·subst g0
   cases hx
   exact ⟨by decide +kernel, Nat.le_of_ble_eq_true rfl, _, q3_0, [V.ref f30, V.ref f29], rfl, rfl, tq3_0.sq rfl (.cons rfl (.cons rfl (.nil))), .cons (q1p RNa m30 (fun _ h => h) (by decide)) (.cons (q1p RNu m29 (fun _ h => h) (by decide)) (.nil))⟩
  ·rw [show (x == "set") = false from by rw [beq_eq_false_iff_ne]; exact g0, List.lookup_cons] at hx
   by_cases g1 : x = "add"
   ·subst g1
    cases hx
    exact ⟨by decide +kernel, Nat.le_of_ble_eq_true rfl, _, q3_1, [V.ref f30, V.ref f29], rfl, rfl, tq3_1.sq rfl (.cons rfl (.cons rfl (.nil))), .cons (q1p RNa m30 (fun _ h => h) (by decide)) (.cons (q1p RNu m29 (fun _ h => h) (by decide)) (.nil))⟩
   ·rw [show (x == "add") = false from by rw [beq_eq_false_iff_ne]; exact g1, List.lookup_cons] at hx
    by_cases g2 : x = "get"
    ·subst g2
     cases hx
     exact ⟨by decide +kernel, Nat.le_of_ble_eq_true rfl, _, q3_2, [V.ref f30], rfl, rfl, tq3_2.sq rfl (.cons rfl (.nil)), .cons (q1p RNa m30 (fun _ h => h) (by decide)) (.nil)⟩
    ·rw [show (x == "get") = false from by rw [beq_eq_false_iff_ne]; exact g2] at hx
     cases hx⟩
 have RDe : Cal l.prog w K mg base "read_deed" 6 ["words"] (q5o C0 q5j q6q) := cal F37 m37 b37 (x8f Y F37 MW FW bW TD RB3)
 have TW : RTab l.prog w K mg base C0 "WHAT_READERS" 6 x7l j3s := ⟨u4, _, _, PySem.W.mg_of X G da4, dl4, ⟨⟨_, _, rfl, rfl⟩, ⟨⟨_, _, rfl, rfl⟩, ⟨⟨_, _, rfl, rfl⟩, trivial⟩⟩⟩, ds4, fun x ps hx => by
  unfold x7l at hx
  rw [List.lookup_cons] at hx
  by_cases g0 : x = "open"
  ·subst g0
   cases hx
   exact ⟨by decide +kernel, Nat.le_of_ble_eq_true rfl, _, q4_0, [], rfl, rfl, tq4_0.sq rfl (.nil), .nil⟩
  ·rw [show (x == "open") = false from by rw [beq_eq_false_iff_ne]; exact g0, List.lookup_cons] at hx
   by_cases g1 : x = "wish"
   ·subst g1
    cases hx
    exact ⟨by decide +kernel, Nat.le_of_ble_eq_true rfl, _, q4_1, [V.ref f30, V.ref f29, V.ref f37], rfl, rfl, tq4_1.sq rfl (.cons rfl (.cons rfl (.cons rfl (.nil)))), .cons (q1p RNa m30 (fun _ h => h) (by decide)) (.cons (q1p RNu m29 (fun _ => q1k) (by decide)) (.cons (q1p RDe m37 (fun _ h => h) (by decide)) (.nil)))⟩
   ·rw [show (x == "wish") = false from by rw [beq_eq_false_iff_ne]; exact g1, List.lookup_cons] at hx
    by_cases g2 : x = "seats"
    ·subst g2
     cases hx
     exact ⟨by decide +kernel, Nat.le_of_ble_eq_true rfl, _, q4_2, [V.ref f36], rfl, rfl, tq4_2.sq rfl (.cons rfl (.nil)), .cons (q1p RSe m36 (fun _ h => h) (by decide)) (.nil)⟩
    ·rw [show (x == "seats") = false from by rw [beq_eq_false_iff_ne]; exact g2] at hx
     cases hx⟩
 have RWh : Cal l.prog w K mg base "read_what" 9 ["words"] (q5o C0 x0c j5o) := cal F38 m38 b38 (x8q Y F38 MW FW bW TW RB6)
 have REn : Cal l.prog w K mg base "read_entry" 11 ["words"] (q5o C0 q3m q4f) := cal F39 m39 b39 (x7q (fun _ => x4y) F39 RNu (by decide) RWh (by decide) RP9)
 have REs : Cal l.prog w K mg base "read_entries" 13 ["words"] (q5o C0 q1y q9s) := cal F40 m40 b40 (x4p (fun _ => x2p) F40 REn (by decide) RC11)
 have RPr : Cal l.prog w K mg base "read_name_pair" 5 ["words"] (q5o C0 x0l q9j) := cal F41 m41 b41 (x1x (fun _ => q3i) F41 RNa (by decide) RNu (by decide) RP3)
 have RTp : Cal l.prog w K mg base "read_caller_triple" 5 ["words"] (q5o C0 q4c q6t) := cal F42 m42 b42 (q8j (fun _ => x8s) F42 RNa (by decide) RNu (by decide) RNu (by decide) RP3)
 have RPs : Cal l.prog w K mg base "read_name_pairs" 7 ["words"] (q5o C0 x2q (q4r q9j)) := cal F43 m43 b43 (x1h (fun _ => q9t) F43 RPr (by decide) RC5)
 have RTs : Cal l.prog w K mg base "read_caller_triples" 7 ["words"] (q5o C0 q6f (q4r q6t)) := cal F44 m44 b44 (q8h (fun _ => q9t) F44 RTp (by decide) RC5)
 have RSt : Cal l.prog w K mg base "read_store" 9 ["words"] (q5o C0 q3o x0a) := cal F45 m45 b45 (x7c (fun _ => q3i) F45 RPs (by decide) RTs (by decide) RP7)
 have RPk : Cal l.prog w K mg base "read_pack" 11 ["words"] (q5o C0 q8d z7r) := cal F46 m46 b46 (x8r (fun _ => z2f) F46 RNu (by decide) RNu (by decide) RSe (by decide) RSt (by decide) RP9)
 have TLr : RTab l.prog w K mg base C0 "LETTER_READERS" 13 j5h q9n := ⟨u5, _, _, PySem.W.mg_of X G da5, dl5, ⟨⟨_, _, rfl, rfl⟩, ⟨⟨_, _, rfl, rfl⟩, ⟨⟨_, _, rfl, rfl⟩, ⟨⟨_, _, rfl, rfl⟩, ⟨⟨_, _, rfl, rfl⟩, ⟨⟨_, _, rfl, rfl⟩, ⟨⟨_, _, rfl, rfl⟩, ⟨⟨_, _, rfl, rfl⟩, trivial⟩⟩⟩⟩⟩⟩⟩⟩, ds5, fun x ps hx => by
  unfold j5h at hx
  rw [List.lookup_cons] at hx
  by_cases g0 : x = "ask"
  ·subst g0
   cases hx
   exact ⟨by decide +kernel, Nat.le_of_ble_eq_true rfl, _, q5_0, [V.ref f29, V.ref f29, V.ref f29, V.ref f29, V.ref f29], rfl, rfl, tq5_0.sq rfl (.cons rfl (.cons rfl (.cons rfl (.cons rfl (.cons rfl (.nil)))))), .cons (q1p RNu m29 (fun _ h => h) (by decide)) (.cons (q1p RNu m29 (fun _ h => h) (by decide)) (.cons (q1p RNu m29 (fun _ h => h) (by decide)) (.cons (q1p RNu m29 (fun _ h => h) (by decide)) (.cons (q1p RNu m29 (fun _ h => h) (by decide)) (.nil)))))⟩
  ·rw [show (x == "ask") = false from by rw [beq_eq_false_iff_ne]; exact g0, List.lookup_cons] at hx
   by_cases g1 : x = "voice"
   ·subst g1
    cases hx
    exact ⟨by decide +kernel, Nat.le_of_ble_eq_true rfl, _, q5_1, [V.ref f29, V.ref f29, V.ref f29, V.ref f31], rfl, rfl, tq5_1.sq rfl (.cons rfl (.cons rfl (.cons rfl (.cons rfl (.nil))))), .cons (q1p RNu m29 (fun _ h => h) (by decide)) (.cons (q1p RNu m29 (fun _ h => h) (by decide)) (.cons (q1p RNu m29 (fun _ h => h) (by decide)) (.cons (q1p RTr m31 (fun _ h => h) (by decide)) (.nil))))⟩
   ·rw [show (x == "voice") = false from by rw [beq_eq_false_iff_ne]; exact g1, List.lookup_cons] at hx
    by_cases g2 : x = "hand"
    ·subst g2
     cases hx
     exact ⟨by decide +kernel, Nat.le_of_ble_eq_true rfl, _, q5_2, [V.ref f29, V.ref f29, V.ref f29, V.ref f29, V.ref f29, V.ref f29, V.ref f40], rfl, rfl, tq5_2.sq rfl (.cons rfl (.cons rfl (.cons rfl (.cons rfl (.cons rfl (.cons rfl (.cons rfl (.nil)))))))), .cons (q1p RNu m29 (fun _ h => h) (by decide)) (.cons (q1p RNu m29 (fun _ h => h) (by decide)) (.cons (q1p RNu m29 (fun _ h => h) (by decide)) (.cons (q1p RNu m29 (fun _ h => h) (by decide)) (.cons (q1p RNu m29 (fun _ h => h) (by decide)) (.cons (q1p RNu m29 (fun _ h => h) (by decide)) (.cons (q1p REs m40 (fun _ h => h) (by decide)) (.nil)))))))⟩
    ·rw [show (x == "hand") = false from by rw [beq_eq_false_iff_ne]; exact g2, List.lookup_cons] at hx
     by_cases g3 : x = "pack"
     ·subst g3
      cases hx
      exact ⟨by decide +kernel, Nat.le_of_ble_eq_true rfl, _, q5_3, [V.ref f29, V.ref f29, V.ref f29, V.ref f46], rfl, rfl, tq5_3.sq rfl (.cons rfl (.cons rfl (.cons rfl (.cons rfl (.nil))))), .cons (q1p RNu m29 (fun _ h => h) (by decide)) (.cons (q1p RNu m29 (fun _ h => h) (by decide)) (.cons (q1p RNu m29 (fun _ h => h) (by decide)) (.cons (q1p RPk m46 (fun _ h => h) (by decide)) (.nil))))⟩
     ·rw [show (x == "pack") = false from by rw [beq_eq_false_iff_ne]; exact g3, List.lookup_cons] at hx
      by_cases g4 : x = "held"
      ·subst g4
       cases hx
       exact ⟨by decide +kernel, Nat.le_of_ble_eq_true rfl, _, q5_4, [V.ref f29, V.ref f29, V.ref f29, V.ref f31, V.ref f29], rfl, rfl, tq5_4.sq rfl (.cons rfl (.cons rfl (.cons rfl (.cons rfl (.cons rfl (.nil)))))), .cons (q1p RNu m29 (fun _ h => h) (by decide)) (.cons (q1p RNu m29 (fun _ h => h) (by decide)) (.cons (q1p RNu m29 (fun _ h => h) (by decide)) (.cons (q1p RTr m31 (fun _ h => h) (by decide)) (.cons (q1p RNu m29 (fun _ h => h) (by decide)) (.nil)))))⟩
      ·rw [show (x == "held") = false from by rw [beq_eq_false_iff_ne]; exact g4, List.lookup_cons] at hx
       by_cases g5 : x = "wish"
       ·subst g5
        cases hx
        exact ⟨by decide +kernel, Nat.le_of_ble_eq_true rfl, _, q5_5, [V.ref f30, V.ref f29, V.ref f29, V.ref f37], rfl, rfl, tq5_5.sq rfl (.cons rfl (.cons rfl (.cons rfl (.cons rfl (.nil))))), .cons (q1p RNa m30 (fun _ h => h) (by decide)) (.cons (q1p RNu m29 (fun _ h => h) (by decide)) (.cons (q1p RNu m29 (fun _ h => h) (by decide)) (.cons (q1p RDe m37 (fun _ h => h) (by decide)) (.nil))))⟩
       ·rw [show (x == "wish") = false from by rw [beq_eq_false_iff_ne]; exact g5, List.lookup_cons] at hx
        by_cases g6 : x = "told"
        ·subst g6
         cases hx
         exact ⟨by decide +kernel, Nat.le_of_ble_eq_true rfl, _, q5_6, [V.ref f29, V.ref f30, V.ref f29, V.ref f29], rfl, rfl, tq5_6.sq rfl (.cons rfl (.cons rfl (.cons rfl (.cons rfl (.nil))))), .cons (q1p RNu m29 (fun _ h => h) (by decide)) (.cons (q1p RNa m30 (fun _ h => h) (by decide)) (.cons (q1p RNu m29 (fun _ h => h) (by decide)) (.cons (q1p RNu m29 (fun _ h => h) (by decide)) (.nil))))⟩
        ·rw [show (x == "told") = false from by rw [beq_eq_false_iff_ne]; exact g6, List.lookup_cons] at hx
         by_cases g7 : x = "away"
         ·subst g7
          cases hx
          exact ⟨by decide +kernel, Nat.le_of_ble_eq_true rfl, _, q5_7, [V.ref f29, V.ref f30, V.ref f29, V.ref f32], rfl, rfl, tq5_7.sq rfl (.cons rfl (.cons rfl (.cons rfl (.cons rfl (.nil))))), .cons (q1p RNu m29 (fun _ h => h) (by decide)) (.cons (q1p RNa m30 (fun _ h => h) (by decide)) (.cons (q1p RNu m29 (fun _ h => h) (by decide)) (.cons (q1p RHe m32 (fun _ h => h) (by decide)) (.nil))))⟩
         ·rw [show (x == "away") = false from by rw [beq_eq_false_iff_ne]; exact g7] at hx
          cases hx⟩
 have CL8 : Cal l.prog w K mg base "last_two_changed" 1 ["parts"] (z1t) := cal F27 m27 b27 (x7s F27)
 have RRd := w4k (P := l.prog) (w := w) (base := base) F47 m47 b47 (j7e (by decide) (fun _ _ => j9o) Y F47 mC M0 FI bI MW FW bW MA FA bA TLr RB13 CL8 CLe (by decide))
 have RLr : Cal l.prog w K mg base "_law_read" 17 ["_law_text"] (x9g) := cal F86 m86 b86 (z1v F86 (PySem.W.mg_of X G ncN) RRd)
 exact j8d (by decide) F87 CLB CXt RLr CLL
theorem walk {l : PySem.W.OpenLaw} {q : Program} {loose : List Str} {XP : (Str → Option Value) → Heap → Prop} {YP : World → Heap → Prop} {d : DefRec} {K : Params → PySem.W.Frag} (hn : l.most = some 63) (hdf : d.params.defaults = [])
  (hY : ∀ (w : World) (h : Heap), YP w h → (K w.params).In h)
  (F : ∀ (w : World) (mg : Str → Option Value) (fa : Addr) (h : Heap), (K w.params).In h → h.Ns mainGlobals mg → mg d.name = some (.ref fa) →
   ∃ fd : FuncData, (∀ (s : Shared) (u : Value), BindsTo s fd ⟨[u], []⟩ [("_law_script", u)]) ∧ ∀ base : Heap, (K w.params).In base → base.Ns mainGlobals mg → FnOk l.prog w (K w.params) mg base CX0 18 fa fd ["_law_script"] (j3a (K w.params))) :
  PySem.W.WalkO q loose XP YP l.row.toRowW d [] (fun f vs => PySem.call f vs) :=
 L2.j5e (n := 63) (k := 18) (x := "_law_script") (CX := fun _ => CX0) (sp := fun w => j3a (K w.params)) hn (by decide) hdf ⟨rfl, by decide, by decide⟩ hY F (fun _ _ a ns hl _ hS => ⟨a, ns, rfl, hS, hl, fun _ => rfl⟩) fun _ _ _ _ _ z => z
end K1
namespace PySem.W.Fast
def tw15412322996357808236 := ()
def tw11384060481761193387 := ()
def tw16522582976928660303 := ()
def tw18124934546889472639 := ()
def tw9372427894426583269 := ()
def tw11621518882905867978 := ()
def tw14721355308580708271 := ()
def tw12246558442360366645 := ()
def tw7584001340961547231 := ()
def tw2912837514812822490 := ()
def tw1823093207540994284 := ()
def tw4206287928818813405 := ()
def tw8007869955493162365 := ()
def tw11950739926946805662 := ()
def tw16031240764985724416 := ()
def tw11129098878972454199 := ()
def tw2811002420773886066 := ()
def tw6342363011006175217 := ()
def tw11147234920796828946 := ()
def tw2599256817980693523 := ()
def tw15523347247358010114 := ()
def tw3613494421725359463 := ()
def tw6706876527651577918 := ()
def tw4021254996967418920 := ()
def tw936988007841305440 := ()
def tw14840357580786718014 := ()
def tw3810554571901090376 := ()
def tw17157930749997169774 := ()
def tw13232661925928841357 := ()
def tw10593802459578100844 := ()
def tw18111378900020718667 := ()
def tw14307063669086494380 := ()
def tw2903431015175149536 := ()
def tw8287008102717234190 := ()
def tw5102880575771174498 := ()
def tw5080412970964843996 := ()
def tw15337651875279238273 := ()
def tw14446349510132333202 := ()
def tw5272920190314205068 := ()
def tw4353382146982923288 := ()
def tw2842080607622299242 := ()
def tw3938802122164580195 := ()
def tw15009886231264349777 := ()
def tw2475061000132471323 := ()
def tw14502584679016216990 := ()
def tw7859681396907148138 := ()
def tw7093896545043010488 := ()
def tw5412812593319712694 := ()
def tw9862502110088636748 := ()
def tw15004834553032861256 := ()
def tw2110211350020479370 := ()
def tw14568516938989297569 := ()
def tw213661977202416171 := ()
def tw14149037979916829003 := ()
def tw10569754509990052158 := ()
def tw4916927093226065590 := ()
def tw5727494510336472929 := ()
def tw10781217168941744161 := ()
def tw121023559962443811 := ()
def tw10249733668815358715 := ()
def tw18122799310322097081 := ()
def tw10863484344179588995 := ()
def tw9396136216134927376 := ()
def tw6952535178109663923 := ()
def tw15391660810273008986 := ()
def tw13080361127819922194 := ()
def tw14561587741581324839 := ()
def tw9858621815621409046 := ()
def tw14894396233758087405 := ()
def tw16139846906777137992 := ()
def tw3728861050946100109 := ()
def tw13506766314536775060 := ()
def tw14877977353649664281 := ()
def tw3049426001540446884 := ()
def tw6709960267864617565 := ()
def tw13681522246991957957 := ()
def tw13544298963624254038 := ()
def tw10573339462888100326 := ()
def tw8963012386269151489 := ()
def tw4882845470961524338 := ()
def tw15830511374960038294 := ()
def tw18293533640103288215 := ()
def tw8419471435870443774 := ()
def tw7753562870910044350 := ()
def tw3010481077566325121 := ()
def tw14372292746327745459 := ()
def tw494066108965170568 := ()
def tw1686733711409754450 := ()
def tw9918097882623782986 := ()
def tw16270823720728148475 := ()
def tw15260210758437373566 := ()
def tw12227026399624578529 := ()
def tw42648320814206057 := ()
def tw2357417658961704914 := ()
def tw10888075317762886338 := ()
def tw471746075374661946 := ()
def tw8439073683781708217 := ()
def tw11705541316663273998 := ()
def tw18348388782790066196 := ()
def tw6006323848630308024 := ()
def tw17522495492093637096 := ()
def tw12815507840909952970 := ()
def tw14401793201494467806 := ()
def tw4048786713660904819 := ()
def tw3514655039471819021 := ()
def tw2214915570723894711 := ()
def tw1784957640210721647 := ()
def tw15390756617166771048 := ()
def tw7169626071835347991 := ()
def tw12918434397219313359 := ()
def tw7223347212939951992 := ()
def tw11329644404911950706 := ()
def tw3697675421177998028 := ()
def tw1151756857655006194 := ()
def tw3872266231939806265 := ()
def tw4230484440538357923 := ()
def tw8513467588992752714 := ()
def tw17466453392508146652 := ()
def tw9730983848998516915 := ()
def tw8484131890643336892 := ()
def tw8565506690276150595 := ()
def tw795362011635500197 := ()
def tw6953360177566420559 := ()
def tw12941830865436716279 := ()
def tw14329234170906034099 := ()
def tw4238745846737407247 := ()
def tw2052971893262342788 := ()
def tw12146476853082685938 := ()
def tw11321625036127732092 := ()
def tw13398067070053268715 := ()
def tw17243481557008002441 := ()
def tw10034427401124258597 := ()
def tw15262404826132689521 := ()
def tw18327803441315406673 := ()
def tw8726808889365337653 := ()
def tw15624677425628879648 := ()
def tw6994245952894767184 := ()
def tw10692165502271944428 := ()
def tw13079178709726214538 := ()
def tw15702197143213307516 := ()
def tw17202341125993119584 := ()
def tw12800177358862158553 := ()
def tw14017324871636744846 := ()
def tw12613632945090547214 := ()
def tw17405057567194519403 := ()
def tw2772295033070787830 := ()
def tw9011688223556218519 := ()
def tw6342214500614563558 := ()
def tw9303252681190433759 := ()
def tw1222340132812620989 := ()
def tw2181398027971962195 := ()
def tw5987262126697689667 := ()
end PySem.W.Fast
open PySem PySem.W PyProof.Rows
set_option maxRecDepth 100000 in
set_option maxHeartbeats 0 in
theorem PySem.Challenge.cw_keeplog_k06_whole_read_back_holds : PySem.Challenge.rw_keeplog_k06_whole_read_back.Holds := by
 w_on; o_law; k_head; (case hw => w_witness2)
 k_fill
 refine K1.walk (l := PySem.Challenge.rw_keeplog_k06_whole_read_back) rfl rfl (fun w h Y => PySem.W.kIn_of Y) ?F
 case F =>
  intro w mg fa h KX G hmg
  refine' K1.all_mk KX G hmg ?d0 ?d1 ?d2 ?d3 ?d4 ?d5 ?d6 ?d7 ?d8 ?d9 ?d10 ?d11 ?d12 ?d13 ?d14 ?d15 ?d16 ?d17 ?d18 ?d19 ?d20 ?d21 ?d22 ?d23 ?d24 ?d25 ?d26 ?d27 ?d28 ?d29 ?d30 ?d31 ?d32 ?d33 ?d34 ?d35 ?d36 ?d37 ?d38 ?d39 ?d40 ?d41 ?d42 ?d43 ?d44 ?d45 ?d46 ?d47 ?d48 ?d49 ?d50 ?d51 ?d52 ?d53 ?d54 ?d55 ?d56 ?d57 ?d58 ?d59 ?d60 ?d61 ?d62 ?d63 ?d64 ?d65 ?d66 ?d67 ?d68 ?d69 ?d70 ?d71 ?d72 ?d73 ?d74 ?d75 ?d76 ?d77 ?d78 ?d79 ?d80 ?d81 ?d82 ?d83 ?d84 ?d85 ?d86 ?aL ?lL ?cL' ?kL ?da0 ?dl0 ?ds0 ?tq0_0 ?tq0_1 ?tq0_2 ?da1 ?dl1 ?ds1 ?tq1_0 ?tq1_1 ?tq1_2 ?da2 ?dl2 ?ds2 ?tq2_0 ?tq2_1 ?tq2_2 ?tq2_3 ?tq2_4 ?tq2_5 ?tq2_6 ?tq2_7 ?da3 ?dl3 ?ds3 ?tq3_0 ?tq3_1 ?tq3_2 ?da4 ?dl4 ?ds4 ?tq4_0 ?tq4_1 ?tq4_2 ?da5 ?dl5 ?ds5 ?tq5_0 ?tq5_1 ?tq5_2 ?tq5_3 ?tq5_4 ?tq5_5 ?tq5_6 ?tq5_7 ?ncN ?aC ?w0 ?w1 ?w2 ?pg ?hd ?po ?sa ?mk ?kc ?nw ?np ?z0 ?z1 ?z2 ?z3 ?z4 ?z5 ?z6 ?z7 ?z8 ?z9 ?z10 ?z11 ?z12
  (case d0 | d1 | d2 | d3 | d4 | d5 | d6 | d7 | d8 | d9 | d10 | d11 | d12 | d13 | d14 | d15 | d16 | d17 | d18 | d19 | d20 | d21 | d22 | d23 | d24 | d25 | d26 | d27 | d28 | d29 | d30 | d31 | d32 | d33 | d34 | d35 | d36 | d37 | d38 | d39 | d40 | d41 | d42 | d43 | d44 | d45 | d46 | d47 | d48 | d49 | d50 | d51 | d52 | d53 | d54 | d55 | d56 | d57 | d58 | d59 | d60 | d61 | d62 | d63 | d64 | d65 | d66 | d67 | d68 | d69 | d70 | d71 | d72 | d73 | d74 | d75 | d76 | d77 | d78 | d79 | d80 | d81 | d82 | d83 | d84 | d85 | d86 => exact ⟨by k_is, _, ⟨_, _, _, _, _, _, _, _, _, rfl, by k_is, by k_is⟩, by k_is⟩)
  (case aL => k_is)
  (case lL => k_is)
  (case cL' => k_is)
  (case kL => k_is)
  (case da0 => k_is)
  (case dl0 => k_is)
  (case ds0 => rfl)
  (case da1 => k_is)
  (case dl1 => k_is)
  (case ds1 => rfl)
  (case da2 => k_is)
  (case dl2 => k_is)
  (case ds2 => rfl)
  (case da3 => k_is)
  (case dl3 => k_is)
  (case ds3 => rfl)
  (case da4 => k_is)
  (case dl4 => k_is)
  (case ds4 => rfl)
  (case da5 => k_is)
  (case dl5 => k_is)
  (case ds5 => rfl)
  (case ncN => k_is)
  (case aC => k_is)
  (case pg => k_is)
  (case hd => k_is)
  (case po => k_is)
  (case sa => k_is)
  (case mk => k_is)
  (case kc => k_is)
  (case nw => k_is)
  (case np => k_is)
  (case z0 => k_is)
  (case z1 => k_is)
  (case z2 => k_is)
  (case z3 => k_is)
  (case z4 => k_is)
  (case z5 => k_is)
  (case z6 => k_is)
  (case z7 => k_is)
  (case z8 => k_is)
  (case z9 => k_is)
  (case z10 => k_is)
  (case z11 => k_is)
  (case z12 => k_is)
  (case w0 | w1 | w2 => exact ⟨by k_is, by k_is, _, ⟨_, _, _, _, _, _, _, _, _, rfl, by k_is, by k_is⟩, by k_is⟩)
  (case tq0_0 | tq0_1 | tq0_2 | tq1_0 | tq1_1 | tq1_2 | tq2_0 | tq2_1 | tq2_2 | tq2_3 | tq2_4 | tq2_5 | tq2_6 | tq2_7 | tq3_0 | tq3_1 | tq3_2 | tq4_0 | tq4_1 | tq4_2 | tq5_0 | tq5_1 | tq5_2 | tq5_3 | tq5_4 | tq5_5 | tq5_6 | tq5_7 => exact ⟨_, _, _, by k_is⟩)
