import PyProof.Rows.All
import Wide.All
import OpenK.AllK
import Wide.FinOn
import Lean
import PyProof.EqAt
import PyProof.EqKinds
import PyProof.TupleCall
import PySem.Challenge.RW_keeplog_k07_whole_nothing_else
set_option bootstrap.genMatcherCode false
set_option Elab.async false
set_option linter.all false
set_option maxRecDepth 100000
open PySem.W (Frag mg_of nsIn keepIn findIn mg_none_of hideAll kia_one fnOf emptyDict instObj)
namespace L2
open PySem PySem.Spec PyProof.Rows
noncomputable abbrev Key:=Sum Int Str
noncomputable def z4n:Key→Value→Bool
 | .inl k,v=>Value.isInt k v
 | .inr x,v=>Value.isStrOf x v
noncomputable def w7i (w:World):Key→Int
 | .inl k=>hashInt k
 | .inr x=>hashStr w x
theorem q3i:∀ {k:Key} {v:Value},z4n k v=true→(∃ i t,k=Sum.inl i∧v=Value.int i t)∨(∃ x t,k=Sum.inr x∧v=Value.str x t)
 | .inl i,v,h=>by
  obtain⟨t,e⟩:=Value.isInt_shape (k:=i) (v:=v) h
  exact .inl ⟨i,t,rfl,e⟩
 | .inr x,v,h=>by
  obtain⟨t,e⟩:=Value.isStrOf_shape (x:=x) (v:=v) h
  exact .inr ⟨x,t,rfl,e⟩
theorem j0t (i:Int) (t:Tok):z4n (.inl i) (.int i t)=true:=by simp [z4n,Value.isInt]
theorem z7n (x:Str) (t:Tok):z4n (.inr x) (.str x t)=true:=by simp [z4n,Value.isStrOf]
theorem w1m (a b:Int):decide ((Sum.inl a:Key)=Sum.inl b)=(a==b):=by
 by_cases e:a=b
 ·subst e; simp
 ·have h:¬ (Sum.inl a:Key)=Sum.inl b:=fun q=>e (Sum.inl.inj q)
  rw [decide_eq_false h]
  exact (beq_eq_false_iff_ne.mpr e).symm
theorem w0e (a b:Str):decide ((Sum.inr a:Key)=Sum.inr b)=decide (a=b):=by
 by_cases e:a=b
 ·subst e; simp
 ·have h:¬ (Sum.inr a:Key)=Sum.inr b:=fun q=>e (Sum.inr.inj q)
  rw [decide_eq_false h,decide_eq_false e]
theorem w0r (a:Int) (b:Str):decide ((Sum.inl a:Key)=Sum.inr b)=false:=decide_eq_false (fun q=>nomatch q)
theorem w1i (a:Str) (b:Int):decide ((Sum.inr a:Key)=Sum.inl b)=false:=decide_eq_false (fun q=>nomatch q)
noncomputable def q5b (prog:Program) (w:World):PySem.KeyKind prog w Key where
 is:=z4n
 hash:=w7i w
 inj:=fun v a b ha hb=>by
  rcases q3i ha with ⟨i,t,rfl,rfl⟩ | ⟨x,t,rfl,rfl⟩
  ·rcases q3i hb with ⟨j,u,rfl,e⟩ | ⟨y,u,rfl,e⟩
   ·injection e with e1 _; rw [e1]
   ·exact nomatch e
  ·rcases q3i hb with ⟨j,u,rfl,e⟩ | ⟨y,u,rfl,e⟩
   ·exact nomatch e
   ·injection e with e1 _; rw [e1]
 byValue:=fun k v h=>by
  rcases q3i h with ⟨i,t,rfl,rfl⟩ | ⟨x,t,rfl,rfl⟩ <;> rfl
 pyHash:=fun hv h=>by
  rcases q3i hv with ⟨i,t,rfl,rfl⟩ | ⟨x,t,rfl,rfl⟩
  ·exact wpAny_pyHash_int h
  ·exact wpAny_pyHash_str h
 eqBool:=fun hu hv h=>by
  rcases q3i hu with ⟨i,t,rfl,rfl⟩ | ⟨x,t,rfl,rfl⟩
  ·rcases q3i hv with ⟨j,u,rfl,rfl⟩ | ⟨y,u,rfl,rfl⟩
   ·rw [w1m] at h; exact wpAny_eqBool_int h
   ·rw [w0r] at h; exact SeqAt.EqAt.int_str i t y u _ _ _ _ h
  ·rcases q3i hv with ⟨j,u,rfl,rfl⟩ | ⟨y,u,rfl,rfl⟩
   ·rw [w1i] at h; exact SeqAt.EqAt.str_int x t j u _ _ _ _ h
   ·rw [w0e] at h; exact wpAny_eqBool_str h
 «strs»:=fun k x t v h=>by
  rcases q3i h with ⟨i,u,rfl,e⟩ | ⟨y,u,rfl,e⟩
  ·exact nomatch e
  ·injection e with e1 _
   subst e1
   cases v <;> rfl
theorem z1n (prog:Program) (w:World) (i:Int) (t:Tok):(q5b prog w).is (.inl i) (.int i t)=true:=j0t i t
theorem z1o (prog:Program) (w:World) (x:Str) (t:Tok):(q5b prog w).is (.inr x) (.str x t)=true:=z7n x t
inductive V where
 | non | bl (b:Bool) | int (i:Int) | str (x:Str) | byt (b:Array UInt8) | flt (b:UInt64) | ref (a:Addr) | ty (n:String)
 deriving DecidableEq
noncomputable def q5e:V→Value→Prop
 | .non,u=>u=Value.none
 | .bl b,u=>u=Value.bool b
 | .int i,u=>∃ t,u=Value.int i t
 | .str x,u=>∃ t,u=Value.str x t
 | .byt b,u=>∃ t,u=Value.bytes b t
 | .flt b,u=>∃ t,u=Value.float b t
 | .ref a,u=>u=Value.ref a
 | .ty n,u=>u=Value.type n
noncomputable abbrev q4l:List V→List Value→Prop:=Paired q5e
theorem q4l.length {xs:List V} {us:List Value} (r:q4l xs us):xs.length=us.length:=Paired.length r
theorem q4l.get:∀ {xs:List V} {us:List Value} {i:Nat} {x:V},q4l xs us→xs[i]? = some x→∃ u,us[i]? = some u∧q5e x u
 | _,_,_,_,.nil,e=>by simp at e
 | _,_,0,_,.cons r _,e=>by simp at e; subst e; exact⟨_,rfl,r⟩
 | _,_,i+1,x,.cons _ t,e=>by
  obtain⟨u,h1,h2⟩:=q4l.get (i:=i) (x:=x) t (by simpa using e)
  exact⟨u,by simpa using h1,h2⟩
theorem q4l.append:∀ {xs ys:List V} {us ws:List Value},q4l xs us→q4l ys ws→q4l (xs++ys) (us++ws)
 | _,_,_,_,.nil,s=>s
 | _,_,_,_,.cons r t,s=>.cons r (q4l.append t s)
theorem q4l.take:∀ {xs:List V} {us:List Value} (n:Nat),q4l xs us→q4l (xs.take n) (us.take n)
 | _,_,0,_=>.nil
 | _,_,_+1,.nil=>.nil
 | _,_,n+1,.cons r t=>.cons r (q4l.take n t)
theorem q4l.drop:∀ {xs:List V} {us:List Value} (n:Nat),q4l xs us→q4l (xs.drop n) (us.drop n)
 | _,_,0,r=>r
 | _,_,_+1,.nil=>.nil
 | _,_,n+1,.cons _ t=>q4l.drop n t
noncomputable def z3z:Option V→Option Value→Prop
 | some v,some u=>q5e v u
 | none,none=>True
 | _,_=>False
noncomputable def KV {κ:Type}:List (κ × V)→List (κ × Value)→Prop:=Paired fun (p:κ × V) (q:κ × Value)=>p.1=q.1∧q5e p.2 q.2
noncomputable def kV:Key→V
 | .inl i=>.int i
 | .inr x=>.str x
inductive HO where
 | lst (xs:List V)
 | tup (xs:List V)
 | dK (kvs:List (Key × V)) | dT (kvs:List (List Key × V))
 | set (S:Int→Bool) (n:Nat)
 | ins (C dx:Addr) (fs:List (Str × V))
 | own (x:Addr)
 | xd (fs:List (Str × V))
 | met (f x:Addr)
 | rng (lo hi:Int)
 | frz (o:Obj) (u:HO)
 | tbl (ps:Array Value)
 | ext (φ:Heap→Prop)
noncomputable abbrev Hp:=Addr→Option HO
noncomputable def upd (H:Hp) (a:Addr) (o:HO):Hp:=fun b=>if b=a then some o else H b
theorem q0f {H:Hp} {a:Addr} {o:HO}:upd H a o a=some o:=by unfold upd; rw [if_pos rfl]
theorem q1a {H:Hp} {a b:Addr} {o:HO} (h:b≠a):upd H a o b=H b:=by unfold upd; rw [if_neg h]
theorem j8j {H:Hp} {a:Addr} {o u:HO}:upd (upd H a o) a u=upd H a u:=by
 funext b; unfold upd; split <;> rfl
theorem q1s {H:Hp} {a b:Addr} {o:HO} (h:H a=some o) (h':H b=none):a≠b:=by
 intro e; subst e; rw [h] at h'; cases h'
section
variable (P:Program) (w:World)
noncomputable def q5d (H:Hp) (h:Heap) (a:Addr):HO→Prop
 | .lst xs=>xs.length≤sizeLine∧∃ (its:List Value) (n:Nat),q4l xs its∧h.get? a=some { cls:=.type "list",data:=.seq its.toArray n }
 | .tup xs=>xs.length≤sizeLine∧∃ its:List Value,q4l xs its∧IsTup h a its.toArray
 | .dK kvs=>kvs.length≤sizeLine∧(a==sysModules)=false∧∃ vs,KV kvs vs∧h.DictOf (q5b P w) a vs
 | .dT kvs=>kvs.length≤sizeLine∧(a==sysModules)=false∧∃ xs:List (List Key × Addr × Value),
   Paired (fun (p:List Key × V) (q:List Key × Addr × Value)=>p.1=q.1∧H q.2.1=some (.tup (p.1.map kV))∧q5e p.2 q.2.2) kvs xs ∧
   ∃ o es ep,h.get? a=some o∧o.ExactDict∧o.data=.dict es ep∧es.toList=xs.map (entryOfKey (tupleKind (q5b P w)))∧(xs.map (·.1)).Nodup
 | .set S n=>h.SetOf (intKind P w) a S n
 | .ins C dx fs=>H dx=some (.own a)∧fs.length≤1000∧dx≠a∧h.get? a=some (instObj C dx) ∧
   ∃ mA,h.Ns1 dx mA∧(∀ f,z3z (fs.lookup f) (mA f))∧PySem.Within mA (fs.map (·.1))
 | .own _=>∃ o,h.get? a=some o
 | .xd fs=>∃ mA,h.Ns1 a mA∧∀ f,z3z (fs.lookup f) (mA f)
 | .rng lo hi=>∃ t u v,h.get? a=some { cls:=.type "range",data:=.fields #[.int lo t,.int hi u,.int 1 v] }
 | .frz o u=>h.get? a=some o∧q5d H h a u
 | .tbl ps=>h.get? a=some { cls:=.none,data:=.fields ps }
 | .met f x=>h.get? a=some (PySem.W.methodObj (.ref f) (.ref x))
 | .ext φ=>φ h∧(∃ o,h.get? a=some o)∧∀ h1 h2:Heap,φ h1→(∀ o,h1.get? a=some o→h2.get? a=some o)→φ h2
noncomputable def HOk (H:Hp) (h:Heap):Prop:=∀ a o,H a=some o→q5d P w H h a o
end
section
variable {P:Program} {w:World} {H H':Hp} {h h':Heap} {a:Addr} {o:HO}
theorem q5d.lt (x:q5d P w H h a o):a < h.objs.size:=by
 cases o with
 | lst xs=>obtain⟨_,_,_,_,e⟩:=x; exact Heap.lt_size e
 | tup xs=>obtain⟨_,_,_,p⟩:=x; exact p.lt
 | dK kvs=>obtain⟨_,_,_,_,o,_,_,e,_⟩:=x; exact Heap.lt_size e
 | dT kvs=>obtain⟨_,_,_,_,o,_,_,e,_⟩:=x; exact Heap.lt_size e
 | set S n=>obtain⟨o,_,_,_,e,_⟩:=x; exact Heap.lt_size e
 | ins C dx fs=>obtain⟨_,_,_,e,_⟩:=x; exact Heap.lt_size e
 | own y=>obtain⟨_,e⟩:=x; exact Heap.lt_size e
 | xd fs=>obtain⟨_,⟨_,_,_,e,_⟩,_⟩:=x; exact Heap.lt_size e
 | rng lo hi=>obtain⟨_,_,_,e⟩:=x; exact Heap.lt_size e
 | frz ob u=>obtain⟨e,_⟩:=x; exact Heap.lt_size e
 | tbl ps=>exact Heap.lt_size (show h.get? a=some _ from x)
 | met f y=>exact Heap.lt_size (show h.get? a=some _ from x)
 | ext φ=>obtain⟨_,⟨_,e⟩,_⟩:=x; exact Heap.lt_size e
theorem Paired.mapP {α β:Type} {F G:α→β→Prop}:∀ {l₁:List α} {l₂:List β},Paired F l₁ l₂→(∀ a b,F a b→G a b)→Paired G l₁ l₂
 | _,_,.nil,_=>.nil
 | _,_,.cons r t,f=>.cons (f _ _ r) (Paired.mapP t f)
theorem q5d.stay (x:q5d P w H h a o) (k:∀ b u,(b=a∨H b=some (.own a))→h.get? b=some u→h'.get? b=some u)
  (ho:∀ b,H b=some (.own a)→H' b=some (.own a)) (ht:∀ b xs,H b=some (.tup xs)→H' b=some (.tup xs)):q5d P w H' h' a o:=by
 induction o with
 | lst xs=>obtain⟨z,its,n,r,e⟩:=x; exact⟨z,its,n,r,k _ _ (.inl rfl) e⟩
 | tup xs=>obtain⟨z,its,r,ob,e,c⟩:=x; exact⟨z,its,r,ob,k _ _ (.inl rfl) e,c⟩
 | dK kvs=>obtain⟨z,y,vs,r,ob,es,ep,e,c⟩:=x; exact⟨z,y,vs,r,ob,es,ep,k _ _ (.inl rfl) e,c⟩
 | dT kvs =>
  obtain⟨z,y,xs,r,ob,es,ep,e,c⟩:=x
  exact⟨z,y,xs,Paired.mapP r fun p q z=>⟨z.1,ht _ _ z.2.1,z.2.2⟩,ob,es,ep,k _ _ (.inl rfl) e,c⟩
 | set S n=>obtain⟨ob,es,ep,t,e,c⟩:=x; exact⟨ob,es,ep,t,k _ _ (.inl rfl) e,c⟩
 | ins C dx fs =>
  obtain⟨d,z,ne,e,mA,⟨od,es,ep,e2,c⟩,r⟩:=x
  exact⟨ho _ d,z,ne,k _ _ (.inl rfl) e,mA,⟨od,es,ep,k _ _ (.inr d) e2,c⟩,r⟩
 | own y=>obtain⟨ob,e⟩:=x; exact⟨ob,k _ _ (.inl rfl) e⟩
 | xd fs=>obtain⟨mA,⟨od,es,ep,e,c⟩,r⟩:=x; exact⟨mA,⟨od,es,ep,k _ _ (.inl rfl) e,c⟩,r⟩
 | rng lo hi=>obtain⟨t,u,v,e⟩:=x; exact⟨t,u,v,k _ _ (.inl rfl) e⟩
 | frz ob u ih=>obtain⟨e,q⟩:=x; exact⟨k _ _ (.inl rfl) e,ih q⟩
 | tbl ps =>
  have e:h.get? a=some { cls:=.none,data:=.fields ps }:=x
  show h'.get? a=some { cls:=.none,data:=.fields ps }
  exact k a _ (.inl rfl) e
 | met f y =>
  have e:h.get? a=some (PySem.W.methodObj (.ref f) (.ref y)):=x
  show h'.get? a=some (PySem.W.methodObj (.ref f) (.ref y))
  exact k a _ (.inl rfl) e
 | ext φ=>obtain⟨p,⟨o,e⟩,st⟩:=x; exact⟨st _ _ p fun o q=>k _ _ (.inl rfl) q,⟨o,k _ _ (.inl rfl) e⟩,st⟩
theorem HOk.lt (x:HOk P w H h) (e:H a=some o):a < h.objs.size:=(x a o e).lt
theorem HOk.fresh (x:HOk P w H h) (e:h.objs.size≤a):H a=none:=by
 cases q:H a with
 | none=>rfl
 | some u=>exact absurd (Nat.lt_of_lt_of_le (x.lt q) e) (Nat.lt_irrefl _)
theorem HOk.kept (x:HOk P w H h) (k:∀ b u,h.get? b=some u→h'.get? b=some u):HOk P w H h':=fun a o e =>
 (x a o e).stay (fun b u _ q=>k b u q) (fun _ q=>q) fun _ _ q=>q
theorem HOk.laid (x:HOk P w H h) (k:∀ b u,h.get? b=some u→h'.get? b=some u) (hp:h.objs.size≤a) (new:q5d P w (upd H a o) h' a o):HOk P w (upd H a o) h':=fun b u e=>by
 have hn:=x.fresh hp
 by_cases hb:b=a
 ·subst hb; rw [q0f] at e; cases e; exact new
 ·rw [q1a hb] at e
  exact (x b u e).stay (fun c v _ q=>k c v q) (fun c q=>by rw [q1a (q1s q hn)]; exact q) fun c xs q=>by rw [q1a (q1s q hn)]; exact q
end
noncomputable def Rd (H:Hp) (a:Addr) (u:HO):Prop:=H a=some u∨∃ o,H a=some (.frz o u)
theorem Rd.ok {P:Program} {w:World} {H:Hp} {h:Heap} {a:Addr} {u:HO} (r:Rd H a u) (x:HOk P w H h):q5d P w H h a u:=by
 rcases r with r | ⟨o,r⟩
 ·exact x a u r
 ·obtain⟨_,q⟩:=x a _ r
  exact q
noncomputable def Mut:Option HO→Prop
 | some (.lst _)=>True
 | some (.dK _)=>True
 | some (.dT _)=>True
 | some (.set _ _)=>True
 | some (.ins _ _ _)=>True
 | some (.ext _)=>True
 | _=>False
section
variable {P:Program} {w:World} {H:Hp} {h h':Heap} {x e:Addr} {o':HO}
theorem HOk.write (ok:HOk P w H h) (mu:Mut (H x)) (he:e=x∨H e=some (.own x)) (k:∀ b u,b≠e→h.get? b=some u→h'.get? b=some u) (heo:∃ u,h'.get? e=some u)
  (new:q5d P w (upd H x o') h' x o'):HOk P w (upd H x o') h':=fun b u q=>by
 have nown:∀ c y,H c=some (.own y)→c≠x:=fun c y r z=>by subst z; rw [r] at mu; exact mu
 have ntup:∀ c xs,H c=some (.tup xs)→c≠x:=fun c xs r z=>by subst z; rw [r] at mu; exact mu
 by_cases hb:b=x
 ·subst hb; rw [q0f] at q; cases q; exact new
 ·rw [q1a hb] at q
  by_cases hbe:b=e
  ·have q':H b=some (.own x):=by
    rcases he with z | z
    ·exact absurd (hbe.trans z) hb
    ·rw [hbe]; exact z
   rw [q] at q'; cases q'
   obtain⟨v,hv⟩:=heo
   exact⟨v,by rw [hbe]; exact hv⟩
  ·refine (ok b u q).stay (fun c v hc r=>k c v ?_ r) (fun c r=>by rw [q1a (nown c b r)]; exact r) fun c xs r=>by rw [q1a (ntup c xs r)]; exact r
   rcases hc with rfl | hc
   ·exact hbe
   ·rintro rfl
    rcases he with z | z
    ·exact nown c b hc z
    ·rw [hc] at z; cases z; exact hb rfl
end
structure Un (fs ex:List Addr) (H H':Hp) (h h':Heap):Prop where
 keep:∀ b o,h.get? b=some o→H b=none→b∉fs→b∉ex→h'.get? b=some o
 slot:∀ b o,h.get? b=some o→H b=none→b∈fs→b∉ex→∃ sl,h'.get? b=some { o with slots:=sl }
 free:∀ b o,h.get? b=some o→H b=none→b∉ex→H' b=none
 there:∀ b o,h.get? b=some o→b∉ex→∃ o',h'.get? b=some o'
 tups:∀ b xs,H b=some (.tup xs)→H' b=some (.tup xs)
 frzs:∀ b o u,H b=some (.frz o u)→H' b=some (.frz o u)
 tbls:∀ b ps,H b=some (.tbl ps)→∃ more,H' b=some (.tbl (ps++more))
section
variable {fs fs' ex ex':List Addr} {H H1 H2:Hp} {h h1 h2 h':Heap} {a x e:Addr} {o:HO}
theorem Un.any (u:Un fs ex H H1 h h1) {b:Addr} {ob:Obj} (q:h.get? b=some ob) (n:H b=none) (hx:b∉ex):∃ sl,h1.get? b=some { ob with slots:=sl }:=by
 by_cases hb:b∈fs
 ·exact u.slot b ob q n hb hx
 ·exact⟨ob.slots,u.keep b ob q n hb hx⟩
theorem Un.trans (a:Un fs ex H H1 h h1) (b:Un fs ex H1 H2 h1 h2):Un fs ex H H2 h h2 where
 keep:=fun c ob q n hc hx=>b.keep c ob (a.keep c ob q n hc hx) (a.free c ob q n hx) hc hx
 slot:=fun c ob q n hc hx=>by
  obtain⟨sl,e1⟩:=a.slot c ob q n hc hx
  obtain⟨sl',e2⟩:=b.slot c _ e1 (a.free c ob q n hx) hc hx
  exact⟨sl',e2⟩
 free:=fun c ob q n hx=>by
  obtain⟨o',e1⟩:=a.there c ob q hx
  exact b.free c o' e1 (a.free c ob q n hx) hx
 there:=fun c ob q hx=>by
  obtain⟨o',e1⟩:=a.there c ob q hx
  exact b.there c o' e1 hx
 tups:=fun c xs q=>b.tups c xs (a.tups c xs q)
 frzs:=fun c ob xs q=>b.frzs c ob xs (a.frzs c ob xs q)
 tbls:=fun c ps q=>by
  obtain⟨m1,e1⟩:=a.tbls c ps q
  obtain⟨m2,e2⟩:=b.tbls c _ e1
  exact⟨m1++m2,by rw [e2,Array.append_assoc]⟩
theorem Un.kept (k:∀ b u,h.get? b=some u→h'.get? b=some u):Un fs ex H H h h' :=
 ⟨fun b ob q _ _ _=>k b ob q,fun b ob q _ _ _=>⟨ob.slots,k b ob q⟩,fun _ _ _ n _=>n,fun b ob q _=>⟨ob,k b ob q⟩,fun _ _ q=>q,fun _ _ _ q=>q,fun _ ps q=>⟨#[],by rw [q]; simp⟩⟩
theorem Un.refl:Un fs ex H H h h:=Un.kept fun _ _ q=>q
theorem Un.laid (k:∀ b u,h.get? b=some u→h'.get? b=some u) (hp:h.objs.size≤a) (hn:H a=none):Un fs ex H (upd H a o) h h' where
 keep:=fun b u q _ _ _=>k b u q
 slot:=fun b u q _ _ _=>⟨u.slots,k b u q⟩
 free:=fun b u q n _=>by rw [q1a (Nat.ne_of_lt (Nat.lt_of_lt_of_le (Heap.lt_size q) hp))]; exact n
 there:=fun b u q _=>⟨u,k b u q⟩
 tups:=fun b xs q=>by rw [q1a (q1s q hn)]; exact q
 frzs:=fun b u xs q=>by rw [q1a (q1s q hn)]; exact q
 tbls:=fun b ps q=>⟨#[],by rw [q1a (q1s q hn),q]; simp⟩
theorem Un.write (mu:Mut (H x)) (he:e=x∨H e=some (.own x)) (k:∀ b u,b≠e→h.get? b=some u→h'.get? b=some u) (heo:∃ u,h'.get? e=some u):Un fs ex H (upd H x o) h h':=by
 have hx:∀ b,H b=none→b≠x:=fun b n z=>by subst z; rw [n] at mu; exact mu
 have hb:∀ b,H b=none→b≠e:=fun b n z=>by
  subst z
  rcases he with r | r
  ·exact hx b n r
  ·rw [n] at r; cases r
 have hm:∀ b u,H b=some u→¬ Mut (some u)→b≠x:=fun b u q nm z=>by subst z; rw [q] at mu; exact nm mu
 refine⟨fun b u q n _ _=>k b u (hb b n) q,fun b u q n _ _=>⟨u.slots,k b u (hb b n) q⟩,fun b u q n _=>by rw [q1a (hx b n)]; exact n,fun b u q _=>?_,
  fun b xs q=>by rw [q1a (hm b _ q fun z=>z)]; exact q,fun b u xs q=>by rw [q1a (hm b _ q fun z=>z)]; exact q,fun b ps q=>⟨#[],by rw [q1a (hm b _ q fun z=>z),q]; simp⟩⟩
 by_cases hbe:b=e
 ·subst hbe; exact heo
 ·exact⟨u,k b u hbe q⟩
end
noncomputable def trk (h:Heap) (H:Hp):List Addr:=(List.range h.objs.size).filter fun a=>(H a).isSome
noncomputable def j3g (h:Heap) (H:Hp):Heap:=hideAll h (trk h H)
theorem z9a (h:Heap) (H:Hp):(j3g h H).objs.size=h.objs.size:=PySem.W.hideAll_size _ _
theorem j2j {h:Heap} {H:Hp} {b:Addr} {o:Obj} (e:h.get? b=some o) (n:H b=none):(j3g h H).get? b=some o :=
 PySem.W.hideAll_get _ e fun hm=>by
  have q:(H b).isSome=true:=(List.mem_filter.mp hm).2
  rw [n] at q; simp at q
theorem j9a {h:Heap} {H:Hp} {b:Addr} {o:Obj} (e:(j3g h H).get? b=some o):h.get? b=some o∧H b=none:=by
 have e':h.get? b=some o:=PySem.W.of_hideAll (trk h H) e
 refine⟨e',?_⟩
 cases q:H b with
 | none=>rfl
 | some x =>
  have hm:b∈trk h H:=List.mem_filter.mpr ⟨List.mem_range.mpr (Heap.lt_size e'),by simp [q]⟩
  have z:(j3g h H).get? b=none:=PySem.W.hideAll_none (trk h H) hm
  rw [z] at e; cases e
noncomputable def j7p (g h:Heap) (L:Addr):List (Addr × Obj):=(List.range h.objs.size).filterMap fun a=>if a=L∨(g.get? a).isSome=true then none else (h.get? a).map fun o=>(a,o)
noncomputable def x0x (g h:Heap) (L d:Addr):List (Addr × Obj):=(j7p g h L).filter fun p=>decide (p.1≠d)
structure Mod (K:Frag) (mg:Str→Option Value) (base:Heap):Prop where
 kin:K.In base
 glob:base.Ns mainGlobals mg
 blt:∃ mb,base.Ns builtinsNs mb∧∀ x:Str,x ≠ "__name__" → mb x=bootBuiltins x
 nolimit:base.NoLimit
structure Cx where
 prog:Program
 w:World
 K:Frag
 mg:Str→Option Value
 base:Heap
 A:Around
 N:List Str
 s₀:Shared
 H₀:Hp
 env:Env
 outer:List Env
 stack:List Env
 ex:List Addr
 fn:Str→Bool
 calm:Bool
 pn:List (Addr × Obj)
 xe:Value→Shared→Prop
noncomputable def frs (l:List Env):List Addr:=l.filterMap (·.frame)
noncomputable abbrev Cx.fs (X:Cx):List Addr:=frs X.outer
noncomputable def Vis (sc:Scope) (x:Str):Prop:=sc.names.lookup x=some .local∨sc.names.lookup x=some .cell∨sc.names.lookup x=some .free
noncomputable def Loc (sc:Scope) (x:Str):Prop:=sc.names.lookup x=some .local∨sc.names.lookup x=some .cell
noncomputable def w7w (env:Env) (h:Heap) (m:Str→Option Value) (x:Str) (u:Value):Prop :=
 (env.kindOf x=some .local∧m x=some u)∨((env.kindOf x=some .cell∨env.kindOf x=some .free)∧∃ c,env.cells.lookup x=some c∧h.IsCell c (some u))
structure Cx.Ok (X:Cx):Prop where
 mod:Mod X.K X.mg X.base
 kind:X.env.scope.kind=.function
 glob:X.env.globals=mainGlobals
 blt:X.env.builtins=builtinsNs
 above:X.s₀.heap.objs.size≤X.env.locals
 inj:∀ x y c,X.env.cells.lookup x=some c→X.env.cells.lookup y=some c→x=y
 has:∀ x,(X.env.kindOf x=some .cell∨X.env.kindOf x=some .free)→∃ c,X.env.cells.lookup x=some c
 cab:∀ x c,X.fn x=true→X.env.cells.lookup x=some c→X.s₀.heap.objs.size≤c
 hd:X.calm=true→X.A.handled=none
 frames:X.A.frames=some X.stack
 stk:X.stack=X.outer∨(X.stack=X.env::X.outer∧X.env.frame=some X.env.locals)
 exf:∀ b∈X.ex,b≠X.env.locals∧∀ x c,X.env.cells.lookup x=some c→c≠b
 bs:∀ b o,X.base.get? b=some o→X.s₀.heap.get? b=some o∧X.H₀ b=none
 bsz:X.base.objs.size≤X.s₀.heap.objs.size
 noex:∀ b o,X.base.get? b=some o→b∉X.ex
 exfs:∀ b∈X.ex,b∉X.fs
 funs:X.s₀.heap.FunFrames X.base X.outer
 frf:∀ b∈X.fs,X.H₀ b=none
structure Inv (X:Cx) (pins:List (Addr × Obj)) (σ:List (Option V)) (H:Hp) (s:Shared):Prop where
 ok:X.Ok
 os:s.os=X.s₀.os
 bare:AllBare s.gens
 base:Un X.fs X.ex X.H₀ H X.s₀.heap s.heap
 loc:∃ m,s.heap.Ns X.env.locals m∧∀ (i:Nat) (x:Str) (v:V),X.N[i]? = some x→σ[i]? = some (some v)→Vis X.env.scope x→∃ u,q5e v u∧w7w X.env s.heap m x u
 cell:∀ x c,X.env.cells.lookup x=some c→∃ v,s.heap.IsCell c v
 free:H X.env.locals=none
 freeC:∀ x c,X.env.cells.lookup x=some c→H c=none
 pin:∀ p∈X.pn++pins,s.heap.get? p.1=some p.2∧H p.1=none∧p.1≠X.env.locals∧p.1∉X.fs∧∀ v,p.2.data≠.cell v
 hok:HOk X.prog X.w H s.heap
 len:σ.length=X.N.length
section
variable {X:Cx} {pins:List (Addr × Obj)} {σ:List (Option V)} {H H':Hp} {s:Shared} {h':Heap}
theorem Cx.Ok.nofr (ok:X.Ok) {b:Addr} {o:Obj} (e:X.base.get? b=some o):b∉X.fs:=fun hb=>by
 have:=(ok.funs.mem hb).1
 rw [e] at this; cases this
theorem Inv.bs (I:Inv X pins σ H s):∀ b o,X.base.get? b=some o→s.heap.get? b=some o∧H b=none:=fun b o e =>
 ⟨I.base.keep b o (I.ok.bs b o e).1 (I.ok.bs b o e).2 (I.ok.nofr e) (I.ok.noex b o e),I.base.free b o (I.ok.bs b o e).1 (I.ok.bs b o e).2 (I.ok.noex b o e)⟩
theorem Inv.bk (I:Inv X pins σ H s):∀ b o,X.base.get? b=some o→s.heap.get? b=some o:=fun b o e=>(I.bs b o e).1
theorem Inv.mod (I:Inv X pins σ H s):Mod X.K X.mg X.base:=I.ok.mod
theorem Inv.kIn (I:Inv X pins σ H s):X.K.In s.heap:=I.ok.mod.kin.keeps I.bk
theorem Inv.lt (I:Inv X pins σ H s):X.env.locals < s.heap.objs.size:=let ⟨_,hn,_⟩:=I.loc; hn.lt
theorem Inv.sz (I:Inv X pins σ H s):X.s₀.heap.objs.size≤s.heap.objs.size:=Nat.le_trans I.ok.above (Nat.le_of_lt I.lt)
theorem Inv.nofs (I:Inv X pins σ H s) {a:Addr} (h:s.heap.objs.size≤a):a∉X.fs:=fun hb=>by
 obtain⟨_,o,ho,_⟩:=I.ok.funs.mem hb
 exact absurd (Nat.lt_of_lt_of_le (Heap.lt_size ho) (Nat.le_trans I.sz h)) (Nat.lt_irrefl _)
theorem Inv.cne (I:Inv X pins σ H s):∀ x c,X.env.cells.lookup x=some c→c≠X.env.locals:=fun x c e z=>by
 obtain⟨v,o,ho,hd⟩:=I.cell x c e
 obtain⟨m,⟨o',es,ep,ho',hd',_⟩,_⟩:=I.loc
 rw [z,ho'] at ho; cases ho; rw [hd'] at hd; cases hd
theorem Inv.funs (I:Inv X pins σ H s):s.heap.FunFrames X.base X.outer:=by
 have all:∀ (l:List Env),(∀ b∈frs l,b∈X.fs)→X.s₀.heap.FunFrames X.base l→s.heap.FunFrames X.base l:=by
  intro l
  induction l with
  | nil=>intro _ _; trivial
  | cons env r ih =>
   intro hs hl
   obtain⟨hk,⟨L,o,hf,hn,ho,hd⟩,hr⟩:=hl
   have hL:L∈X.fs:=hs L (by unfold frs; rw [List.filterMap_cons,hf]; exact List.mem_cons_self)
   obtain⟨sl,e⟩:=I.base.slot L o ho (I.ok.frf L hL) hL fun z=>I.ok.exfs L z hL
   exact⟨hk,⟨L,_,hf,hn,e,hd⟩,ih (fun b hb=>hs b (by unfold frs; rw [List.filterMap_cons,hf]; exact List.mem_cons_of_mem _ hb)) hr⟩
 exact all X.outer (fun _ hb=>hb) I.ok.funs
theorem Inv.stack (I:Inv X pins σ H s):s.heap.FunFrames X.base X.stack:=by
 rcases I.ok.stk with e | ⟨e,hf⟩
 ·rw [e]; exact I.funs
 ·rw [e]
  obtain⟨m,hn,_⟩:=I.loc
  refine .cons (by rw [I.ok.kind]; decide) hf hn ?_ I.funs
  exact Heap.get?_none_of_le (Nat.le_trans I.ok.bsz I.ok.above)
theorem Inv.stkSub (I:Inv X pins σ H s):∀ b∈frs X.stack,b∈X.env.locals::X.fs:=fun b hb=>by
 rcases I.ok.stk with e | ⟨e,hf⟩
 ·rw [e] at hb; exact List.mem_cons_of_mem _ hb
 ·rw [e] at hb
  unfold frs at hb
  rw [List.filterMap_cons,hf] at hb
  exact hb
theorem Inv.stkFree (I:Inv X pins σ H s):∀ b∈frs X.stack,H b=none:=fun b hb=>by
 rcases List.mem_cons.mp (I.stkSub b hb) with e | hb
 ·rw [e]; exact I.free
 ·obtain⟨_,o,ho,_⟩:=I.ok.funs.mem hb
  exact I.base.free b o ho (I.ok.frf b hb) fun z=>I.ok.exfs b z hb
theorem Inv.step {g':Array GenState} {t':Nat} {d':Drawn} {ch:List Addr} (I:Inv X pins σ H s)
  (hch:∀ b∈ch,(b∈X.ex∨X.s₀.heap.objs.size≤b)∧b≠X.env.locals∧(∀ x c,X.env.cells.lookup x=some c→c≠b)∧∀ p∈X.pn++pins,p.1≠b)
  (keep:∀ b o,b≠X.env.locals→b∉X.fs→b∉ch→s.heap.get? b=some o→H b=none→h'.get? b=some o)
  (slot:∀ b o,b≠X.env.locals→b∈X.fs→b∉ch→s.heap.get? b=some o→H b=none→∃ sl,h'.get? b=some { o with slots:=sl }) (free:∀ b o,b∉ch→s.heap.get? b=some o→H b=none→H' b=none)
  (there:∀ b o,b∉ch→s.heap.get? b=some o→∃ o',h'.get? b=some o')
  (tups:∀ b xs,H b=some (.tup xs)→H' b=some (.tup xs)) (frzs:∀ b o u,H b=some (.frz o u)→H' b=some (.frz o u)) (tbls:∀ b ps,H b=some (.tbl ps)→∃ more,H' b=some (.tbl (ps++more)))
  (ns:∀ m,s.heap.Ns X.env.locals m→h'.Ns X.env.locals m) (hok:HOk X.prog X.w H' h') (hg:AllBare g') :
  Inv X pins σ H' { s with heap:=h',gens:=g',drawn:=d',toks:=t' }:=by
 have neL:∀ b o,X.s₀.heap.get? b=some o→b≠X.env.locals:=fun b o e=>Nat.ne_of_lt (Nat.lt_of_lt_of_le (Heap.lt_size e) I.ok.above)
 have neC:∀ b o,X.s₀.heap.get? b=some o→b∉X.ex→b∉ch:=fun b o e hx hb=>by
  rcases (hch b hb).1 with z | z
  ·exact hx z
  ·exact absurd (Nat.lt_of_lt_of_le (Heap.lt_size e) z) (Nat.lt_irrefl _)
 have cellK:∀ x c,X.env.cells.lookup x=some c→∀ v,s.heap.IsCell c v→h'.IsCell c v:=fun x c e v ⟨o,ho,hd⟩=>by
  have nch:c∉ch:=fun z=>(hch c z).2.2.1 x c e rfl
  by_cases hc:c∈X.fs
  ·obtain⟨sl,q⟩:=slot c o (I.cne x c e) hc nch ho (I.freeC x c e)
   exact⟨_,q,hd⟩
  ·exact⟨o,keep c o (I.cne x c e) hc nch ho (I.freeC x c e),hd⟩
 refine⟨I.ok,I.os,hg,⟨fun b o e n hb hx=>?_,fun b o e n hb hx=>?_,fun b o e n hx=>?_,fun b o e hx=>?_,fun b xs e=>tups b xs (I.base.tups b xs e),fun b o xs e=>frzs b o xs (I.base.frzs b o xs e),fun b ps e=>?_⟩,?_,fun x c e=>?_,?_,fun x c e=>?_,fun p hp=>?_,hok,I.len⟩
 ·exact keep b o (neL b o e) hb (neC b o e hx) (I.base.keep b o e n hb hx) (I.base.free b o e n hx)
 ·obtain⟨sl,e1⟩:=I.base.slot b o e n hb hx
  obtain⟨sl',e2⟩:=slot b _ (neL b o e) hb (neC b o e hx) e1 (I.base.free b o e n hx)
  exact⟨sl',e2⟩
 ·obtain⟨o',e1⟩:=I.base.there b o e hx
  exact free b o' (neC b o e hx) e1 (I.base.free b o e n hx)
 ·obtain⟨o',e1⟩:=I.base.there b o e hx
  exact there b o' (neC b o e hx) e1
 ·obtain⟨m1,e1⟩:=I.base.tbls b ps e
  obtain⟨m2,e2⟩:=tbls b _ e1
  exact⟨m1++m2,by rw [e2,Array.append_assoc]⟩
 ·obtain⟨m,hn,hl⟩:=I.loc
  refine⟨m,ns m hn,fun i x v e1 e2 e3=>?_⟩
  obtain⟨u,r,l⟩:=hl i x v e1 e2 e3
  refine⟨u,r,?_⟩
  rcases l with l | ⟨k,c,e,z⟩
  ·exact .inl l
  ·exact .inr ⟨k,c,e,cellK x c e _ z⟩
 ·obtain⟨v,z⟩:=I.cell x c e
  exact⟨v,cellK x c e v z⟩
 ·obtain⟨m,⟨o,_,_,ho,_⟩,_⟩:=I.loc
  exact free _ o (fun z=>(hch _ z).2.1 rfl) ho I.free
 ·obtain⟨v,o,ho,hd⟩:=I.cell x c e
  exact free c o (fun z=>(hch c z).2.2.1 x c e rfl) ho (I.freeC x c e)
 ·obtain⟨e,n,ne,nf,d⟩:=I.pin p hp
  have nch:p.1∉ch:=fun z=>(hch p.1 z).2.2.2 p hp rfl
  exact⟨keep p.1 p.2 ne nf nch e n,free p.1 p.2 nch e n,ne,nf,d⟩
theorem Inv.un {t':Nat} (I:Inv X pins σ H s) (u:Un X.fs [] H H' s.heap h') (hok:HOk X.prog X.w H' h'):Inv X pins σ H' { s with heap:=h',toks:=t' }:=by
 obtain⟨m,⟨o,es,ep,ho,r⟩,_⟩:=id I.loc
 obtain⟨sl,hL⟩:=u.any ho I.free (by simp)
 exact I.step (g':=s.gens) (d':=s.drawn) (ch:=[]) (fun _ z=>nomatch z) (fun b o _ hb _ e n=>u.keep b o e n hb (by simp)) (fun b o _ hb _ e n=>u.slot b o e n hb (by simp)) (fun b o _ e n=>u.free b o e n (by simp)) (fun b o _ e=>u.there b o e (by simp)) u.tups u.frzs u.tbls (fun m' hm=>by
  obtain⟨o',es',ep',ho',r'⟩:=hm
  rw [ho] at ho'; cases ho'
  exact⟨_,es',ep',hL,r'⟩) hok I.bare
theorem Inv.call {g':Array GenState} {t':Nat} {d':Drawn} {ch:List Addr} (I:Inv X pins σ H s) (u:Un (frs X.stack) ch H H' s.heap h') (hok:HOk X.prog X.w H' h') (hg:AllBare g')
  (hch:∀ b∈ch,(b∈X.ex∨X.s₀.heap.objs.size≤b)∧b≠X.env.locals∧(∀ x c,X.env.cells.lookup x=some c→c≠b)∧∀ p∈X.pn++pins,p.1≠b) :
  Inv X pins σ H' { s with heap:=h',gens:=g',drawn:=d',toks:=t' }:=by
 obtain⟨m,⟨o,es,ep,ho,r⟩,_⟩:=id I.loc
 obtain⟨sl,hL⟩:=u.any ho I.free fun z=>(hch _ z).2.1 rfl
 exact I.step (ch:=ch) hch (fun b o hL hb hc e n=>u.keep b o e n (fun z=>(List.mem_cons.mp (I.stkSub b z)).elim hL hb) hc) (fun b o _ _ hc e n=>u.any e n hc) (fun b o hc e n=>u.free b o e n hc) (fun b o hc e=>u.there b o e hc) u.tups u.frzs u.tbls (fun m' hm=>by
  obtain⟨o',es',ep',ho',r'⟩:=hm
  rw [ho] at ho'; cases ho'
  exact⟨_,es',ep',hL,r'⟩) hok hg
theorem Inv.turned {t':Nat} {it:Addr} (I:Inv X pins σ H s) (k:∀ b o,b≠it→s.heap.get? b=some o→h'.get? b=some o) (hn:H it=none) (hL:it≠X.env.locals)
  (h1:it∈X.ex∨X.s₀.heap.objs.size≤it) (h2:∀ x c,X.env.cells.lookup x=some c→c≠it) (h3:∀ p∈X.pn++pins,p.1≠it):Inv X pins σ H { s with heap:=h',toks:=t' }:=by
 have nit:∀ b u,H b=some u→b≠it:=fun b u e z=>by rw [z,hn] at e; cases e
 refine I.step (g':=s.gens) (d':=s.drawn) (ch:=[it]) (fun b hb=>?_) (fun b o _ _ hc e _=>k b o (fun z=>hc (by simp [z])) e) (fun b o _ _ hc e _=>⟨o.slots,k b o (fun z=>hc (by simp [z])) e⟩) (fun _ _ _ _ n=>n)
  (fun b o hc e=>⟨o,k b o (fun z=>hc (by simp [z])) e⟩) (fun _ _ e=>e) (fun _ _ _ e=>e) (fun b ps e=>⟨#[],by rw [e]; simp⟩) (fun m hm=>?_) (fun b u e=>?_) I.bare
 ·have e:b=it:=by simpa using hb
  subst e
  exact⟨h1,hL,h2,h3⟩
 ·obtain⟨o,es,ep,ho,r⟩:=hm
  exact⟨o,es,ep,k _ o (Ne.symm hL) ho,r⟩
 ·refine (I.hok b u e).stay (fun c v hc q=>k c v ?_ q) (fun _ q=>q) fun _ _ q=>q
  rcases hc with z | z
  ·rw [z]; exact nit b u e
  ·exact nit c _ z
theorem Inv.tok (I:Inv X pins σ H s) (t:Nat):Inv X pins σ H { s with toks:=t }:=I.un (h':=s.heap) (t':=t) Un.refl I.hok
theorem Inv.kept {t':Nat} (I:Inv X pins σ H s) (k:∀ b u,s.heap.get? b=some u→h'.get? b=some u):Inv X pins σ H { s with heap:=h',toks:=t' }:=I.un (Un.kept k) (I.hok.kept k)
theorem Inv.laid {a:Addr} {o:HO} {t':Nat} (I:Inv X pins σ H s) (k:∀ b u,s.heap.get? b=some u→h'.get? b=some u) (hp:s.heap.objs.size≤a) (new:q5d X.prog X.w (upd H a o) h' a o) :
  Inv X pins σ (upd H a o) { s with heap:=h',toks:=t' }:=I.un (Un.laid k hp (I.hok.fresh hp)) (I.hok.laid k hp new)
theorem Inv.write {x e:Addr} {o:HO} {t':Nat} (I:Inv X pins σ H s) (mu:Mut (H x)) (he:e=x∨H e=some (.own x)) (k:∀ b u,b≠e→s.heap.get? b=some u→h'.get? b=some u) (heo:∃ u,h'.get? e=some u)
  (new:q5d X.prog X.w (upd H x o) h' x o):Inv X pins σ (upd H x o) { s with heap:=h',toks:=t' }:=I.un (Un.write mu he k heo) (I.hok.write mu he k heo new)
theorem Inv.pins_of {pins':List (Addr × Obj)} (I:Inv X pins σ H s) (h:∀ p∈pins',s.heap.get? p.1=some p.2∧H p.1=none∧p.1≠X.env.locals∧p.1∉X.fs∧∀ v,p.2.data≠.cell v):Inv X pins' σ H s :=
 ⟨I.ok,I.os,I.bare,I.base,I.loc,I.cell,I.free,I.freeC,fun p hp=>(List.mem_append.mp hp).elim (fun z=>I.pin p (List.mem_append_left _ z)) (h p),I.hok,I.len⟩
theorem z3b {N:List Str} (hN:N.Nodup) {i j:Nat} {x:Str} (a:N[i]? = some x) (b:N[j]? = some x):i=j:=by
 obtain⟨h1,e1⟩:=List.getElem?_eq_some_iff.mp a
 obtain⟨h2,e2⟩:=List.getElem?_eq_some_iff.mp b
 exact (List.getElem_inj hN).mp (e1.trans e2.symm)
theorem z0c {M:Model} {A:Around} {E:Value→Shared→Prop} {i:Nat} {x:Str} {v:V} {u:Value} {Q:Unit→Shared→Prop} (I:Inv X pins σ H s) (hN:X.N.Nodup) (hi:X.N[i]? = some x) (hx:Loc X.env.scope x) (r:q5e v u)
  (h:∀ s',Inv X pins (σ.set i (some v)) H s'→(∃ a,Heap.SameBut a s.heap s'.heap∧(a=X.env.locals∨X.env.cells.lookup x=some a))→Q () s') (hf:X.fn x=true∨X.env.scope.names.lookup x=some .local:=by first | exact .inl rfl | exact .inr rfl | assumption):wpAny M A (storeName X.env x u) Q E s:=by
 obtain⟨m,hn,hl⟩:=id I.loc
 have hcls:(X.env.scope.kind==.class || (X.env.scope.kind==.module && X.env.locals != X.env.globals))=false:=by rw [I.ok.kind]; rfl
 have hiσ:i < σ.length:=by rw [I.len]; exact (List.getElem?_eq_some_iff.mp hi).1
 have cne:=I.cne
 have tracked:∀ {a:Addr} {h':Heap},(∃ o,s.heap.get? a=some o∧H a=none)→Heap.SameBut a s.heap h'→HOk X.prog X.w H h':=fun {a h'} ha hs b ob e=>by
  obtain⟨_,_,hfree⟩:=ha
  refine (I.hok b ob e).stay (fun c w' hc q=>(hs.2 c ?_).trans q) (fun _ q=>q) fun _ _ q=>q
  rintro rfl
  rcases hc with rfl | hc
  ·rw [hfree] at e; cases e
  ·rw [hfree] at hc; cases hc
 rcases hx with hk | hk
 ·refine wpAny_storeName_local hk hn (fun h' hn' hs=>?_) hcls
  obtain⟨oL,_,_,hoL,_⟩:=id hn
  refine h _ ⟨I.ok,I.os,I.bare,⟨fun b o e n hb hx=>?_,fun b o e n hb hx=>?_,I.base.free,fun b o e hx=>?_,I.base.tups,I.base.frzs,I.base.tbls⟩,⟨_,hn',fun j y v' e1 e2 e3=>?_⟩,fun y c e=>?_,I.free,I.freeC,fun p hp=>?_,tracked ⟨oL,hoL,I.free⟩ hs,by simpa using I.len⟩ ⟨_,hs,.inl rfl⟩
  ·exact (hs.2 b (Nat.ne_of_lt (Nat.lt_of_lt_of_le (Heap.lt_size e) I.ok.above))).trans (I.base.keep b o e n hb hx)
  ·obtain⟨sl,e1⟩:=I.base.slot b o e n hb hx
   exact⟨sl,(hs.2 b (Nat.ne_of_lt (Nat.lt_of_lt_of_le (Heap.lt_size e) I.ok.above))).trans e1⟩
  ·obtain⟨o',e1⟩:=I.base.there b o e hx
   exact⟨o',(hs.2 b (Nat.ne_of_lt (Nat.lt_of_lt_of_le (Heap.lt_size e) I.ok.above))).trans e1⟩
  ·by_cases hj:j=i
   ·subst hj
    rw [hi] at e1; cases e1
    rw [List.getElem?_set_self hiσ] at e2
    cases e2
    exact⟨u,r,.inl ⟨hk,by simp⟩⟩
   ·rw [List.getElem?_set_ne (Ne.symm hj)] at e2
    obtain⟨u',r',q⟩:=hl j y v' e1 e2 e3
    refine⟨u',r',?_⟩
    rcases q with ⟨k,e⟩ | ⟨k,c,e,z⟩
    ·refine .inl ⟨k,?_⟩
     have:y≠x:=fun e=>hj (z3b hN e1 (e▸hi))
     simp [this,e]
    ·exact .inr ⟨k,c,e,z.sameBut hs (cne y c e)⟩
  ·obtain⟨w',z⟩:=I.cell y c e
   exact⟨w',z.sameBut hs (cne y c e)⟩
  ·obtain⟨e,n,ne,nf,d⟩:=I.pin p hp
   exact⟨(hs.2 p.1 ne).trans e,n,ne,nf,d⟩
 ·have hfn:X.fn x=true:=by
   rcases hf with z | z
   ·exact z
   ·rw [z] at hk; cases hk
  obtain⟨c,hc⟩:=I.ok.has x (.inl hk)
  obtain⟨w',z⟩:=I.cell x c hc
  refine wpAny_storeName_cell I.ok.kind hk hc z (fun h' hc' hs=>?_)
  obtain⟨oc,hoc,hocd⟩:=id z
  refine h { s with heap:=h' } ⟨I.ok,I.os,I.bare,⟨fun b o e n hb hx=>?_,fun b o e n hb hx=>?_,I.base.free,fun b o e hx=>?_,I.base.tups,I.base.frzs,I.base.tbls⟩,⟨m,hn.sameBut hs (Ne.symm (cne x c hc)),fun j y v' e1 e2 e3=>?_⟩,fun y c' e=>?_,I.free,I.freeC,fun p hp=>?_,tracked ⟨oc,hoc,I.freeC x c hc⟩ hs,by simpa using I.len⟩ ⟨c,hs,.inr hc⟩
  ·exact (hs.2 b (Nat.ne_of_lt (Nat.lt_of_lt_of_le (Heap.lt_size e) (I.ok.cab x c hfn hc)))).trans (I.base.keep b o e n hb hx)
  ·obtain⟨sl,e1⟩:=I.base.slot b o e n hb hx
   exact⟨sl,(hs.2 b (Nat.ne_of_lt (Nat.lt_of_lt_of_le (Heap.lt_size e) (I.ok.cab x c hfn hc)))).trans e1⟩
  ·obtain⟨o',e1⟩:=I.base.there b o e hx
   exact⟨o',(hs.2 b (Nat.ne_of_lt (Nat.lt_of_lt_of_le (Heap.lt_size e) (I.ok.cab x c hfn hc)))).trans e1⟩
  ·by_cases hj:j=i
   ·subst hj
    rw [hi] at e1; cases e1
    rw [List.getElem?_set_self hiσ] at e2
    cases e2
    exact⟨u,r,.inr ⟨.inl hk,c,hc,hc'⟩⟩
   ·rw [List.getElem?_set_ne (Ne.symm hj)] at e2
    obtain⟨u',r',q⟩:=hl j y v' e1 e2 e3
    refine⟨u',r',?_⟩
    rcases q with q | ⟨k,c',e,z'⟩
    ·exact .inl q
    ·refine .inr ⟨k,c',e,z'.sameBut hs ?_⟩
     rintro rfl
     exact hj (z3b hN e1 (I.ok.inj _ _ _ e hc▸hi))
  ·by_cases hcc:c'=c
   ·subst hcc; exact⟨_,hc'⟩
   ·obtain⟨w2,z2⟩:=I.cell y c' e
    exact⟨w2,z2.sameBut hs hcc⟩
  ·obtain⟨e,n,ne,nf,d⟩:=I.pin p hp
   refine⟨(hs.2 p.1 ?_).trans e,n,ne,nf,d⟩
   intro q
   rw [q,hoc] at e
   have q':oc=p.2:=Option.some.inj e
   exact d w' (by rw [← q']; exact hocd)
theorem x7l {M:Model} {A:Around} {E:Value→Shared→Prop} {i:Nat} {x:Str} {v:V} {u:Value} {Q:Unit→Shared→Prop} (I:Inv X pins σ H s) (hN:X.N.Nodup) (hi:X.N[i]? = some x) (hx:Loc X.env.scope x) (r:q5e v u)
  (h:∀ s',Inv X pins (σ.set i (some v)) H s'→Q () s') (hf:X.fn x=true∨X.env.scope.names.lookup x=some .local:=by first | exact .inl rfl | exact .inr rfl | assumption):wpAny M A (storeName X.env x u) Q E s :=
 z0c I hN hi hx r (fun s' I' _=>h s' I') hf
theorem Inv.call' {s':Shared} {ch:List Addr} (I:Inv X pins σ H s) (ho:s'.os=s.os) (u:Un (frs X.stack) ch H H' s.heap s'.heap) (hok:HOk X.prog X.w H' s'.heap) (hg:AllBare s'.gens)
  (hch:∀ b∈ch,(b∈X.ex∨X.s₀.heap.objs.size≤b)∧b≠X.env.locals∧(∀ x c,X.env.cells.lookup x=some c→c≠b)∧∀ p∈X.pn++pins,p.1≠b):Inv X pins σ H' s':=by
 obtain⟨h',g',d',t',o'⟩:=s'
 have e:o'=s.os:=ho
 subst e
 exact I.call (g':=g') (t':=t') (d':=d') u hok hg hch
end
noncomputable abbrev XK:=Value→Option Addr→Hp→Prop
noncomputable abbrev St:=List (Option V)
noncomputable abbrev VK:=V→Hp→Prop
noncomputable abbrev TE:=St→Hp→VK→Prop
noncomputable abbrev TT:=St→Hp→(Bool→Hp→Prop)→Prop
noncomputable abbrev TA:=St→Hp→(List V→Hp→Prop)→Prop
structure Ends where
 nx:St→Hp→Prop
 rt:VK
 bk:St→Hp→Prop:=fun _ _=>False
 ct:St→Hp→Prop:=fun _ _=>False
noncomputable abbrev TS:=Ends→St→Hp→Prop
noncomputable def EP (X:Cx) (pins:List (Addr × Obj)) (σ:St) (Q:VK) (u:Value) (s':Shared):Prop:=∃ v H',Inv X pins σ H' s'∧q5e v u∧Q v H'
noncomputable def TP (X:Cx) (pins:List (Addr × Obj)) (σ:St) (Q:Bool→Hp→Prop) (b:Bool) (s':Shared):Prop:=∃ H',Inv X pins σ H' s'∧Q b H'
noncomputable def AP (X:Cx) (pins:List (Addr × Obj)) (σ:St) (Q:List V→Hp→Prop) (us:List Value) (s':Shared):Prop:=∃ vs H',Inv X pins σ H' s'∧q4l vs us∧Q vs H'
noncomputable def SP (X:Cx) (pins:List (Addr × Obj)) (D:Ends) (f:Flow) (s':Shared):Prop :=
 match f with
 | .next=>∃ σ' H',Inv X pins σ' H' s'∧D.nx σ' H'
 | .brk=>∃ σ' H',Inv X pins σ' H' s'∧D.bk σ' H'
 | .cont=>∃ σ' H',Inv X pins σ' H' s'∧D.ct σ' H'
 | .ret u=>∃ v σ' H',Inv X pins σ' H' s'∧q5e v u∧D.rt v H'
noncomputable def PE (X:Cx) (e:Expr) (t:TE):Prop :=
 ∀ (pins:List (Addr × Obj)) (s:Shared) (σ:St) (H:Hp) (Q:VK),Inv X pins σ H s→t σ H Q→wpAny (model X.prog X.w) X.A (eval e X.env) (EP X pins σ Q) X.xe s
noncomputable def PT (X:Cx) (e:Expr) (t:TT):Prop :=
 ∀ (pins:List (Addr × Obj)) (s:Shared) (σ:St) (H:Hp) (Q:Bool→Hp→Prop),Inv X pins σ H s→t σ H Q→wpAny (model X.prog X.w) X.A (isTrue e X.env (eval e X.env)) (TP X pins σ Q) X.xe s
noncomputable def PW (X:Cx) (e:Expr) (t:TT):Prop :=
 ∀ (whole:Sem Value) (pins:List (Addr × Obj)) (s:Shared) (σ:St) (H:Hp) (Q:Bool→Hp→Prop),Inv X pins σ H s→t σ H Q→wpAny (model X.prog X.w) X.A (isTrue e X.env whole) (TP X pins σ Q) X.xe s
theorem PW.pt {X:Cx} {e:Expr} {t:TT} (h:PW X e t):PT X e t:=h _
noncomputable def PA (X:Cx) (es:List Expr) (t:TA):Prop :=
 ∀ (pos:Pos) (pins:List (Addr × Obj)) (s:Shared) (σ:St) (H:Hp) (Q:List V→Hp→Prop),Inv X pins σ H s→t σ H Q→wpAny (model X.prog X.w) X.A (spliced (backTo pos (starEach es X.env))) (AP X pins σ Q) X.xe s
noncomputable def PS (X:Cx) (st:Stmt) (t:TS):Prop :=
 ∀ (pins:List (Addr × Obj)) (s:Shared) (σ:St) (H:Hp) (D:Ends),Inv X pins σ H s→t D σ H→wpAny (model X.prog X.w) X.A (exec st X.env) (SP X pins D) X.xe s
noncomputable def PSs (X:Cx) (st:List Stmt) (t:TS):Prop :=
 ∀ (pins:List (Addr × Obj)) (s:Shared) (σ:St) (H:Hp) (D:Ends),Inv X pins σ H s→t D σ H→wpAny (model X.prog X.w) X.A (execs st X.env) (SP X pins D) X.xe s
theorem thn {α:Type} {t:Sem α} {Q Q':α→Shared→Prop} {M:Model} {A:Around} {E:Value→Shared→Prop} {s:Shared} (h:wpAny M A t Q E s) (hQ:∀ a s,Q a s→Q' a s):wpAny M A t Q' E s:=wpAny_mono h hQ fun _ _ x=>x
section
variable {X:Cx}
noncomputable def w2c (i:Nat):TE:=fun σ H Q=>∃ v,σ[i]? = some (some v)∧Q v H
noncomputable def tC (v:V):TE:=fun _ H Q=>Q v H
theorem w0x {i:Nat} {x:Str} {pos:Pos} (hN:X.N[i]? = some x) (hv:Vis X.env.scope x) (hd:(x==("__debug__" : Str))=false:=by decide) (hcd:(x==("__classdict__" : Str))=false:=by decide):PE X (.Name x pos) (w2c i):=by
 intro pins s σ H Q I h
 obtain⟨v,e,h⟩:=h
 obtain⟨m,hn,hl⟩:=I.loc
 obtain⟨u,r,l⟩:=hl i x v hN e hv
 have fin:EP X pins σ Q u s:=⟨v,H,I,r,h⟩
 rcases l with ⟨hk,hm⟩ | ⟨hk,c,hc,hcell⟩
 ·exact wpAny_Name (wpAny_loadName_local I.ok.kind hk hn hm fin) hd
 ·rcases hk with hk | hk
  ·exact wpAny_Name (wpAny_loadName_cell I.ok.kind hk hc hcell fin) hd
  ·exact wpAny_Name (wpAny_loadName_free I.ok.kind hk hc hcell fin hcd) hd
theorem q0a {i j pos}:PE X (.Constant (.int i) j pos) (tC (.int i)):=fun _ _ _ H _ I h=>wpAny_Constant_int ⟨.int i,H,I.tok _,⟨_,rfl⟩,h⟩
theorem x0q {b j pos}:PE X (.Constant (.bool b) j pos) (tC (.bl b)):=fun _ _ _ H _ I h=>Constant_bool ⟨.bl b,H,I,rfl,h⟩
theorem x4n {j pos}:PE X (.Constant .none j pos) (tC .non):=fun _ _ _ H _ I h=>Constant_none ⟨.non,H,I,rfl,h⟩
theorem q0n {x j pos}:PE X (.Constant (.str x) j pos) (tC (.str x)):=fun _ _ _ H _ I h=>Calls.Constant_str ⟨.str x,H,I.tok _,⟨_,rfl⟩,h⟩
noncomputable def Gl (X:Cx) (x:Str):Prop:=X.env.kindOf x=some .globalImplicit
theorem x2y {E:Value→Shared→Prop} {pins:List (Addr × Obj)} {s:Shared} {σ:St} {H:Hp} {x:Str} {u:Value} {pos:Pos} {Q:Value→Shared→Prop} (I:Inv X pins σ H s) (hg:Gl X x) (hm:X.mg x=some u) (h:Q u s)
  (hd:(x==("__debug__" : Str))=false:=by decide):wpAny (model X.prog X.w) X.A (eval (.Name x pos) X.env) Q E s :=
 Calls.Name_function_global I.ok.kind hg (Calls.loadGlobal_global (by rw [I.ok.glob]; exact I.mod.glob.keeps I.bk) hm h) hd
theorem x4h {E:Value→Shared→Prop} {pins:List (Addr × Obj)} {s:Shared} {σ:St} {H:Hp} {x:Str} {u:Value} {pos:Pos} {Q:Value→Shared→Prop} (I:Inv X pins σ H s) (hg:Gl X x) (hm:X.mg x=none) (hv:bootBuiltins x=some u) (h:Q u s)
  (hn:x ≠ "__name__" := by decide) (hd:(x==("__debug__" : Str))=false:=by decide):wpAny (model X.prog X.w) X.A (eval (.Name x pos) X.env) Q E s:=by
 obtain⟨mb,h1,h2⟩:=I.mod.blt
 exact Calls.Name_function_global I.ok.kind hg (Calls.loadGlobal_builtin (by rw [I.ok.glob]; exact I.mod.glob.keeps I.bk) hm (by rw [I.ok.blt]; exact h1.keeps I.bk) ((h2 x hn).trans hv) h) hd
theorem j8d {x:Str} {v:V} {u:Value} {pos:Pos} (hg:Gl X x) (hm:X.mg x=some u) (r:q5e v u) (hd:(x==("__debug__" : Str))=false:=by decide):PE X (.Name x pos) (tC v) :=
 fun _ _ _ H _ I h=>x2y I hg hm ⟨v,H,I,r,h⟩ hd
theorem j7t {x:Str} {v:V} {u:Value} {pos:Pos} (hg:Gl X x) (hm:X.mg x=none) (hv:bootBuiltins x=some u) (r:q5e v u) (hn:x ≠ "__name__" := by decide) (hd:(x==("__debug__" : Str))=false:=by decide):PE X (.Name x pos) (tC v) :=
 fun _ _ _ H _ I h=>x4h I hg hm hv ⟨v,H,I,r,h⟩ hn hd
variable {a b:Expr} {ta tb:TE} {pos:Pos}
noncomputable def tB (t:TE):TT:=fun σ H Q=>t σ H fun x H1=>∃ c,x=.bl c∧Q c H1
theorem q2s {e:Expr} {t:TE} (h:PE X e t) (he:∀ whole,isTrue e X.env whole=(do let v←whole; standAt e.pos; holding [v] (truthy v)):=by intro _; rfl):PT X e (tB t):=by
 intro pins s σ H Q I hw
 refine isTrue_plain (thn (h pins s σ H _ I hw) fun v s1 ⟨x,H1,I1,r1,q1⟩=>?_) (he _)
 obtain⟨d,rfl,q⟩:=q1
 cases r1
 exact wpAny_truthy_bool ⟨H1,I1,q⟩
variable {tA tB':TT} {x0x:List Expr}
noncomputable def w7u (t u:TT):TT:=fun σ H Q=>t σ H fun c H1=>if c=true then u σ H1 Q else Q false H1
noncomputable def tOr (t u:TT):TT:=fun σ H Q=>t σ H fun c H1=>if c=true then Q true H1 else u σ H1 Q
noncomputable def w7n (t:TT):TT:=fun σ H Q=>t σ H fun c H1=>Q (!c) H1
theorem x7w (ha:PT X a tA):PW X (.BoolOp .And [a] pos) tA:=by
 intro wh pins s σ H Q I h
 refine isTrue_and (thn (ha pins s σ H Q I h) fun c s1 e=>?_)
 cases c with
 | true=>exact isTrue_and_nil e
 | false=>exact e
theorem q9s (ha:PT X a tA):PW X (.BoolOp .Or [a] pos) tA:=by
 intro wh pins s σ H Q I h
 refine isTrue_or (thn (ha pins s σ H Q I h) fun c s1 e=>?_)
 cases c with
 | false=>exact isTrue_or_nil e
 | true=>exact e
theorem x6n (ha:PT X a tA) (hb:PW X (.BoolOp .And (b::x0x) pos) tB'):PW X (.BoolOp .And (a::b::x0x) pos) (w7u tA tB'):=by
 intro wh pins s σ H Q I h
 refine isTrue_and (thn (ha pins s σ H _ I h) fun c s1 ⟨H1,I1,q1⟩=>?_)
 cases c with
 | true=>exact hb wh pins s1 σ H1 Q I1 q1
 | false=>exact⟨H1,I1,q1⟩
theorem q8r (ha:PT X a tA) (hb:PW X (.BoolOp .Or (b::x0x) pos) tB'):PW X (.BoolOp .Or (a::b::x0x) pos) (tOr tA tB'):=by
 intro wh pins s σ H Q I h
 refine isTrue_or (thn (ha pins s σ H _ I h) fun c s1 ⟨H1,I1,q1⟩=>?_)
 cases c with
 | true=>exact⟨H1,I1,q1⟩
 | false=>exact hb wh pins s1 σ H1 Q I1 q1
theorem q3a (ha:PT X a tA):PT X (.UnaryOp .Not a pos) (w7n tA):=by
 intro pins s σ H Q I h
 exact isTrue_not (ha pins s σ H (fun c H1=>Q (!c) H1) I h)
noncomputable def w3n (ta tb:TE):TE:=fun σ H Q=>ta σ H fun x H1=>∃ c,x=.bl c∧if c=true then tb σ H1 Q else Q (.bl false) H1
noncomputable def w6u (ta tb:TE):TE:=fun σ H Q=>ta σ H fun x H1=>∃ c,x=.bl c∧if c=true then Q (.bl true) H1 else tb σ H1 Q
noncomputable def w3z (ta:TE):TE:=fun σ H Q=>ta σ H fun x H1=>∃ c,x=.bl c∧Q (.bl (!c)) H1
theorem q2j {op} {t:TE} (h:PE X a t):PE X (.BoolOp op [a] pos) t:=fun pins s σ H Q I hw=>BoolOp_one (h pins s σ H Q I hw)
theorem q2b (ha:PE X a ta) (hb:PE X (.BoolOp .And (b::x0x) pos) tb):PE X (.BoolOp .And (a::b::x0x) pos) (w3n ta tb):=by
 intro pins s σ H Q I h
 refine BoolOp_and (thn (ha pins s σ H _ I h) fun v s1 ⟨x,H1,I1,r1,q1⟩=>?_)
 obtain⟨c,rfl,q1⟩:=q1
 cases r1
 refine wpAny_truthy_bool ?_
 cases c with
 | true=>exact hb pins s1 σ H1 Q I1 q1
 | false=>exact⟨.bl false,H1,I1,rfl,q1⟩
theorem z9e (ha:PE X a ta) (hb:PE X (.BoolOp .Or (b::x0x) pos) tb):PE X (.BoolOp .Or (a::b::x0x) pos) (w6u ta tb):=by
 intro pins s σ H Q I h
 refine BoolOp_or (thn (ha pins s σ H _ I h) fun v s1 ⟨x,H1,I1,r1,q1⟩=>?_)
 obtain⟨c,rfl,q1⟩:=q1
 cases r1
 refine wpAny_truthy_bool ?_
 cases c with
 | false=>exact hb pins s1 σ H1 Q I1 q1
 | true=>exact⟨.bl true,H1,I1,rfl,q1⟩
theorem z3g (ha:PE X a ta):PE X (.UnaryOp .Not a pos) (w3z ta):=by
 intro pins s σ H Q I h
 refine UnaryOp_ (thn (ha pins s σ H _ I h) fun v s1 ⟨x,H1,I1,r1,q1⟩=>?_)
 obtain⟨c,rfl,q1⟩:=q1
 cases r1
 exact not_of (wpAny_truthy_bool ⟨.bl (!c),H1,I1,rfl,q1⟩)
noncomputable def tIf (t:TT) (ta tb:TE):TE:=fun σ H Q=>t σ H fun c H1=>if c=true then ta σ H1 Q else tb σ H1 Q
theorem z2o {c:Expr} (hc:PT X c tA) (ha:PE X a ta) (hb:PE X b tb):PE X (.IfExp c a b pos) (tIf tA ta tb):=by
 intro pins s σ H Q I h
 refine wpAny_IfExp (thn (hc pins s σ H _ I h) fun d s1 ⟨H1,I1,q1⟩=>?_)
 cases d with
 | true=>exact ha pins s1 σ H1 Q I1 q1
 | false=>exact hb pins s1 σ H1 Q I1 q1
end
noncomputable def SqL (K:Frag) (H:Hp) (a:Addr) (xs:List V):Prop :=
 Rd H a (.lst xs) ∨
  ∃ (o:Obj) (its:Array Value) (n:Nat),K.lookup a=some o∧o.cls=.type "list" ∧ o.dict=none∧o.data=.seq its n∧its.size≤sizeLine∧q4l xs its.toList
noncomputable def SqT (K:Frag) (H:Hp) (a:Addr) (xs:List V):Prop :=
 Rd H a (.tup xs) ∨
  ∃ (o:Obj) (its:Array Value) (n:Nat),K.lookup a=some o∧o.cls=.type "tuple" ∧ o.data=.seq its n∧its.size≤sizeLine∧q4l xs its.toList
noncomputable def w7l:Value→Option V
 | .none=>some .non
 | .bool b=>some (.bl b)
 | .int i _=>some (.int i)
 | .str x _=>some (.str x)
 | .bytes b _=>some (.byt b)
 | .float b _=>some (.flt b)
 | .ref a=>some (.ref a)
 | .type n=>some (.ty n)
 | _=>none
theorem q5e.abs {x:V} {u:Value} (r:q5e x u):w7l u=some x:=by
 cases x with
 | non=>cases r; rfl
 | bl _=>cases r; rfl
 | int _=>obtain⟨t,rfl⟩:=r; rfl
 | str _=>obtain⟨t,rfl⟩:=r; rfl
 | byt _=>obtain⟨t,rfl⟩:=r; rfl
 | flt _=>obtain⟨t,rfl⟩:=r; rfl
 | ref _=>cases r; rfl
 | ty _=>cases r; rfl
theorem q5e.inj {x y:V} {u:Value} (r:q5e x u) (q:q5e y u):x=y:=Option.some.inj (r.abs.symm.trans q.abs)
theorem q4l.inj:∀ {xs ys:List V} {us:List Value},q4l xs us→q4l ys us→xs=ys
 | _,_,_,.nil,.nil=>rfl
 | _,_,_,.cons r t,.cons r' t'=>by rw [r.inj r',q4l.inj t t']
section
variable {X:Cx} {pins:List (Addr × Obj)} {σ:St} {H:Hp} {s:Shared} {a:Addr} {xs ys:List V}
theorem SqL.of {K:Frag} (h:H a=some (.lst xs)):SqL K H a xs:=.inl (.inl h)
theorem SqT.of {K:Frag} (h:H a=some (.tup xs)):SqT K H a xs:=.inl (.inl h)
theorem Inv.list (I:Inv X pins σ H s) (h:SqL X.K H a xs):∃ its:List Value,q4l xs its∧PlainL s.heap a its.toArray∧xs.length≤sizeLine:=by
 rcases h with h | ⟨o,its,n,hk,hc,hd,hs,hz,r⟩
 ·obtain⟨z,its,n,r,e⟩:=h.ok I.hok
  exact⟨its,r,⟨_,n,e,rfl,rfl,rfl⟩,z⟩
 ·refine⟨its.toList,r,⟨o,n,I.kIn a o hk,hc,hd,by simpa using hs⟩,?_⟩
  have e:=r.length
  simp only [Array.length_toList] at e
  omega
theorem Inv.tuple (I:Inv X pins σ H s) (h:SqT X.K H a xs):∃ its:List Value,q4l xs its∧IsTup s.heap a its.toArray∧xs.length≤sizeLine:=by
 rcases h with h | ⟨o,its,n,hk,hc,hs,hz,r⟩
 ·obtain⟨z,its,r,p⟩:=h.ok I.hok
  exact⟨its,r,p,z⟩
 ·refine⟨its.toList,r,⟨o,I.kIn a o hk,hc,n,by simpa using hs⟩,?_⟩
  have e:=r.length
  simp only [Array.length_toList] at e
  omega
theorem Inv.list_inj (I:Inv X pins σ H s) (h:SqL X.K H a xs) (h':SqL X.K H a ys):xs=ys:=by
 obtain⟨its,r,⟨o,n,e,_,_,d⟩,_⟩:=I.list h
 obtain⟨its',r',⟨o',n',e',_,_,d'⟩,_⟩:=I.list h'
 rw [e] at e'; cases e'
 rw [d] at d'
 injection d' with d1 _
 have:its=its':=by simpa using congrArg Array.toList d1
 subst this
 exact r.inj r'
theorem Inv.tuple_inj (I:Inv X pins σ H s) (h:SqT X.K H a xs) (h':SqT X.K H a ys):xs=ys:=by
 obtain⟨its,r,⟨o,e,_,n,d⟩,_⟩:=I.tuple h
 obtain⟨its',r',⟨o',e',_,n',d'⟩,_⟩:=I.tuple h'
 rw [e] at e'; cases e'
 rw [d] at d'
 injection d' with d1 _
 have:its=its':=by simpa using congrArg Array.toList d1
 subst this
 exact r.inj r'
end
noncomputable abbrev Cx.wish (X:Cx) (E:Value→Shared→Prop):Cx:={ X with xe:=E }
noncomputable abbrev Cx.nox (X:Cx):Cx:=X.wish fun _ _=>False
theorem Cx.Ok.wish {X:Cx} (ok:X.Ok) (E:Value→Shared→Prop):(X.wish E).Ok :=
 ⟨ok.mod,ok.kind,ok.glob,ok.blt,ok.above,ok.inj,ok.has,ok.cab,ok.hd,ok.frames,ok.stk,ok.exf,ok.bs,ok.bsz,ok.noex,ok.exfs,ok.funs,ok.frf⟩
theorem Cx.Ok.unwish {X:Cx} {E:Value→Shared→Prop} (ok:(X.wish E).Ok):X.Ok :=
 ⟨ok.mod,ok.kind,ok.glob,ok.blt,ok.above,ok.inj,ok.has,ok.cab,ok.hd,ok.frames,ok.stk,ok.exf,ok.bs,ok.bsz,ok.noex,ok.exfs,ok.funs,ok.frf⟩
section
variable {X:Cx} {pins:List (Addr × Obj)} {σ:St} {H:Hp} {s:Shared} {E:Value→Shared→Prop}
theorem Inv.wish (I:Inv X pins σ H s) (E:Value→Shared→Prop):Inv (X.wish E) pins σ H s:=⟨I.ok.wish E,I.os,I.bare,I.base,I.loc,I.cell,I.free,I.freeC,I.pin,I.hok,I.len⟩
theorem Inv.unwish (I:Inv (X.wish E) pins σ H s):Inv X pins σ H s:=⟨I.ok.unwish,I.os,I.bare,I.base,I.loc,I.cell,I.free,I.freeC,I.pin,I.hok,I.len⟩
theorem SP.unwish {D:Ends} {f:Flow} {s':Shared} (h:SP (X.wish E) pins D f s'):SP X pins D f s':=by
 cases f with
 | next=>obtain⟨σ',H',I,q⟩:=h; exact⟨σ',H',I.unwish,q⟩
 | brk=>obtain⟨σ',H',I,q⟩:=h; exact⟨σ',H',I.unwish,q⟩
 | cont=>obtain⟨σ',H',I,q⟩:=h; exact⟨σ',H',I.unwish,q⟩
 | ret u=>obtain⟨v,σ',H',I,r,q⟩:=h; exact⟨v,σ',H',I.unwish,r,q⟩
theorem PSs.nox {st:List Stmt} {t:TS} (h:PSs X.nox st t):PSs X st t:=fun pins s σ H D I hw =>
 wpAny_mono (h pins s σ H D (I.wish _) hw) (fun _ _ q=>q.unwish) fun _ _ z=>False.elim z
end
section
variable {X:Cx} {st:Stmt} {x0x:List Stmt} {t u:TS} {e:Expr} {te:TE} {pos:Pos}
noncomputable def w3g:TS:=fun D σ H=>D.nx σ H
noncomputable def w3s (t u:TS):TS:=fun D σ H=>t { D with nx:=u D } σ H
theorem q0s:PSs X [] w3g:=fun _ _ σ H _ I h=>wpAny_execs_nil ⟨σ,H,I,h⟩
theorem q1e (h1:PS X st t) (h2:PSs X x0x u):PSs X (st::x0x) (w3s t u):=by
 intro pins s σ H D I h
 refine wpAny_execs_cons (thn (h1 pins s σ H { D with nx:=u D } I h) fun f s1 q=>?_)
 cases f with
 | next =>
  obtain⟨σ',H',I',q⟩:=q
  exact h2 pins s1 σ' H' D I' q
 | ret v=>exact q
 | brk=>exact q
 | cont=>exact q
theorem q0p (h1:PS X st t):PSs X [st] t:=by
 intro pins s σ H D I h
 refine wpAny_execs_cons (thn (h1 pins s σ H D I h) fun f s1 q=>?_)
 cases f with
 | next=>exact wpAny_execs_nil q
 | ret v=>exact q
 | brk=>exact q
 | cont=>exact q
theorem Inv.quiet {pins:List (Addr × Obj)} {σ:St} {H:Hp} {s:Shared} (I:Inv X pins σ H s):interactive X.env=false:=by simp [interactive,I.ok.kind]
noncomputable def w3c (te:TE):TS:=fun D σ H=>te σ H fun _ H1=>D.nx σ H1
theorem x7f (he:PE X e te) (hs:swapsWith e none pos.line X.env=pure false:=by rfl):PS X (.Expr e pos) (w3c te):=by
 intro pins s σ H D I h
 exact wpAny_Expr_any (thn (he pins s σ H _ I h) fun v s1 ⟨x,H1,I1,r1,q1⟩=>⟨σ,H1,I1,q1⟩) I.quiet hs
noncomputable def w4s (te:TE):TS:=fun D σ H=>te σ H D.rt
theorem q0l (he:PE X e te):PS X (.Return (some e) pos) (w4s te):=by
 intro pins s σ H D I h
 exact wpAny_Return_some (thn (he pins s σ H _ I h) fun v s1 ⟨x,H1,I1,r1,q1⟩=>⟨x,σ,H1,I1,r1,q1⟩)
noncomputable def w5e (c:TT) (t u:TS):TS:=fun D σ H=>c σ H fun b H1=>if b=true then t D σ H1 else u D σ H1
theorem q1r {c:Expr} {a b:List Stmt} {tc:TT} (hc:PT X c tc) (ha:PSs X a t) (hb:PSs X b u):PS X (.If c a b pos) (w5e tc t u):=by
 intro pins s σ H D I h
 refine wpAny_If (thn (hc pins s σ H _ I h) fun d s1 ⟨H1,I1,q1⟩=>?_)
 cases d with
 | true=>exact ha pins s1 σ H1 D I1 q1
 | false=>exact hb pins s1 σ H1 D I1 q1
noncomputable def j9w:TS:=fun _ _ _=>False
theorem q6f {sts:List Stmt}:PSs X sts j9w:=fun _ _ _ _ _ _ h=>h.elim
end
noncomputable abbrev TG:=V→St→Hp→(St→Hp→Prop)→Prop
noncomputable abbrev TGs:=List V→St→Hp→(St→Hp→Prop)→Prop
noncomputable def PG (X:Cx) (target:Expr) (t:TG):Prop :=
 ∀ (pins:List (Addr × Obj)) (s:Shared) (σ:St) (H:Hp) (v:V) (u:Value) (Q:St→Hp→Prop),Inv X pins σ H s→q5e v u→t v σ H Q →
  wpAny (model X.prog X.w) X.A (assign target X.env u) (fun _ s'=>∃ σ' H',Inv X pins σ' H' s'∧Q σ' H') X.xe s
noncomputable def PGs (X:Cx) (ts:List Expr) (t:TGs):Prop :=
 ∀ (pins:List (Addr × Obj)) (s:Shared) (σ:St) (H:Hp) (vs:List V) (us:List Value) (Q:St→Hp→Prop),Inv X pins σ H s→q4l vs us→t vs σ H Q →
  wpAny (model X.prog X.w) X.A (assignInOrder ((assignEach ts X.env).map (·.2)) us) (fun _ s'=>∃ σ' H',Inv X pins σ' H' s'∧Q σ' H') X.xe s
section
variable {X:Cx} {pos:Pos}
noncomputable def z9c (i:Nat):TG:=fun v σ H Q=>Q (σ.set i (some v)) H
theorem q1i {i:Nat} {x:Str} (hN:X.N.Nodup) (hi:X.N[i]? = some x) (hx:Loc X.env.scope x) (hf:X.fn x=true∨X.env.scope.names.lookup x=some .local:=by first | exact .inl rfl | exact .inr rfl | assumption):PG X (.Name x pos) (z9c i):=by
 intro pins s σ H v u Q I r h
 exact wpAny_assign_Name (x7l I hN hi hx r (fun s' I'=>⟨_,H,I',h⟩) hf)
noncomputable def w5q:TGs:=fun vs σ H Q=>vs=[]∧Q σ H
noncomputable def w4d (t:TG) (u:TGs):TGs:=fun vs σ H Q=>∃ v r,vs=v::r∧t v σ H fun σ' H'=>u r σ' H' Q
theorem q6b:PGs X [] w5q:=by
 intro pins s σ H vs us Q I r h
 obtain⟨e,h⟩:=h
 subst e
 cases r
 exact assignInOrder_nil ⟨σ,H,I,h⟩
theorem q1x {e:Expr} {es:List Expr} {t:TG} {u:TGs} (h1:PG X e t) (h2:PGs X es u)
  (hs:(assignEach (e::es) X.env).map (·.2)=assign e X.env::(assignEach es X.env).map (·.2):=by rfl):PGs X (e::es) (w4d t u):=by
 intro pins s σ H vs us Q I r h
 obtain⟨v,vr,e1,h⟩:=h
 subst e1
 cases r with
 | cons r rr =>
  rw [hs]
  refine assignInOrder_cons (thn (h1 pins s σ H _ _ _ I r h) fun _ s1 ⟨σ1,H1,I1,q1⟩=>?_)
  exact h2 pins s1 σ1 H1 _ _ Q I1 rr q1
noncomputable def w4z (K:Frag) (n:Nat) (t:TGs):TG:=fun v σ H Q=>∃ a xs,v=.ref a∧SqT K H a xs∧xs.length=n∧t xs σ H Q
theorem x5h {es:List Expr} {k:Nat} {t:TGs} {n:Nat} (hc:X.calm=true) (h:PGs X es t)
  (hn:(assignEach es X.env).length=n:=by rfl) (hst:(assignEach es X.env).findIdx? (·.1)=none:=by rfl):PG X (.Tuple es k pos) (w4z X.K n t):=by
 intro pins s σ H v u Q I r hw
 obtain⟨a,xs,e1,hq,hl,hw⟩:=hw
 subst e1
 cases r
 obtain⟨its,rv,ht,hz⟩:=I.tuple hq
 refine assign_Tuple_tuple (I.ok.hd hc) ht (by simp [hn,← hl,rv.length]) hst fun h' hx=>?_
 have I1:Inv X pins σ H { s with heap:=h' }:=I.kept (t':=s.toks) fun b o e=>hx b o (Nat.ne_of_lt (Heap.lt_size e)) e
 exact h pins _ σ H xs _ Q I1 (by simpa using rv) hw
noncomputable def w1y (te:TE) (g:TG):TS:=fun D σ H=>te σ H fun x H1=>g x σ H1 D.nx
theorem z2w {tg e:Expr} {te:TE} {g:TG} (he:PE X e te) (hg:PG X tg g) (hs:swapsWithSole [tg] e pos.line X.env=pure false:=by rfl) (hw:swappedStores [tg] e X.env=pure none:=by rfl)
  (h1:(assignEach [tg] X.env).map (·.2)=[assign tg X.env]:=by rfl):PS X (.Assign [tg] e pos) (w1y te g):=by
 intro pins s σ H D I h
 refine wpAny_Assign_stores (thn (he pins s σ H _ I h) fun v s1 ⟨x,H1,I1,r1,q1⟩=>?_) hs hw
 rw [h1]
 exact thn (hg pins s1 σ H1 x v _ I1 r1 q1) fun _ s2 q=>q
theorem q0z {i:Nat} {x:Str} {e:Expr} {te:TE} {pos':Pos} (hN:X.N.Nodup) (hi:X.N[i]? = some x) (hx:Loc X.env.scope x) (he:PE X e te) (hs:swapsWith e (some (.Name x pos')) pos.line X.env=pure false:=by rfl) (hf:X.fn x=true∨X.env.scope.names.lookup x=some .local:=by first | exact .inl rfl | exact .inr rfl | assumption) :
  PS X (.Assign [.Name x pos'] e pos) (w1y te (z9c i)):=by
 intro pins s σ H D I h
 refine wpAny_Assign_Name (thn (he pins s σ H _ I h) fun v s1 ⟨y,H1,I1,r1,q1⟩=>?_) hs
 exact x7l I1 hN hi hx r1 (fun s2 I2=>⟨_,H1,I2,q1⟩) hf
end
section
variable {X:Cx} {pos:Pos}
noncomputable def w1r (c:TT) (tb:TS):TS:=fun D σ H=>∃ W:Nat→St→Hp→Prop,(∃ m,W m σ H)∧∀ m σ H,W m σ H →
 c σ H fun b H1=>if b=true then ∃ N:St→Hp→Prop,(∀ σ' H',N σ' H'→∃ m',m' < m∧W m' σ' H')∧tb { D with nx:=N,ct:=N,bk:=D.nx } σ H1 else D.nx σ H1
theorem z3y {c:Expr} {body:List Stmt} {tc:TT} {tb:TS} (hp:PassesOwn (model X.prog X.w) X.A X.env X.xe) (hc:PT X c tc) (hb:PSs X body tb):PS X (.While c body [] pos) (w1r tc tb):=by
 intro pins s σ H D I h
 obtain⟨W,⟨m0,w0⟩,turn⟩:=h
 refine wpAny_While (codeAny_whileLoop (fun n s'=>∃ σ' H',Inv X pins σ' H' s'∧W n σ' H') ?_ m0 ⟨σ,H,I,w0⟩)
 rintro n s1 ⟨σ1,H1,I1,w1⟩
 refine wpAny_passesOwn hp (thn (hc pins s1 σ1 H1 _ I1 (turn n σ1 H1 w1)) fun b s2 ⟨H2,I2,q2⟩=>?_)
 cases b with
 | true =>
  obtain⟨N,hN,q2⟩:=q2
  rw [if_pos rfl]
  refine wpAny_passesOwn hp (thn (hb pins s2 σ1 H2 _ I2 q2) fun f s3 q3=>?_)
  cases f with
  | next =>
   obtain⟨σ3,H3,I3,n3⟩:=q3
   obtain⟨m',hm,w3⟩:=hN σ3 H3 n3
   exact⟨m',hm,σ3,H3,I3,w3⟩
  | cont =>
   obtain⟨σ3,H3,I3,n3⟩:=q3
   obtain⟨m',hm,w3⟩:=hN σ3 H3 n3
   exact⟨m',hm,σ3,H3,I3,w3⟩
  | brk=>exact q3
  | ret v=>exact q3
 | false =>
  rw [if_neg Bool.false_ne_true]
  exact wpAny_execs_nil ⟨σ1,H2,I2,q2⟩
end
structure It where
 go:Nat→Hp→Prop
 yld:Nat→Hp→V→Hp→Prop
 stop:Nat→Hp→Prop
noncomputable def z6o (X:Cx) (pins:List (Addr × Obj)) (H:Hp) (b:Addr):Prop :=
 H b=none∧b≠X.env.locals∧b∉X.fs∧(b∈X.ex∨X.s₀.heap.objs.size≤b)∧(∀ x c,X.env.cells.lookup x=some c→c≠b)∧∀ p∈X.pn++pins,p.1≠b
theorem Inv.fpOk {X:Cx} {pins:List (Addr × Obj)} {σ:St} {H H':Hp} {s:Shared} {b:Addr} (I:Inv X pins σ H s) (hb:s.heap.objs.size≤b) (hn:H' b=none):z6o X pins H' b:=by
 refine⟨hn,Nat.ne_of_gt (Nat.lt_of_lt_of_le I.lt hb),I.nofs hb,.inr (Nat.le_trans I.sz hb),fun x c e z=>?_,fun p hp z=>?_⟩
 ·obtain⟨v,q⟩:=I.cell x c e
  exact absurd (Nat.lt_of_lt_of_le q.lt (by rw [z]; exact hb)) (Nat.lt_irrefl _)
 ·exact absurd (Nat.lt_of_lt_of_le (Heap.lt_size (I.pin p hp).1) (by rw [z]; exact hb)) (Nat.lt_irrefl _)
structure Turn (P:Program) (w:World) (K:Frag) (tg:Expr) (J:It) (fp:List Addr) (it:Addr) (tn:Nat→Heap→Prop):Prop where
 mem:it∈fp
 obj:∀ i h,tn i h→∀ b∈fp,∃ o,h.get? b=some o∧∀ v,o.data≠.cell v
 keep:∀ i h h',tn i h→(∀ b∈fp,∀ o,h.get? b=some o→h'.get? b=some o)→tn i h'
 item:∀ (X:Cx),X.prog=P→X.w=w→X.K=K→X.calm=true→∀ (i:Nat) (pins:List (Addr × Obj)) (s:Shared) (σ:St) (H:Hp) (E:Value→Shared→Prop),Inv X pins σ H s→(∀ b∈fp,z6o X pins H b)→tn i s.heap→J.go i H →
  wpAny (model P w) X.A (pyNext (.ref it)) (fun r s1=>∃ u,r=some u ∧
   wpAny (model P w) X.A (letOwnedTupleGo tg (.ref it) u) (fun _ s2=>∃ x H',Inv X pins σ H' s2∧q5e x u∧J.yld i H x H'∧tn (i+1) s2.heap∧∀ b∈fp,H' b=none) E s1) E s
 done:∀ (X:Cx),X.prog=P→X.w=w→X.K=K→X.calm=true→∀ (i:Nat) (pins:List (Addr × Obj)) (s:Shared) (σ:St) (H:Hp) (E:Value→Shared→Prop),Inv X pins σ H s→(∀ b∈fp,z6o X pins H b)→tn i s.heap→J.stop i H →
  wpAny (model P w) X.A (pyNext (.ref it)) (fun r s1=>r=none∧Inv X pins σ H s1) E s
 self:∀ (A:Around) (i:Nat) (s:Shared) (Q:Value→Shared→Prop) (E:Value→Shared→Prop),tn i s.heap→Q (.ref it) s→wpAny (model P w) A (pyIter (.ref it)) Q E s
noncomputable abbrev TI:=St→Hp→(It→Hp→Prop)→Prop
noncomputable def PIE (X:Cx) (pins:List (Addr × Obj)) (σ:St) (tg:Expr) (R:It→Hp→Prop) (itv:Value) (s2:Shared):Prop :=
 ∃ (it:Addr) (fp:List Addr) (tn:Nat→Heap→Prop) (J:It) (H':Hp),itv=.ref it∧Inv X pins σ H' s2∧Turn X.prog X.w X.K tg J fp it tn∧tn 0 s2.heap∧(∀ b∈fp,z6o X pins H' b)∧R J H'
noncomputable def PI (X:Cx) (tg iter:Expr) (wi:TI):Prop :=
 ∀ (pins:List (Addr × Obj)) (s:Shared) (σ:St) (H:Hp) (R:It→Hp→Prop),Inv X pins σ H s→wi σ H R →
  wpAny (model X.prog X.w) X.A (eval iter X.env) (fun v s1=>wpAny (model X.prog X.w) X.A (pyIter v) (PIE X pins σ tg R) X.xe s1) X.xe s
theorem j4k {M:Model} {A:Around} {E:Value→Shared→Prop} {s:Shared} {tg:Expr} {it:Addr} {u:Value} {o:Obj} {n:String} {vs:Array Value} {Q:Unit→Shared→Prop} (ho:s.heap.get? it=some o) (hc:o.cls=.type n) (hd:o.data=.fields vs)
    (hn:["enumerate", "zip", "dict_itemiterator", "dict_reverseitemiterator", "odict_iterator", "itertools.zip_longest", "itertools.pairwise"].contains n=false) (hQ:Q () s):wpAny M A (letOwnedTupleGo tg (.ref it) u) Q E s:=by
  unfold letOwnedTupleGo
  cases tg <;> first
    | exact wpAny_pure hQ
    | (cases u <;> first
        | exact wpAny_pure hQ
        | (refine wpAny_bind (wpAny_load ho ?_)
           rw [hc,hd]
           show wpAny M A (if (["enumerate", "zip", "dict_itemiterator", "dict_reverseitemiterator", "odict_iterator", "itertools.zip_longest", "itertools.pairwise"].contains n && vs[0]? == some (rawInt _))=true then _ else _) Q E s
           rw [if_neg (by intro h; rw [hn,Bool.false_and] at h; cases h)]
           exact wpAny_pure hQ))
noncomputable def Itl (K:Frag) (a:Addr):It :=
 ⟨fun i H=>∃ xs x,SqL K H a xs∧xs[i]? = some x,fun i H x H'=>H'=H∧∀ xs,SqL K H a xs→xs[i]? = some x,fun i H=>∃ xs,SqL K H a xs∧xs.length≤i⟩
noncomputable def Itt (K:Frag) (a:Addr):It :=
 ⟨fun i H=>∃ xs x,SqT K H a xs∧xs[i]? = some x,fun i H x H'=>H'=H∧∀ xs,SqT K H a xs→xs[i]? = some x,fun i H=>∃ xs,SqT K H a xs∧xs.length≤i⟩
noncomputable def Itr (lo:Int) (n:Nat):It:=⟨fun i _=>i < n,fun i H x H'=>H'=H∧x=.int (lo+i),fun i _=>n≤i⟩
theorem z8d {P:Program} {w:World} {K:Frag} {tg:Expr} (a it:Addr):Turn P w K tg (Itl K a) [it] it (fun i h=>h.IsListIter it a i) where
 mem:=by simp
 obj:=fun i h st b hb=>by
  have e:b=it:=by simpa using hb
  subst e
  obtain⟨o,e,c,d⟩:=st
  exact⟨o,e,fun v z=>by rw [d] at z; cases z⟩
 keep:=fun i h h' st k=>st.at fun o e=>k it (by simp) o e
 item:=by
  intro X hP hw hK hc i pins s σ H E I hf st hg
  subst hP hw hK
  obtain⟨xs,x,hq,hx⟩:=hg
  obtain⟨its,rv,p,hz⟩:=I.list hq
  obtain⟨u,hu,ru⟩:=rv.get hx
  obtain⟨f0,f1,f2,f3,f4,f5⟩:=hf it (by simp)
  refine wpAny_pyNext_list_item st p.isList (x:=u) (by simpa using hu) fun h' st' sb=>?_
  have I1:Inv X pins σ H { s with heap:=h' }:=I.turned (t':=s.toks) (fun b o hb e=>(sb.2 b hb).trans e) f0 f1 f3 f4 f5
  obtain⟨o,e,c,d⟩:=id st'
  exact⟨u,rfl,j4k (s:={ s with heap:=h' }) e c d (by decide) ⟨x,H,I1,ru,⟨rfl,fun ys hy=>by rw [I.list_inj hy hq]; exact hx⟩,st',fun b hb=>(hf b hb).1⟩⟩
 done:=by
  intro X hP hw hK hc i pins s σ H E I hf st hg
  subst hP hw hK
  obtain⟨xs,hq,hx⟩:=hg
  obtain⟨its,rv,p,hz⟩:=I.list hq
  obtain⟨f0,f1,f2,f3,f4,f5⟩:=hf it (by simp)
  have hl:=rv.length
  exact wpAny_pyNext_list_end (I.ok.hd hc) st p.isList (by simp; omega) fun h' eb=>⟨rfl,I.turned (t':=s.toks) (fun b o hb e=>eb b o hb e) f0 f1 f3 f4 f5⟩
 self:=fun _ _ _ _ _ st h=>wpAny_pyIter_listiter st h
theorem z4s {P:Program} {w:World} {K:Frag} {tg:Expr} (a it:Addr):Turn P w K tg (Itt K a) [it] it (fun i h=>h.IsTupleIter it a i) where
 mem:=by simp
 obj:=fun i h st b hb=>by
  have e:b=it:=by simpa using hb
  subst e
  obtain⟨o,e,c,d⟩:=st
  exact⟨o,e,fun v z=>by rw [d] at z; cases z⟩
 keep:=fun i h h' st k=>st.at fun o e=>k it (by simp) o e
 item:=by
  intro X hP hw hK hc i pins s σ H E I hf st hg
  subst hP hw hK
  obtain⟨xs,x,hq,hx⟩:=hg
  obtain⟨its,rv,p,hz⟩:=I.tuple hq
  obtain⟨u,hu,ru⟩:=rv.get hx
  obtain⟨f0,f1,f2,f3,f4,f5⟩:=hf it (by simp)
  refine wpAny_pyNext_tuple_item st (show s.heap.IsTuple a its.toArray from p) (x:=u) (by simpa using hu) fun h' st' sb=>?_
  have I1:Inv X pins σ H { s with heap:=h' }:=I.turned (t':=s.toks) (fun b o hb e=>(sb.2 b hb).trans e) f0 f1 f3 f4 f5
  obtain⟨o,e,c,d⟩:=id st'
  exact⟨u,rfl,j4k (s:={ s with heap:=h' }) e c d (by decide) ⟨x,H,I1,ru,⟨rfl,fun ys hy=>by rw [I.tuple_inj hy hq]; exact hx⟩,st',fun b hb=>(hf b hb).1⟩⟩
 done:=by
  intro X hP hw hK hc i pins s σ H E I hf st hg
  subst hP hw hK
  obtain⟨xs,hq,hx⟩:=hg
  obtain⟨its,rv,p,hz⟩:=I.tuple hq
  obtain⟨f0,f1,f2,f3,f4,f5⟩:=hf it (by simp)
  have hl:=rv.length
  exact wpAny_pyNext_tuple_end (I.ok.hd hc) st (show s.heap.IsTuple a its.toArray from p) (by simp; omega) fun h' eb=>⟨rfl,I.turned (t':=s.toks) (fun b o hb e=>eb b o hb e) f0 f1 f3 f4 f5⟩
 self:=fun _ _ _ _ _ st h=>wpAny_pyIter_tupleiter st h
theorem x6l {P:Program} {w:World} {K:Frag} {tg:Expr} (it:Addr) (lo:Int) (n:Nat):Turn P w K tg (Itr lo n) [it] it (fun i h=>IsRangeIter h it (lo+(i:Nat)*1) ((n:Int) - (i:Nat)) 1) where
 mem:=by simp
 obj:=fun i h st b hb=>by
  have e:b=it:=by simpa using hb
  subst e
  exact⟨_,st,fun v z=>by
   have z':Data.fields _=Data.cell v:=z
   cases z'⟩
 keep:=fun i h h' st k=>k it (by simp) _ st
 item:=by
  intro X hP hw hK hc i pins s σ H E I hf st hg
  subst hP hw hK
  obtain⟨f0,f1,f2,f3,f4,f5⟩:=hf it (by simp)
  have W:=Walks.range (prog:=X.prog) (w:=X.w) (I.ok.hd hc) it lo 1 n
  refine W.item i s _ _ hg st fun v h' tk hv st' kk=>?_
  obtain⟨t,rfl⟩:=hv
  have I1:Inv X pins σ H { s with heap:=h',toks:=tk }:=I.turned (fun b o hb e=>kk b o (by simpa using hb) e) f0 f1 f3 f4 f5
  refine⟨_,rfl,j4k (s:={ s with heap:=h',toks:=tk }) (n := "range_iterator") st' rfl rfl (by decide) ⟨.int (lo+i),H,I1,⟨t,?_⟩,⟨rfl,rfl⟩,st',fun b hb=>(hf b hb).1⟩⟩
  rw [Int.mul_one]
 done:=by
  intro X hP hw hK hc i pins s σ H E I hf st hg
  subst hP hw hK
  obtain⟨f0,f1,f2,f3,f4,f5⟩:=hf it (by simp)
  exact wpAny_pyNext_range_end (I.ok.hd hc) st (by have:n≤i:=hg; omega) fun h' eb=>⟨rfl,I.turned (t':=s.toks) (fun b o hb e=>eb b o hb e) f0 f1 f3 f4 f5⟩
 self:=fun _ _ _ _ _ st h=>wpAny_pyIter_rangeiter st h
section
variable {X:Cx} {tg:Expr}
noncomputable def w4g (K:Frag) (tl:TE):TI:=fun σ H R=>tl σ H fun x H1=>∃ a,x=.ref a∧(∃ xs,SqL K H1 a xs)∧R (Itl K a) H1
noncomputable def w6e (K:Frag) (tl:TE):TI:=fun σ H R=>tl σ H fun x H1=>∃ a,x=.ref a∧(∃ xs,SqT K H1 a xs)∧R (Itt K a) H1
theorem j8l {l:Expr} {tl:TE} (hl:PE X l tl):PI X tg l (w4g X.K tl):=by
 intro pins s σ H R I h
 refine thn (hl pins s σ H _ I h) fun v s1 ⟨x,H1,I1,r1,q1⟩=>?_
 obtain⟨a,e,⟨xs,hq⟩,q⟩:=q1
 subst e
 cases r1
 obtain⟨its,rv,p,hz⟩:=I1.list hq
 refine wpAny_pyIter_list p.isList ?_
 refine⟨s1.heap.objs.size,[s1.heap.objs.size],_,_,H1,rfl,I1.kept (t':=s1.toks) fun b o e=>Heap.get?_push_of_some _ e,z8d a _,⟨_,Heap.get?_push_size _ rfl,rfl,rfl⟩,fun b hb=>?_,q⟩
 have e:b=s1.heap.objs.size:=by simpa using hb
 subst e
 exact I1.fpOk (Nat.le_refl _) (I1.hok.fresh (Nat.le_refl _))
theorem q8h {l:Expr} {tl:TE} (hl:PE X l tl):PI X tg l (w6e X.K tl):=by
 intro pins s σ H R I h
 refine thn (hl pins s σ H _ I h) fun v s1 ⟨x,H1,I1,r1,q1⟩=>?_
 obtain⟨a,e,⟨xs,hq⟩,q⟩:=q1
 subst e
 cases r1
 obtain⟨its,rv,p,hz⟩:=I1.tuple hq
 refine wpAny_pyIter_tuple (show s1.heap.IsTuple a its.toArray from p) ?_
 refine⟨s1.heap.objs.size,[s1.heap.objs.size],_,_,H1,rfl,I1.kept (t':=s1.toks) fun b o e=>Heap.get?_push_of_some _ e,z4s a _,⟨_,Heap.get?_push_size _ rfl,rfl,rfl⟩,fun b hb=>?_,q⟩
 have e:b=s1.heap.objs.size:=by simpa using hb
 subst e
 exact I1.fpOk (Nat.le_refl _) (I1.hok.fresh (Nat.le_refl _))
theorem j1y {pins:List (Addr × Obj)} {σ:St} {H:Hp} {s:Shared} {R:It→Hp→Prop} {E:Value→Shared→Prop} {lo hi:Int} {t u v:Tok} {tk:Nat} (I:Inv X pins σ H s) (h1 : -(2 ^ 62)≤lo) (h2:lo < 2 ^ 62) (h3 : -(2 ^ 62)≤hi) (h4:hi < 2 ^ 62)
  (q:R (Itr lo (hi - lo).toNat) H):wpAny (model X.prog X.w) X.A (pyIter (.ref s.heap.objs.size)) (PIE X pins σ tg R) E { s with heap:=s.heap.push { cls:=.type "range",data:=.fields #[.int lo t,.int hi u,.int 1 v] },toks:=tk }:=by
 refine wpAny_pyIter_range (IsRange.new ..) (small_one h1 h2 h3 h4) ?_
 have I1:Inv X pins σ H { s with heap:=s.heap.push { cls:=.type "range",data:=.fields #[.int lo t,.int hi u,.int 1 v] },toks:=tk }:=I.kept fun b o e=>Heap.get?_push_of_some _ e
 refine⟨(s.heap.push { cls:=.type "range",data:=.fields #[.int lo t,.int hi u,.int 1 v] }).objs.size,[(s.heap.push { cls:=.type "range",data:=.fields #[.int lo t,.int hi u,.int 1 v] }).objs.size],_,_,H,rfl,
  I1.kept (t':=tk) fun b o e=>Heap.get?_push_of_some _ e,x6l _ lo (hi - lo).toNat,?_,fun b hb=>?_,q⟩
 ·have e1:lo+((0:Nat):Int)*1=lo:=by simp
  have e2:(((hi - lo).toNat:Nat):Int) - ((0:Nat):Int)=Builtin.Range.rangeSize lo hi 1:=by rw [rangeSize_one]; split <;> omega
  show IsRangeIter _ _ (lo+((0:Nat):Int)*1) ((((hi - lo).toNat:Nat):Int) - ((0:Nat):Int)) 1
  rw [e1,e2]
  exact Heap.get?_push_size _ rfl
 ·have e:b=(s.heap.push { cls:=.type "range",data:=.fields #[.int lo t,.int hi u,.int 1 v] }).objs.size:=by simpa using hb
  subst e
  exact I1.fpOk (Nat.le_refl _) (I1.hok.fresh (Nat.le_refl _))
noncomputable def w3t (ta:TA):TI:=fun σ H R=>ta σ H fun vs H1=>∃ j:Int,vs=[.int j] ∧ -(2 ^ 62)≤j∧j < 2 ^ 62∧R (Itr 0 j.toNat) H1
theorem x1w {a:Expr} {ta:TA} {p pos:Pos} (hg:Gl X "range") (hm:X.mg "range" = none) (ha:PA X [a] ta) (hs:starEach [a] X.env=[(false,eval a X.env)]:=by rfl):PI X tg (.Call (.Name "range" p) [a] [] pos) (w3t ta):=by
 intro pins s σ H R I h
 refine Call_ (x4h I hg hm boot_range (PyProof.Rows.callWith_type1 (thn (ha pos pins s σ H _ I h) fun us s1 ⟨vs,H1,I1,r1,q1⟩=>?_) hs rfl))
 obtain⟨j,e,q1,q2,q⟩:=q1
 subst e
 cases r1 with
 | cons r rr =>
  cases rr
  obtain⟨t,rfl⟩:=r
  exact call_range_1 (j1y I1 (by omega) (by omega) q1 q2 (by simpa using q))
noncomputable def w6y (wi:TI) (g:TG) (tb:TS):TS:=fun D σ H=>wi σ H fun J H1=>∃ W:Nat→Nat→St→Hp→Prop,(∃ m,W 0 m σ H1)∧∀ i m σ H,W i m σ H →
 (J.stop i H∧D.nx σ H)∨(J.go i H∧∃ N:St→Hp→Prop,(∀ σ' H',N σ' H'→∃ m',m' < m∧W (i+1) m' σ' H')∧∀ x H',J.yld i H x H'→g x σ H' fun σ2 H2=>tb { D with nx:=N,ct:=N,bk:=D.nx } σ2 H2)
noncomputable def x6a (fp:List Addr) (h:Heap):List (Addr × Obj):=fp.filterMap fun b=>(h.get? b).map fun o=>(b,o)
theorem q6a {fp:List Addr} {h:Heap} {b:Addr} {o:Obj} (hb:b∈fp) (e:h.get? b=some o):(b,o)∈x6a fp h:=List.mem_filterMap.mpr ⟨b,hb,by rw [e]; rfl⟩
theorem z7e {fp:List Addr} {h:Heap} {p:Addr × Obj} (hp:p∈x6a fp h):p.1∈fp∧h.get? p.1=some p.2:=by
 obtain⟨b,hb,e⟩:=List.mem_filterMap.mp hp
 cases q:h.get? b with
 | none=>rw [q] at e; cases e
 | some o =>
  rw [q] at e
  have e':(b,o)=p:=Option.some.inj e
  subst e'
  exact⟨hb,q⟩
theorem Inv.pinned {pins:List (Addr × Obj)} {σ:St} {H:Hp} {s:Shared} {fp:List Addr} (I:Inv X pins σ H s) (hf:∀ b∈fp,z6o X pins H b) (ho:∀ b∈fp,∃ o,s.heap.get? b=some o∧∀ v,o.data≠.cell v):Inv X (pins++x6a fp s.heap) σ H s :=
 I.pins_of fun p hp=>(List.mem_append.mp hp).elim (fun z=>I.pin p (List.mem_append_right _ z)) fun z=>by
  obtain⟨hb,e⟩:=z7e z
  obtain⟨f0,f1,f2,_⟩:=hf p.1 hb
  obtain⟨o,e',d⟩:=ho p.1 hb
  rw [e] at e'; cases e'
  exact⟨e,f0,f1,f2,d⟩
theorem Inv.unpinned {pins pl:List (Addr × Obj)} {σ:St} {H:Hp} {s:Shared} (I:Inv X (pins++pl) σ H s):Inv X pins σ H s:=I.pins_of fun p hp=>I.pin p (List.mem_append_right _ (List.mem_append_left _ hp))
theorem z3s {iter:Expr} {body:List Stmt} {wi:TI} {g:TG} {tb:TS} {pos:Pos} (hp:PassesOwn (model X.prog X.w) X.A X.env X.xe) (hc:X.calm=true) (hi:PI X tg iter wi) (hg:PG X tg g) (hb:PSs X body tb)
  (hs:∀ x,foldedSetIterable iter X.env x=pure x:=by intro _; rfl):PS X (.For tg iter body [] pos) (w6y wi g tb):=by
 intro pins s σ H D I h
 refine wpAny_For (thn (hi pins s σ H _ I h) fun v s1 h1=>thn h1 fun itv s2 h2=>?_) hs
 obtain⟨it,fp,tn,J,H2,e,I2,T,st2,f2,W,⟨m0,w0⟩,turn⟩:=h2
 subst e
 have stat:∀ {H':Hp},(∀ b∈fp,H' b=none)→∀ b∈fp,z6o X pins H' b:=fun hn b hb=>⟨hn b hb,(f2 b hb).2⟩
 refine codeAny_forLoop_any (fun n s'=>∃ i σ' H',Inv X pins σ' H' s'∧tn i s'.heap∧(∀ b∈fp,H' b=none)∧W i n σ' H') ?_ m0 ⟨0,σ,H2,I2,st2,fun b hb=>(f2 b hb).1,w0⟩
 rintro n s3 ⟨i,σ3,H3,I3,st3,fr3,w3⟩
 rcases turn i n σ3 H3 w3 with ⟨stop,qn⟩ | ⟨go,N,hN,step⟩
 ·refine wpAny_passesOwn hp (thn (T.done X rfl rfl rfl hc i pins s3 σ3 H3 X.xe I3 (stat fr3) st3 stop) fun r s4 ⟨hr,I4⟩=>?_)
  subst hr
  exact wpAny_execs_nil ⟨σ3,H3,I4,qn⟩
 ·refine wpAny_passesOwn hp (thn (T.item X rfl rfl rfl hc i pins s3 σ3 H3 X.xe I3 (stat fr3) st3 go) fun r s4 ⟨u,hr,h4⟩=>?_)
  subst hr
  refine wpAny_passesOwn hp (thn h4 fun _ s5 ⟨x,H5,I5,r5,y5,st5,fr5⟩=>?_)
  have I5':=I5.pinned (stat fr5) (T.obj _ _ st5)
  refine wpAny_passesOwn hp (thn (hg _ s5 σ3 H5 x u _ I5' r5 (step x H5 y5)) fun _ s6 ⟨σ6,H6,I6,q6⟩=>?_)
  refine wpAny_passesOwn hp (thn (hb _ s6 σ6 H6 _ I6 q6) fun f s7 q7=>?_)
  have again:∀ {σ7:St} {H7:Hp},Inv X (pins++x6a fp s5.heap) σ7 H7 s7→N σ7 H7→∃ m,m < n∧∃ i σ' H',Inv X pins σ' H' s7∧tn i s7.heap∧(∀ b∈fp,H' b=none)∧W i m σ' H':=fun {σ7 H7} I7 n7=>by
   obtain⟨m',hm,w7⟩:=hN σ7 H7 n7
   refine⟨m',hm,i+1,σ7,H7,I7.unpinned,T.keep _ _ _ st5 fun b hb o e=>(I7.pin (b,o) (List.mem_append_right _ (List.mem_append_right _ (q6a hb e)))).1,fun b hb=>?_,w7⟩
   obtain⟨o,e,d⟩:=T.obj _ _ st5 b hb
   exact (I7.pin (b,o) (List.mem_append_right _ (List.mem_append_right _ (q6a hb e)))).2.1
  cases f with
  | next=>obtain⟨σ7,H7,I7,n7⟩:=q7; exact again I7 n7
  | cont=>obtain⟨σ7,H7,I7,n7⟩:=q7; exact again I7 n7
  | brk=>obtain⟨σ7,H7,I7,q7⟩:=q7; exact⟨σ7,H7,I7.unpinned,q7⟩
  | ret v=>obtain⟨x7,σ7,H7,I7,r7,q7⟩:=q7; exact⟨x7,σ7,H7,I7.unpinned,r7,q7⟩
end
theorem x8e {K:Frag} {a:Addr} {xs:List V} {g:TG} {tb:TS} {D:Ends} {σ:St} {H:Hp} (Pv:Nat→St→Hp→Prop) (h0:Pv 0 σ H) (hl:∀ i σ H,i≤xs.length→Pv i σ H→SqT K H a xs)
  (hs:∀ i x σ H,xs[i]? = some x→Pv i σ H→g x σ H fun σ2 H2=>tb { D with nx:=Pv (i+1),ct:=Pv (i+1),bk:=D.nx } σ2 H2) (hd:∀ σ H,Pv xs.length σ H→D.nx σ H) :
  ∃ W:Nat→Nat→St→Hp→Prop,(∃ m,W 0 m σ H)∧∀ i m σ H,W i m σ H →
   ((Itt K a).stop i H∧D.nx σ H)∨((Itt K a).go i H∧∃ N:St→Hp→Prop,(∀ σ' H',N σ' H'→∃ m',m' < m∧W (i+1) m' σ' H')∧∀ x H',(Itt K a).yld i H x H'→g x σ H' fun σ2 H2=>tb { D with nx:=N,ct:=N,bk:=D.nx } σ2 H2):=by
 refine⟨fun i m σ H=>m=xs.length - i∧i≤xs.length∧Pv i σ H,⟨xs.length,by simp,Nat.zero_le _,h0⟩,?_⟩
 rintro i m σ H ⟨rfl,hi,p⟩
 have q:=hl i σ H hi p
 by_cases hlt:i < xs.length
 ·refine .inr ⟨⟨xs,xs[i],q,by simp [hlt]⟩,Pv (i+1),fun σ' H' p'=>⟨xs.length - (i+1),by omega,rfl,hlt,p'⟩,fun x H' y=>?_⟩
  obtain⟨e,y⟩:=y
  subst e
  exact hs i x σ _ (y xs q) p
 ·have e:i=xs.length:=by omega
  subst e
  exact .inl ⟨⟨xs,q,Nat.le_refl _⟩,hd σ H p⟩
noncomputable abbrev R2:=V→V→Hp→VK→Prop
noncomputable def OpR (X:Cx) (f:Value→Value→Sem Value) (r:R2):Prop :=
 ∀ (pins:List (Addr × Obj)) (s:Shared) (σ:St) (H:Hp) (x y:V) (v u:Value) (Q:VK),Inv X pins σ H s→q5e x v→q5e y u→r x y H Q →
  wpAny (model X.prog X.w) X.A (f v u) (EP X pins σ Q) X.xe s
noncomputable def UnR (X:Cx) (f:Value→Sem Value) (r:V→Hp→VK→Prop):Prop :=
 ∀ (pins:List (Addr × Obj)) (s:Shared) (σ:St) (H:Hp) (x:V) (v:Value) (Q:VK),Inv X pins σ H s→q5e x v→r x H Q →
  wpAny (model X.prog X.w) X.A (f v) (EP X pins σ Q) X.xe s
noncomputable def x4v (X:Cx) (f:Value) (r:List V→Hp→VK→Prop):Prop :=
 ∀ (pins:List (Addr × Obj)) (s:Shared) (σ:St) (H:Hp) (xs:List V) (us:List Value) (Q:VK),Inv X pins σ H s→q4l xs us→r xs H Q →
  wpAny (model X.prog X.w) X.A (call f us) (EP X pins σ Q) X.xe s
noncomputable def tOp (r:R2) (ta tb:TE):TE:=fun σ H Q=>ta σ H fun x H1=>tb σ H1 fun y H2=>r x y H2 Q
noncomputable def tUn (r:V→Hp→VK→Prop) (ta:TE):TE:=fun σ H Q=>ta σ H fun x H1=>r x H1 Q
noncomputable def rI (C:Int→Int→Prop) (g:Int→Int→V):R2:=fun x y H Q=>∃ i j,x=.int i∧y=.int j∧C i j∧Q (g i j) H
noncomputable def rI0 (g:Int→Int→V):R2:=fun x y H Q=>∃ i j,x=.int i∧y=.int j∧Q (g i j) H
noncomputable def rU (g:Int→V):V→Hp→VK→Prop:=fun x H Q=>∃ i,x=.int i∧Q (g i) H
section
variable {X:Cx} {a b c:Expr} {ta tb tc:TE} {pos:Pos}
theorem w2h (ha:PE X a ta) (hb:PE X b tb) {pins:List (Addr × Obj)} {s:Shared} {σ:St} {H:Hp} {R:V→V→Hp→Prop} (I:Inv X pins σ H s)
  (h:ta σ H fun x H1=>tb σ H1 fun y H2=>R x y H2) {Q:Value→Shared→Prop} {f:Value→Value→Sem Value}
  (hf:∀ v u s2 x y H2,Inv X pins σ H2 s2→q5e x v→q5e y u→R x y H2→wpAny (model X.prog X.w) X.A (f v u) Q X.xe s2) :
  wpAny (model X.prog X.w) X.A (eval a X.env) (fun v s₁=>wpAny (model X.prog X.w) X.A (eval b X.env) (fun u s₂=>wpAny (model X.prog X.w) X.A (f v u) Q X.xe s₂) X.xe s₁) X.xe s:=by
 refine thn (ha pins s σ H _ I h) fun v s1 ⟨x,H1,I1,r1,q1⟩=>?_
 refine thn (hb pins s1 σ H1 _ I1 q1) fun u s2 ⟨y,H2,I2,r2,q2⟩=>?_
 exact hf v u s2 x y H2 I2 r1 r2 q2
theorem q0i {op:Operator} {r:R2} (ho:OpR X (binaryOp op) r) (ha:PE X a ta) (hb:PE X b tb):PE X (.BinOp a op b pos) (tOp r ta tb):=by
 intro pins s σ H Q I h
 exact wpAny_BinOp (w2h ha hb I h fun v u s2 x y H2 I2 rx ry q=>ho pins s2 σ H2 x y v u Q I2 rx ry q)
theorem j0j {op:UnaryOp} {r:V→Hp→VK→Prop} (ho:UnR X (unaryOp op) r) (ha:PE X a ta):PE X (.UnaryOp op a pos) (tUn r ta):=by
 intro pins s σ H Q I h
 exact UnaryOp_ (thn (ha pins s σ H _ I h) fun v s1 ⟨x,H1,I1,r1,q1⟩=>ho pins s1 σ H1 x v Q I1 r1 q1)
theorem opI {f:Value→Value→Sem Value} {C:Int→Int→Prop} {g:Int→Int→Int}
  (rule:∀ (i j:Int) (t u:Tok) (s:Shared) (Q:Value→Shared→Prop) (E:Value→Shared→Prop),C i j→Q (.int (g i j) s.toks) { s with toks:=s.toks+1 }→wpAny (model X.prog X.w) X.A (f (.int i t) (.int j u)) Q E s) :
  OpR X f (rI C fun i j=>.int (g i j)):=by
 intro pins s σ H x y v u Q I rx ry h
 obtain⟨i,j,rfl,rfl,hc,q⟩:=h
 obtain⟨t,rfl⟩:=rx
 obtain⟨t',rfl⟩:=ry
 exact rule i j t t' s _ _ hc ⟨.int (g i j),H,I.tok _,⟨_,rfl⟩,q⟩
theorem w4x {f:Value→Value→Sem Value} {g:Int→Int→Int}
  (rule:∀ (i j:Int) (t u:Tok) (s:Shared) (Q:Value→Shared→Prop) (E:Value→Shared→Prop),Q (.int (g i j) s.toks) { s with toks:=s.toks+1 }→wpAny (model X.prog X.w) X.A (f (.int i t) (.int j u)) Q E s) :
  OpR X f (rI0 fun i j=>.int (g i j)):=by
 intro pins s σ H x y v u Q I rx ry h
 obtain⟨i,j,rfl,rfl,q⟩:=h
 obtain⟨t,rfl⟩:=rx
 obtain⟨t',rfl⟩:=ry
 exact rule i j t t' s _ _ ⟨.int (g i j),H,I.tok _,⟨_,rfl⟩,q⟩
theorem w2e {f:Value→Value→Sem Value} {g:Int→Int→Bool}
  (rule:∀ (i j:Int) (t u:Tok) (s:Shared) (Q:Value→Shared→Prop) (E:Value→Shared→Prop),Q (.bool (g i j)) s→wpAny (model X.prog X.w) X.A (f (.int i t) (.int j u)) Q E s) :
  OpR X f (rI0 fun i j=>.bl (g i j)):=by
 intro pins s σ H x y v u Q I rx ry h
 obtain⟨i,j,rfl,rfl,q⟩:=h
 obtain⟨t,rfl⟩:=rx
 obtain⟨t',rfl⟩:=ry
 exact rule i j t t' s _ _ ⟨.bl (g i j),H,I,rfl,q⟩
noncomputable def w6d (i j:Int):Prop:=0 < j∧j < 1073741824
noncomputable def w7c (i j:Int):Prop:=0≤j∧j≤1000000∧i.natAbs < 2 ^ 64
noncomputable def w2g (i j:Int):Prop:=(-(2 ^ 64) < i∧i < 2 ^ 64)∨(-(2 ^ 64) < j∧j < 2 ^ 64)
theorem w2g.ok {i j:Int} (h:w2g i j):IntMulOk i j:=by
 rcases h with ⟨h1,h2⟩ | ⟨h1,h2⟩
 ·exact .of_left (intBits_le_64 h1 h2)
 ·exact .of_right (intBits_le_64 h1 h2)
theorem q1n:OpR X (binaryOp .Add) (rI0 fun i j=>.int (i+j)):=w4x fun _ _ _ _ _ _ _ q=>add_int q
theorem x6h:OpR X (binaryOp .Sub) (rI0 fun i j=>.int (i - j)):=w4x fun _ _ _ _ _ _ _ q=>sub_int q
theorem q7h:OpR X (binaryOp .Mult) (rI w2g fun i j=>.int (i*j)):=opI fun _ _ _ _ _ _ _ hc q=>mul_int q hc.ok
theorem q1u:OpR X (binaryOp .FloorDiv) (rI w6d fun i j=>.int (i / j)):=opI fun i j _ _ _ _ _ hc q=>by
 have h1:(0:Int) < j:=hc.1
 have h2:j < 1073741824:=hc.2
 exact floordiv_int (by omega) (by rw [Int.fdiv_eq_ediv_of_nonneg i (by omega)]; exact q) (.inl (PyProof.noPylong_small (by omega)))
theorem q1k:OpR X (binaryOp .Mod) (rI (fun _ j=>0 < j) fun i j=>.int (i % j)):=opI fun i j _ _ _ _ _ hc q=>by
 have h1:(0:Int) < j:=hc
 exact mod_int' (by omega) (by rw [Int.fmod_eq_emod_of_nonneg i (by omega)]; exact q)
theorem j5w:OpR X (binaryOp .Pow) (rI w7c fun i j=>.int (i ^ j.toNat)):=opI fun _ _ _ _ _ _ _ hc q=>pow_int_small hc.1 hc.2.1 hc.2.2 q
theorem unI {f:Value→Sem Value} {g:Int→Int}
  (rule:∀ (i:Int) (t:Tok) (s:Shared) (Q:Value→Shared→Prop) (E:Value→Shared→Prop),Q (.int (g i) s.toks) { s with toks:=s.toks+1 }→wpAny (model X.prog X.w) X.A (f (.int i t)) Q E s) :
  UnR X f (rU fun i=>.int (g i)):=by
 intro pins s σ H x v Q I rx h
 obtain⟨i,rfl,q⟩:=h
 obtain⟨t,rfl⟩:=rx
 exact rule i t s _ _ ⟨.int (g i),H,I.tok _,⟨_,rfl⟩,q⟩
theorem x9o:UnR X (unaryOp .USub) (rU fun i=>.int (-i)):=unI fun _ _ _ _ _ q=>neg_int q
end
noncomputable def w4c:V→V→Bool
 | .non,.non=>true | .non,.int _=>true | .int _,.non=>true | .non,.bl _=>true | .bl _,.non=>true | .non,.str _=>true | .str _,.non=>true
 | .int _,.int _=>true | .bl _,.bl _=>true | .str _,.str _=>true | .byt _,.byt _=>true
 | .int _,.str _=>true | .str _,.int _=>true | .bl _,.str _=>true | .str _,.bl _=>true
 | _,_=>false
noncomputable def rEq:R2:=fun x y H Q=>w4c x y=true∧Q (.bl (decide (x=y))) H
noncomputable def rNe:R2:=fun x y H Q=>w4c x y=true∧Q (.bl (!decide (x=y))) H
theorem x4l {i j:Int}:decide (V.int i=V.int j)=(i==j):=by
 rw [Bool.eq_iff_iff]
 simp
theorem z2x {i j:Bool}:decide (V.bl i=V.bl j)=(i==j):=by
 rw [Bool.eq_iff_iff]
 simp
theorem j1c {i j:Str}:decide (V.str i=V.str j)=(i==j):=by
 rw [Bool.eq_iff_iff]
 simp
theorem z7s {i j:Array UInt8}:decide (V.byt i=V.byt j)=(i.toList==j.toList):=by
 rw [Bool.eq_iff_iff]
 cases i
 cases j
 simp
section
variable {X:Cx} {a b c:Expr} {ta tb tc:TE} {pos:Pos}
theorem q2p {pins:List (Addr × Obj)} {σ:St} {H:Hp} {s:Shared} {Q:VK} {k k':Bool} (I:Inv X pins σ H s) (q:Q (.bl k) H) (e:k=k'):EP X pins σ Q (.bool k') s:=by
 subst e
 exact⟨.bl k,H,I,rfl,q⟩
theorem q1w:OpR X (compareOp .Eq) rEq:=by
 intro pins s σ H x y v u Q I rx ry h
 obtain⟨hs,q⟩:=h
 cases x with
 | non =>
  cases rx
  cases y with
  | non=>cases ry; exact PySem.EqNone.eq_none_none (q2p I q (by simp))
  | bl j=>cases ry; exact PySem.EqNone.eq_none_bool (q2p I q (by simp))
  | int j=>obtain⟨t',rfl⟩:=ry; exact PySem.EqNone.eq_none_int (q2p I q (by simp))
  | str j=>obtain⟨t',rfl⟩:=ry; exact PySem.EqNone.eq_none_str (q2p I q (by simp))
  | _=>exact absurd (show false=true from hs) Bool.false_ne_true
 | bl i =>
  cases rx
  cases y with
  | non=>cases ry; exact PySem.EqNone.eq_bool_none (q2p I q (by simp))
  | bl j=>cases ry; exact eq_bool (q2p I q z2x)
  | str j=>obtain⟨t',rfl⟩:=ry; exact PySem.EqMixed.eq_bool_str (q2p I q (by simp))
  | _=>exact absurd (show false=true from hs) Bool.false_ne_true
 | int i =>
  obtain⟨t,rfl⟩:=rx
  cases y with
  | non=>cases ry; exact PySem.EqNone.eq_int_none (q2p I q (by simp))
  | int j=>obtain⟨t',rfl⟩:=ry; exact eq_int (q2p I q x4l)
  | str j=>obtain⟨t',rfl⟩:=ry; exact PySem.EqMixed.eq_int_str (q2p I q (by simp))
  | _=>exact absurd (show false=true from hs) Bool.false_ne_true
 | str i =>
  obtain⟨t,rfl⟩:=rx
  cases y with
  | non=>cases ry; exact PySem.EqNone.eq_str_none (q2p I q (by simp))
  | bl j=>cases ry; exact PySem.EqMixed.eq_str_bool (q2p I q (by simp))
  | int j=>obtain⟨t',rfl⟩:=ry; exact PySem.EqMixed.eq_str_int (q2p I q (by simp))
  | str j=>obtain⟨t',rfl⟩:=ry; exact eq_str (q2p I q j1c)
  | _=>exact absurd (show false=true from hs) Bool.false_ne_true
 | byt i =>
  obtain⟨t,rfl⟩:=rx
  cases y with
  | byt j=>obtain⟨t',rfl⟩:=ry; exact PySem.W.eq_bytes (q2p I q z7s)
  | _=>exact absurd (show false=true from hs) Bool.false_ne_true
 | _=>cases y <;> exact absurd (show false=true from hs) Bool.false_ne_true
theorem j3s:OpR X (compareOp .NotEq) rNe:=by
 intro pins s σ H x y v u Q I rx ry h
 obtain⟨hs,q⟩:=h
 cases x with
 | non =>
  cases rx
  cases y with
  | non=>cases ry; exact PySem.EqNone.ne_none_none (q2p I q (by simp))
  | bl j=>cases ry; exact PySem.EqNone.ne_none_bool (q2p I q (by simp))
  | int j=>obtain⟨t',rfl⟩:=ry; exact PySem.EqNone.ne_none_int (q2p I q (by simp))
  | str j=>obtain⟨t',rfl⟩:=ry; exact PySem.EqNone.ne_none_str (q2p I q (by simp))
  | _=>exact absurd (show false=true from hs) Bool.false_ne_true
 | bl i =>
  cases rx
  cases y with
  | non=>cases ry; exact PySem.EqNone.ne_bool_none (q2p I q (by simp))
  | bl j=>cases ry; exact ne_bool (q2p I q (congrArg not z2x))
  | str j=>obtain⟨t',rfl⟩:=ry; exact PySem.EqMixed.ne_bool_str (q2p I q (by simp))
  | _=>exact absurd (show false=true from hs) Bool.false_ne_true
 | int i =>
  obtain⟨t,rfl⟩:=rx
  cases y with
  | non=>cases ry; exact PySem.EqNone.ne_int_none (q2p I q (by simp))
  | int j=>obtain⟨t',rfl⟩:=ry; exact ne_int (q2p I q (congrArg not x4l))
  | str j=>obtain⟨t',rfl⟩:=ry; exact PySem.EqMixed.ne_int_str (q2p I q (by simp))
  | _=>exact absurd (show false=true from hs) Bool.false_ne_true
 | str i =>
  obtain⟨t,rfl⟩:=rx
  cases y with
  | non=>cases ry; exact PySem.EqNone.ne_str_none (q2p I q (by simp))
  | bl j=>cases ry; exact PySem.EqMixed.ne_str_bool (q2p I q (by simp))
  | int j=>obtain⟨t',rfl⟩:=ry; exact PySem.EqMixed.ne_str_int (q2p I q (by simp))
  | str j=>obtain⟨t',rfl⟩:=ry; exact ne_str (q2p I q (congrArg not j1c))
  | _=>exact absurd (show false=true from hs) Bool.false_ne_true
 | byt i =>
  obtain⟨t,rfl⟩:=rx
  cases y with
  | byt j=>obtain⟨t',rfl⟩:=ry; exact PySem.W.ne_bytes (q2p I q (congrArg not z7s))
  | _=>exact absurd (show false=true from hs) Bool.false_ne_true
 | _=>cases y <;> exact absurd (show false=true from hs) Bool.false_ne_true
theorem x5p:OpR X (compareOp .Lt) (rI0 fun i j=>.bl (decide (i < j))):=w2e fun _ _ _ _ _ _ _ q=>lt_int q
theorem x7v:OpR X (compareOp .LtE) (rI0 fun i j=>.bl (decide (i≤j))):=w2e fun _ _ _ _ _ _ _ q=>le_int q
theorem z1y:OpR X (compareOp .Gt) (rI0 fun i j=>.bl (decide (j < i))):=w2e fun _ _ _ _ _ _ _ q=>gt_int q
theorem j0m:OpR X (compareOp .GtE) (rI0 fun i j=>.bl (decide (j≤i))):=w2e fun _ _ _ _ _ _ _ q=>ge_int q
theorem z7q:OpR X (compareOp .Lt) (fun x y H Q=>∃ i j,x=.str i∧y=.str j∧Q (.bl (decide (i.cps.toList < j.cps.toList))) H):=by
 intro pins s σ H x y v u Q I rx ry h
 obtain⟨i,j,rfl,rfl,q⟩:=h
 obtain⟨t,rfl⟩:=rx
 obtain⟨t',rfl⟩:=ry
 exact lt_str (q2p I q rfl)
theorem z2i:OpR X (compareOp .Is) (fun x y H Q=>y=.non∧Q (.bl (decide (x=.non))) H):=by
 intro pins s σ H x y v u Q I rx ry h
 obtain⟨rfl,q⟩:=h
 cases ry
 refine is_none_gen (q2p I q ?_)
 cases x <;> first
  | (cases rx; rfl)
  | (obtain⟨t,rfl⟩:=rx; rfl)
theorem j9e:OpR X (compareOp .IsNot) (fun x y H Q=>y=.non∧Q (.bl (!decide (x=.non))) H):=by
 intro pins s σ H x y v u Q I rx ry h
 obtain⟨rfl,q⟩:=h
 cases ry
 refine isnot_none_gen (q2p I q ?_)
 cases x <;> first
  | (cases rx; rfl)
  | (obtain⟨t,rfl⟩:=rx; rfl)
theorem q0r (b:Expr) {op:CmpOp} (h:op≠.In:=by decide) (h2:op≠.NotIn:=by decide):behindInMarks op b=false:=by
 have e1:(op==CmpOp.In)=false:=by cases op <;> first | rfl | exact absurd rfl h
 have e2:(op==CmpOp.NotIn)=false:=by cases op <;> first | rfl | exact absurd rfl h2
 cases b <;> simp [behindInMarks,e1,e2]
theorem q1v {op:CmpOp} {r:R2} (ho:OpR X (compareOp op) r) (ha:PE X a ta) (hb:PE X b tb) (hm:behindInMarks op b=false):PE X (.Compare a [op] [b] pos) (tOp r ta tb):=by
 intro pins s σ H Q I h
 exact wpAny_Compare1 (w2h ha hb I h fun v u s2 x y H2 I2 rx ry q=>ho pins s2 σ H2 x y v u Q I2 rx ry q) hm
noncomputable def j3j (t:TE):TT:=fun σ H Q=>t σ H fun x H'=>∃ k,x=.bl k∧Q k H'
theorem q0t {op:CmpOp} {r:R2} (ho:OpR X (compareOp op) r) (ha:PE X a ta) (hb:PE X b tb) (hm:behindInMarks op b=false):PT X (.Compare a [op] [b] pos) (j3j (tOp r ta tb)):=by
 intro pins s σ H Q I h
 refine wpAny_isTrue_Compare1 (thn (ha pins s σ H _ I h) fun v s1 ⟨x,H1,I1,r1,q1⟩=>thn (hb pins s1 σ H1 _ I1 q1) fun u s2 ⟨y,H2,I2,r2,q2⟩ =>
  thn (ho pins s2 σ H2 x y v u _ I2 r1 r2 q2) fun c s3 ⟨z,H3,I3,r3,k,e,q3⟩=>?_) hm
 subst e
 cases r3
 exact wpAny_truthy_bool ⟨H3,I3,q3⟩
noncomputable def j5m (r r':R2) (ta tb tc:TE):TE:=fun σ H Q=>ta σ H fun x H1=>tb σ H1 fun y H2=>r x y H2 fun z H3=>∃ k,z=.bl k ∧
 (if k=true then tc σ H3 fun w' H4=>r' y w' H4 Q else Q (.bl false) H3)
theorem x1x {op op':CmpOp} {r r':R2} (ho:OpR X (compareOp op) r) (ho':OpR X (compareOp op') r') (ha:PE X a ta) (hb:PE X b tb) (hc:PE X c tc)
  (hm:lastMarks [op,op'] [b,c]=false:=by with_unfolding_all rfl):PE X (.Compare a [op,op'] [b,c] pos) (j5m r r' ta tb tc):=by
 intro pins s σ H Q I h
 refine Compare_chain (thn (ha pins s σ H _ I h) fun v s1 ⟨x,H1,I1,r1,q1⟩=>chain_link (thn (hb pins s1 σ H1 _ I1 q1) fun u s2 ⟨y,H2,I2,r2,q2⟩ =>
  thn (ho pins s2 σ H2 x y v u _ I2 r1 r2 q2) fun d s3 ⟨z,H3,I3,r3,k,e,q3⟩=>?_)) hm
 subst e
 cases r3
 refine wpAny_truthy_bool ?_
 cases k with
 | false=>exact ite_ff ⟨.bl false,H3,I3,rfl,q3⟩
 | true=>exact ite_tt (chain_last (thn (hc pins s3 σ H3 _ I3 q3) fun w' s4 ⟨z',H4,I4,r4,q4⟩=>ho' pins s4 σ H4 y z' u w' Q I4 r2 r4 q4))
theorem j2k {op op':CmpOp} {r r':R2} (ho:OpR X (compareOp op) r) (ho':OpR X (compareOp op') r') (ha:PE X a ta) (hb:PE X b tb) (hc:PE X c tc)
  (hm:lastMarks [op,op'] [b,c]=false:=by with_unfolding_all rfl):PT X (.Compare a [op,op'] [b,c] pos) (j3j (j5m r r' ta tb tc)):=by
 intro pins s σ H Q I h
 refine isTrue_chain (thn (ha pins s σ H _ I h) fun v s1 ⟨x,H1,I1,r1,q1⟩=>test_link (thn (hb pins s1 σ H1 _ I1 q1) fun u s2 ⟨y,H2,I2,r2,q2⟩ =>
  thn (ho pins s2 σ H2 x y v u _ I2 r1 r2 q2) fun d s3 ⟨z,H3,I3,r3,k,e,q3⟩=>?_)) hm
 subst e
 cases r3
 refine wpAny_truthy_bool ?_
 cases k with
 | false =>
  obtain⟨k',e',q'⟩:=q3
  cases e'
  exact ite_ff ⟨H3,I3,q'⟩
 | true =>
  refine ite_tt (test_last (thn (hc pins s3 σ H3 _ I3 q3) fun w' s4 ⟨z',H4,I4,r4,q4⟩=>thn (ho' pins s4 σ H4 y z' u w' _ I4 r2 r4 q4) fun d' s5 ⟨z2,H5,I5,r5,k2,e2,q5⟩=>?_))
  subst e2
  cases r5
  exact wpAny_truthy_bool ⟨H5,I5,q5⟩
theorem x9i:(sizeLine:Nat) < 2 ^ 63:=by rw [sizeLine_eq]; decide
theorem q0j:OpR X (binaryOp .Add) (fun x y H Q=>∃ i j,x=.str i∧y=.str j∧i.length+j.length≤sizeLine∧Q (.str (i++j)) H):=by
 intro pins s σ H x y v u Q I rx ry h
 obtain⟨i,j,rfl,rfl,hz,q⟩:=h
 obtain⟨t,rfl⟩:=rx
 obtain⟨t',rfl⟩:=ry
 exact add_str (fun t' tk=>⟨.str (i++j),H,I.tok _,⟨_,rfl⟩,q⟩) hz
theorem x1d {x:V} {us:List Value} (r:q4l [x] us):∃ u,us=[u]∧q5e x u:=by
 cases r with
 | cons r1 r2=>cases r2; exact⟨_,rfl,r1⟩
theorem j6s {x y:V} {us:List Value} (r:q4l [x,y] us):∃ u w',us=[u,w']∧q5e x u∧q5e y w':=by
 cases r with
 | cons r1 r2 =>
  cases r2 with
  | cons r3 r4=>cases r4; exact⟨_,_,rfl,r1,r3⟩
theorem x9b (hc:X.calm=true):x4v X (.builtin "max") (fun xs H Q=>∃ i j,xs=[.int i,.int j]∧Q (.int (if j > i then j else i)) H):=by
 intro pins s σ H xs us Q I r h
 obtain⟨i,j,rfl,q⟩:=h
 obtain⟨u,w',rfl,⟨t,rfl⟩,⟨t',rfl⟩⟩:=j6s r
 refine max_two_ints (I.ok.hd hc) fun h' tk k=>⟨_,H,I.kept k,?_,q⟩
 by_cases hj:j > i
 ·rw [if_pos hj,if_pos hj]; exact⟨_,rfl⟩
 ·rw [if_neg hj,if_neg hj]; exact⟨_,rfl⟩
theorem x8j:x4v X (.type "int") (fun xs H Q=>(∃ i,xs=[.int i]∧Q (.int i) H)∨∃ k,xs=[.bl k]∧Q (.int (if k then 1 else 0)) H):=by
 intro pins s σ H xs us Q I r h
 rcases h with ⟨i,rfl,q⟩ | ⟨k,rfl,q⟩
 ·obtain⟨u,rfl,t,rfl⟩:=x1d r
  exact call_int_int ⟨.int i,H,I,⟨_,rfl⟩,q⟩
 ·obtain⟨u,rfl,r1⟩:=x1d r
  cases r1
  exact call_int_bool ⟨.int (if k then 1 else 0),H,I.tok _,⟨_,rfl⟩,q⟩
end
structure ObjM (h:Heap) (x dx C:Addr) (mA:Str→Option Value):Prop where
 obj:h.get? x=some (instObj C dx)
 ns:h.Ns1 dx mA
 ne:dx≠x
theorem z8p {h:Heap} {dx:Addr} {mA:Str→Option Value} (n:h.Ns1 dx mA):∃ od,h.get? dx=some od∧∀ name,PySem.W.lookIn name od=some (mA name):=by
 obtain⟨o,es,ep,ho,hd,hk,_,hm⟩:=n
 refine⟨o,ho,fun name=>?_⟩
 have e:=hm name
 unfold nsFind findBy at e
 rw [← Array.find?_toList] at e
 unfold PySem.W.lookIn
 rw [hd]
 dsimp only
 split
 ·rename_i y q
  rw [q] at e
  exact congrArg some e
 ·rename_i q
  rw [q] at e
  have a:es.toList.any (·.refKey)=false:=by
   rw [List.any_eq_false]
   intro y hy
   obtain⟨z,t,hkey⟩:=hk y (Array.mem_toList_iff.mp hy)
   simp [DictEntry.refKey,hkey]
  have a':¬ es.toList.any (·.refKey)=true:=by rw [a]; exact Bool.false_ne_true
  rw [if_neg a']
  exact congrArg some e
theorem ObjM.look {h:Heap} {x dx C:Addr} {mA:Str→Option Value} (I:ObjM h x dx C mA):∃ od,PySem.W.InstAt h x (instObj C dx) C (some od)∧∀ name,PySem.W.lookIn name od=some (mA name) :=
 let ⟨od,ho,hl⟩:=z8p I.ns
 ⟨od,⟨I.obj,rfl,rfl,ho⟩,hl⟩
section
variable {prog:Program} {w:World} {A:Around} {E:Value→Shared→Prop} {s:Shared} {K:Frag} {x dx C f:Addr} {mA:Str→Option Value} {name:Str} {v:Value}
theorem j8w {expr:Bool} {Q:Value→Shared→Prop} (X:K.In s.heap) (I:ObjM s.heap x dx C mA) (hg:PySem.W.plainGet K C name=true) (hh:PySem.W.hasDictIn K C=true)
  (ha:findIn K (.ref C) name=some none) (hv:mA name=some v) (hv':PySem.W.handedIn v=true) (h:Q v { s with toks:=s.toks+1 }) :
  wpAny (model prog w) A (getAttr (.ref x) name expr) Q E s:=by
 obtain⟨od,J,hl⟩:=I.look
 exact PySem.W.get_value X J (PySem.W.plainGet_of hg).1 (PySem.W.findObj_own hh ha rfl (by rw [hl,hv])) hv' h
theorem j2t {pl:Sem Bool} {Q:Value × List Value→Shared→Prop} (X:K.In s.heap) (I:ObjM s.heap x dx C mA) (hg:PySem.W.plainGet K C name=true)
  (hf:findIn K (.ref C) name=some (some (.ref f))) (ht:PySem.W.isFn K (.ref f)=true) (hv:mA name=none) (h:Q (.ref f,[.ref x]) s) :
  wpAny (model prog w) A (getMethod (.ref x) name pl) Q E s:=by
 obtain⟨od,J,hl⟩:=I.look
 exact PySem.W.method_fn X J (PySem.W.plainGet_of hg).1 (PySem.W.plainGet_of hg).2 hf (beq_iff_eq.mp ht) (by show (PySem.W.lookIn name od).map (·.isSome)=some false; rw [hl,hv]; rfl) h
theorem j7g {ns:List Str} {Q:Unit→Shared→Prop} (X:K.In s.heap) (I:ObjM s.heap x dx C mA)
  (hs:findIn K (.ref C) "__setattr__" = some (some (.builtin "object.__setattr__"))) (hp:PySem.W.plainOver K C=true) (ht:PySem.W.takerIn K C name=some none) (hh:PySem.W.hasDictIn K C=true)
  (hw:PySem.Within mA ns) (hsz:ns.length≤sizeLine)
  (h:∀ h',ObjM h' x dx C (fun y=>if y=name then some v else mA y)→Heap.SameBut dx s.heap h'→Q () { s with heap:=h',toks:=s.toks+2 }) :
  wpAny (model prog w) A (setAttr (.ref x) name v) Q E s:=by
 obtain⟨od,J,hl⟩:=I.look
 refine PySem.W.set_plain X J hs (PySem.W.osa_open (s:={ s with toks:=s.toks+1 }) (r:=none) X J hp ht fun b=>?_)
 obtain⟨cd,hc,hd'⟩:=PySem.W.any_some hh
 have hx:s.heap.get? x=some ⟨.ref C,some dx,.plain,#[]⟩:=I.obj
 refine wpAny_bind (wpAny_pure (wpAny_bind (wpAny_bind (wpAny_loadPart hx (wpAny_bind (PySem.W.Looks.here (s:={ s with toks:=s.toks+1 }) (PySem.W.looks_clsIn X hc) ?_))))))
 rw [hd']
 refine wpAny_pure (a:=some dx) (wpAny_bind (wpAny_pure (wpAny_bind ?_)))
 refine wpAny_nsSet1 (s:={ s with toks:=s.toks+1 }) I.ns fun h' hn2 hs2=>?_
 obtain⟨oD,esD,epD,hoD,hdD,hcD⟩:=hn2.count (PySem.Within.cons name v hw)
 refine wpAny_bind (wpAny_lookBehind hoD (by rw [hdD]; exact pastItsLine_dict (Nat.le_trans hcD (by rw [List.length_cons]; omega))) ?_)
 exact wpAny_pure (h _ ⟨(hs2.2 _ (Ne.symm I.ne)).trans I.obj,hn2,I.ne⟩ hs2)
theorem j4a {R:Result→Shared→Prop} {vs:List Value} {kw:List (Str × Value)} (X:K.In s.heap) (hm:PySem.W.makesIn K C=true)
  (hi:findIn K (.ref C) "__init__" = some (some (.ref f))) (hf:PySem.W.typeIn K (.ref f)=some (.type "function"))
  (h:codeAny (model prog w) (A.under (.builtin "type.__call__" ⟨.ref C::vs,kw⟩)) (.call (.ref f) ⟨.ref (s.heap.objs.size+1)::vs,kw⟩) (PySem.W.InitBack (s.heap.objs.size+1) R)
   { s with heap:=(s.heap.push emptyDict).push (instObj C s.heap.objs.size) }) :
  codeAny (model prog w) A (.call (.ref C) ⟨vs,kw⟩) R s:=by
 obtain⟨hh,g,d,t,os⟩:=s
 exact PySem.W.make_core (PySem.W.makes_of X hm) (PySem.W.looks_findIn X hi) (fun self=>PySem.W.bind_fn X self hf) (.inl rfl) h
end
noncomputable def z0i (f:Str) (v:V):List (Str × V)→List (Str × V)
 | []=>[(f,v)]
 | (g,x)::r=>if g=f then (g,v)::r else (g,x)::z0i f v r
theorem x4o (f g:Str) (v:V):∀ fs:List (Str × V),(z0i f v fs).lookup g=if g=f then some v else fs.lookup g
 | []=>by
  show List.lookup g [(f,v)]=_
  by_cases h:g=f
  ·have hb:(g==f)=true:=beq_iff_eq.mpr h
   simp only [List.lookup,hb,if_pos h]
  ·have hb:(g==f)=false:=beq_eq_false_iff_ne.mpr h
   simp only [List.lookup,hb,if_neg h]
 | (k,x)::r=>by
  have ih:=x4o f g v r
  rw [show z0i f v ((k,x)::r)=(if k=f then (k,v)::r else (k,x)::z0i f v r) from rfl]
  by_cases hk:k=f
  ·rw [if_pos hk]
   by_cases h:g=k
   ·have hb:(g==k)=true:=beq_iff_eq.mpr h
    simp only [List.lookup,hb,if_pos (h.trans hk)]
   ·have hb:(g==k)=false:=beq_eq_false_iff_ne.mpr h
    simp only [List.lookup,hb,if_neg (fun e:g=f=>h (e.trans hk.symm))]
  ·rw [if_neg hk]
   by_cases h:g=k
   ·have hb:(g==k)=true:=beq_iff_eq.mpr h
    simp only [List.lookup,hb,if_neg (fun e:g=f=>hk (h.symm.trans e))]
   ·have hb:(g==k)=false:=beq_eq_false_iff_ne.mpr h
    simp only [List.lookup,hb]
    exact ih
theorem x3x (f:Str) (v:V):∀ fs:List (Str × V),f∈(z0i f v fs).map (·.1)∧∀ g,g∈fs.map (·.1)→g∈(z0i f v fs).map (·.1)
 | []=>⟨by simp [z0i],fun g h=>by simp at h⟩
 | (k,x)::r=>by
  obtain⟨i1,i2⟩:=x3x f v r
  rw [show z0i f v ((k,x)::r)=(if k=f then (k,v)::r else (k,x)::z0i f v r) from rfl]
  by_cases hk:k=f
  ·rw [if_pos hk]
   subst hk
   exact⟨by simp,fun g h=>by simpa using h⟩
  ·rw [if_neg hk]
   refine⟨?_,fun g h=>?_⟩
   ·rw [List.map_cons]
    exact List.mem_cons_of_mem _ i1
   ·rw [List.map_cons] at h ⊢
    rcases List.mem_cons.mp h with e | e
    ·exact List.mem_cons.mpr (.inl e)
    ·exact List.mem_cons_of_mem _ (i2 g e)
theorem x3p (f:Str) (v:V):∀ fs:List (Str × V),(z0i f v fs).length≤fs.length+1
 | []=>by simp [z0i]
 | (k,x)::r=>by
  have ih:=x3p f v r
  rw [show z0i f v ((k,x)::r)=(if k=f then (k,v)::r else (k,x)::z0i f v r) from rfl]
  by_cases hk:k=f
  ·rw [if_pos hk,List.length_cons,List.length_cons]; omega
  ·rw [if_neg hk,List.length_cons,List.length_cons]; omega
theorem z3z.some_of {v:V} {o:Option Value} (r:z3z (some v) o):∃ u,o=some u∧q5e v u:=by
 cases o with
 | none=>exact (show False from r).elim
 | some u=>exact⟨u,rfl,r⟩
theorem z3z.none_of {o:Option Value} (r:z3z none o):o=none:=by
 cases o with
 | none=>rfl
 | some u=>exact (show False from r).elim
theorem z7b {v:V} {u:Value} (r:q5e v u):PySem.W.handedIn u=true:=by
 cases v with
 | non=>cases (show u=Value.none from r); rfl
 | bl b=>cases (show u=Value.bool b from r); rfl
 | int i=>obtain⟨t,e⟩:=(show ∃ t,u=Value.int i t from r); cases e; rfl
 | str x=>obtain⟨t,e⟩:=(show ∃ t,u=Value.str x t from r); cases e; rfl
 | byt b=>obtain⟨t,e⟩:=(show ∃ t,u=Value.bytes b t from r); cases e; rfl
 | flt b=>obtain⟨t,e⟩:=(show ∃ t,u=Value.float b t from r); cases e; rfl
 | ref a=>cases (show u=Value.ref a from r); rfl
 | ty n=>cases (show u=Value.type n from r); rfl
section
variable {P:Program} {w:World} {H H':Hp} {h h':Heap} {a C dx:Addr} {fs fs':List (Str × V)}
theorem x6p (hok:HOk P w H h) (e:H a=some (.ins C dx fs)):∃ mA,ObjM h a dx C mA∧(∀ f,z3z (fs.lookup f) (mA f))∧PySem.Within mA (fs.map (·.1))∧fs.length≤1000∧H dx=some (.own a):=by
 obtain⟨d,z,ne,ob,mA,n,r,q⟩:=(show q5d P w H h a (.ins C dx fs) from hok a _ e)
 exact⟨mA,⟨ob,n,ne⟩,r,q,z,d⟩
end
structure Cls (K:Frag) (C:Addr):Prop where
 pg:PySem.W.plainGet K C Str.empty=true
 hd:PySem.W.hasDictIn K C=true
 po:PySem.W.plainOver K C=true
 sa:findIn K (.ref C) "__setattr__" = some (some (.builtin "object.__setattr__"))
theorem Cls.get {K:Frag} {C:Addr} (c:Cls K C) (f:Str):PySem.W.plainGet K C f=true:=c.pg
noncomputable def x3c (K:Frag) (C:Addr) (f:Str):Prop:=findIn K (.ref C) f=some none
theorem x3c.taker {K:Frag} {C:Addr} {f:Str} (n:x3c K C f):PySem.W.takerIn K C f=some none:=by
 unfold PySem.W.takerIn
 rw [show findIn K (.ref C) f=some none from n]
 rfl
structure Meth (K:Frag) (C:Addr) (m:Str) (f:Addr):Prop where
 at_:findIn K (.ref C) m=some (some (.ref f))
 fn:PySem.W.isFn K (.ref f)=true
 kp:keepIn K (.ref f)=true
section
variable {X:Cx} {pins:List (Addr × Obj)} {σ:St} {H:Hp} {s:Shared} {a C dx:Addr} {fs:List (Str × V)} {f:Str} {v:V} {A:Around} {E:Value→Shared→Prop}
theorem z5e {b:Bool} {Q:Value→Shared→Prop} (I:Inv X pins σ H s) (e:H a=some (.ins C dx fs)) (c:Cls X.K C) (n:x3c X.K C f) (l:fs.lookup f=some v)
  (h:∀ u s',Inv X pins σ H s'→q5e v u→Q u s'):wpAny (model X.prog X.w) A (getAttr (.ref a) f b) Q E s:=by
 obtain⟨mA,O,r,_,_,_⟩:=x6p I.hok e
 obtain⟨u,hu,ru⟩:=z3z.some_of (v:=v) (o:=mA f) (by rw [← l]; exact r f)
 exact j8w I.kIn O (c.get f) c.hd n hu (z7b ru) (h u _ (I.tok _) ru)
theorem z6l {m:Str} {g:Addr} {pl:Sem Bool} {Q:Value × List Value→Shared→Prop} (I:Inv X pins σ H s) (e:H a=some (.ins C dx fs)) (c:Cls X.K C) (k:Meth X.K C m g) (l:fs.lookup m=none)
  (h:Q (.ref g,[.ref a]) s):wpAny (model X.prog X.w) A (getMethod (.ref a) m pl) Q E s:=by
 obtain⟨mA,O,r,_,_,_⟩:=x6p I.hok e
 have hn:mA m=none:=z3z.none_of (by rw [← l]; exact r m)
 exact j2t I.kIn O (c.get m) k.at_ k.fn hn h
theorem z4m {y:V} {u:Value} {Q:Unit→Shared→Prop} (I:Inv X pins σ H s) (e:H a=some (.ins C dx fs)) (c:Cls X.K C) (n:x3c X.K C f) (hl:fs.length < 1000) (ry:q5e y u)
  (h:∀ s',Inv X pins σ (upd H a (.ins C dx (z0i f y fs))) s'→Q () s'):wpAny (model X.prog X.w) A (setAttr (.ref a) f u) Q E s:=by
 obtain⟨mA,O,r,wi,_,ho⟩:=x6p I.hok e
 have hz:(fs.map (·.1)).length≤sizeLine:=by rw [List.length_map,sizeLine_eq]; omega
 refine j7g I.kIn O c.sa c.po n.taker c.hd wi hz fun h' O' sb=>h _ ?_
 have hd:∃ o,h'.get? dx=some o:=let ⟨o,_,_,e',_⟩:=O'.ns; ⟨o,e'⟩
 refine I.write (x:=a) (e:=dx) (by rw [e]; exact True.intro) (.inr ho) (fun b q hb z=>(sb.2 b hb).trans z) hd ?_
 refine⟨by rw [q1a O.ne]; exact ho,?_,O.ne,O'.obj,_,O'.ns,fun g=>?_,fun g hg=>?_⟩
 ·have:=x3p f y fs; omega
 ·show z3z ((z0i f y fs).lookup g) (if g=f then some u else mA g)
  rw [x4o]
  by_cases q:g=f
  ·rw [if_pos q,if_pos q]; exact ry
  ·rw [if_neg q,if_neg q]; exact r g
 ·by_cases q:g=f
  ·rw [q]; exact (x3x f y fs).1
  ·refine (x3x f y fs).2 g (wi g fun z=>hg ?_)
   show (if g=f then some u else mA g)=none
   rw [if_neg q]; exact z
theorem Inv.made (I:Inv X pins σ H s):Inv X pins σ (upd (upd H s.heap.objs.size (.own (s.heap.objs.size+1))) (s.heap.objs.size+1) (.ins C s.heap.objs.size []))
  { s with heap:=(s.heap.push emptyDict).push (instObj C s.heap.objs.size) }:=by
 have e1:(s.heap.push emptyDict).get? s.heap.objs.size=some emptyDict:=Heap.get?_push_size s.heap rfl
 have e2:((s.heap.push emptyDict).push (instObj C s.heap.objs.size)).get? (s.heap.objs.size+1)=some (instObj C s.heap.objs.size):=by
  have:=Heap.get?_push_size (s.heap.push emptyDict) (o:=instObj C s.heap.objs.size) rfl
  rwa [Heap.size_push] at this
 have e3:(s.heap.push emptyDict).Ns s.heap.objs.size (fun _=>none):=⟨emptyDict,#[],_,e1,rfl,(fun e he=>absurd he (by simp)),fun _=>rfl⟩
 have I1:=I.laid (a:=s.heap.objs.size) (o:=.own (s.heap.objs.size+1)) (h':=s.heap.push emptyDict) (t':=s.toks) (fun b u q=>Heap.get?_push_of_some _ q) (Nat.le_refl _) ⟨_,e1⟩
 refine I1.laid (a:=s.heap.objs.size+1) (o:=.ins C s.heap.objs.size []) (t':=s.toks) (fun b u q=>Heap.get?_push_of_some _ q) (Nat.le_of_eq (Heap.size_push _ _)) ?_
 have ne:s.heap.objs.size≠s.heap.objs.size+1:=Nat.ne_of_lt (Nat.lt_succ_self _)
 refine⟨by rw [q1a ne,q0f],Nat.zero_le _,ne,e2,fun _=>none,(Heap.Ns1.of_empty e3).at fun o q=>Heap.get?_push_of_some _ q,fun _=>True.intro,fun y hy=>absurd rfl hy⟩
theorem j7w {prog:Program} {w:World} {env:Env} {e:Expr} {f:Str} {pos:Pos} {s:Shared} {Q:Value→Shared→Prop} (hb:attributeBase e f env (eval e env)=eval e env)
  (h:wpAny (model prog w) A (eval e env) (fun o s₁=>wpAny (model prog w) A (getAttr o f true) Q E s₁) E s):wpAny (model prog w) A (eval (.Attribute e f pos) env) Q E s :=
 Attribute_any_ h (by rw [arm_eval_Attribute,hb])
end
noncomputable def w7t (K:Frag) (ta:TE) (f:Str):TE:=fun σ H Q=>ta σ H fun x H1=>∃ a C dx fs v,x=.ref a∧H1 a=some (.ins C dx fs)∧Cls K C∧x3c K C f∧fs.lookup f=some v∧Q v H1
noncomputable def w7g (K:Frag) (ta tv:TE) (f:Str):TS:=fun D σ H=>tv σ H fun y H1=>ta σ H1 fun x H2=>∃ a C dx fs,x=.ref a∧H2 a=some (.ins C dx fs)∧Cls K C∧x3c K C f∧fs.length < 1000 ∧
 D.nx σ (upd H2 a (.ins C dx (z0i f y fs)))
section
variable {X:Cx} {o e value:Expr} {f:Str} {pos pos' tpos:Pos} {ta tv:TE}
theorem x9u (he:PE X e ta) (hb:attributeBase e f X.env (eval e X.env)=eval e X.env):PE X (.Attribute e f pos) (w7t X.K ta f):=by
 intro pins s σ H Q I h
 refine j7w hb (thn (he pins s σ H _ I h) fun u s1 ⟨x,H1,I1,rx,a,C,dx,fs,v,ex,ea,c,n,l,q⟩=>?_)
 subst ex
 obtain rfl:u=Value.ref a:=rx
 exact z5e I1 ea c n l fun u' s2 I2 ru=>⟨v,H1,I2,ru,q⟩
theorem z8w (ha:PE X o ta) (hv:PE X value tv) (hs:swapsWith value (some (.Attribute o f pos')) pos.line X.env=pure false):PS X (.Assign [.Attribute o f pos'] value pos) (w7g X.K ta tv f):=by
 intro pins s σ H D I h
 refine plainObj_wpAny_Assign_Attribute (thn (hv pins s σ H _ I h) fun u s1 ⟨y,H1,I1,ry,q⟩=>thn (ha pins s1 σ H1 _ I1 q) fun ov s2 ⟨x,H2,I2,rx,a,C,dx,fs,ex,ea,c,n,l,q2⟩=>?_) hs
 subst ex
 obtain rfl:ov=Value.ref a:=rx
 exact z4m I2 ea c n l ry fun s3 I3=>⟨σ,_,I3,q2⟩
end
section
variable {X:Cx} {pins:List (Addr × Obj)} {σ:St} {H:Hp} {s:Shared} {A:Around} {E:Value→Shared→Prop} {Q:Value→Shared→Prop} {c:Value} {b:Bool}
inductive TyOf (K:Frag) (H:Hp):V→Value→Prop where
 | non:TyOf K H .non (.type "NoneType")
 | bl (x:Bool):TyOf K H (.bl x) (.type "bool")
 | int (i:Int):TyOf K H (.int i) (.type "int")
 | str (x:Str):TyOf K H (.str x) (.type "str")
 | flt (x:UInt64):TyOf K H (.flt x) (.type "float")
 | lst {a:Addr} {xs:List V} (e:H a=some (.lst xs)):TyOf K H (.ref a) (.type "list")
 | frz {a:Addr} {o:Obj} {xs:List V} (e:H a=some (.frz o (.lst xs))):TyOf K H (.ref a) (.type "list")
 | tup {a:Addr} {xs:List V} (e:H a=some (.tup xs)):TyOf K H (.ref a) (.type "tuple")
 | dK {a:Addr} {kvs:List (Key × V)} (e:H a=some (.dK kvs)):TyOf K H (.ref a) (.type "dict")
 | dT {a:Addr} {kvs:List (List Key × V)} (e:H a=some (.dT kvs)):TyOf K H (.ref a) (.type "dict")
 | ins {a C dx:Addr} {fs:List (Str × V)} (e:H a=some (.ins C dx fs)) (cl:Cls K C) (ha:findIn K (.ref C) "__class__" = some (some (.builtin "object.__class__")))
   (hn:PySem.W.specialIn K (.builtin "object.__class__") "__get__" = some (some (.builtin "getset_descriptor.__get__"))) (htk:PySem.W.takesIn K (.builtin "object.__class__")=some true)
   (hm:PySem.W.mroIn K C (.type "object")=some true):TyOf K H (.ref a) (.ref C)
theorem z9p {x:V} {u t:Value} (I:Inv X pins σ H s) (rx:q5e x u) (ty:TyOf X.K H x t) (e:PySem.W.kitOne X.K t c=some b) (h:∀ tk,Q (.bool b) { s with toks:=tk }) :
  wpAny (model X.prog X.w) A (call (.builtin "isinstance") [u,c]) Q E s:=by
 cases ty with
 | non=>cases (show u=Value.none from rx); exact kia_one PySem.W.kitx_none I.kIn True.intro e (fun z=>nomatch z) h
 | bl y=>cases (show u=Value.bool y from rx); exact kia_one PySem.W.kitx_bool I.kIn True.intro e (fun z=>nomatch z) h
 | int i=>obtain⟨t,q⟩:=(show ∃ t,u=Value.int i t from rx); cases q; exact kia_one PySem.W.kitx_int I.kIn True.intro e (fun z=>nomatch z) h
 | str y=>obtain⟨t,q⟩:=(show ∃ t,u=Value.str y t from rx); cases q; exact kia_one PySem.W.kitx_str I.kIn True.intro e (fun z=>nomatch z) h
 | flt y=>obtain⟨t,q⟩:=(show ∃ t,u=Value.float y t from rx); cases q; exact kia_one PySem.W.kitx_float I.kIn True.intro e (fun z=>nomatch z) h
 | @lst a xs ea =>
  cases (show u=Value.ref a from rx)
  obtain⟨_,_,n,_,h1⟩:=(show q5d X.prog X.w H s.heap a (.lst xs) from I.hok a _ ea)
  exact kia_one PySem.W.kitx_list I.kIn ⟨_,h1,rfl⟩ e (fun z=>nomatch z) h
 | @frz a ob xs ea =>
  cases (show u=Value.ref a from rx)
  obtain⟨_,_,_,n,_,h1⟩:=(show q5d X.prog X.w H s.heap a (.frz ob (.lst xs)) from I.hok a _ ea)
  exact kia_one PySem.W.kitx_list I.kIn ⟨_,h1,rfl⟩ e (fun z=>nomatch z) h
 | @tup a xs ea =>
  cases (show u=Value.ref a from rx)
  obtain⟨_,_,_,p⟩:=(show q5d X.prog X.w H s.heap a (.tup xs) from I.hok a _ ea)
  obtain⟨o,h1,h2,_⟩:=p
  exact kia_one PySem.W.kitx_tuple I.kIn ⟨o,h1,h2⟩ e (fun z=>nomatch z) h
 | @dK a kvs ea =>
  cases (show u=Value.ref a from rx)
  obtain⟨_,_,vs,_,p⟩:=(show q5d X.prog X.w H s.heap a (.dK kvs) from I.hok a _ ea)
  obtain⟨o,es,ep,h1,h2,_⟩:=p
  exact kia_one PySem.W.kitx_dict I.kIn ⟨o,h1,h2.1⟩ e (fun z=>nomatch z) h
 | @dT a kvs ea =>
  cases (show u=Value.ref a from rx)
  obtain⟨_,_,xs,_,o,es,ep,h1,h2,_⟩:=(show q5d X.prog X.w H s.heap a (.dT kvs) from I.hok a _ ea)
  exact kia_one PySem.W.kitx_dict I.kIn ⟨o,h1,h2.1⟩ e (fun z=>nomatch z) h
 | @ins a C dx fs ea cl ha hn htk hm =>
  cases (show u=Value.ref a from rx)
  obtain⟨mA,O,_⟩:=x6p I.hok ea
  obtain⟨od,J,_⟩:=O.look
  exact kia_one (PySem.W.kitx_own (cl.get _) cl.hd ha hn htk hm) I.kIn J e (fun z=>nomatch z) h
end
structure Room (k:Nat) (A:Around):Prop where
 hd:A.handled=none
 dp:A.depth+3*k+5 < recursionLimit
 un:A.units+16*k+200 < cLine
theorem Room.mono {j k:Nat} {A:Around} (r:Room k A) (h:j≤k):Room j A:=⟨r.hd,by have:=r.dp; omega,by have:=r.un; omega⟩
theorem Room.deeper {k:Nat} {A:Around} (r:Room (k+1) A) (env:Env):Room k (A.deeper env) :=
 ⟨r.hd,by have:=r.dp; show A.depth+1+3*k+5 < _; omega,by have:=r.un; show A.units+3+16*k+200 < _; omega⟩
theorem z4i {A:Around} {C:Addr} {us:List Value} {kw:List (Str × Value)}:(A.under (.builtin "type.__call__" ⟨.ref C::us,kw⟩)).depth=A.depth+1:=by
 first | rfl | simp [Around.under,Code.weight,Code.isCreation,Code.isGuard,Code.isCaller,Code.frames,Code.isFrame,guardIds]
theorem z5j {A:Around} {C:Addr} {us:List Value} {kw:List (Str × Value)}:(A.under (.builtin "type.__call__" ⟨.ref C::us,kw⟩)).units=A.units+1:=by
 first | rfl | simp [Around.under,Code.cUnits,Code.frames,Code.isFrame]
theorem Room.make {k:Nat} {A:Around} (r:Room (k+1) A) (C:Addr) (us:List Value) (kw:List (Str × Value)):Room k (A.under (.builtin "type.__call__" ⟨.ref C::us,kw⟩)) :=
 ⟨r.hd,by have:=r.dp; rw [z4i]; omega,by have:=r.un; rw [z5j]; omega⟩
theorem Room.depth {k:Nat} {A:Around} (r:Room k A):A.depth < recursionLimit:=by have:=r.dp; omega
theorem Room.units {k:Nat} {A:Around} (r:Room k A):A.units+64 < cLine:=by have:=r.un; omega
theorem Room.units0 {k:Nat} {A:Around} (r:Room k A):A.units < cLine:=by have:=r.un; omega
noncomputable def w1j:TA:=fun _ H Q=>Q [] H
noncomputable def q8p (ta:TE) (tr:TA):TA:=fun σ H Q=>ta σ H fun x H1=>tr σ H1 fun xs H2=>Q (x::xs) H2
section
variable {X:Cx} {e:Expr} {es:List Expr} {te:TE} {t:TA} {pos:Pos}
theorem q0b:PA X [] w1j:=fun _ _ _ _ H Q I h=>Calls.spliced_nil ⟨[],H,I,.nil,h⟩
theorem q0c (ha:PE X e te) (hr:PA X es t) (hs:starEach (e::es) X.env=(false,eval e X.env)::starEach es X.env:=by rfl):PA X (e::es) (q8p te t):=by
 intro pos pins s σ H Q I h
 rw [hs]
 show wpAny _ _ (spliced ((false,eval e X.env)::backTo pos (starEach es X.env))) _ _ s
 refine Calls.spliced_cons (thn (ha pins s σ H _ I h) fun u s1 ⟨x,H1,I1,r1,q1⟩=>?_)
 exact thn (hr pos pins s1 σ H1 _ I1 q1) fun us s2 ⟨xs,H2,I2,r2,q2⟩=>⟨x::xs,H2,I2,.cons r1 r2,q2⟩
noncomputable def w4o (t:TA):TE:=fun σ H Q=>t σ H fun xs H1=>xs.length≤sizeLine∧∀ p,H1 p=none→Q (.ref p) (upd H1 p (.tup xs))
noncomputable def w4j (t:TA):TE:=fun σ H Q=>t σ H fun xs H1=>xs.length≤sizeLine∧∀ p,H1 p=none→Q (.ref p) (upd H1 p (.lst xs))
theorem q2x {x1} (h:PA X es t):PE X (.Tuple es x1 pos) (w4o t):=by
 intro pins s σ H Q I hq
 refine wpAny_Tuple_spliced (thn (h pos pins s σ H _ I hq) fun us s1 ⟨xs,H1,I1,r,z,q⟩=>⟨by rw [← r.length]; exact z,?_⟩)
 have hf:H1 s1.heap.objs.size=none:=I1.hok.fresh (Nat.le_refl _)
 refine⟨.ref s1.heap.objs.size,upd H1 s1.heap.objs.size (.tup xs),I1.laid (t':=s1.toks) (fun b u e=>Heap.get?_push_of_some _ e) (Nat.le_refl _) ?_,rfl,q _ hf⟩
 exact⟨z,us,r,⟨_,Heap.get?_push_size _ rfl,rfl,_,rfl⟩⟩
theorem x0h (h:PA X es t):PE X (.List es pos) (w4j t):=by
 intro pins s σ H Q I hq
 refine wpAny_List_spliced (thn (h pos pins s σ H _ I hq) fun us s1 ⟨xs,H1,I1,r,z,q⟩=>⟨by rw [← r.length]; exact z,?_⟩)
 have hf:H1 s1.heap.objs.size=none:=I1.hok.fresh (Nat.le_refl _)
 refine⟨.ref s1.heap.objs.size,upd H1 s1.heap.objs.size (.lst xs),I1.laid (t':=s1.toks) (fun b u e=>Heap.get?_push_of_some _ e) (Nat.le_refl _) ?_,rfl,q _ hf⟩
 exact⟨z,us,0,r,Heap.get?_push_size _ rfl⟩
end
noncomputable abbrev Sp:=List V→Hp→VK→XK→Prop
noncomputable abbrev CXT:=List Env→Hp→Shared→XK→Value→Shared→Prop
structure Env0 (P:Program) (w:World) (K:Frag) (mg:Str→Option Value) (base:Heap) (A:Around) (outer:List Env) (s:Shared) (H:Hp):Prop where
 frames:A.frames=some outer
 mod:Mod K mg base
 bs:∀ b o,base.get? b=some o→s.heap.get? b=some o∧H b=none
 bsz:base.objs.size≤s.heap.objs.size
 funs:s.heap.FunFrames base outer
 frf:∀ b∈frs outer,H b=none
 hok:HOk P w H s.heap
 bare:AllBare s.gens
noncomputable def CE (outer:List Env) (P:Program) (w:World) (H:Hp) (s:Shared) (Q:VK) (u:Value) (s':Shared):Prop :=
 ∃ v H',s'.os=s.os∧AllBare s'.gens∧Un (frs outer) [] H H' s.heap s'.heap∧HOk P w H' s'.heap∧q5e v u∧Q v H'
noncomputable def CR (CX:CXT) (outer:List Env) (P:Program) (w:World) (H:Hp) (s:Shared) (Q:VK) (E:XK) (r:Result) (s':Shared):Prop :=
 match r with
 | .ok (.ret u)=>CE outer P w H s Q u s'
 | .ok _=>False
 | .error e=>CX outer H s E e s'
structure FnOk (P:Program) (w:World) (K:Frag) (mg:Str→Option Value) (base:Heap) (CX:CXT) (k:Nat) (f:Addr) (fd:FuncData) (ps:List Str) (sp:Sp):Prop where
 len:∀ vs H Q E,sp vs H Q E→vs.length=ps.length
 run:∀ (A:Around) (outer:List Env) (s:Shared) (H:Hp) (args:Args) (us:List Value) (vs:List V) (Q:VK) (E:XK),Room k A→Env0 P w K mg base A outer s H→BindsTo s fd args (ps.zip us)→q4l vs us→sp vs H Q E →
  codeAny (model P w) A (.call (.ref f) args) (CR CX outer P w H s Q E) s
theorem FnOk.mono {P:Program} {w:World} {K:Frag} {mg:Str→Option Value} {base:Heap} {CX:CXT} {j k:Nat} {f:Addr} {fd:FuncData} {ps:List Str} {sp:Sp} (F:FnOk P w K mg base CX j f fd ps sp) (h:j≤k) :
  FnOk P w K mg base CX k f fd ps sp:=⟨F.len,fun A outer s H args us vs Q E hr=>F.run A outer s H args us vs Q E (hr.mono h)⟩
theorem Env0.make {P:Program} {w:World} {K:Frag} {mg:Str→Option Value} {base:Heap} {A:Around} {outer:List Env} {s:Shared} {H:Hp} (e:Env0 P w K mg base A outer s H) (C:Addr) (us:List Value) (kw:List (Str × Value)) :
  Env0 P w K mg base (A.under (.builtin "type.__call__" ⟨.ref C::us,kw⟩)) outer s H:=⟨by first | exact e.frames | (simpa [Around.under,Code.envs,Code.isFrame,pushEnvs] using e.frames),e.mod,e.bs,e.bsz,e.funs,e.frf,e.hok,e.bare⟩
section
variable {X:Cx} {pins:List (Addr × Obj)} {σ:St} {H:Hp} {s s':Shared}
theorem Inv.env0 (I:Inv X pins σ H s):Env0 X.prog X.w X.K X.mg X.base X.A X.stack s H :=
 ⟨I.ok.frames,I.ok.mod,I.bs,Nat.le_trans I.ok.bsz I.sz,I.stack,I.stkFree,I.hok,I.bare⟩
theorem Inv.after {Q:VK} {u:Value} (I:Inv X pins σ H s) (h:CE X.stack X.prog X.w H s Q u s'):EP X pins σ Q u s':=by
 obtain⟨v,H',os,bare,un,hok,r,q⟩:=h
 obtain⟨hh,g,d,t,os'⟩:=s'
 obtain rfl:os'=s.os:=os
 exact⟨v,H',I.call (h':=hh) (g':=g) (d':=d) (t':=t) (ch:=[]) un hok bare (fun b z=>absurd z (by simp)),r,q⟩
end
noncomputable def j3y (sp:Sp) (dvs:List V) (E:XK) (t:TA):TE:=fun σ H Q=>t σ H fun vs H1=>sp (vs++dvs) H1 Q E
noncomputable def w3u (C:Addr) (m:Str) (sp:Sp) (dvs:List V) (E:XK) (ta:TE) (t:TA):TE:=fun σ H Q=>ta σ H fun x H1=>∃ a dx fs,x=.ref a∧H1 a=some (.ins C dx fs)∧fs.lookup m=none ∧
 t σ H1 fun vs H2=>sp (x::(vs++dvs)) H2 Q E
noncomputable def w3q (C:Addr) (sp:Sp) (dvs:List V) (E:XK) (t:TA):TE:=fun σ H Q=>t σ H fun vs H1=>∀ x dx,H1 x=none→H1 dx=none→dx≠x →
 sp (.ref x::(vs++dvs)) (upd (upd H1 dx (.own x)) x (.ins C dx [])) (fun v H2=>v=.non∧Q (.ref x) H2) E
noncomputable def q3p (K:Frag) (fd:FuncData) (ps:List Str) (ds:List Value):Prop :=
 ∀ (s:Shared) (us:List Value),K.In s.heap→(us++ds).length=ps.length→BindsTo s fd ⟨us,[]⟩ (ps.zip (us++ds))
theorem q3p.all {K:Frag} {fd:FuncData} {ps:List Str} (h:∀ us:List Value,us.length=ps.length→bindArgs fd ⟨us,[]⟩=pure (ps.zip us)):q3p K fd ps []:=fun s us _ hl=>by
 rw [List.append_nil] at hl ⊢
 exact .of_eq (h us hl)
noncomputable def q8j (CX:CXT) (X:Cx) (E:XK):Prop:=∀ (pins:List (Addr × Obj)) (σ:St) (H:Hp) (s:Shared) (e:Value) (s':Shared),Inv X pins σ H s→CX X.stack H s E e s'→X.xe e s'
section
variable {X:Cx} {CX:CXT} {k:Nat} {f C:Addr} {fd:FuncData} {ps:List Str} {sp:Sp} {dvs:List V} {ds:List Value} {E:XK} {x m:Str} {p pos apos:Pos} {e o:Expr} {es:List Expr} {ta:TE} {t:TA}
theorem x9f {pins:List (Addr × Obj)} {σ:St} {H:Hp} {s:Shared} {Q:VK} {us:List Value} {vs:List V} (F:FnOk X.prog X.w X.K X.mg X.base CX k f fd ps sp) (hr:Room k X.A) (hb:q3p X.K fd ps ds) (hd:q4l dvs ds) (hx:q8j CX X E)
  (I:Inv X pins σ H s) (r:q4l vs us) (h:sp (vs++dvs) H Q E):wpAny (model X.prog X.w) X.A (call (.ref f) us) (EP X pins σ Q) X.xe s:=by
 have r2:q4l (vs++dvs) (us++ds):=r.append hd
 have hl:(us++ds).length=ps.length:=by rw [← r2.length]; exact F.len _ _ _ _ h
 refine wpAny_call (codeAny_mono (F.run X.A X.stack s H ⟨us,[]⟩ (us++ds) (vs++dvs) Q E hr I.env0 (hb s us I.kIn hl) r2 h) fun r s' hq=>?_)
 cases r with
 | error e=>exact hx pins σ H s e s' I hq
 | ok fl =>
  cases fl with
  | ret u=>exact I.after hq
  | next=>exact False.elim hq
  | brk=>exact False.elim hq
  | cont=>exact False.elim hq
theorem x0w (F:FnOk X.prog X.w X.K X.mg X.base CX k f fd ps sp) (hr:Room k X.A) (hg:Gl X x) (hm:X.mg x=some (.ref f)) (hk:keepIn X.K (.ref f)=true) (hb:q3p X.K fd ps ds) (hd:q4l dvs ds) (hx:q8j CX X E)
  (ha:PA X (e::es) t) (hdb:(x==("__debug__" : Str))=false:=by decide) (he:starEach (e::es) X.env=(false,eval e X.env)::starEach es X.env:=by rfl) (hpl:(backTo pos (starEach es X.env)).any (·.1)=false:=by rfl) :
  PE X (.Call (.Name x p) (e::es) [] pos) (j3y sp dvs E t):=by
 intro pins s σ H Q I h
 refine wpAny_Call_Name_kw (x2y I hg hm ?_ hdb)
 refine PySem.W.callWith_K (h₀:=X.base) I.ok.mod.kin hk (thn (ha pos pins s σ H _ I h) fun us s1 ⟨vs,H1,I1,r,q⟩=>⟨I1.kIn,?_⟩) he hpl
 exact x9f F hr hb hd hx I1 r q
theorem q5y {pl:Sem Bool} (he:PE X o ta) (c:Cls X.K C) (hm:Meth X.K C m f) (F:FnOk X.prog X.w X.K X.mg X.base CX k f fd ps sp) (hr:Room k X.A) (hb:q3p X.K fd ps ds) (hd:q4l dvs ds) (hx:q8j CX X E)
  (ht:eval (.Call (.Attribute o m apos) [] [] pos) X.env=(do
   let ov←eval o X.env
   standAt apos.atName
   let (f,first)←holding [ov] (getMethod ov m pl)
   callWith pos f first (backTo pos (starEach [] X.env)) (backToKw pos (keywordEach [] X.env))):=by rfl) :
  PE X (.Call (.Attribute o m apos) [] [] pos) (w3u C m sp dvs E ta w1j):=by
 intro pins s σ H Q I h
 refine PySem.W.methodCall_KW (pl:=pl) (thn (he pins s σ H _ I h) fun u s1 ⟨x,H1,I1,rx,a,dx,fs,ex,ea,l,q⟩=>?_) ht
 subst ex
 obtain rfl:u=Value.ref a:=rx
 refine z6l I1 ea c hm l ?_
 exact PySem.W.callWith_K0 (first:=[.ref a]) I1.kIn hm.kp (x9f (us:=[.ref a]) (vs:=[.ref a]) F hr hb hd hx I1 (.cons rfl .nil) q)
structure Mk (K:Frag) (C f:Addr):Prop where
 makes:PySem.W.makesIn K C=true
 init:findIn K (.ref C) "__init__" = some (some (.ref f))
 fn:PySem.W.isFn K (.ref f)=true
 kp:keepIn K (.ref C)=true
theorem j3b {pins:List (Addr × Obj)} {σ:St} {H:Hp} {s:Shared} {Q:VK} {us:List Value} {vs:List V} (M:Mk X.K C f) (F:FnOk X.prog X.w X.K X.mg X.base CX k f fd ps sp) (hr:Room (k+1) X.A) (hb:q3p X.K fd ps ds) (hd:q4l dvs ds)
  (hx:q8j CX X E) (I:Inv X pins σ H s) (r:q4l vs us)
  (h:∀ x dx,H x=none→H dx=none→dx≠x→sp (.ref x::(vs++dvs)) (upd (upd H dx (.own x)) x (.ins C dx [])) (fun v H2=>v=.non∧Q (.ref x) H2) E) :
  wpAny (model X.prog X.w) X.A (call (.ref C) us) (EP X pins σ Q) X.xe s:=by
 have hq:=h (s.heap.objs.size+1) s.heap.objs.size (I.hok.fresh (Nat.le_succ _)) (I.hok.fresh (Nat.le_refl _)) (Nat.ne_of_lt (Nat.lt_succ_self _))
 have I2:=Inv.made (C:=C) I
 have r2:q4l (V.ref (s.heap.objs.size+1)::(vs++dvs)) (Value.ref (s.heap.objs.size+1)::(us++ds)):=.cons rfl (r.append hd)
 have hl:(Value.ref (s.heap.objs.size+1)::us++ds).length=ps.length:=by
  have e:=r2.length
  rw [F.len _ _ _ _ hq] at e
  exact e.symm
 refine wpAny_call (j4a (f:=f) I.kIn M.makes M.init (beq_iff_eq.mp M.fn) (codeAny_mono (F.run _ X.stack _ _ ⟨Value.ref (s.heap.objs.size+1)::us,[]⟩ (Value.ref (s.heap.objs.size+1)::(us++ds)) _ _ E (hr.make C us [])
  (I2.env0.make C us []) (hb _ (Value.ref (s.heap.objs.size+1)::us) I2.kIn hl) r2 hq) fun r s' hq'=>?_))
 cases r with
 | error e=>exact hx pins σ _ _ e s' I2 hq'
 | ok fl =>
  cases fl with
  | ret u =>
   obtain⟨v,H',I3,rv,ev,q3⟩:=I2.after hq'
   subst ev
   exact⟨rv,⟨V.ref (s.heap.objs.size+1),H',I3,rfl,q3⟩⟩
  | next=>exact False.elim hq'
  | brk=>exact False.elim hq'
  | cont=>exact False.elim hq'
theorem j7o (M:Mk X.K C f) (F:FnOk X.prog X.w X.K X.mg X.base CX k f fd ps sp) (hr:Room (k+1) X.A) (hg:Gl X x) (hm:X.mg x=some (.ref C)) (hb:q3p X.K fd ps ds) (hd:q4l dvs ds) (hx:q8j CX X E)
  (ha:PA X (e::es) t) (hdb:(x==("__debug__" : Str))=false:=by decide) (he:starEach (e::es) X.env=(false,eval e X.env)::starEach es X.env:=by rfl) (hpl:(backTo pos (starEach es X.env)).any (·.1)=false:=by rfl) :
  PE X (.Call (.Name x p) (e::es) [] pos) (w3q C sp dvs E t):=by
 intro pins s σ H Q I h
 refine wpAny_Call_Name_kw (x2y I hg hm ?_ hdb)
 refine PySem.W.callWith_K (h₀:=X.base) I.ok.mod.kin M.kp (thn (ha pos pins s σ H _ I h) fun us s1 ⟨vs,H1,I1,r,q⟩=>⟨I1.kIn,?_⟩) he hpl
 exact j3b M F hr hb hd hx I1 r q
end
section
variable {X:Cx} {CX:CXT} {k:Nat} {f C:Addr} {fd:FuncData} {ps ks:List Str} {sp:Sp} {E:XK} {x m:Str} {p pos apos kpos:Pos} {e o:Expr} {es:List Expr} {kws:List Keyword} {te ta:TE} {t tk:TA} {nm:Option Str}
variable {g:List Value→List Value→List Value} {gV:List V→List V→List V}
end
structure FnScope (N P:List Str) (sc:Scope):Prop where
 kind:sc.kind=.function
 co:sc.isCoroutine=false
 gen:sc.isGenerator=false
 nd:N.Nodup
 pre:N.take P.length=P
 par:∀ x∈P,sc.names.lookup x=some .local∨sc.names.lookup x=some .cell
 nofree:∀ y∈sc.names,y.2≠.free
theorem fSc {N P:List Str} {sc:Scope} (h1:sc.kind=.function:=by rfl) (h2:sc.isCoroutine=false:=by rfl) (h3:sc.isGenerator=false:=by rfl) (h4:N.Nodup:=by decide +kernel) (h5:N.take P.length=P:=by rfl) (h6:∀ x∈P,sc.names.lookup x=some .local∨sc.names.lookup x=some .cell:=by decide +kernel) (h7:∀ y∈sc.names,y.2≠.free:=by decide +kernel):FnScope N P sc:=⟨h1,h2,h3,h4,h5,h6,h7⟩
theorem z0b {kindOf:Str→Option NameKind} {x:Str}:∀ {binds:List (Str × Value)} {m:Str→Option Value},(∀ v,(x,v)∉binds)→bindL kindOf binds m x=m x
 | [],_,_=>rfl
 | (n,v)::r,m,h=>by
  unfold bindL
  rw [z0b fun w hw=>h w (List.mem_cons_of_mem _ hw)]
  split
  ·have:x≠n:=by rintro rfl; exact h v List.mem_cons_self
   simp [this]
  ·rfl
theorem x9c {kindOf:Str→Option NameKind} {x:Str}:∀ {binds:List (Str × Value)} {m:Str→Option Value},(∀ v,(x,v)∉binds)→bindC kindOf binds m x=m x
 | [],_,_=>rfl
 | (n,v)::r,m,h=>by
  unfold bindC
  rw [x9c fun w hw=>h w (List.mem_cons_of_mem _ hw)]
  split
  ·rfl
  ·have:x≠n:=by rintro rfl; exact h v List.mem_cons_self
   simp [this]
theorem x8l {kindOf:Str→Option NameKind} {x:Str} {v:Value}:∀ {P:List Str} {vs:List Value} {i:Nat} {m:Str→Option Value},P.Nodup→P[i]? = some x→vs[i]? = some v→kindOf x=some .local →
  bindL kindOf (P.zip vs) m x=some v
 | [],_,_,_,_,h,_,_=>by simp at h
 | _::_,[],_,_,_,_,h,_=>by simp at h
 | p::P,w::vs,0,m,nd,h1,h2,hk=>by
  simp at h1 h2; subst h1; subst h2
  show bindL kindOf ((p,w)::P.zip vs) m p=_
  unfold bindL
  rw [z0b fun v hv=>(List.nodup_cons.mp nd).1 (List.of_mem_zip hv).1,if_pos hk]
  simp
 | p::P,w::vs,i+1,m,nd,h1,h2,hk=>by
  show bindL kindOf ((p,w)::P.zip vs) m x=_
  unfold bindL
  exact x8l (i:=i) (List.nodup_cons.mp nd).2 (by simpa using h1) (by simpa using h2) hk
theorem x8g {kindOf:Str→Option NameKind} {x:Str} {v:Value}:∀ {P:List Str} {vs:List Value} {i:Nat} {m:Str→Option Value},P.Nodup→P[i]? = some x→vs[i]? = some v→kindOf x≠some .local →
  bindC kindOf (P.zip vs) m x=some v
 | [],_,_,_,_,h,_,_=>by simp at h
 | _::_,[],_,_,_,_,h,_=>by simp at h
 | p::P,w::vs,0,m,nd,h1,h2,hk=>by
  simp at h1 h2; subst h1; subst h2
  show bindC kindOf ((p,w)::P.zip vs) m p=_
  unfold bindC
  rw [x9c fun v hv=>(List.nodup_cons.mp nd).1 (List.of_mem_zip hv).1,if_neg hk]
  simp
 | p::P,w::vs,i+1,m,nd,h1,h2,hk=>by
  show bindC kindOf ((p,w)::P.zip vs) m x=_
  unfold bindC
  exact x8g (i:=i) (List.nodup_cons.mp nd).2 (by simpa using h1) (by simpa using h2) hk
noncomputable def x8b (N:List Str) (vs:List V):St:=vs.map some++List.replicate (N.length - vs.length) none
noncomputable def z5u (CX:CXT) (P:Program) (w:World) (K:Frag) (mg:Str→Option Value) (base:Heap) (N:List Str) (qual:Str) (scope:Scope) (f:Addr) (cd:Value) (A:Around) (outer:List Env) (s:Shared) (H:Hp) (E:XK):Cx where
 prog:=P
 w:=w
 K:=K
 mg:=mg
 base:=base
 A:=A.deeper (envOfC qual scope s.heap.objs.size f cd)
 N:=N
 s₀:=s
 H₀:=H
 env:=envOfC qual scope s.heap.objs.size f cd
 outer:=outer
 stack:=envOfC qual scope s.heap.objs.size f cd::outer
 ex:=[]
 calm:=true
 fn:=fun _=>true
 pn:=[]
 xe:=fun e s'=>wpAny (model P w) (A.deeper (envOfC qual scope s.heap.objs.size f cd)) (leaving (envOfC qual scope s.heap.objs.size f cd) e) (fun _ s''=>CX outer H s E e s'') (fun e' s''=>CX outer H s E e' s'') s'
theorem z3e {sc:Scope} {n:Nat} {x:Str} (h:sc.names.lookup x=some .cell):∃ c,(cellsFrom n sc.names []).lookup x=some c:=by
 have q:=PySem.W.cellsFrom_some sc.names n [] (.inl h)
 exact Option.isSome_iff_exists.mp q
theorem j0b {CX:CXT} {P:Program} {w:World} {K:Frag} {mg:Str→Option Value} {base:Heap} {N ps:List Str} {qual:Str} {scope:Scope} {f:Addr} {cd:Value} {A:Around} {outer:List Env} {s s1:Shared} {H:Hp} {E:XK} {us:List Value} {vs:List V}
  (S:FnScope N ps scope) (hd:A.handled=none) (e0:Env0 P w K mg base A outer s H) (hl:vs.length=ps.length) (r:q4l vs us)
  (x:InCallC s s.heap.objs.size (bindL (envOfC qual scope s.heap.objs.size f cd).kindOf (ps.zip us) fun _=>none) (cellsFrom (s.heap.objs.size+1) scope.names []) (bindC (envOfC qual scope s.heap.objs.size f cd).kindOf (ps.zip us) fun _=>none) s1) :
  Inv (z5u CX P w K mg base N qual scope f cd A outer s H E) [] (x8b N vs) H s1:=by
 have hpl:ps.length≤N.length:=by have:=congrArg List.length S.pre; rw [List.length_take] at this; omega
 obtain⟨h1,tk,rfl,hk⟩:=x.done
 have noA:∀ b:Addr,b∉(z5u CX P w K mg base N qual scope f cd A outer s H E).ex:=fun b z=>absurd (show b∈([]:List Addr) from z) (by simp)
 refine⟨⟨e0.mod,S.kind,rfl,rfl,Nat.le_refl _,fun y z c h1 h2=>?_,fun y hy=>?_,fun y c _ h=>?_,fun _=>hd,Around.frames_deeper e0.frames,.inr ⟨rfl,rfl⟩,fun b z=>absurd z (noA b),e0.bs,e0.bsz,fun b _ _=>noA b,fun b z=>absurd z (noA b),e0.funs,e0.frf⟩,
  rfl,e0.bare,Un.kept hk,⟨_,x.toInCall.ns,fun i y v h1 h2 h3=>?_⟩,fun y c h=>⟨_,x.cell y c h⟩,e0.hok.fresh (Nat.le_refl _),fun y c h=>?_,fun p hp=>absurd (show p∈([]:List (Addr × Obj)) from hp) (by simp),e0.hok.kept hk,?_⟩
 ·exact name_of_addr x.apart (PySem.mem_of_lookup h1) (PySem.mem_of_lookup h2)
 ·have hy:scope.names.lookup y=some .cell∨scope.names.lookup y=some .free:=hy
  rcases hy with hy | hy
  ·exact z3e hy
  ·exact absurd rfl (S.nofree _ (PySem.mem_of_lookup hy))
 ·exact Nat.le_of_lt (x.above y c (PySem.mem_of_lookup h))
 ·have hi:i < vs.length:=by
   unfold x8b at h2
   by_cases hi:i < vs.length
   ·exact hi
   ·rw [List.getElem?_append_right (by simpa using hi)] at h2
    rw [List.getElem?_replicate] at h2
    split at h2 <;> cases h2
  have ha:vs[i]? = some v:=by
   unfold x8b at h2
   rw [List.getElem?_append_left (by simpa using hi),List.getElem?_map] at h2
   cases e:vs[i]? with
   | none=>rw [e] at h2; cases h2
   | some a=>rw [e] at h2; cases h2; rfl
  obtain⟨u,hu,rv⟩:=r.get ha
  have hp:ps[i]? = some y:=by
   rw [← S.pre,List.getElem?_take_of_lt (by omega)]; exact h1
  have ndP:ps.Nodup:=by rw [← S.pre]; exact S.nd.sublist (List.take_sublist _ _)
  refine⟨u,rv,?_⟩
  rcases S.par y (List.mem_of_getElem? hp) with k | k
  ·exact .inl ⟨k,x8l ndP hp hu k⟩
  ·obtain⟨c,e⟩:=z3e (n:=s.heap.objs.size+1) k
   refine .inr ⟨.inl k,c,e,?_⟩
   have q:=x.cell y c e
   rw [x8g ndP hp hu (by show scope.names.lookup y≠_; rw [k]; decide)] at q
   exact q
 ·exact e0.hok.fresh (Nat.le_of_lt (x.above y c (PySem.mem_of_lookup h)))
 ·unfold x8b
  show _=N.length
  rw [List.length_append,List.length_map,List.length_replicate]
  omega
theorem w1u {CX:CXT} {P:Program} {w:World} {K:Frag} {mg:Str→Option Value} {base:Heap} {k:Nat} {f:Addr} {name qual:Str} {params:Arguments} {body:List Stmt} {scope:Scope} {dV kV doc pm cdv ct oc:Value} {an od:Option Addr}
  {osl:Array (Option Value)} {N ps:List Str} {sp:Sp} (lk:K.lookup f=some ⟨oc,od,.func (fnOf name qual params body scope dV kV doc pm an cdv ct),osl⟩) (hcd:PySem.W.codeIn K cdv qual=true) (S:FnScope N ps scope)
  (len:∀ vs H Q E,sp vs H Q E→vs.length=ps.length)
  (hbody:∀ (A:Around) (outer:List Env) (s:Shared) (H:Hp) (vs:List V) (Q:VK) (E:XK),Room k (A.deeper (envOfC qual scope s.heap.objs.size f cdv))→sp vs H Q E →
   ∃ t,PSs (z5u CX P w K mg base N qual scope f cdv A outer s H E) body t∧t { nx:=fun _ H'=>Q .non H',rt:=Q } (x8b N vs) H) :
  FnOk P w K mg base CX (k+1) f (fnOf name qual params body scope dV kV doc pm an cdv ct) ps sp:=by
 refine⟨len,fun A outer s H args us vs Q E hr e0 hb r hsp=>?_⟩
 have hl:=len _ _ _ _ hsp
 have KX:K.In s.heap:=e0.mod.kin.keeps fun b o e=>(e0.bs b o e).1
 have lim:s.heap.NoLimit:=e0.mod.nolimit.keeps fun b o e=>(e0.bs b o e).1
 have hkind:∀ y∈ps.zip us,scope.names.lookup y.1=some .local∨(scope.names.lookup y.1=some .cell∧((cellsFrom (s.heap.objs.size+1) scope.names []).lookup y.1).isSome=true):=fun⟨n,v⟩ hy=>by
  rcases S.par n (List.of_mem_zip hy).1 with q | q
  ·exact .inl q
  ·exact .inr ⟨q,PySem.W.cellsFrom_some _ _ _ (.inl q)⟩
 refine codeAny_call_function hr.depth (KX _ _ lk) rfl S.co S.gen rfl (PySem.W.codeRec_of KX hcd) (hb _ _ _ _ ?_)
 refine wpAny_newFunctionEnv_cells S.kind hkind fun env he s1 x=>?_
 subst he
 refine⟨lim.keeps x.toInCall.keep,codeAny_func ?_⟩
 obtain⟨t,ht,hq⟩:=hbody A outer s H vs Q E (hr.deeper _) hsp
 have I:Inv (z5u CX P w K mg base N qual scope f cdv A outer s H E) [] (x8b N vs) H s1:=j0b S hr.hd e0 hl r x
 refine wpAny_mono (ht [] s1 (x8b N vs) H _ I hq) (fun fl s' hs=>?_) fun e s' hs=>hs
 have fin:∀ {σ':St} {H':Hp} {v:V} {u:Value},Inv (z5u CX P w K mg base N qual scope f cdv A outer s H E) [] σ' H' s'→q5e v u→Q v H'→CE outer P w H s Q u s' :=
  fun {σ' H' v u} J rv q=>⟨v,H',J.os,J.bare,J.base,J.hok,rv,q⟩
 cases fl with
 | ret u =>
  obtain⟨v,σ',H',J,rv,q⟩:=hs
  exact fin J rv q
 | next =>
  obtain⟨σ',H',J,q⟩:=hs
  exact fin (v:=V.non) (u:=Value.none) J rfl q
 | brk =>
  obtain⟨_,_,_,q⟩:=hs
  exact False.elim q
 | cont =>
  obtain⟨_,_,_,q⟩:=hs
  exact False.elim q
section
variable {X:Cx} {x:Str} {p pos:Pos} {e:Expr} {es:List Expr} {t:TA} {id T:String} {r:List V→Hp→VK→Prop}
noncomputable def tCB (r:List V→Hp→VK→Prop) (t:TA):TE:=fun σ H Q=>t σ H fun vs H1=>r vs H1 Q
theorem q0q (hc:x4v X (.builtin id) r) (hg:Gl X x) (hm:X.mg x=none) (hv:bootBuiltins x=some (.builtin id)) (ha:PA X (e::es) t) (hn:x ≠ "__name__" := by decide) (hdb:(x==("__debug__" : Str))=false:=by decide)
  (he:starEach (e::es) X.env=(false,eval e X.env)::starEach es X.env:=by rfl) (hpl:(backTo pos (starEach es X.env)).any (·.1)=false:=by rfl):PE X (.Call (.Name x p) (e::es) [] pos) (tCB r t):=by
 intro pins s σ H Q I h
 refine wpAny_Call_Name_kw (x4h I hg hm hv ?_ hn hdb)
 exact PyProof.Rows.callWith_builtin1 (thn (ha pos pins s σ H _ I h) fun us s1 ⟨vs,H1,I1,r1,q1⟩=>hc pins s1 σ H1 vs us Q I1 r1 q1) he hpl
theorem q4f (hc:x4v X (.type T) r) (hg:Gl X x) (hm:X.mg x=none) (hv:bootBuiltins x=some (.type T)) (ha:PA X (e::es) t) (hn:x ≠ "__name__" := by decide) (hdb:(x==("__debug__" : Str))=false:=by decide)
  (he:starEach (e::es) X.env=(false,eval e X.env)::starEach es X.env:=by rfl) (hpl:(backTo pos (starEach es X.env)).any (·.1)=false:=by rfl):PE X (.Call (.Name x p) (e::es) [] pos) (tCB r t):=by
 intro pins s σ H Q I h
 refine wpAny_Call_Name_kw (x4h I hg hm hv ?_ hn hdb)
 exact PyProof.Rows.callWith_type1 (thn (ha pos pins s σ H _ I h) fun us s1 ⟨vs,H1,I1,r1,q1⟩=>hc pins s1 σ H1 vs us Q I1 r1 q1) he hpl
end
end L2
namespace HT
open PySem PyProof.Rows
section
open PySem.SeqAt
open PySem.AutoSeq1 (wpAny_loadPart')
open PySem.MeetsSeq PySem.MeetsSeq2 PySem.MeetsSeq3
end
section
variable {prog:Program} {w:World} {A:Around} {E:Value→Shared→Prop} {s:Shared}
theorem cat_tup {t b:Addr} {vs ws:List Value} {Q:Value→Shared→Prop} (ht:IsTup s.heap t vs.toArray) (hb:IsTup s.heap b ws.toArray) (hv:vs≠[])
  (h1:ws=[]→Q (.ref t) s) (h2:ws≠[]→Q (.ref s.heap.objs.size) { s with heap:=s.heap.push { cls:=.type "tuple",data:=.seq (vs++ws).toArray } })
  (hsz:vs.length+ws.length≤sizeLine):wpAny (model prog w) A (binaryOp .Add (.ref t) (.ref b)) Q E s:=by
 obtain⟨⟨cls,dd,data,sl⟩,ho,hc,n,hd⟩:=id ht
 obtain⟨⟨cls2,dd2,data2,sl2⟩,ho2,hc2,n2,hd2⟩:=id hb
 simp only at hc hd hc2 hd2
 subst hc hd hc2 hd2
 have e:vs.toArray++ws.toArray=(vs++ws).toArray:=by simp
 by_cases hw:ws=[]
 ·exact concat_meets ⟨_,ho,rfl⟩ ⟨_,ho2,rfl⟩ noFill_tuple_add seq_tuple_add PySem.F.slot_tuple_add PySem.F.entry_tuple_add (PySem.F.args_tuple_add_2 _ _)
   (tuple_addW1 t b vs.toArray ws.toArray n n2 dd dd2 sl sl2 (by simpa using hv) (by simp [hw])) ⟨ho,ho2,h1 hw⟩
 ·refine concat_meets ⟨_,ho,rfl⟩ ⟨_,ho2,rfl⟩ noFill_tuple_add seq_tuple_add PySem.F.slot_tuple_add PySem.F.entry_tuple_add (PySem.F.args_tuple_add_2 _ _)
   (tuple_addW2 t b vs.toArray ws.toArray n n2 dd dd2 sl sl2 (by simpa using hv) (by simpa using hw) (by rw [List.size_toArray,List.size_toArray]; exact hsz)) ⟨ho,ho2,?_⟩
  rw [e]
  exact h2 hw
noncomputable def sIx (n d:Nat):Option Int→Nat
 | none=>d
 | some v=>if v < 0 then (v+(n:Int)).toNat else min v.toNat n
theorem sIx_none (n d:Nat):sIx n d none=d:=rfl
theorem sIx_nat (n d k:Nat):sIx n d (some (k:Int))=min k n:=by
 show (if (k:Int) < 0 then ((k:Int)+(n:Int)).toNat else min (k:Int).toNat n)=min k n
 rw [if_neg (by omega),Int.toNat_natCast]
theorem w0i (n d:Nat) (hd:d≤n) (o:Option Int):sIx n d o≤n:=by
 cases o with
 | none=>exact hd
 | some v =>
  show (if v < 0 then (v+(n:Int)).toNat else min v.toNat n)≤n
  by_cases hv:v < 0
  ·rw [if_pos hv]; omega
  ·rw [if_neg hv]; exact Nat.min_le_right _ _
theorem j0a (v:Int) (n d:Nat):(if v < 0 then max (v+(n:Int)) 0 else min v (n:Int))=((sIx n d (some v):Nat):Int):=by
 show (if v < 0 then max (v+(n:Int)) 0 else min v (n:Int))=(((if v < 0 then (v+(n:Int)).toNat else min v.toNat n):Nat):Int)
 by_cases hv:v < 0
 ·simp only [if_pos hv]; omega
 ·simp only [if_neg hv]; omega
theorem z5c (lo hi:Option Int) (n:Nat):Builtin.Slice.sliceAdjust lo hi 1 (n:Int)=(((sIx n 0 lo:Nat):Int),((sIx n n hi:Nat):Int)):=by
 have h1:¬ ((1:Int) < 0):=by omega
 unfold Builtin.Slice.sliceAdjust
 simp only [h1,if_false]
 refine Prod.ext ?_ ?_
 ·cases lo with
  | none=>rfl
  | some v=>exact j0a v n 0
 ·cases hi with
  | none=>rfl
  | some v=>exact j0a v n n
theorem z5r (i j:Nat):Builtin.Slice.slicePlaces (i:Int) (j:Int) 1=j - i:=by
 unfold Builtin.Slice.slicePlaces
 have h1:(1:Int) > 0:=by omega
 simp only [h1,if_true,Int.ediv_one]
 split <;> omega
theorem x6c {v:Value} {o:Option Int} {Q:Option Int→Shared→Prop} (p:IsPart v o) (h:Q o s):wpAny (model prog w) A (Builtin.Slice.slicePartIndex v) Q E s:=by
 cases p with
 | none=>exact slicePart_none h
 | int i t=>exact slicePart_int h
theorem q8k {sl:Addr} {vl vu:Value} {lo hi:Option Int} {n:Nat} {Q:Int × Int × Nat→Shared→Prop} (hs:s.heap.IsSliceOf sl vl vu .none) (pl:IsPart vl lo) (pu:IsPart vu hi)
  (h:Q (((sIx n 0 lo:Nat):Int),1,sIx n n hi - sIx n 0 lo) s):wpAny (model prog w) A (Builtin.Slice.sliceApplied (.ref sl) (pure (n:Int))) Q E s:=by
 obtain⟨os,hos,hcs,hds⟩:=id hs
 unfold Builtin.Slice.sliceApplied Builtin.Slice.sliceFields
 refine wpAny_bind (wpAny_bind (wpAny_field hos hds (x:=vl) rfl (wpAny_bind (wpAny_field hos hds (x:=vu) rfl (wpAny_bind (wpAny_field hos hds (x:=.none) rfl (wpAny_pure ?_)))))))
 refine wpAny_bind (slicePart_none ?_)
 show wpAny _ _ (if ((1:Int)==0)=true then _ else _) _ _ s
 rw [if_neg (by decide)]
 refine wpAny_bind (x6c pl (wpAny_bind (x6c pu (wpAny_bind (wpAny_pure ?_)))))
 show wpAny _ _ (match Builtin.Slice.sliceAdjust lo hi 1 (n:Int) with | (lo,hi)=>pure (lo,(1:Int),Builtin.Slice.slicePlaces lo hi 1)) _ _ s
 rw [z5c lo hi n]
 show wpAny _ _ (pure (((sIx n 0 lo:Nat):Int),(1:Int),Builtin.Slice.slicePlaces ((sIx n 0 lo:Nat):Int) ((sIx n n hi:Nat):Int) 1)) _ _ s
 rw [z5r]
 exact wpAny_pure h
theorem j2r (xs:Array Value) (i k:Nat):((List.range k).filterMap fun (m:Nat)=>xs[((i:Int)+(m:Int)*1).toNat]?).toArray=((xs.toList.drop i).take k).toArray:=by
 have e:(fun (m:Nat)=>xs[((i:Int)+(m:Int)*1).toNat]?)=fun m=>xs[i+m]? := by
  funext m
  have:((i:Int)+(m:Int)*1).toNat=i+m:=by omega
  rw [this]
 rw [e]
 have:=pick_run xs i k
 rw [List.filterMap_map] at this
 have e2:((fun x=>xs[x]?) ∘ fun x=>i+x)=fun m=>xs[i+m]? := rfl
 rw [e2] at this
 rw [this]
theorem getItem_tuple_cut {t sl:Addr} {items:Array Value} {vl vu:Value} {lo hi:Option Int} {Q:Value→Shared→Prop} (ht:IsTup s.heap t items) (hs:s.heap.IsSliceOf sl vl vu .none) (pl:IsPart vl lo) (pu:IsPart vu hi)
  (hw:¬ (sIx items.size 0 lo=0∧sIx items.size items.size hi=items.size))
  (h:Q (.ref s.heap.objs.size) { s with heap:=s.heap.push { cls:=.type "tuple",data:=.seq ((items.toList.drop (sIx items.size 0 lo)).take (sIx items.size items.size hi - sIx items.size 0 lo)).toArray } })
  (hsz:items.size≤sizeLine):wpAny (model prog w) A (getItem (.ref t) (.ref sl)) Q E s:=by
 have htake:sizeOk (.seq ((items.toList.drop (sIx items.size 0 lo)).take (sIx items.size items.size hi - sIx items.size 0 lo)).toArray):=by
  show ((items.toList.drop (sIx items.size 0 lo)).take (sIx items.size items.size hi - sIx items.size 0 lo)).toArray.size≤sizeLine
  rw [List.size_toArray,List.length_take,List.length_drop,Array.length_toList]
  omega
 have hj:sIx items.size items.size hi≤items.size:=w0i _ _ (Nat.le_refl _) hi
 obtain⟨os,hos,hcs,hds⟩:=id hs
 have hTs:s.TypeIs (.ref sl) "slice" := ⟨os,hos,hcs⟩
 unfold getItem
 try with_reducible refine wpAny_holding ?_
 first | refine wpAny_bind (wpAny_pure ?_) | skip
 refine wpAny_bind (wpAny_sequenceKey ht.typeIs (by decide) ?_)
 refine wpAny_bind (wpAny_callSpecial?_slot (name:=Str.ofString "__getitem__") ht.typeIs PyProof.Rows.slot_tuple_getitem
  (wpAny_call_entry PyProof.Rows.slot_tuple_getitem ht.typeIs entry_tuple_getitem ?_ (args_tuple_getitem _ _)))
 show wpAny _ _ (Builtin.Tuple.tupleItemsOf (.ref t) >>= _) _ _ s
 refine wpAny_bind (tupleItemsOf_ ht ?_)
 refine wpAny_bind (wpAny_typeOf hTs ?_)
 rw [if_pos (by decide)]
 refine wpAny_bind (q8k hs pl pu ?_)
 have hno:¬ ((((sIx items.size 0 lo:Nat):Int)==0 && (1:Int)==1 && (sIx items.size items.size hi - sIx items.size 0 lo)==items.size)=true):=by
  intro q
  rw [Bool.and_eq_true,Bool.and_eq_true] at q
  have q1:((sIx items.size 0 lo:Nat):Int)=0:=eq_of_beq q.1.1
  have q2:sIx items.size items.size hi - sIx items.size 0 lo=items.size:=eq_of_beq q.2
  exact hw ⟨by omega,by omega⟩
 show wpAny _ _ (if (((sIx items.size 0 lo:Nat):Int)==0 && (1:Int)==1 && (sIx items.size items.size hi - sIx items.size 0 lo)==items.size)=true then _ else _) _ _ s
 rw [if_neg hno,j2r]
 first
  | exact wpAny_bind (m:=Builtin.Tuple.tupleExact _) (wpAny_newObj_type (wpAny_pure ⟨_,rfl,wpAny_pure h⟩) htake)
  | exact wpAny_bind (m:=Builtin.Tuple.tupleExact _) (wpAny_newObj_type (wpAny_bind (wpAny_pure (wpAny_pure ⟨_,rfl,wpAny_pure h⟩))) htake)
  | exact wpAny_bind (wpAny_bind (m:=Builtin.Tuple.tupleExact _) (wpAny_newObj_type (wpAny_pure (wpAny_pure ⟨_,rfl,wpAny_pure h⟩)) htake))
  | exact wpAny_bind (wpAny_bind (m:=Builtin.Tuple.tupleExact _) (wpAny_newObj_type (wpAny_pure ⟨_,rfl,wpAny_pure h⟩) htake))
end
end HT
namespace L2
open PySem PySem.Spec PyProof.Rows
noncomputable abbrev TO:=St→Hp→(Option Int→Hp→Prop)→Prop
noncomputable def PO (X:Cx) (e:Option Expr) (t:TO):Prop :=
 ∀ (pins:List (Addr × Obj)) (s:Shared) (σ:St) (H:Hp) (Q:Option Int→Hp→Prop),Inv X pins σ H s→t σ H Q →
  wpAny (model X.prog X.w) X.A (evalPart e X.env) (fun u s'=>∃ o H',Inv X pins σ H' s'∧IsPart u o∧Q o H') X.xe s
noncomputable def j9b:TO:=fun _ H Q=>Q none H
noncomputable def w2s (t:TE):TO:=fun σ H Q=>t σ H fun x H1=>∃ i,x=.int i∧Q (some i) H1
section
variable {X:Cx} {e:Expr} {te:TE} {lo hi:Option Expr} {tl th:TO} {pos p2:Pos}
theorem q3m:PO X none j9b:=by
 intro pins s σ H Q I h
 rw [evalPart_none]
 exact wpAny_pure ⟨none,H,I,.none,h⟩
theorem q3e (h:PE X e te):PO X (some e) (w2s te):=by
 intro pins s σ H Q I hw
 rw [evalPart_some]
 refine thn (h pins s σ H _ I hw) fun u s1 ⟨x,H1,I1,r1,q1⟩=>?_
 obtain⟨i,rfl,q⟩:=q1
 obtain⟨t,rfl⟩:=r1
 exact⟨some i,H1,I1,.int i t,q⟩
noncomputable def SlR (X:Cx) (r:V→Option Int→Option Int→Hp→VK→Prop):Prop :=
 ∀ (pins:List (Addr × Obj)) (s:Shared) (σ:St) (H:Hp) (x:V) (v vl vu:Value) (lo hi:Option Int) (sl:Addr) (Q:VK),Inv X pins σ H s→q5e x v→s.heap.IsSliceOf sl vl vu .none→IsPart vl lo→IsPart vu hi→r x lo hi H Q →
  ∃ T id,typeLookup (.type T) "__getitem__" = pure (some (.builtin id))∧s.TypeIs v T∧wpAny (model X.prog X.w) X.A (getItem v (.ref sl)) (EP X pins σ Q) X.xe s
noncomputable def tSl (r:V→Option Int→Option Int→Hp→VK→Prop) (te:TE) (tl th:TO):TE:=fun σ H Q=>te σ H fun x H1=>tl σ H1 fun l H2=>th σ H2 fun u H3=>r x l u H3 Q
theorem q2r {r:V→Option Int→Option Int→Hp→VK→Prop} (hr:SlR X r) (he:PE X e te) (hl:PO X lo tl) (hu:PO X hi th):PE X (.Subscript e (.Slice lo hi none p2) pos) (tSl r te tl th):=by
 intro pins s σ H Q I h
 refine Subscript_ (thn (he pins s σ H _ I h) fun v s1 ⟨x,H1,I1,r1,q1⟩=>?_)
 refine wpAny_Slice (thn (hl pins s1 σ H1 _ I1 q1) fun vl s2 ⟨l,H2,I2,pl,q2⟩=>thn (hu pins s2 σ H2 _ I2 q2) fun vu s3 ⟨u,H3,I3,pu,q3⟩=>?_)
 rw [evalPart_none]
 refine wpAny_pure ?_
 have I4:Inv X pins σ H3 { s3 with heap:=s3.heap.push { cls:=.type "slice",data:=.fields #[vl,vu,.none] } }:=I3.kept (t':=s3.toks) fun b ob q=>Heap.get?_push_of_some _ q
 obtain⟨T,id,hT,ht,hg⟩:=hr pins { s3 with heap:=s3.heap.push { cls:=.type "slice",data:=.fields #[vl,vu,.none] } } σ H3 x v vl vu l u s3.heap.objs.size Q I4 r1 (Heap.IsSliceOf.new ..) pl pu q3
 show wpAny (model X.prog X.w) X.A (subscriptTail e (.Slice lo hi none p2) v (.ref s3.heap.objs.size)) (EP X pins σ Q) X.xe { s3 with heap:=s3.heap.push { cls:=.type "slice",data:=.fields #[vl,vu,.none] } }
 exact tail_any (ops:=[.ref s3.heap.objs.size,v]) ht hT hg (by with_unfolding_all rfl)
noncomputable def x3n (xs:List V) (lo hi:Option Int):List V:=(xs.drop (HT.sIx xs.length 0 lo)).take (HT.sIx xs.length xs.length hi - HT.sIx xs.length 0 lo)
theorem x4a (xs:List V) (lo hi:Option Int):(x3n xs lo hi).length≤xs.length:=by
 unfold x3n
 rw [List.length_take,List.length_drop]
 omega
noncomputable def w5w (K:Frag):V→Option Int→Option Int→Hp→VK→Prop:=fun x lo hi H Q=>∃ a xs,x=.ref a∧SqT K H a xs ∧
 ¬ (HT.sIx xs.length 0 lo=0∧HT.sIx xs.length xs.length hi=xs.length)∧∀ p,H p=none→Q (.ref p) (upd H p (.tup (x3n xs lo hi)))
theorem z7t:SlR X (w5w X.K):=by
 intro pins s σ H x v vl vu lo hi sl Q I rx hs pl pu h
 obtain⟨a,xs,rfl,hx,hw,q⟩:=h
 cases rx
 obtain⟨its,r,ht,hz⟩:=I.tuple hx
 have hlen:its.toArray.size=xs.length:=by rw [List.size_toArray]; exact r.length.symm
 refine⟨"tuple",_,PyProof.Rows.slot_tuple_getitem.lookup,ht.typeIs,?_⟩
 refine HT.getItem_tuple_cut ht hs pl pu (by rw [hlen]; exact hw) ?_ (by rw [hlen]; exact hz)
 rw [hlen]
 refine⟨.ref s.heap.objs.size,_,I.laid (t':=s.toks) (o:=.tup (x3n xs lo hi)) (fun b ob q=>Heap.get?_push_of_some _ q) (Nat.le_refl _) ?_,rfl,q _ (I.hok.fresh (Nat.le_refl _))⟩
 exact⟨Nat.le_trans (x4a xs lo hi) hz,_,(r.drop (HT.sIx xs.length 0 lo)).take (HT.sIx xs.length xs.length hi - HT.sIx xs.length 0 lo),IsTup.new _ _⟩
noncomputable def w3p (K:Frag):R2:=fun x y H Q=>∃ a b xs ys,x=.ref a∧y=.ref b∧SqT K H a xs∧SqT K H b ys∧xs≠[]∧xs.length+ys.length≤sizeLine ∧
 (ys=[]→Q (.ref a) H)∧(ys≠[]→∀ p,H p=none→Q (.ref p) (upd H p (.tup (xs++ys))))
theorem q4l.nil_iff {xs:List V} {us:List Value} (r:q4l xs us):us=[]↔xs=[]:=by
 cases r with
 | nil=>simp
 | cons _ _=>simp
theorem j7u:OpR X (binaryOp .Add) (w3p X.K):=by
 intro pins s σ H x y v u Q I rx ry h
 obtain⟨a,b,xs,ys,rfl,rfl,ha,hb,hx,hz,q1,q2⟩:=h
 cases rx
 cases ry
 obtain⟨its,r1,p1,_⟩:=I.tuple ha
 obtain⟨its2,r2,p2,_⟩:=I.tuple hb
 refine HT.cat_tup p1 p2 (fun z=>hx (r1.nil_iff.mp z)) (fun z=>⟨.ref a,H,I,rfl,q1 (r2.nil_iff.mp z)⟩) (fun z=>?_) (by rw [← r1.length,← r2.length]; exact hz)
 refine⟨.ref s.heap.objs.size,_,I.laid (t':=s.toks) (o:=.tup (xs++ys)) (fun b ob q=>Heap.get?_push_of_some _ q) (Nat.le_refl _) ?_,rfl,q2 (fun w=>z (r2.nil_iff.mpr w)) _ (I.hok.fresh (Nat.le_refl _))⟩
 exact⟨by rw [List.length_append]; exact hz,_,r1.append r2,IsTup.new _ _⟩
end
noncomputable def ixN (n:Nat) (i:Int):Option Nat:=if 0≤i then (if i < n then some i.toNat else none) else if -(n:Int)≤i then some (i+n).toNat else none
noncomputable def atI {α:Type} (xs:List α) (i:Int):Option α:=(ixN xs.length i).bind fun j=>xs[j]?
theorem j6t {n:Nat} {i:Int} {j:Nat} (h:ixN n i=some j):seqIndex? i n=some j∧j < n ∧ -(n:Int)≤i∧i < n:=by
 unfold ixN at h
 by_cases h0:0≤i
 ·rw [if_pos h0] at h
  by_cases h1:i < n
  ·rw [if_pos h1] at h
   have e:i.toNat=j:=Option.some.inj h
   exact⟨by rw [seqIndex_of h0 h1,e],by omega,by omega,h1⟩
  ·rw [if_neg h1] at h; cases h
 ·rw [if_neg h0] at h
  by_cases h1 : -(n:Int)≤i
  ·rw [if_pos h1] at h
   have e:(i+n).toNat=j:=Option.some.inj h
   exact⟨by rw [seqIndex_neg (by omega) h1,e],by omega,h1,by omega⟩
  ·rw [if_neg h1] at h; cases h
theorem z2e {α:Type} {xs:List α} {i:Int} {v:α} (h:atI xs i=some v):∃ j,seqIndex? i xs.length=some j∧xs[j]? = some v∧j < xs.length ∧ -(xs.length:Int)≤i∧i < xs.length:=by
 unfold atI at h
 cases e:ixN xs.length i with
 | none=>rw [e] at h; cases h
 | some j =>
  rw [e] at h
  obtain⟨h1,h2,h3,h4⟩:=j6t e
  exact⟨j,h1,h,h2,h3,h4⟩
theorem q0m {α:Type} {xs:List α} {j:Nat} {v:α} (h:xs[j]? = some v):atI xs (j:Int)=some v:=by
 have hj:j < xs.length:=(List.getElem?_eq_some_iff.mp h).1
 have e:ixN xs.length (j:Int)=some j:=by
  unfold ixN
  rw [if_pos (by omega),if_pos (by omega)]; simp
 unfold atI; rw [e]; exact h
noncomputable def x2x (b:Expr):Prop:=∀ o i,subscripted b false o i=operate [o,i] (getItem o i)
noncomputable def IxR (X:Cx) (r:R2):Prop :=
 ∀ (value slice:Expr) (pins:List (Addr × Obj)) (s:Shared) (σ:St) (H:Hp) (x y:V) (v u:Value) (Q:VK),Inv X pins σ H s→q5e x v→q5e y u→r x y H Q →
  subscripted slice false v u=operate [v,u] (getItem v u)→wpAny (model X.prog X.w) X.A (subscriptTail value slice v u) (EP X pins σ Q) X.xe s
noncomputable def MtR (X:Cx) (id:String) (r:V→List V→Hp→VK→Prop):Prop :=
 ∀ (pins:List (Addr × Obj)) (s:Shared) (σ:St) (H:Hp) (x:V) (xs:List V) (v:Value) (us:List Value) (Q:VK),Inv X pins σ H s→q5e x v→q4l xs us→r x xs H Q →
  wpAny (model X.prog X.w) X.A (call (.builtin id) (v::us)) (EP X pins σ Q) X.xe s
section
variable {X:Cx} {a b:Expr} {ta tb:TE} {pos:Pos}
theorem q0u {r:R2} (hr:IxR X r) (ha:PE X a ta) (hb:PE X b tb) (hs:x2x b):PE X (.Subscript a b pos) (tOp r ta tb):=by
 intro pins s σ H Q I h
 exact Subscript_ (w2h ha hb I h fun v u s2 x y H2 I2 rx ry q=>hr a b pins s2 σ H2 x y v u Q I2 rx ry q (hs _ _))
noncomputable def w4y (K:Frag):R2:=fun x y H Q=>∃ p xs i v,x=.ref p∧y=.int i∧SqL K H p xs∧atI xs i=some v∧Q v H
noncomputable def w4i (K:Frag):R2:=fun x y H Q=>∃ p xs i v,x=.ref p∧y=.int i∧SqT K H p xs∧atI xs i=some v∧Q v H
noncomputable def w7d:R2:=fun x y H Q=>∃ z i c,x=.str z∧y=.int i∧z.length≤sizeLine∧atI z.cps.toList i=some c∧Q (.str ⟨#[c]⟩) H
theorem q5i:IxR X (w4y X.K):=by
 intro value slice pins s σ H x y v u Q I rx ry h hs
 obtain⟨p,xs,i,z,rfl,rfl,hq,he,q⟩:=h
 cases rx
 obtain⟨t,rfl⟩:=ry
 obtain⟨its,r,pl,hz⟩:=I.list hq
 obtain⟨j,h1,h2,h3,h4,h5⟩:=z2e he
 obtain⟨w,ew,rw'⟩:=r.get h2
 have hl:=r.length
 have hn:=x9i
 have fin:EP X pins σ Q w s:=⟨z,H,I,rw',q⟩
 by_cases h0:0≤i
 ·have hj:i.toNat=j:=by
   rw [seqIndex_of h0 h5] at h1
   exact Option.some.inj h1
  exact item_listR pl.isList h0 (by omega) (by rw [hj]; simpa using ew) fin hs
 ·have hj:(i+(its.toArray.size:Int)).toNat=j:=by
   rw [seqIndex_neg (by omega) h4] at h1
   rw [List.size_toArray,← hl]
   exact Option.some.inj h1
  exact subscriptTail_builtinR (x:=w) pl.isList.typeIs slot_list_getitem.lookup
   (wpAny_getItem_list_neg (Q:=fun r s'=>r=w∧EP X pins σ Q r s') pl.isList (by omega) (by rw [List.size_toArray] <;> omega) (by omega) (by rw [hj]; simpa using ew) ⟨rfl,fin⟩) hs
theorem q0o:IxR X (w4i X.K):=by
 intro value slice pins s σ H x y v u Q I rx ry h hs
 obtain⟨p,xs,i,z,rfl,rfl,hq,he,q⟩:=h
 cases rx
 obtain⟨t,rfl⟩:=ry
 obtain⟨its,r,pl,hz⟩:=I.tuple hq
 obtain⟨j,h1,h2,h3,h4,h5⟩:=z2e he
 obtain⟨w,ew,rw'⟩:=r.get h2
 have hl:=r.length
 have hn:=x9i
 have fin:EP X pins σ Q w s:=⟨z,H,I,rw',q⟩
 exact subscriptTail_builtinR (x:=w) pl.typeIs slot_tuple_getitem.lookup
  (getItem_tuple (j:=j) (Q:=fun r s'=>r=w∧EP X pins σ Q r s') pl (by omega) (by omega) (by rw [List.size_toArray,← hl]; exact h1) (by simpa using ew) ⟨rfl,fin⟩) hs
theorem x2e:IxR X w7d:=by
 intro value slice pins s σ H x y v u Q I rx ry h hs
 obtain⟨z,i,c,rfl,rfl,hz,he,q⟩:=h
 obtain⟨t,rfl⟩:=rx
 obtain⟨t',rfl⟩:=ry
 obtain⟨j,h1,h2,h3,h4,h5⟩:=z2e he
 have hl:z.cps.toList.length=z.length:=by simp [Str.length]
 rw [hl] at h1 h4 h5
 have hn:=x9i
 exact tail_any (typeIs_str s z t) slot_str_getitem.lookup (getItem_str (c:=c) (by
  have e1:decide (i < -(2 ^ 63:Int))=false:=decide_eq_false (by omega)
  have e2:decide (i≥2 ^ 63)=false:=decide_eq_false (by omega)
  rw [e1,e2,Bool.or_false]) (by rw [h1]; simpa using h2) ⟨.str ⟨#[c]⟩,H,I.tok _,⟨_,rfl⟩,q⟩) hs
theorem x9s (lo hi:Option Int) (n:Nat):(sliceBounds lo hi none n).1=((HT.sIx n 0 lo:Nat):Int)∧(sliceBounds lo hi none n).2.1=((HT.sIx n n hi:Nat):Int)∧(sliceBounds lo hi none n).2.2=1:=by
 refine⟨?_,?_,rfl⟩
 ·cases lo with
  | none=>simp [sliceBounds,HT.sIx]
  | some i =>
   simp only [sliceBounds,HT.sIx,Option.getD_none,show (1:Int) > 0 by decide,if_true]
   by_cases h:i < 0
   ·simp only [h,if_true] <;> omega
   ·simp only [h,if_false] <;> omega
 ·cases hi with
  | none=>simp [sliceBounds,HT.sIx]
  | some i =>
   simp only [sliceBounds,HT.sIx,Option.getD_none,show (1:Int) > 0 by decide,if_true]
   by_cases h:i < 0
   ·simp only [h,if_true] <;> omega
   ·simp only [h,if_false] <;> omega
theorem x6w (its:List Value) (lo hi:Option Int):slicePick its.toArray lo hi none=((its.drop (HT.sIx its.length 0 lo)).take (HT.sIx its.length its.length hi - HT.sIx its.length 0 lo)).toArray:=by
 obtain⟨h1,h2,h3⟩:=x9s lo hi its.toArray.size
 unfold slicePick
 rw [h1,h2,h3]
 simp only [sliceRange_one,pick_run,List.size_toArray] <;> rfl
noncomputable def w5v (K:Frag):V→Option Int→Option Int→Hp→VK→Prop:=fun x lo hi H Q=>∃ a xs,x=.ref a∧SqL K H a xs∧∀ p,H p=none→Q (.ref p) (upd H p (.lst (x3n xs lo hi)))
theorem q8w:SlR X (w5v X.K):=by
 intro pins s σ H x v vl vu lo hi sl Q I rx hs pl pu h
 obtain⟨a,xs,rfl,hx,q⟩:=h
 cases rx
 obtain⟨its,r,ht,hz⟩:=I.list hx
 have hlen:=r.length
 refine⟨"list",_,slot_list_getitem.lookup,ht.isList.typeIs,?_⟩
 refine wpAny_getItem_list_slice ht.isList hs pl pu .none (by simp) ?_ (by rw [List.size_toArray] <;> omega)
 rw [x6w,← hlen]
 refine⟨.ref s.heap.objs.size,_,I.laid (t':=s.toks) (o:=.lst (x3n xs lo hi)) (fun b ob q=>Heap.get?_push_of_some _ q) (Nat.le_refl _) ?_,rfl,q _ (I.hok.fresh (Nat.le_refl _))⟩
 exact⟨Nat.le_trans (x4a xs lo hi) hz,_,0,(r.drop (HT.sIx xs.length 0 lo)).take (HT.sIx xs.length xs.length hi - HT.sIx xs.length 0 lo),Heap.get?_push_size _ rfl⟩
noncomputable def x3r:V→Bool
 | .non=>true
 | .bl _=>true
 | .int _=>true
 | .str _=>true
 | _=>false
noncomputable def eqV:V→V→Bool
 | .non,.non=>true
 | .bl a,.bl b=>a==b
 | .bl a,.int b=>(if a then 1 else 0)==b
 | .int a,.bl b=>a==(if b then 1 else 0)
 | .int a,.int b=>a==b
 | .str a,.str b=>a==b
 | _,_=>false
theorem j5o {A:Around} {s:Shared} {y x:V} {u v:Value} (ry:q5e y u) (rx:q5e x v) (fy:x3r y=true) (fx:x3r x=true):SeqAt.EqAt A s u v (eqV y x):=by
 cases y with
 | non =>
  cases ry
  cases x with
  | non=>cases rx; exact SeqAt.EqAt.same _
  | bl b=>cases rx; exact SeqAt.EqAt.none_bool b
  | int b=>obtain⟨t,rfl⟩:=rx; exact SeqAt.EqAt.none_int b t
  | str b=>obtain⟨t,rfl⟩:=rx; exact SeqAt.EqAt.none_str b t
  | _=>exact absurd (show false=true from fx) Bool.false_ne_true
 | bl a =>
  cases ry
  cases x with
  | non=>cases rx; exact SeqAt.EqAt.bool_none a
  | bl b=>cases rx; exact SeqAt.EqAt.bool_bool a b
  | int b=>obtain⟨t,rfl⟩:=rx; exact SeqAt.EqAt.bool_int a b t
  | str b=>obtain⟨t,rfl⟩:=rx; exact SeqAt.EqAt.bool_str a b t
  | _=>exact absurd (show false=true from fx) Bool.false_ne_true
 | int a =>
  obtain⟨t',rfl⟩:=ry
  cases x with
  | non=>cases rx; exact SeqAt.EqAt.int_none a t'
  | bl b=>cases rx; exact SeqAt.EqAt.int_bool a t' b
  | int b=>obtain⟨t,rfl⟩:=rx; exact SeqAt.EqAt.int_int a t' b t
  | str b=>obtain⟨t,rfl⟩:=rx; exact SeqAt.EqAt.int_str a t' b t
  | _=>exact absurd (show false=true from fx) Bool.false_ne_true
 | str a =>
  obtain⟨t',rfl⟩:=ry
  cases x with
  | non=>cases rx; exact SeqAt.EqAt.str_none a t'
  | bl b=>cases rx; exact SeqAt.EqAt.str_bool a t' b
  | int b=>obtain⟨t,rfl⟩:=rx; exact SeqAt.EqAt.str_int a t' b t
  | str b=>obtain⟨t,rfl⟩:=rx; exact SeqAt.EqAt.str_str a t' b t
  | _=>exact absurd (show false=true from fx) Bool.false_ne_true
 | _=>exact absurd (show false=true from fy) Bool.false_ne_true
noncomputable def eqU (x:V) (u:Value):Bool:=match u with
 | .none=>eqV .non x
 | .bool b=>eqV (.bl b) x
 | .int i _=>eqV (.int i) x
 | .str z _=>eqV (.str z) x
 | _=>false
theorem j5p {x y:V} {u:Value} (r:q5e y u) (f:x3r y=true):eqU x u=eqV y x:=by
 cases y with
 | non=>cases r; rfl
 | bl b=>cases r; rfl
 | int i=>obtain⟨t,rfl⟩:=r; rfl
 | str z=>obtain⟨t,rfl⟩:=r; rfl
 | _=>exact absurd (show false=true from f) Bool.false_ne_true
theorem x5e {x:V}:∀ {xs:List V} {us:List Value},q4l xs us→xs.all x3r=true→us.any (eqU x)=xs.any fun y=>eqV y x
 | _,_,.nil,_=>rfl
 | y::xs,u::us,.cons r t,f=>by
  rw [List.all_cons,Bool.and_eq_true] at f
  rw [List.any_cons,List.any_cons,j5p r f.1,x5e t f.2]
theorem x1y {A:Around} {s:Shared} {x:V} {v:Value} (rx:q5e x v) (fx:x3r x=true):∀ {xs:List V} {us:List Value},q4l xs us→xs.all x3r=true→∀ u∈us,SeqAt.EqAt A s u v (eqU x u)
 | _,_,.nil,_=>fun u hu=>by cases hu
 | y::xs,u::us,.cons r t,f=>fun u' hu=>by
  rw [List.all_cons,Bool.and_eq_true] at f
  rcases List.mem_cons.mp hu with rfl | hu
  ·rw [j5p r f.1]; exact j5o r rx f.1 fx
  ·exact x1y rx fx t f.2 u' hu
noncomputable def inV (x:V) (xs:List V):Bool:=xs.any fun y=>eqV y x
noncomputable def rIn (K:Frag) (neg:Bool):R2:=fun x y H Q=>∃ p xs,y=.ref p∧(SqL K H p xs∨SqT K H p xs)∧x3r x=true∧xs.all x3r=true∧Q (.bl (if neg then !inV x xs else inV x xs)) H
theorem x8s:OpR X (compareOp .In) (rIn X.K false):=by
 intro pins s σ H x y v u Q I rx ry h
 obtain⟨p,xs,rfl,hq,fx,fs,q⟩:=h
 cases ry
 rcases hq with hq | hq
 ·obtain⟨its,r,pl,hz⟩:=I.list hq
  refine SeqAt.in_listAt (eqU x) pl.isList (fun w hw=>x1y rx fx r fs w (by simpa using hw)) ⟨.bl _,H,I,rfl,?_⟩
  rw [show its.toArray.any (eqU x)=its.any (eqU x) by simp,x5e r fs]
  exact q
 ·obtain⟨its,r,pl,hz⟩:=I.tuple hq
  refine SeqAt.in_tupleAt (eqU x) pl (fun w hw=>x1y rx fx r fs w (by simpa using hw)) ⟨.bl _,H,I,rfl,?_⟩
  rw [show its.toArray.any (eqU x)=its.any (eqU x) by simp,x5e r fs]
  exact q
theorem q6t:OpR X (compareOp .NotIn) (rIn X.K true):=by
 intro pins s σ H x y v u Q I rx ry h
 obtain⟨p,xs,rfl,hq,fx,fs,q⟩:=h
 cases ry
 rcases hq with hq | hq
 ·obtain⟨its,r,pl,hz⟩:=I.list hq
  refine SeqAt.notIn_listAt (eqU x) pl.isList (fun w hw=>x1y rx fx r fs w (by simpa using hw)) ⟨.bl _,H,I,rfl,?_⟩
  rw [show its.toArray.any (eqU x)=its.any (eqU x) by simp,x5e r fs]
  exact q
 ·obtain⟨its,r,pl,hz⟩:=I.tuple hq
  refine SeqAt.notIn_tupleAt (eqU x) pl (fun w hw=>x1y rx fx r fs w (by simpa using hw)) ⟨.bl _,H,I,rfl,?_⟩
  rw [show its.toArray.any (eqU x)=its.any (eqU x) by simp,x5e r fs]
  exact q
theorem q0y:x4v X (.builtin "len") (fun xs H Q=>∃ p ys,xs=[.ref p]∧(SqL X.K H p ys∨SqT X.K H p ys)∧Q (.int ys.length) H):=by
 intro pins s σ H xs us Q I r h
 obtain⟨p,ys,rfl,hq,q⟩:=h
 obtain⟨u,rfl,rx⟩:=x1d r
 cases rx
 have hn:=x9i
 rcases hq with hq | hq
 ·obtain⟨its,r',pl,hz⟩:=I.list hq
  have hlen:=r'.length
  exact Calls.call_len_list pl.isList (by simp only [List.size_toArray] <;> omega) ⟨.int ys.length,H,I.tok _,⟨s.toks+1,by rw [List.size_toArray,hlen]⟩,q⟩
 ·obtain⟨its,r',pl,hz⟩:=I.tuple hq
  have hlen:=r'.length
  exact len_tuple pl (by simp only [List.size_toArray] <;> omega) ⟨.int ys.length,H,I.tok _,⟨s.toks+1,by rw [List.size_toArray,hlen]⟩,q⟩
theorem q2v:x4v X (.builtin "len") (fun xs H Q=>∃ z,xs=[.str z]∧z.length≤sizeLine∧Q (.int z.length) H):=by
 intro pins s σ H xs us Q I r h
 obtain⟨z,rfl,hz,q⟩:=h
 obtain⟨u,rfl,t,rfl⟩:=x1d r
 have hn:=x9i
 exact len_str (by omega) ⟨.int z.length,H,I.tok _,⟨_,rfl⟩,q⟩
theorem q3y:x4v X (.type "tuple") (fun xs H Q=>∃ p ys,xs=[.ref p]∧((SqL X.K H p ys∧∀ l,H l=none→Q (.ref l) (upd H l (.tup ys)))∨(SqT X.K H p ys∧Q (.ref p) H))):=by
 intro pins s σ H xs us Q I r h
 obtain⟨p,ys,rfl,h⟩:=h
 obtain⟨u,rfl,rx⟩:=x1d r
 cases rx
 rcases h with ⟨hq,q⟩ | ⟨hq,q⟩
 ·obtain⟨its,r',pl,hz⟩:=I.list hq
  have hlen:=r'.length
  refine call_tuple_list pl.isList (fun h' kp=>?_) (by simp only [List.size_toArray] <;> omega)
  have I1:Inv X pins σ H { s with heap:=h' }:=I.kept (t':=s.toks) kp
  have I2:Inv X pins σ (upd H h'.objs.size (.tup ys)) { s with heap:=h'.push { cls:=.type "tuple",data:=.seq its.toArray } } :=
   I1.laid (t':=s.toks) (fun b o e=>Heap.get?_push_of_some _ e) (Nat.le_refl _) (show q5d X.prog X.w _ _ _ (.tup ys) from ⟨hz,its,r',IsTup.new _ _⟩)
  exact⟨.ref h'.objs.size,_,I2,rfl,q _ (I1.hok.fresh (Nat.le_refl _))⟩
 ·obtain⟨its,r',pl,hz⟩:=I.tuple hq
  exact call_tuple_same pl ⟨.ref p,H,I,rfl,q⟩
noncomputable def tyV (K:Frag) (T:String) (x:V) (H:Hp):Prop:=match x with
 | .str _=>T = "str"
 | .int _=>T = "int"
 | .ref p=>(T = "list" ∧ ∃ xs,SqL K H p xs)∨(T = "tuple" ∧ ∃ o,K.lookup p=some o∧o.cls=.type "tuple" ∧ o.dict=none) ∨
   (T = "dict" ∧ ((∃ kvs,H p=some (.dK kvs))∨∃ kvs,H p=some (.dT kvs)))∨(T = "set" ∧ ∃ S n,H p=some (.set S n))
 | _=>False
theorem w1c {pins:List (Addr × Obj)} {σ:St} {H:Hp} {s:Shared} {T:String} {x:V} {v:Value} (I:Inv X pins σ H s) (r:q5e x v) (ty:tyV X.K T x H) :
  s.TypeIs v T∧∀ a,v=.ref a→∃ ob,s.heap.get? a=some ob∧ob.dict=none:=by
 cases x with
 | str z =>
  obtain⟨t,rfl⟩:=r
  cases (show T = "str" from ty)
  exact⟨typeIs_str s z t,fun _ e=>nomatch e⟩
 | int i =>
  obtain⟨t,rfl⟩:=r
  cases (show T = "int" from ty)
  exact⟨typeIs_int s i t,fun _ e=>nomatch e⟩
 | ref p =>
  cases r
  rcases ty with ⟨rfl,xs,hq⟩ | ⟨rfl,o,hk,hc,hd⟩ | ⟨rfl,hk⟩ | ⟨rfl,S,n,hk⟩
  ·obtain⟨its,_,pl,_⟩:=I.list hq
   refine⟨pl.isList.typeIs,fun a e=>?_⟩
   cases e
   obtain⟨o,n,e,c,hd,_⟩:=pl
   exact⟨o,e,hd⟩
  ·refine⟨⟨o,I.kIn p o hk,hc⟩,fun a e=>?_⟩
   cases e
   exact⟨o,I.kIn _ o hk,hd⟩
  ·have z:∃ o,s.heap.get? p=some o∧o.ExactDict:=by
    rcases hk with ⟨kvs,hk⟩ | ⟨kvs,hk⟩
    ·obtain⟨_,_,_,_,o,_,_,e,ex,_⟩:=I.hok p _ hk
     exact⟨o,e,ex⟩
    ·obtain⟨_,_,_,_,o,_,_,e,ex,_⟩:=I.hok p _ hk
     exact⟨o,e,ex⟩
   obtain⟨o,e,ex⟩:=z
   refine⟨⟨o,e,ex.1⟩,fun a e2=>?_⟩
   cases e2
   exact⟨o,e,ex.2.1⟩
  ·obtain⟨o,_,_,_,e,ex,_⟩:=I.hok p _ hk
   refine⟨⟨o,e,ex.1⟩,fun a e2=>?_⟩
   cases e2
   exact⟨o,e,ex.2.1⟩
 | _=>exact False.elim ty
noncomputable def tBM (K:Frag) (T:String) (r:V→List V→Hp→VK→Prop) (to:TE) (t:TA):TE:=fun σ H Q=>to σ H fun x H1=>tyV K T x H1∧t σ H1 fun xs H2=>r x xs H2 Q
variable {o e:Expr} {es:List Expr} {to:TE} {t:TA} {name:Str} {apos cpos:Pos} {T id:String} {r:V→List V→Hp→VK→Prop}
theorem q9m (pa:PlainAttrs T) (slot:Slot T name id) (hty:typeOf (.builtin id)=pure (.type "method_descriptor")) (hm:MtR X id r) (ho:PE X o to) (ha:PA X (e::es) t)
  (hbase:attributeBase o name X.env (eval o X.env)=eval o X.env:=by rfl)
  (hfew:((backTo cpos (starEach (e::es) X.env)).all (fun x => !x.1) && (backToKw cpos (keywordEach [] X.env)).all (fun x=>x.1.isSome)
   && decide ((e::es).length+([]:List Keyword).length+(if ([]:List Keyword).isEmpty then 0 else 1) < 30))=true:=by rfl)
  (hline:(apos.endLine==cpos.line)=true:=by rfl) (hs:starEach (e::es) X.env=(false,eval e X.env)::starEach es X.env:=by rfl) (hplain:(backTo cpos (starEach es X.env)).any (·.1)=false:=by rfl) :
  PE X (.Call (.Attribute o name apos) (e::es) [] cpos) (tBM X.K T r to t):=by
 intro pins s σ H Q I h
 refine wpAny_Call_method_late hbase hfew hline rfl (thn (ho pins s σ H _ I h) fun v s1 ⟨x,H1,I1,r1,ty,q1⟩=>?_)
 obtain⟨h1,h2⟩:=w1c I1 r1 ty
 refine⟨T,id,pa,slot,hty,h1,h2,?_⟩
 have hA:=ha cpos pins s1 σ H1 _ I1 q1
 rw [hs] at hA ⊢
 refine Calls.callWith_builtin (by show (false || (backTo cpos (starEach es X.env)).any (·.1))=false; rw [hplain] <;> rfl) (Calls.evalArgs_plain ?_)
 exact thn hA fun us s2 ⟨vs,H2,I2,r2,q2⟩=>hm pins s2 σ H2 x vs v us Q I2 r1 r2 q2
end
noncomputable def MtM (X:Cx) (id:String) (r:V→List V→Hp→VK→Prop):Prop :=
 ∀ (pins:List (Addr × Obj)) (s:Shared) (σ:St) (H:Hp) (x:V) (xs:List V) (v:Value) (us:List Value) (Q:VK),Inv X pins σ H s→q5e x v→q4l xs us→r x xs H Q →
  wpAny (model X.prog X.w) X.A (call (.builtin id) (v::us)) (EP X pins σ Q) X.xe s
theorem q4l.one:∀ {x:V} {us:List Value},q4l [x] us→∃ u,us=[u]∧q5e x u
 | _,_,.cons r .nil=>⟨_,rfl,r⟩
section
variable {X:Cx} {pins:List (Addr × Obj)} {σ:St} {H:Hp} {s:Shared} {l b:Addr} {xs ys zs:List V}
theorem Inv.lset {its its':List Value} {n:Nat} {f:Array Value→Array Value} {t':Nat} (I:Inv X pins σ H s) (hH:H l=some (.lst xs))
  (e:s.heap.get? l=some { cls:=.type "list",data:=.seq its.toArray n }) (hf:f its.toArray=its'.toArray) (hv:q4l ys its') (hz:ys.length≤sizeLine) :
  Inv X pins σ (upd H l (.lst ys)) { s with heap:=s.heap.update l (Obj.mapSeq f),toks:=t' }:=by
 have q:=PySem.IsL.update e f
 rw [hf] at q
 refine I.write (x:=l) (e:=l) (by rw [hH]; exact trivial) (.inl rfl) (fun b' u hb hu=>(Heap.get?_update_other s.heap (Obj.mapSeq f) (Ne.symm hb)).trans hu) ⟨_,q⟩ ?_
 exact⟨hz,its',_,hv,q⟩
theorem Inv.lnew {its:List Value} {t':Nat} (I:Inv X pins σ H s) (hv:q4l ys its) (hz:ys.length≤sizeLine) :
  Inv X pins σ (upd H s.heap.objs.size (.lst ys)) { s with heap:=s.heap.push { cls:=.type "list",data:=.seq its.toArray },toks:=t' } :=
 I.laid (fun _ _ q=>Heap.get?_push_of_some _ q) (Nat.le_refl _) ⟨hz,its,0,hv,Heap.get?_push_size _ rfl⟩
theorem Inv.fresh (I:Inv X pins σ H s):H s.heap.objs.size=none:=I.hok.fresh (Nat.le_refl _)
theorem Inv.lstM (I:Inv X pins σ H s) (hH:H l=some (.lst xs)):xs.length≤sizeLine∧∃ (its:List Value) (n:Nat),q4l xs its∧xs.length=its.length∧s.heap.get? l=some { cls:=.type "list",data:=.seq its.toArray n }:=by
 obtain⟨z,its,n,r,e⟩:=I.hok l _ hH
 exact⟨z,its,n,r,r.length,e⟩
end
section
variable {X:Cx}
noncomputable def j6g:V→List V→Hp→VK→Prop:=fun x vs H Q=>∃ l xs y,x=.ref l∧vs=[y]∧H l=some (.lst xs)∧xs.length < sizeLine∧Q .non (upd H l (.lst (xs++[y])))
theorem q7k:MtM X "list.append" j6g:=by
 intro pins s σ H x vs v us Q I rx rv h
 obtain⟨l,xs,y,rfl,rfl,hH,hz,q⟩:=h
 cases rx
 obtain⟨u,rfl,ru⟩:=rv.one
 obtain⟨z,its,n,r,hl,e⟩:=I.lstM hH
 refine call_meets F.slot_list_append ⟨_,e,rfl⟩ F.entry_list_append (F.args_list_append_2 _ _) (PySem.list_append l its.toArray n u (by rw [List.size_toArray]; omega)) ⟨e,?_⟩
 refine⟨.non,_,I.lset (its':=its++[u]) hH e (by simp) (r.append (.cons ru .nil)) ?_,rfl,q⟩
 rw [List.length_append,List.length_singleton]
 omega
noncomputable def w5k:R2:=fun x y H Q=>∃ l b xs zs,x=.ref l∧y=.ref b∧H l=some (.lst xs)∧H b=some (.lst zs)∧xs.length+zs.length≤sizeLine∧∀ p,H p=none→Q (.ref p) (upd H p (.lst (xs++zs)))
theorem x4k:OpR X (binaryOp .Add) w5k:=by
 intro pins s σ H x y v u Q I rx ry h
 obtain⟨l,b,xs,zs,rfl,rfl,hH,hB,hz,q⟩:=h
 cases rx
 cases ry
 obtain⟨z,its,n,r,hl,e⟩:=I.lstM hH
 obtain⟨z2,its2,n2,r2,hl2,e2⟩:=I.lstM hB
 refine PySem.P.add_list e e2 ?_ (by rw [List.size_toArray,List.size_toArray]; omega)
 have ea:its.toArray++its2.toArray=(its++its2).toArray:=by simp
 rw [ea]
 exact⟨.ref _,_,I.lnew (t':=s.toks) (r.append r2) (by rw [List.length_append]; omega),rfl,q _ I.fresh⟩
end
section
variable {prog:Program} {w:World} {A:Around} {E:Value→Shared→Prop} {s:Shared}
set_option maxRecDepth 100000 in
end
section
variable {X:Cx}
end
end L2
namespace Att
open PySem PySem.W PySem.Calls PyProof.Rows
theorem x4c {P:Params} {h:Heap}:∀ (ns:List Int) (vs:List Value),WellAll P h vs (ns.map WData.int)→IntsAre vs ns:=by
 intro ns
 induction ns with
 | nil =>
  intro vs w
  rw [List.map_nil] at w
  cases w
  exact .nil
 | cons n ns ih =>
  intro vs w
  rw [List.map_cons] at w
  cases w with
  | cons a b =>
   cases a
   exact .cons _ _ (ih _ b)
theorem z9o {l:OpenLaw} {n:Nat} (hn:l.most=some n) {P:Params} {h:Heap} {args:List WData} {vals:List Value}
  (hpre:l.row.toRowW.claim.pre args=true) (hwl:WellAll P h vals args) :
  ∃ a vs ns,vals=[Value.ref a]∧args=[WData.list (ns.map WData.int)]∧h.get? a=some { cls:=.type "list",data:=.seq vs.toArray }∧IntsAre vs ns∧ns.length≤n:=by
 have hsh:WShape.hasAll [] args [.list .int]=true:=(pre_splitW hpre).1
 have hc:l.pre.holds [] { args:=args }=true:=(pre_splitW hpre).2
 obtain⟨d,r,rfl,h1,h2⟩:=hasAllW_cons hsh
 obtain rfl:=hasAllW_nil h2
 obtain⟨xs,rfl,h3⟩:=hasW_list h1
 obtain⟨ns,rfl⟩:=items_int h3
 have hlen:ns.length≤n:=by
  unfold OpenLaw.pre at hc
  have h4:(WTm.not (.lt (.lit (.int (n:Int))) (.len (.arg 0)))).holds [] { args:=[.list (ns.map .int)] }=true:=by
   have h4:=(holds_andW hc).1
   rw [hn] at h4
   exact h4
  have h5:=condW_of h4 (w_not (w_lt w_lit (w_len_list (w_arg rfl))))
  rw [List.length_map] at h5
  refine Nat.le_of_not_lt fun q=>?_
  have q':(n:Int) < ((ns.length:Nat):Int):=by omega
  first
   | (rw [decide_eq_true q'] at h5; exact absurd h5 (by decide))
   | (simp at h5; omega)
 cases hwl with
 | cons w1 w2 =>
  cases w2
  cases w1 with
  | list ho hall=>exact⟨_,_,ns,rfl,rfl,ho,x4c ns _ hall,hlen⟩
theorem z9z (l:OpenLaw) (args:List WData):l.row.toRowW.claim.post args (.bool true) args=true :=
 postW_of (r:=l.row.toRowW) (X:=(true==true))
  (show WShape.has [] (.bool true) .bool=true by first | rfl | decide | simp [WShape.has,WShape.arms,WShape.armsAll])
  (show (WTm.eq .res (.lit (.bool true))).value [] { args:=args,res:=some (.bool true),after:=args }=some (.bool (true==true)) from w_eq_bool (w_res rfl) w_lit) rfl
theorem attach_call {l:OpenLaw} {n:Nat} {q:Program} {loose:List Str} {XP:(Str→Option Value)→Heap→Prop} {YP:World→Heap→Prop} {d:DefRec}
  (hn:l.most=some n) (hdf:d.params.defaults=[])
  (call:∀ (w:World) (s₀ s₁:Shared) (mg mb:Str→Option Value) (fa:Addr) (o:Obj) (pm cd doc:Value) (a:Addr) (vs:List Value) (ns:List Int),
   Ground q loose [] XP w s₀ mg mb s₁.heap→YP w s₁.heap →
   s₁.heap.get? fa=some o→o.data=.func (docDef d.name d.params d.body d.scope pm cd doc)→s₁.heap.CodeRec cd d.name→mg d.name=some (.ref fa) →
   s₁.heap.get? a=some { cls:=.type "list",data:=.seq vs.toArray }→IntsAre vs ns→ns.length≤n→s₁.gens=#[] →
   codeAny (model l.prog w) callerA (.call (.ref fa) ⟨[.ref a],[]⟩) (fun r s'=>r=.ok (.ret (.bool true))∧OldK s₁.heap s'.heap∧s'.os=s₁.os∧AllBare s'.gens) s₁) :
  WalkO q loose XP YP l.row.toRowW d [] (fun f vs=>PySem.call f vs):=by
 intro w s₀ s₁ mg mb G Y fa o pm cd doc dV kV ho hd hcd hD hmg hg args vals as hpre hlay hrd hwl hlo
 obtain rfl:dV=.none:=Dflts.none hD hdf
 obtain rfl:kV=.none:=Dflts.noKw hD
 obtain⟨a,vs,ns,rfl,rfl,hobj,hints,hlen⟩:=z9o hn hpre hwl
 refine enter_call (codeAny_mono (call w s₀ s₁ mg mb fa o pm cd doc a vs ns G Y ho (fd_plain hd) hcd hmg hobj hints hlen hg) fun r s' hq=>?_)
 obtain⟨rfl,h2,h3,h4⟩:=hq
 exact⟨.inl ⟨.bool true,.bool true,[],rfl,fun _=>rfl,.bool true,z9z l _,fun _=>⟨List.Pairwise.nil,fun _ hm=>(nomatch hm)⟩⟩,h2,h3,h4⟩
section
variable {prog:Program} {w:World} {A:Around} {E:Value→Shared→Prop} {s:Shared} {K:Frag}
noncomputable def w4p (h:Heap) (L d:Addr):List (Addr × Obj):=(List.range h.objs.size).filterMap fun a=>if a=L∨a=d then none else (h.get? a).map fun o=>(a,o)
end
end Att
namespace L2
open PySem PySem.Spec PyProof.Rows
theorem x9h:∀ {vs:List Value} {ns:List Int},IntsAre vs ns→q4l (ns.map V.int) vs
 | _,_,.nil=>.nil
 | _,_,.cons n t h=>.cons ⟨t,rfl⟩ (x9h h)
noncomputable def w3v (H:Hp):Prop:=∀ b,H b=none∨∃ o xs,H b=some (.frz o (.lst xs))
theorem j4n {P:Program} {w:World} {K:Frag} {mg mb:Str→Option Value} {CX:CXT} {k:Nat} {fa a:Addr} {fd:FuncData} {x:Str} {sp:Sp} {s₁:Shared} {vs:List Value} {ns:List Int}
  (KX:K.In s₁.heap) (hns:s₁.heap.Ns mainGlobals mg) (hb:s₁.heap.Ns builtinsNs mb) (hbb:∀ x:Str,x ≠ "__name__" → mb x=bootBuiltins x) (hlim:s₁.heap.NoLimit) (hg:s₁.gens=#[])
  (ha:s₁.heap.get? a=some { cls:=.type "list",data:=.seq vs.toArray }) (hi:IntsAre vs ns) (hl:ns.length≤sizeLine) (hr:Room k callerA)
  (F:∀ base:Heap,K.In base→base.Ns mainGlobals mg→FnOk P w K mg base CX k fa fd [x] sp) (hbind:∀ (s:Shared) (u:Value),BindsTo s fd ⟨[u],[]⟩ [(x,u)])
  (hsp:∀ H:Hp,w3v H→SqL K H a (ns.map V.int)→sp [.ref a] H (fun v _=>v=.bl true) fun _ _ _=>False)
  (hCX:∀ H e s',CX [] H s₁ (fun _ _ _=>False) e s'→False) :
  codeAny (model P w) callerA (.call (.ref fa) ⟨[.ref a],[]⟩) (fun r s'=>r=.ok (.ret (.bool true))∧OldK s₁.heap s'.heap∧s'.os=s₁.os∧AllBare s'.gens) s₁:=by
 have rv:=x9h hi
 have lenV:=hi.length
 have core:∀ H:Hp,w3v H→SqL K H a (ns.map V.int)→HOk P w H s₁.heap→(∀ b,H b≠none→b=a)→(H a≠none→K.lookup a=none) →
   codeAny (model P w) callerA (.call (.ref fa) ⟨[.ref a],[]⟩) (fun r s'=>r=.ok (.ret (.bool true))∧OldK s₁.heap s'.heap∧s'.os=s₁.os∧AllBare s'.gens) s₁:=by
  intro H hO hS hok hA hK
  have base_of:∀ {b:Addr} {o:Obj},s₁.heap.get? b=some o→H b=none→(j3g s₁.heap H).get? b=some o:=fun e n=>j2j e n
  have noA:∀ {b:Addr} {o:Obj} {es:Array DictEntry} {ep:Nat},s₁.heap.get? b=some o→o.data=.dict es ep→H b=none:=fun {b o es ep} e d=>by
   cases q:H b with
   | none=>rfl
   | some u =>
    have e':b=a:=hA b (by rw [q]; simp)
    subst e'
    rw [ha] at e; cases e
    have d':Data.seq vs.toArray _=Data.dict es ep:=d
    cases d'
  have nsK:∀ {b:Addr} {m:Str→Option Value},s₁.heap.Ns b m→(j3g s₁.heap H).Ns b m:=fun {b m} ⟨o,es,ep,e,d,r⟩=>⟨o,es,ep,base_of e (noA e d),d,r⟩
  have hKb:K.In (j3g s₁.heap H):=fun b o e=>base_of (KX b o e) (by
   cases q:H b with
   | none=>rfl
   | some u =>
    have e':b=a:=hA b (by rw [q]; simp)
    subst e'
    rw [hK (by rw [q]; simp)] at e; cases e)
  have hM:Mod K mg (j3g s₁.heap H):=⟨hKb,nsK hns,⟨mb,nsK hb,hbb⟩,let ⟨mc,h1,h2⟩:=hlim; ⟨mc,nsK h1,h2⟩⟩
  have e0:Env0 P w K mg (j3g s₁.heap H) callerA [] s₁ H:=⟨rfl,hM,fun b o e=>j9a e,Nat.le_of_eq (z9a _ _),trivial,fun b hb=>absurd (show b∈([]:List Addr) from hb) (by simp),hok,.of_eq hg⟩
  refine codeAny_mono ((F _ hKb (nsK hns)).run callerA [] s₁ H ⟨[.ref a],[]⟩ [.ref a] [.ref a] _ _ hr e0 (hbind s₁ (.ref a)) (.cons rfl .nil) (hsp H hO hS)) fun r s' h=>?_
  cases r with
  | error e=>exact (hCX H e s' h).elim
  | ok fl =>
   cases fl with
   | next=>exact False.elim h
   | brk=>exact False.elim h
   | cont=>exact False.elim h
   | ret u =>
    obtain⟨v,H',os,bare,un,hok',r',q⟩:=h
    have q':v=.bl true:=q
    subst q'
    obtain rfl:u=Value.bool true:=r'
    refine⟨rfl,OldK.of_keep fun b o e=>?_,os,bare⟩
    cases q:H b with
    | none=>exact un.keep b o e q (by intro z; exact absurd (show b∈([]:List Addr) from z) (by simp)) (by simp)
    | some u =>
     rcases hO b with z | ⟨ob,xs,z⟩
     ·rw [q] at z; cases z
     ·have z2:=un.frzs b ob _ z
      obtain⟨e1,_⟩:=hok b _ z
      obtain⟨e2,_⟩:=hok' b _ z2
      rw [e] at e1; cases e1
      exact e2
 cases hk:K.lookup a with
 | some o =>
  have e:=KX a o hk
  rw [ha] at e
  cases e
  refine core (fun _=>none) (fun _=>.inl rfl) (.inr ⟨_,vs.toArray,_,hk,rfl,rfl,rfl,by rw [List.size_toArray,lenV]; exact hl,by simpa using rv⟩) (fun b u z=>by have z':(none:Option HO)=some u:=z; cases z') (fun b z=>absurd rfl z) fun z=>absurd rfl z
 | none =>
  refine core (fun b=>if b=a then some (.frz { cls:=.type "list",data:=.seq vs.toArray } (.lst (ns.map V.int))) else none) (fun b=>?_) (.inl (.inr ⟨{ cls:=.type "list",data:=.seq vs.toArray },if_pos rfl⟩)) (fun b u z=>?_) (fun b z=>?_) fun _=>hk
  ·by_cases hb:b=a
   ·exact .inr ⟨_,_,if_pos hb⟩
   ·exact .inl (if_neg hb)
  ·by_cases hb:b=a
   ·have z':=(if_pos hb).symm.trans z
    cases z'
    subst hb
    exact⟨ha,by rw [List.length_map]; exact hl,vs,_,rv,ha⟩
   ·have z':=(if_neg hb).symm.trans z
    cases z'
  ·by_cases hb:b=a
   ·exact hb
   ·exact absurd (if_neg hb) z
noncomputable abbrev KOf {K:Frag} {h:Heap} (_:K.In h):Frag:=K
theorem j7m {l:PySem.W.OpenLaw} {n k:Nat} {q:Program} {loose:List Str} {XP:(Str→Option Value)→Heap→Prop} {YP:World→Heap→Prop} {d:DefRec} {K:Params→Frag} {CX:World→CXT} {sp:World→Sp} {x:Str}
  (hn:l.most=some n) (hn2:n≤sizeLine) (hdf:d.params.defaults=[]) (hr:Room k callerA)
  (hY:∀ (w:World) (h:Heap),YP w h→(K w.params).In h)
  (F:∀ (w:World) (mg:Str→Option Value) (fa:Addr) (h:Heap),(K w.params).In h→h.Ns mainGlobals mg→mg d.name=some (.ref fa) →
   ∃ fd:FuncData,(∀ (s:Shared) (u:Value),BindsTo s fd ⟨[u],[]⟩ [(x,u)]) ∧
    ∀ base:Heap,(K w.params).In base→base.Ns mainGlobals mg→FnOk l.prog w (K w.params) mg base (CX w) k fa fd [x] (sp w))
  (hsp:∀ (w:World) (H:Hp) (a:Addr) (ns:List Int),ns.length≤n→w3v H→SqL (K w.params) H a (ns.map V.int)→sp w [.ref a] H (fun v _=>v=.bl true) fun _ _ _=>False)
  (hCX:∀ (w:World) (H:Hp) (s:Shared) (e:Value) (s':Shared),CX w [] H s (fun _ _ _=>False) e s'→False) :
  PySem.W.WalkO q loose XP YP l.row.toRowW d [] (fun f vs=>PySem.call f vs):=by
 refine Att.attach_call hn hdf fun w s₀ s₁ mg mb fa o pm cd doc a vs ns G Y ho hd hcd hmg hobj hints hlen hg=>?_
 have KX:=hY w _ Y
 obtain⟨fd,hb,hF⟩:=F w mg fa _ KX G.T.g hmg
 exact j4n KX G.T.g G.T.b G.T.builtins G.T.nolimit hg hobj hints (Nat.le_trans hlen hn2) hr hF hb (fun H hO hS=>hsp w H a ns hlen hO hS) fun H e s'=>hCX w H s₁ e s'
noncomputable def z0r (s:Stmt) (j:Nat):Stmt:=match s with
 | .ClassDef _ _ _ body _ _ _ _ _ _ _=>body.getD j (.Pass ⟨0,0,0,0⟩)
 | _=>.Pass ⟨0,0,0,0⟩
noncomputable def q9x (s:Stmt):Arguments:=match s with
 | .FunctionDef _ a _ _ _ _ _ _ _ _=>a
 | _=>{ posonlyargs:=[],args:=[],vararg:=none,kwonlyargs:=[],kw_defaults:=[],kwarg:=none,defaults:=[] }
noncomputable def q6x (s:Stmt):List Stmt:=match s with
 | .FunctionDef _ _ b _ _ _ _ _ _ _=>b
 | _=>[]
noncomputable def q0e (s:Stmt):Scope:=match s with
 | .FunctionDef _ _ _ _ _ _ sc _ _ _=>sc
 | _=>{ kind:=.function,names:=[],isGenerator:=false,isCoroutine:=false }
noncomputable abbrev CX0:CXT:=fun _ _ _ _ _ _=>False
noncomputable abbrev E0:XK:=fun _ _ _=>False
theorem x4e {X:Cx}:q8j CX0 X E0:=fun _ _ _ _ _ _ _ h=>h.elim
structure Fun (K:Frag) (x qual:Str) (st:Stmt) (f:Addr) (fd:FuncData):Prop where
 ex:∃ (oc:Value) (od:Option Addr) (kV doc pm:Value) (an:Option Addr) (cdv ct:Value) (osl:Array (Option Value)),
  fd=fnOf x qual (q9x st) (q6x st) (q0e st) .none kV doc pm an cdv ct∧K.lookup f=some ⟨oc,od,.func fd,osl⟩∧PySem.W.codeIn K cdv qual=true
 kp:keepIn K (.ref f)=true
section
variable {P:Program} {w:World} {K:Frag} {mg:Str→Option Value} {base:Heap}
theorem Fun.ok {x qual:Str} {st:Stmt} {f:Addr} {fd:FuncData} {N ps:List Str} {k:Nat} {sp:Sp} (F:Fun K x qual st f fd) (S:FnScope N ps (q0e st)) (len:∀ vs H Q E,sp vs H Q E→vs.length=ps.length)
  (hbody:∀ (cdv:Value) (A:Around) (outer:List Env) (s:Shared) (H:Hp) (vs:List V) (Q:VK) (E:XK),Room k (A.deeper (envOfC qual (q0e st) s.heap.objs.size f cdv))→sp vs H Q E →
   ∃ t,PSs (z5u CX0 P w K mg base N qual (q0e st) f cdv A outer s H E).nox (q6x st) t∧t { nx:=fun _ H'=>Q .non H',rt:=Q } (x8b N vs) H):FnOk P w K mg base CX0 (k+1) f fd ps sp:=by
 obtain⟨oc,od,kV,doc,pm,an,cdv,ct,osl,rfl,lk,hcd⟩:=F.ex
 refine w1u lk hcd S len fun A outer s H vs Q E hr hsp=>?_
 obtain⟨t,h,q⟩:=hbody cdv A outer s H vs Q E hr hsp
 exact⟨t,h.nox,q⟩
theorem Fun.binds {x qual:Str} {st:Stmt} {f:Addr} {fd:FuncData} {ps:List Str} (F:Fun K x qual st f fd)
  (h:∀ (kV doc pm:Value) (an:Option Addr) (cdv ct:Value) (us:List Value),us.length=ps.length→bindArgs (fnOf x qual (q9x st) (q6x st) (q0e st) .none kV doc pm an cdv ct) ⟨us,[]⟩=pure (ps.zip us)):q3p K fd ps []:=by
 obtain⟨oc,od,kV,doc,pm,an,cdv,ct,osl,rfl,lk,hcd⟩:=F.ex
 exact .all (h kV doc pm an cdv ct)
theorem w0k {x qual:Str} {st:Stmt} {f:Addr} {oc:Value} {od an:Option Addr} {osl:Array (Option Value)} {kV doc pm cdv ct:Value} (l:K.lookup f=some ⟨oc,od,.func (fnOf x qual (q9x st) (q6x st) (q0e st) .none kV doc pm an cdv ct),osl⟩)
  (c:PySem.W.codeIn K cdv qual=true) (k:keepIn K (.ref f)=true):Fun K x qual st f (fnOf x qual (q9x st) (q6x st) (q0e st) .none kV doc pm an cdv ct):=⟨⟨oc,od,kV,doc,pm,an,cdv,ct,osl,rfl,l,c⟩,k⟩
end
theorem w3l {A:Around} {k:Nat} (hr:Room k A):A.units+1 < cLine:=Nat.lt_of_le_of_lt (Nat.add_le_add_left (by decide:1≤64) _) hr.units
section
variable {X:Cx}
theorem pv (i:Nat) {x:Str} {pos:Pos} (hN:X.N[i]? = some x:=by rfl) (hv:Vis X.env.scope x:=by first | exact Or.inl rfl | exact Or.inr (Or.inl rfl) | exact Or.inr (Or.inr rfl)) (hd:(x==("__debug__" : Str))=false:=by decide)
  (hcd:(x==("__classdict__" : Str))=false:=by decide):PE X (.Name x pos) (w2c i):=w0x hN hv hd hcd
end
theorem q1c {A B:Prop} (h:B):if false=true then A else B:=by
 rw [if_neg Bool.false_ne_true]
 exact h
theorem q1m {A B:Prop} (h:A):if true=true then A else B:=by
 rw [if_pos rfl]
 exact h
theorem x5d {c A B:Prop} [Decidable c] (h1:c→A) (h2:¬ c→B):if c then A else B:=by
 by_cases h:c
 ·rw [if_pos h]
  exact h1 h
 ·rw [if_neg h]
  exact h2 h
noncomputable def q1b (H H':Hp):Prop:=∀ b o,H b=some o→H' b=some o
theorem q1b.refl (H:Hp):q1b H H:=fun _ _ h=>h
theorem q1b.trans {H H1 H2:Hp} (a:q1b H H1) (b:q1b H1 H2):q1b H H2:=fun c o h=>b c o (a c o h)
end L2
set_option maxHeartbeats 4000000
namespace L2
open PySem PySem.Spec PyProof.Rows
noncomputable def clo (cells:List (Str × Addr)):List (Str × NameKind)→List (Str × Addr)→List (Str × Addr)
 | [],cs=>cs
 | p::r,cs=>clo cells r (if (p.2==NameKind.free)=true then (match cells.lookup p.1 with | some a=>(p.1,a)::cs | none=>cs) else cs)
theorem j8a {env:Env} {f:Str × NameKind→List (Str × Addr)→Sem (ForInStep (List (Str × Addr)))}
  (hf:∀ p cs,f p cs=if (p.2==NameKind.free)=true then (cellOf env p.1 >>= fun a=>pure (ForInStep.yield ((p.1,a)::cs))) else pure (ForInStep.yield cs)) :
  ∀ (names:List (Str × NameKind)) (cs:List (Str × Addr)),(∀ p∈names,p.2=.free→∃ a,env.cells.lookup p.1=some a) →
   (forIn names cs f:Sem (List (Str × Addr)))=pure (clo env.cells names cs):=by
 intro names
 induction names with
 | nil=>intro cs _; rfl
 | cons p r ih =>
  intro cs h
  have hr:=fun cs=>ih cs fun q hq=>h q (List.mem_cons_of_mem _ hq)
  rw [List.forIn_cons,hf]
  by_cases hk:p.2=.free
  ·obtain⟨a,ha⟩:=h p List.mem_cons_self hk
   have hb:(p.2==NameKind.free)=true:=by rw [hk]; rfl
   rw [if_pos hb]
   have hc:cellOf env p.1=pure a:=by unfold cellOf; rw [ha]
   rw [hc]
   show (forIn r ((p.1,a)::cs) f:Sem _)=_
   rw [hr,clo,if_pos hb,ha]
  ·have hb:¬ (p.2==NameKind.free)=true:=by simpa using hk
   rw [if_neg hb]
   show (forIn r cs f:Sem _)=_
   rw [hr,clo,if_neg hb]
theorem z7v {env:Env} {scope:Scope} (h:∀ p∈scope.names,p.2=.free→∃ a,env.cells.lookup p.1=some a):closureFor scope env=pure (clo env.cells scope.names []):=by
 simp only [closureFor]
 rw [j8a (env:=env) (fun p cs=>by obtain⟨n,k⟩:=p; cases hk:(k==NameKind.free) <;> simp [hk] <;> rfl) scope.names [] h]
 rfl
theorem x0u {cells:List (Str × Addr)} {x:Str} {c:Addr}:∀ (names:List (Str × NameKind)) (cs:List (Str × Addr)),(clo cells names cs).lookup x=some c→cells.lookup x=some c∨cs.lookup x=some c:=by
 intro names
 induction names with
 | nil=>intro cs h; exact .inr h
 | cons p r ih =>
  intro cs h
  rw [clo] at h
  rcases ih _ h with e | e
  ·exact .inl e
  ·split at e
   ·cases ha:cells.lookup p.1 with
    | none=>rw [ha] at e; exact .inr e
    | some a =>
     rw [ha] at e
     rw [List.lookup_cons] at e
     cases hx:x==p.1 with
     | true =>
      rw [hx] at e
      have:x=p.1:=by simpa using hx
      subst this
      left
      rw [ha]; exact e
     | false=>rw [hx] at e; exact .inr e
   ·exact .inr e
theorem z1w {cells:List (Str × Addr)} {x:Str} {a:Addr} (ha:cells.lookup x=some a):∀ (names:List (Str × NameKind)) (cs:List (Str × Addr)),
  ((x,NameKind.free)∈names∨cs.lookup x=some a)→(clo cells names cs).lookup x=some a:=by
 intro names
 induction names with
 | nil =>
   intro cs h; rcases h with h | h
   ·cases h
   ·exact h
 | cons p r ih =>
  intro cs h
  rw [clo]
  by_cases hr:(x,NameKind.free)∈r
  ·exact ih _ (.inl hr)
  ·refine ih _ (.inr ?_)
   by_cases hb:(p.2==NameKind.free)=true
   ·rw [if_pos hb]
    by_cases hx:x=p.1
    ·subst hx
     rw [ha]
     simp [List.lookup_cons]
    ·have h2:cs.lookup x=some a:=by
      rcases h with h | h
      ·rcases List.mem_cons.mp h with e | e
       ·exact absurd (congrArg Prod.fst e) hx
       ·exact absurd e hr
      ·exact h
     cases hc:cells.lookup p.1 with
     | none=>exact h2
     | some b =>
      have hx':(x==p.1)=false:=by simpa using hx
      simp [List.lookup_cons,hx',h2]
   ·rw [if_neg hb]
    rcases h with h | h
    ·rcases List.mem_cons.mp h with e | e
     ·exact absurd (by rw [← e]; rfl) hb
     ·exact absurd e hr
    ·exact h
theorem q5z {α β:Type} [BEq α] [LawfulBEq α] {x:α} {y:β}:∀ {l:List (α × β)},l.lookup x=some y→(x,y)∈l
 | [],h=>by cases h
 | p::r,h=>by
  rw [List.lookup_cons] at h
  cases hx:x==p.1 with
  | true =>
   rw [hx] at h
   have e:x=p.1:=by simpa using hx
   cases h
   rw [e]
   exact List.mem_cons_self
  | false=>rw [hx] at h; exact List.mem_cons_of_mem _ (q5z h)
theorem j5g {f:Str × NameKind→Str × NameKind} (hf:∀ p,f p=p∨(p.2=.free∧f p=(p.1,.cell))) {x:Str}:∀ {names:List (Str × NameKind)},(names.map f).lookup x=names.lookup x∨(names.lookup x=some .free∧(names.map f).lookup x=some .cell)
 | []=>.inl rfl
 | p::r=>by
  have ih:=@j5g f hf x r
  rw [List.map_cons]
  rcases hf p with e | ⟨e1,e2⟩
  ·rw [e,List.lookup_cons,List.lookup_cons]
   cases hx:x==p.1 with
   | true=>exact .inl rfl
   | false=>exact ih
  ·rw [e2,List.lookup_cons,List.lookup_cons]
   cases hx:x==p.1 with
   | true=>exact .inr ⟨congrArg some e1,rfl⟩
   | false=>exact ih
theorem j7c {env:Env} {x:Str} {names:List (Str × NameKind)} :
  ((names.map fun (n,k)=>if (k==NameKind.free && env.scope.kind==.function && env.kindOf n==some .cell) then (n,NameKind.cell) else (n,k)).lookup x=names.lookup x) ∨
  (names.lookup x=some .free∧(names.map fun (n,k)=>if (k==NameKind.free && env.scope.kind==.function && env.kindOf n==some .cell) then (n,NameKind.cell) else (n,k)).lookup x=some .cell):=by
 refine j5g (fun p=>?_)
 obtain⟨n,k⟩:=p
 by_cases hc:(k==NameKind.free && env.scope.kind==.function && env.kindOf n==some .cell)=true
 ·right
  have hk:k=.free:=by
   simp only [Bool.and_eq_true,beq_iff_eq] at hc
   exact hc.1.1
  exact⟨hk,by show (if _ then _ else _)=_; rw [if_pos hc]⟩
 ·left
  show (if _ then _ else _)=_
  rw [if_neg hc]
noncomputable def cxB (X:Cx) (NB:List Str) (scope:Scope) (cl:List (Str × Addr)) (C:Addr) (fp:List Addr) (s:Shared) (H:Hp):Cx where
 prog:=X.prog
 w:=X.w
 K:=X.K
 mg:=X.mg
 base:=X.base
 A:=X.A
 N:=NB
 s₀:=s
 H₀:=H
 env:=compEnvC scope cl C X.env
 outer:=X.stack
 stack:=X.stack
 ex:=fp
 fn:=fun _=>false
 calm:=X.calm
 pn:=[]
 xe:=fun _ _=>False
noncomputable def j4d (X:Cx) (ifs:List Expr) (t:TT):Prop :=
 ∀ (pins:List (Addr × Obj)) (s:Shared) (σ:St) (H:Hp) (Q:Bool→Hp→Prop),Inv X pins σ H s→t σ H Q →
  wpAny (model X.prog X.w) X.A (forIn ifs true fun c r=>if r=true then do let ok←isTrue c X.env (eval c X.env); pure (ForInStep.yield ok) else pure (ForInStep.yield r)) (TP X pins σ Q) X.xe s
noncomputable def w6w:TT:=fun _ H Q=>Q true H
theorem q2u {X:Cx}:j4d X [] w6w:=fun _ _ _ H _ I h=>wpAny_tests_nil ⟨H,I,h⟩
theorem x3h {X:Cx} {c:Expr} {t:TT} (h:PT X c t):j4d X [c] t:=fun pins s σ H Q I q=>wpAny_tests_one (h pins s σ H Q I q)
section
variable {prog:Program} {w:World} {A:Around} {R:Result→Shared→Prop} {s:Shared}
theorem z8m {elt target iter:Expr} {ifs:List Expr} {scope:Scope} {pos:Pos} {it acc:Value} {env:Env} (I:Nat→Shared→Prop)
  (turn:∀ n s,I n s→wpAny (model prog w) A (pyNext it) (fun r s1=>(r=none∧R (.ok .next) s1)∨∃ v,r=some v ∧
   wpAny (model prog w) A (letOwnedTupleGo target it v) (fun _ s2=>wpAny (model prog w) A (assign target env v) (fun _ s3 =>
    wpAny (model prog w) A (forIn ifs true fun c r=>if r=true then do let ok←isTrue c env (eval c env); pure (ForInStep.yield ok) else pure (ForInStep.yield r)) (fun ok s4 =>
     if ok=true then wpAny (model prog w) A (eval elt env) (fun x s5=>wpAny (model prog w) A (call (.builtin "list.append") [acc,x]) (fun _ s6=>∃ m,m < n∧I m s6) (fun _ _=>False) s5) (fun _ _=>False) s4
     else ∃ m,m < n∧I m s4) (fun _ _=>False) s3) (fun _ _=>False) s2) (fun _ _=>False) s1) (fun _ _=>False) s)
  (n:Nat) (h:I n s):codeAny (model prog w) A (.compLoop (.ListComp elt [⟨target,iter,ifs,0⟩] scope pos) 0 it acc env) R s:=by
 refine codeAny_loop rfl I (fun k s0 hk=>?_) n h
 show wpAny _ A (Sem.onRaise (compTurn (.ListComp elt [⟨target,iter,ifs,0⟩] scope pos) 0 it acc env) (fun x=>do noteFrame x env; theTreesLotGoes x)) _ _ s0
 refine wpAny_noted ?_
 rw [compTurn_list]
 refine wpAny_bind (wpAny_standAt (wpAny_bind (wpAny_mono (turn k s0 hk) (fun r s1 h1=>?_) fun _ _ z=>z.elim)))
 rcases h1 with ⟨rfl,h1⟩ | ⟨v,rfl,h1⟩
 ·exact wpAny_pure h1
 ·refine wpAny_bind (wpAny_mono h1 (fun _ s2 h2=>wpAny_bind (wpAny_mono h2 (fun _ s3 h3=>wpAny_bind (wpAny_mono h3 (fun ok s4 h4=>?_) fun _ _ z=>z.elim)) fun _ _ z=>z.elim)) fun _ _ z=>z.elim)
  cases ok with
  | false=>exact wpAny_pure ⟨rfl,h4⟩
  | true=>exact wpAny_bind (wpAny_bind (wpAny_mono h4 (fun x s5 h5=>wpAny_bind (wpAny_mono h5 (fun _ s6 h6=>wpAny_pure (wpAny_pure ⟨rfl,h6⟩)) fun _ _ z=>z.elim)) fun _ _ z=>z.elim))
end
theorem HOk.but {P:Program} {w:World} {H:Hp} {h h':Heap} {C:Addr} (x:HOk P w H h) (hC:H C=none) (k:∀ b o,b≠C→h.get? b=some o→h'.get? b=some o):HOk P w H h':=fun b u e=>by
 have nit:∀ c v,H c=some v→c≠C:=fun c v q z=>by rw [z,hC] at q; cases q
 refine (x b u e).stay (fun c v hc q=>k c v ?_ q) (fun _ q=>q) fun _ _ q=>q
 rcases hc with z | z
 ·rw [z]; exact nit b u e
 ·exact nit c _ z
noncomputable def x3b (frs:St) (g:TG) (tt:TT) (te:TE) (Q:VK) (J:It) (H1:Hp):Prop:=∀ D,H1 D=none →
 ∃ W:Nat→Nat→List V→St→Hp→Prop,(∃ m,W 0 m [] frs (upd H1 D (.lst []))) ∧
  ∀ i m ys σ' H',W i m ys σ' H'→H' D=some (.lst ys) →
   (J.stop i H'∧Q (.ref D) H') ∨
   (J.go i H'∧ys.length < sizeLine∧∀ x H2,J.yld i H' x H2→g x σ' H2 fun σ3 H3=>tt σ3 H3 fun b H4 =>
    if b=true then te σ3 H4 fun v H5=>H5 D=some (.lst ys)∧∃ m',m' < m∧W (i+1) m' (ys++[v]) σ3 (upd H5 D (.lst (ys++[v])))
    else H4 D=some (.lst ys)∧∃ m',m' < m∧W (i+1) m' ys σ3 H4)
noncomputable def z8t (n:Nat) (fr:List Nat) (wi:TI) (g:TG) (tt:TT) (te:TE):TE:=fun σ H Q=>wi σ H (x3b (List.replicate n none++fr.map fun k=>(σ[k]?).join) g tt te Q)
section
variable {X:Cx} {elt tg iter:Expr} {ifs:List Expr} {scope:Scope} {pos:Pos} {NB:List Str} {n:Nat} {fr:List Nat} {wi:TI} {g:TG} {tt:TT} {te:TE}
structure CompOk (X:Cx) (scope:Scope) (NB:List Str) (n:Nat) (fr:List Nat):Prop where
 kind:scope.kind=.function
 nocell:∀ y∈scope.names,y.2≠.cell
 names:∀ y∈scope.names,y.2=.local→scope.names.lookup y.1=some .local
 free:∀ y∈scope.names,y.2=.free→X.env.kindOf y.1=some .cell∨X.env.kindOf y.1=some .free
 len:NB.length=n+fr.length
 own:∀ (j k:Nat),fr[j]? = some k→∃ x,NB[n+j]? = some x∧X.N[k]? = some x∧scope.names.lookup x=some .free
theorem j5e {pins:List (Addr × Obj)} {σ:St} {H:Hp} {s:Shared} {fp:List Addr} {C:Addr} (O:CompOk X scope NB n fr) (I:Inv X pins σ H s) (hf:∀ b∈fp,z6o X pins H b) (hfl:∀ b∈fp,b < s.heap.objs.size) (hC:s.heap.objs.size≤C) :
  (cxB X NB scope (clo X.env.cells scope.names []) C fp s H).Ok where
 mod:=I.ok.mod
 kind:=O.kind
 glob:=I.ok.glob
 blt:=I.ok.blt
 above:=hC
 inj:=fun x y c h1 h2=>by
  have e1:=(x0u scope.names [] h1).resolve_right (by intro z; cases z)
  have e2:=(x0u scope.names [] h2).resolve_right (by intro z; cases z)
  exact I.ok.inj x y c e1 e2
 has:=fun x hx=>by
  have hx':(relabel scope X.env).names.lookup x=some .cell∨(relabel scope X.env).names.lookup x=some .free:=hx
  have hfree:scope.names.lookup x=some .free:=by
   have r:=@j7c X.env x scope.names
   rcases r with r | r
   ·have hx2:scope.names.lookup x=some .cell∨scope.names.lookup x=some .free:=by rw [← r]; exact hx'
    rcases hx2 with e | e
    ·exact absurd rfl (O.nocell _ (q5z e))
    ·exact e
   ·exact r.1
  have hm:=q5z hfree
  obtain⟨c,hc⟩:=I.ok.has x (O.free _ hm rfl)
  exact⟨c,z1w hc scope.names [] (.inl hm)⟩
 cab:=fun x c h=>nomatch h
 hd:=fun h=>I.ok.hd h
 frames:=I.ok.frames
 stk:=.inl rfl
 exf:=fun b hb=>⟨Nat.ne_of_lt (Nat.lt_of_lt_of_le (hfl b hb) hC),fun x c h=>by
  have e1:=(x0u scope.names [] h).resolve_right (by intro z; cases z)
  exact (hf b hb).2.2.2.2.1 x c e1⟩
 bs:=I.bs
 bsz:=Nat.le_trans I.ok.bsz I.sz
 noex:=fun b o e hb=>by
  rcases (hf b hb).2.2.2.1 with z | z
  ·exact I.ok.noex b o e z
  ·exact absurd (Nat.lt_of_lt_of_le (Heap.lt_size e) (Nat.le_trans I.ok.bsz z)) (Nat.lt_irrefl _)
 exfs:=fun b hb z=>by
  rcases List.mem_cons.mp (I.stkSub b z) with e | e
  ·exact (hf b hb).2.1 e
  ·exact (hf b hb).2.2.1 e
 funs:=I.stack
 frf:=I.stkFree
theorem Inv.but {pins:List (Addr × Obj)} {σ:St} {H:Hp} {s:Shared} {C:Addr} {h':Heap} (I:Inv X pins σ H s) (hC:X.s₀.heap.objs.size≤C) (hH:H C=none) (hL:C≠X.env.locals) (hcl:∀ x c,X.env.cells.lookup x=some c→c≠C) (hpn:∀ p∈X.pn++pins,p.1≠C) (sb:Heap.SameBut C s.heap h') :
  Inv X pins σ H { s with heap:=h' }:=by
 refine I.call' (s':={ s with heap:=h' }) (ch:=[C]) rfl ?_ (HOk.but I.hok hH fun b o hb e=>sb.extBut b o hb e) I.bare (fun b hb=>?_)
 ·have ne:∀ {b:Addr},b∉[C]→b≠C:=fun {b} h z=>h (by rw [z]; exact List.mem_cons_self)
  exact⟨fun b o e _ _ hx=>sb.extBut b o (ne hx) e,fun b o e _ _ hx=>⟨o.slots,sb.extBut b o (ne hx) e⟩,fun _ _ _ n _=>n,fun b o e hx=>⟨o,sb.extBut b o (ne hx) e⟩,fun _ _ q=>q,fun _ _ _ q=>q,fun _ ps q=>⟨#[],by rw [q]; simp⟩⟩
 ·have e:b=C:=by simpa using hb
  subst e
  exact⟨.inr hC,hL,hcl,hpn⟩
theorem x9z {use:Option (Value→Sem Unit)} {QQ:Value→Shared→Prop} {pins:List (Addr × Obj)} {s:Shared} {σ:St} {H:Hp} {Q:VK} {pos2:Pos} (O:CompOk X scope NB n fr) (hc:X.calm=true) (hi:PI X tg iter wi)
  (hg:∀ cl C fp s H,PG (cxB X NB scope cl C fp s H) tg g) (ht:∀ cl C fp s H,j4d (cxB X NB scope cl C fp s H) ifs tt) (he:∀ cl C fp s H,PE (cxB X NB scope cl C fp s H) elt te)
  (hs:∀ x,foldedSetIterable iter X.env x=pure x) (I:Inv X pins σ H s) (h:z8t n fr wi g tt te σ H Q)
  (fin0:∀ (D C:Addr) (H':Hp) (s':Shared) (m:Str→Option Value),s'.heap.Ns C m→Inv X pins σ H' s'→X.s₀.heap.objs.size≤C→H' C=none→C≠X.env.locals→(∀ x c,X.env.cells.lookup x=some c→c≠C)→(∀ p∈X.pn++pins,p.1≠C)→Q (.ref D) H' →
   compPost (model X.prog X.w) X.A X.xe use QQ (.ref D) C (.ok .next) s') :
  wpAny (model X.prog X.w) X.A (comprehension (.ListComp elt [⟨tg,iter,ifs,0⟩] scope pos) scope X.env pos2 (newList []) false (eval iter X.env) use) QQ X.xe s:=by
 have hcl:closureFor scope X.env=pure (clo X.env.cells scope.names []):=z7v fun p hp hk=>I.ok.has p.1 (O.free p hp hk)
 refine wpAny_comprehension_free (use:=use) rfl hs hcl O.kind O.names (thn (hi pins s σ H _ I h) fun v s1 h1=>thn h1 fun itv s2 h2=>?_)
 obtain⟨it,fp,tn,J,H2,e,I2,T,st2,f2,R⟩:=h2
 subst e
 have fpl:∀ b∈fp,b < s2.heap.objs.size:=fun b hb=>by
  obtain⟨o,ho,_⟩:=T.obj 0 _ st2 b hb
  exact Heap.lt_size ho
 refine wpAny_newObj_type (wpAny_newFunctionEnv O.nocell (fun y hy=>absurd hy (by simp)) (fun h1 ns1 sb1=>?_) O.kind)
 dsimp only at ns1 sb1 ⊢
 generalize hD2:s2.heap.push { cls:=.type "list",dict:=none,data:=.seq ([]:List Value).toArray }=hp2 at ns1 sb1 ⊢
 have zC:hp2.objs.size=s2.heap.objs.size+1:=by rw [← hD2,Heap.size_push]
 have kept:∀ b o,s2.heap.get? b=some o→h1.get? b=some o:=fun b o q=>by
  have lt:=Heap.lt_size q
  refine sb1.extBut b o (by rw [zC]; exact Nat.ne_of_lt (Nat.lt_succ_of_lt lt)) (Heap.get?_push_of_some _ ?_)
  rw [← hD2]
  exact Heap.get?_push_of_some _ q
 have gD:h1.get? s2.heap.objs.size=some { cls:=.type "list",data:=.seq ([]:List Value).toArray 0 }:=by
  refine sb1.extBut _ _ (by rw [zC]; exact Nat.ne_of_lt (Nat.lt_succ_self _)) (Heap.get?_push_of_some _ ?_)
  rw [← hD2]
  exact Heap.get?_push_size _ rfl
 generalize hD:s2.heap.objs.size=D at *
 have fD:H2 D=none:=I2.hok.fresh (Nat.le_of_eq hD)
 have fC:H2 hp2.objs.size=none:=I2.hok.fresh (by rw [hD,zC]; exact Nat.le_succ _)
 have nCD:hp2.objs.size≠D:=by rw [zC]; exact Nat.succ_ne_self _
 have hCle:s2.heap.objs.size≤hp2.objs.size:=by rw [hD,zC]; exact Nat.le_succ _
 have ok:=j5e (C:=hp2.objs.size) O I2 f2 (fun b hb=>by rw [hD]; exact fpl b hb) hCle
 obtain⟨W,⟨m0,w0⟩,turn⟩:=R D fD
 generalize hY:cxB X NB scope (clo X.env.cells scope.names []) hp2.objs.size fp s2 H2=Y at ok
 have eY:Y.env=compEnvC scope (clo X.env.cells scope.names []) hp2.objs.size X.env:=by rw [← hY]; rfl
 have I0:Inv Y [] (List.replicate n none++fr.map fun k=>(σ[k]?).join) (upd H2 D (.lst [])) { s2 with heap:=h1,toks:=s2.toks+([]:List (Str × Value)).length }:=by
  subst hY
  refine⟨ok,rfl,I2.bare,Un.laid kept (Nat.le_of_eq hD) fD,⟨_,ns1,fun i x v e1 e2 e3=>?_⟩,fun x c h=>?_,?_,fun x c h=>?_,fun p hp=>absurd (show p∈([]:List (Addr × Obj)) from hp) (by simp),?_,?_⟩
  ·have hin:n≤i:=by
    refine Nat.le_of_not_lt fun z=>?_
    rw [List.getElem?_append_left (by simpa using z),List.getElem?_replicate] at e2
    split at e2 <;> cases e2
   obtain⟨j,rfl⟩:=Nat.exists_eq_add_of_le hin
   rw [List.getElem?_append_right (by simp)] at e2
   simp only [List.length_replicate,Nat.add_sub_cancel_left,List.getElem?_map] at e2
   cases hk:fr[j]? with
   | none=>rw [hk] at e2; cases e2
   | some k =>
    rw [hk] at e2
    obtain⟨x',n1,n2,n3⟩:=O.own j k hk
    have e1':NB[n+j]? = some x:=e1
    rw [n1] at e1'
    cases e1'
    have e4:(σ[k]?).join=some v:=Option.some.inj e2
    have e5:σ[k]? = some (some v):=by
     cases q:σ[k]? with
     | none=>rw [q] at e4; cases e4
     | some z=>rw [q] at e4; exact congrArg some e4
    have hm:=q5z n3
    have kd:=O.free _ hm rfl
    obtain⟨m,hn,hl⟩:=I2.loc
    obtain⟨u,ru,lk⟩:=hl k x v n2 e5 (by rcases kd with z | z; exact .inr (.inl z); exact .inr (.inr z))
    refine⟨u,ru,.inr ⟨?_,?_⟩⟩
    ·show (relabel scope X.env).names.lookup x=some .cell∨(relabel scope X.env).names.lookup x=some .free
     rcases @j7c X.env x scope.names with r | r
     ·exact .inr (Eq.trans r n3)
     ·exact .inl r.2
    ·rcases lk with ⟨z,_⟩ | ⟨_,c,hc1,hc2⟩
     ·rcases kd with q | q <;> (rw [z] at q; cases q)
     ·refine⟨c,z1w hc1 scope.names [] (.inl hm),?_⟩
      obtain⟨o,ho,hd⟩:=hc2
      exact⟨o,kept c o ho,hd⟩
  ·have e1:=(x0u scope.names [] (show (clo X.env.cells scope.names []).lookup x=some c from h)).resolve_right (by intro z; cases z)
   obtain⟨v,o,ho,hd⟩:=I2.cell x c e1
   exact⟨v,o,kept c o ho,hd⟩
  ·show upd H2 D (.lst []) hp2.objs.size=none
   rw [q1a nCD]; exact fC
  ·have e1:=(x0u scope.names [] (show (clo X.env.cells scope.names []).lookup x=some c from h)).resolve_right (by intro z; cases z)
   obtain⟨v,o,ho,hd⟩:=I2.cell x c e1
   rw [q1a (by rw [← hD]; exact Nat.ne_of_lt (Heap.lt_size ho))]
   exact I2.freeC x c e1
  ·exact I2.hok.laid kept (Nat.le_of_eq hD) ⟨by simp,[],0,.nil,gD⟩
  ·show _=NB.length
   rw [O.len]; simp
 have fY:∀ {H':Hp},(∀ b∈fp,H' b=none)→∀ b∈fp,z6o Y [] H' b:=fun {H'} hn b hb=>by
  subst hY
  refine⟨hn b hb,(ok.exf b hb).1,ok.exfs b hb,.inl hb,fun x c z=>(ok.exf b hb).2 x c z,fun p hp=>absurd (show p∈([]:List (Addr × Obj)) from hp) (by simp)⟩
 have pY:Y.prog=X.prog∧Y.w=X.w∧Y.K=X.K∧Y.A=X.A∧Y.calm=true∧Y.xe=fun _ _=>False:=by subst hY; exact⟨rfl,rfl,rfl,rfl,hc,rfl⟩
 obtain⟨p1,p2,p3,p4,p5,p6⟩:=pY
 have fin:∀ {σ':St} {H':Hp} {s':Shared},Inv Y [] σ' H' s'→Q (.ref D) H'→compPost (model X.prog X.w) X.A X.xe use QQ (.ref D) hp2.objs.size (.ok .next) s':=fun {σ' H' s'} J' q=>by
  subst hY
  obtain⟨m,hn,_⟩:=J'.loc
  have fr':H' hp2.objs.size=none:=J'.free
  have neC:∀ b o,s2.heap.get? b=some o→b≠hp2.objs.size:=fun b o e=>Nat.ne_of_lt (Nat.lt_of_lt_of_le (Heap.lt_size e) hCle)
  have J:Inv X pins σ H' s':=I2.call' (s':=s') J'.os J'.base J'.hok J'.bare fun b hb=>by
   obtain⟨_,a2,_,a4,a5,a6⟩:=f2 b hb
   exact⟨a4,a2,a5,a6⟩
  refine fin0 D _ H' s' m hn J (Nat.le_trans I2.sz hCle) fr' (Ne.symm (Nat.ne_of_lt (Nat.lt_of_lt_of_le I2.lt hCle))) (fun x c e=>?_) (fun p hp=>?_) q
  ·obtain⟨v,o,ho,_⟩:=I2.cell x c e
   exact neC c o ho
  ·exact neC _ _ (I2.pin p hp).1
 have st0:tn 0 h1:=T.keep 0 _ _ st2 fun b hb o q=>kept b o q
 have fp0:∀ b∈fp,upd H2 D (.lst []) b=none:=fun b hb=>by
  rw [q1a (Nat.ne_of_lt (fpl b hb))]; exact (f2 b hb).1
 have loop:∀ s3:Shared,s3={ s2 with heap:=h1,toks:=s2.toks+([]:List (Str × Value)).length } →
   codeAny (model X.prog X.w) X.A (.compLoop (.ListComp elt [⟨tg,iter,ifs,0⟩] scope pos) 0 (.ref it) (.ref D) (compEnvC scope (clo X.env.cells scope.names []) hp2.objs.size X.env))
    (compPost (model X.prog X.w) X.A X.xe use QQ (.ref D) hp2.objs.size) s3:=by
  rintro s3 rfl
  refine z8m (fun k s'=>∃ i ys σ' H',Inv Y [] σ' H' s'∧tn i s'.heap∧(∀ b∈fp,H' b=none)∧H' D=some (.lst ys)∧W i k ys σ' H') ?_ m0 ⟨0,[],_,_,I0,st0,fp0,q0f,w0⟩
  rintro k s4 ⟨i,ys,σ4,H4,I4,t4,fr4,d4,w4⟩
  have hgY:PG Y tg g:=by subst hY; exact hg _ _ _ _ _
  have htY:j4d Y ifs tt:=by subst hY; exact ht _ _ _ _ _
  have heY:PE Y elt te:=by subst hY; exact he _ _ _ _ _
  rcases turn i k ys σ4 H4 w4 d4 with ⟨stop,q⟩ | ⟨go,hlen,step⟩
  ·have z:=T.done Y p1 p2 p3 p5 i [] s4 σ4 H4 (fun _ _=>False) I4 (fY fr4) t4 stop
   rw [p4] at z
   exact thn z fun r s5 ⟨hr,I5⟩=>.inl ⟨hr,fin I5 q⟩
  ·have z:=T.item Y p1 p2 p3 p5 i [] s4 σ4 H4 (fun _ _=>False) I4 (fY fr4) t4 go
   rw [p4] at z
   refine thn z fun r s5 ⟨u,hr,h5⟩=>.inr ⟨u,hr,thn h5 fun _ s6 ⟨x,H6,I6,r6,y6,t6,fr6⟩=>?_⟩
   have I6':=I6.pinned (fY fr6) (T.obj _ _ t6)
   have back:∀ {σ7:St} {H7:Hp} {s7:Shared},Inv Y ([]++x6a fp s6.heap) σ7 H7 s7→Inv Y [] σ7 H7 s7∧tn (i+1) s7.heap∧∀ b∈fp,H7 b=none:=fun {σ7 H7 s7} I7=>by
    refine⟨I7.unpinned,T.keep _ _ _ t6 fun b hb o e=>(I7.pin (b,o) (List.mem_append_right _ (List.mem_append_right _ (q6a hb e)))).1,fun b hb=>?_⟩
    obtain⟨o,e,_⟩:=T.obj _ _ t6 b hb
    exact (I7.pin (b,o) (List.mem_append_right _ (List.mem_append_right _ (q6a hb e)))).2.1
   have a7:=hgY _ s6 σ4 H6 x u _ I6' r6 (step x H6 y6)
   rw [p1,p2,p4,p6,eY] at a7
   refine thn a7 fun _ s7 ⟨σ7,H7,I7,q7⟩=>?_
   have a8:=htY _ s7 σ7 H7 _ I7 q7
   rw [p1,p2,p4,p6,eY] at a8
   refine thn a8 fun b s8 ⟨H8,I8,q8⟩=>?_
   cases b with
   | false =>
    obtain⟨d8,m',hm,w8⟩:=q8
    rw [if_neg Bool.false_ne_true]
    obtain⟨b1,b2,b3⟩:=back I8
    exact⟨m',hm,i+1,ys,σ7,H8,b1,b2,b3,d8,w8⟩
   | true =>
    rw [if_pos rfl]
    have a9:=heY _ s8 σ7 H8 _ I8 q8
    rw [p1,p2,p4,p6,eY] at a9
    refine thn a9 fun uv s9 ⟨v,H9,I9,r9,d9,m',hm,w9⟩=>?_
    have a10:=q7k (X:=Y) _ s9 σ7 H9 (.ref D) [v] (.ref D) [uv] (fun x H'=>H'=upd H9 D (.lst (ys++[v]))) I9 rfl (.cons r9 .nil) ⟨D,ys,v,rfl,rfl,d9,hlen,rfl⟩
    rw [p1,p2,p4,p6] at a10
    refine thn a10 fun _ s10 ⟨_,H10,I10,_,e10⟩=>?_
    subst e10
    obtain⟨b1,b2,b3⟩:=back I10
    exact⟨m',hm,i+1,_,σ7,_,b1,b2,b3,q0f,w9⟩
 refine codeAny_compStart_list (loop _ rfl) ?_
 exact T.self _ 0 _ _ _ st0 (loop _ rfl)
theorem q3u (O:CompOk X scope NB n fr) (hc:X.calm=true) (hi:PI X tg iter wi)
  (hg:∀ cl C fp s H,PG (cxB X NB scope cl C fp s H) tg g) (ht:∀ cl C fp s H,j4d (cxB X NB scope cl C fp s H) ifs tt) (he:∀ cl C fp s H,PE (cxB X NB scope cl C fp s H) elt te)
  (hs:∀ x,foldedSetIterable iter X.env x=pure x:=by intro _; rfl):PE X (.ListComp elt [⟨tg,iter,ifs,0⟩] scope pos) (z8t n fr wi g tt te):=by
 intro pins s σ H Q I h
 rw [eval_ListComp]
 exact x9z (QQ:=EP X pins σ Q) O hc hi hg ht he hs I h fun D C H' s' m hn J h1 h2 h3 h4 h5 q=>⟨m,hn,fun h' sb=>⟨.ref D,H',J.but h1 h2 h3 h4 h5 sb,rfl,q⟩⟩
theorem z0s {i:Nat} {x:Str} {py spos:Pos} (hN:X.N.Nodup) (hi1:X.N[i]? = some x) (hx:Loc X.env.scope x) (O:CompOk X scope NB n fr) (hc:X.calm=true) (hi:PI X tg iter wi)
  (hg:∀ cl C fp s H,PG (cxB X NB scope cl C fp s H) tg g) (ht:∀ cl C fp s H,j4d (cxB X NB scope cl C fp s H) ifs tt) (he:∀ cl C fp s H,PE (cxB X NB scope cl C fp s H) elt te)
  (hs:∀ x,foldedSetIterable iter X.env x=pure x:=by intro _; rfl) (hsw:swapsWith (.ListComp elt [⟨tg,iter,ifs,0⟩] scope pos) (some (.Name x py)) spos.line X.env=pure true:=by rfl)
  (hf:X.fn x=true∨X.env.scope.names.lookup x=some .local:=by first | exact .inl rfl | exact .inr rfl | assumption) :
  PS X (.Assign [.Name x py] (.ListComp elt [⟨tg,iter,ifs,0⟩] scope pos) spos) (w1y (z8t n fr wi g tt te) (z9c i)):=by
 intro pins s σ H D I h
 rw [exec_Assign_Name_used _ _ _ _ hsw]
 refine wpAny_bind (wpAny_standAt (wpAny_bind ?_))
 show wpAny _ X.A (do let _←comprehension (.ListComp elt [⟨tg,iter,ifs,0⟩] scope pos) scope X.env _ (newList []) false (eval iter X.env) (some (assign (.Name x py) X.env))) _ _ s
 refine wpAny_bind (wpAny_mono (x9z (QQ:=fun _ s'=>SP X pins D .next s') (use:=some (assign (.Name x py) X.env)) O hc hi hg ht he hs I h fun D1 C H' s' m hn J h1 h2 h3 h4 h5 q=>?_) (fun _ s' hq=>wpAny_pure (wpAny_pure hq)) fun _ _ e=>e)
 show wpAny _ X.A (assign (.Name x py) X.env (.ref D1)) _ _ _
 refine wpAny_assign_Name (z0c (v:=.ref D1) J hN hi1 hx rfl (fun s2 J2 ⟨a,sb,ha⟩=>?_) hf)
 refine⟨m,hn.sameBut sb ?_,fun h' sb2=>⟨_,H',J2.but h1 h2 h3 h4 h5 sb2,q⟩⟩
 rcases ha with e | e
 ·rw [e]; exact h3
 ·exact Ne.symm (h4 _ _ e)
end
noncomputable def Src (t:Bool) (h:Heap) (it l:Addr) (xs:Array Value) (k:Nat):Prop:=match t with
 | true=>h.IsTupleIter it l k∧h.IsTuple l xs
 | false=>h.IsListIter it l k∧h.IsList l xs
theorem Src.keep {t:Bool} {h h':Heap} {it l:Addr} {xs:Array Value} {k:Nat} (x:Src t h it l xs k) (a:∀ o,h.get? it=some o→h'.get? it=some o) (b:∀ o,h.get? l=some o→h'.get? l=some o):Src t h' it l xs k:=by
 cases t with
 | true=>obtain⟨⟨o,h1,r1⟩,⟨o2,h2,r2⟩⟩:=x; exact⟨⟨o,a o h1,r1⟩,⟨o2,b o2 h2,r2⟩⟩
 | false=>obtain⟨⟨o,h1,r1⟩,⟨o2,h2,r2⟩⟩:=x; exact⟨⟨o,a o h1,r1⟩,⟨o2,b o2 h2,r2⟩⟩
section
variable {prog:Program} {w:World} {A:Around} {E:Value→Shared→Prop} {st:Shared}
theorem j3w {it l:Addr} {i:Nat} {its:Array Value} {x:Value} {Q:Value→Shared→Prop} (hit:st.heap.IsTupleIter it l i) (hl:st.heap.IsTuple l its) (hx:its[i]? = some x)
  (hQ:∀ h',h'.IsTupleIter it l (i+1)→Heap.SameBut it st.heap h'→Q x { st with heap:=h' }):wpAny (model prog w) A (Builtin.SmallTypes.nextOf (.ref it)) Q E st:=by
 obtain⟨o,ho,hc,hd⟩:=id hit
 obtain⟨o2,ho2,_,n2,hd2⟩:=hl
 unfold Builtin.SmallTypes.nextOf
 refine wpAny_bind (wpAny_callSpecial?_slot (name:=Str.ofString "__next__") hit.typeIs F.slot_tuple_iterator_next (wpAny_call_entry F.slot_tuple_iterator_next hit.typeIs F.entry_tuple_iterator_next ?_ (F.args_tuple_iterator_next_1 _)))
 show wpAny _ A.in1 (field (.ref it) 0 >>= _) _ _ st
 refine wpAny_bind (wpAny_field ho hd (x:=.ref l) rfl ?_)
 show wpAny _ A.in1 (if (Value.ref l==Value.none)=true then _ else _) _ _ st
 rw [if_neg (fun z:(Value.ref l==Value.none)=true=>Bool.false_ne_true z)]
 show wpAny _ A.in1 (field (.ref it) 1 >>= _) _ _ st
 refine wpAny_bind (wpAny_field (x:=.int i 0) ho hd rfl ?_)
 show wpAny _ A.in1 (seqItems? (.ref l) >>= _) _ _ st
 refine wpAny_bind (wpAny_seqItems ho2 hd2 ?_)
 simp only [Int.toNat_natCast,hx]
 refine wpAny_bind (wpAny_setField ho hd (by simp) (wpAny_pure ⟨x,rfl,wpAny_pure (hQ _ ⟨_,Heap.get?_update_self _ ho (Obj.isFreed_of_fields (Obj.data_mapFields hd _)),(Obj.cls_mapFields ..).trans hc,?_⟩ (Heap.SameBut.update ..))⟩))
 rw [Obj.data_mapFields hd]; simp [rawInt]
theorem x8m {it l:Addr} {i:Nat} {its:Array Value} {Q:Value→Shared→Prop} (hh:A.handled=none) (hit:st.heap.IsTupleIter it l i) (hl:st.heap.IsTuple l its) (hx:its[i]? = none)
  (hE:∀ h' e,Heap.ExtBut it st.heap h'→(∃ o,h'.get? e=some o∧o.cls=.type "StopIteration")→E (.ref e) { st with heap:=h' }):wpAny (model prog w) A (Builtin.SmallTypes.nextOf (.ref it)) Q E st:=by
 obtain⟨o,ho,hc,hd⟩:=id hit
 obtain⟨o2,ho2,_,n2,hd2⟩:=hl
 unfold Builtin.SmallTypes.nextOf
 refine wpAny_bind (wpAny_callSpecial?_slot (name:=Str.ofString "__next__") hit.typeIs F.slot_tuple_iterator_next (wpAny_call_entry F.slot_tuple_iterator_next hit.typeIs F.entry_tuple_iterator_next ?_ (F.args_tuple_iterator_next_1 _)))
 show wpAny _ A.in1 (field (.ref it) 0 >>= _) _ _ st
 refine wpAny_bind (wpAny_field ho hd (x:=.ref l) rfl ?_)
 show wpAny _ A.in1 (if (Value.ref l==Value.none)=true then _ else _) _ _ st
 rw [if_neg (fun z:(Value.ref l==Value.none)=true=>Bool.false_ne_true z)]
 show wpAny _ A.in1 (field (.ref it) 1 >>= _) _ _ st
 refine wpAny_bind (wpAny_field (x:=.int i 0) ho hd rfl ?_)
 show wpAny _ A.in1 (seqItems? (.ref l) >>= _) _ _ st
 refine wpAny_bind (wpAny_seqItems ho2 hd2 ?_)
 simp only [Int.toNat_natCast,hx]
 refine wpAny_bind (wpAny_rule (wpAny_bind (wpAny_setField ho hd (by simp) (wpAny_bind ?_))))
 show wpAny _ A.in1 (newExc (.type "StopIteration") []) _ _ _
 simp only [newTuple,newExc]
 refine wpAny_bind (wpAny_newObj_type (wpAny_bind (m:=firstArgMember _ _) (wpAny_of_eq (a:=Value.none) (by first | rfl | (simp only [firstArgMember]; rfl)) (wpAny_newObj_type ?_ (by size_fits)))) (by size_fits))
 simp only [raiseNew]
 refine wpAny_bind (wpAny_handled ?_)
 first | rw [hh] | rw [show A.in1.handled=none from hh]
 exact wpAny_bind (wpAny_pure (wpAny_throw (hE _ _ (((Heap.SameBut.update ..).extBut.push _).push _) ⟨_,Heap.get?_push_size _ rfl,rfl⟩)))
theorem Src.draw {t:Bool} {it l:Addr} {i:Nat} {its:Array Value} {x:Value} {Q:Value→Shared→Prop} (S:Src t st.heap it l its i) (hne:l≠it) (hx:its[i]? = some x)
  (hQ:∀ h',Src t h' it l its (i+1)→Heap.SameBut it st.heap h'→Q x { st with heap:=h' }):wpAny (model prog w) A (Builtin.SmallTypes.nextOf (.ref it)) Q E st:=by
 cases t with
 | true=>exact j3w S.1 S.2 hx fun h' a b=>hQ h' ⟨a,S.2.extBut b.extBut hne⟩ b
 | false=>exact wpAny_nextOf_list_item S.1 S.2 hx fun h' a b=>hQ h' ⟨a,S.2.extBut b.extBut hne⟩ b
theorem Src.none {t:Bool} {it l:Addr} {i:Nat} {its:Array Value} {Q:Value→Shared→Prop} (hh:A.handled=none) (S:Src t st.heap it l its i) (hx:its[i]? = none)
  (hE:∀ h' e,Heap.ExtBut it st.heap h'→(∃ o,h'.get? e=some o∧o.cls=.type "StopIteration")→E (.ref e) { st with heap:=h' }):wpAny (model prog w) A (Builtin.SmallTypes.nextOf (.ref it)) Q E st:=by
 cases t with
 | true=>exact x8m hh S.1 S.2 hx hE
 | false=>exact wpAny_nextOf_list_end hh S.1 S.2 hx hE
structure Apart (z TI TO i1 i2 l1 l2:Addr):Prop where
 a:TI≠z∧TO≠z∧i1≠z∧i2≠z
 b:TI≠TO∧TI≠i1∧TI≠i2∧TO≠i1∧TO≠i2∧i1≠i2
 c:l1≠z∧l1≠TO∧l1≠i1∧l1≠i2
 d:l2≠z∧l2≠TO∧l2≠i1∧l2≠i2
theorem j4m {z TI TO i1 i2 l1 l2:Addr} {t1 t2:Bool} {k:Nat} {xs ys:Array Value} {x y a b:Value} {Q:Value→Shared→Prop} (D:Apart z TI TO i1 i2 l1 l2)
  (hz:IsZip st.heap z TI TO .none) (hTI:IsPair st.heap TI (.ref i1) (.ref i2)) (hTO:IsPair st.heap TO a b)
  (h1:Src t1 st.heap i1 l1 xs k) (h2:Src t2 st.heap i2 l2 ys k) (hx:xs[k]? = some x) (hy:ys[k]? = some y)
  (hQ:∀ h',IsZip h' z TI TO (rawInt st.heap.objs.size)→IsPair h' TO x y→Src t1 h' i1 l1 xs (k+1)→Src t2 h' i2 l2 ys (k+1)→IsPair h' st.heap.objs.size x y →
   (∀ c o,c≠z→c≠TO→c≠i1→c≠i2→st.heap.get? c=some o→h'.get? c=some o)→Q (.ref st.heap.objs.size) { st with heap:=h' }) :
  wpAny (model prog w) A (Builtin.«zip.__next__» ⟨[.ref z],[]⟩) (fun fin s'=>∃ v,fin=.done (.ret v)∧Q v s') E st:=by
 obtain⟨⟨d1,d2,d3,d4⟩,⟨d5,d6,d7,d8,d9,d10⟩,⟨d11,d12,d13,d14⟩,⟨d15,d16,d17,d18⟩⟩:=D
 show wpAny _ A (field (.ref z) 2 >>= _) _ _ st
 refine wpAny_bind (wpAny_field (x:=.bool false) hz rfl rfl ?_)
 show wpAny _ A (field (.ref z) 3 >>= _) _ _ st
 refine wpAny_bind (wpAny_field (x:=.ref TI) hz rfl rfl (wpAny_bind (wpAny_seqItems hTI rfl ?_)))
 show wpAny _ A (Builtin.SmallTypes.ownedTupleIsFree (.ref z) >>= _) _ _ st
 refine wpAny_bind ?_
 unfold Builtin.SmallTypes.ownedTupleIsFree
 refine wpAny_bind (wpAny_field (x:=.none) hz rfl rfl (wpAny_pure ?_))
 simp only [if_true]
 refine wpAny_bind (wpAny_rule (wpAny_bind (wpAny_field (x:=.ref TO) hz rfl rfl (wpAny_bind (wpAny_setField_rec hz (by simp) fun g1 z1 b1=>?_)))))
 replace z1:IsZip g1 z TI TO .ellipsis:=z1
 refine wpAny_bind ?_
 simp only [List.zipIdx_nil,List.zipIdx_cons,List.forIn_nil,List.forIn_cons]
 refine wpAny_bind (wpAny_bind (wpAny_onRaise ?_))
 show wpAny _ A (Builtin.SmallTypes.nextOf (.ref i1) >>= _) _ _ _
 have s1:Src t1 g1 i1 l1 xs k:=h1.keep (fun o e=>b1.extBut _ o d3 e) (fun o e=>b1.extBut _ o d11 e)
 refine wpAny_bind (Src.draw (st:={ st with heap:=g1 }) s1 d13 hx fun g2 s2 b2=>wpAny_pure ?_)
 have p2:IsPair g2 TO a b:=b2.extBut _ _ d8 (b1.extBut _ _ d2 hTO)
 refine wpAny_bind (wpAny_seqItems p2 rfl (wpAny_bind (wpAny_updateSeq_pair p2 fun g3 p3 b3=>?_)))
 replace p3:IsPair g3 TO x b:=p3
 refine wpAny_bind (wpAny_letGo (wpAny_pure ?_))
 refine wpAny_bind (wpAny_bind (wpAny_onRaise ?_))
 show wpAny _ A (Builtin.SmallTypes.nextOf (.ref i2) >>= _) _ _ _
 have s3:Src t2 g3 i2 l2 ys k:=h2.keep (fun o e=>b3.extBut _ o d9.symm (b2.extBut _ o d10.symm (b1.extBut _ o d4 e))) (fun o e=>b3.extBut _ o d16 (b2.extBut _ o d17 (b1.extBut _ o d15 e)))
 refine wpAny_bind (Src.draw (st:={ st with heap:=g3 }) s3 d18 hy fun g4 s4 b4=>wpAny_pure ?_)
 have p4:IsPair g4 TO x b:=b4.extBut _ _ d9 p3
 refine wpAny_bind (wpAny_seqItems p4 rfl (wpAny_bind (wpAny_updateSeq_pair p4 fun g5 p5 b5=>?_)))
 replace p5:IsPair g5 TO x y:=p5
 refine wpAny_bind (wpAny_letGo (wpAny_pure (wpAny_pure ?_)))
 refine wpAny_bind (wpAny_seqItems p5 rfl (wpAny_bind (wpAny_newTuple ?_)))
 have sz:g5.objs.size=st.heap.objs.size:=by rw [b5.1,b4.1,b3.1,b2.1,b1.1]
 have z5:IsZip g5 z TI TO .ellipsis:=b5.extBut _ _ d2.symm (b4.extBut _ _ d4.symm (b3.extBut _ _ d2.symm (b2.extBut _ _ d3.symm z1)))
 have kp:∀ c o,c≠z→c≠TO→c≠i1→c≠i2→st.heap.get? c=some o→g5.get? c=some o:=fun c o c1 c2 c3 c4 e=>b5.extBut _ _ c2 (b4.extBut _ _ c4 (b3.extBut _ _ c2 (b2.extBut _ _ c3 (b1.extBut _ _ c1 e))))
 have s5:Src t1 g5 i1 l1 xs (k+1):=s2.keep (fun o e=>b5.extBut _ o d8.symm (b4.extBut _ o d10 (b3.extBut _ o d8.symm e))) (fun o e=>b5.extBut _ o d12 (b4.extBut _ o d14 (b3.extBut _ o d12 e)))
 have r5:Src t2 g5 i2 l2 ys (k+1):=s4.keep (fun o e=>b5.extBut _ o d9.symm e) (fun o e=>b5.extBut _ o d16 e)
 have zlt:z < g5.objs.size:=Heap.lt_size z5
 show wpAny _ A (Builtin.SmallTypes.ownedTupleHandOut (.ref z) (.ref g5.objs.size) >>= _) _ _ _
 refine wpAny_bind ?_
 unfold Builtin.SmallTypes.ownedTupleHandOut
 have z6:IsZip (g5.push { cls:=.type "tuple",data:=.seq #[x,y] }) z TI TO .ellipsis:=Heap.get?_push_of_some _ z5
 refine wpAny_bind (wpAny_setField_rec z6 (by simp) fun g7 z7 b7=>?_)
 replace z7:IsZip g7 z TI TO (rawInt g5.objs.size):=z7
 refine wpAny_setField_rec z7 (by simp) fun g8 z8 b8=>?_
 replace z8:IsZip g8 z TI TO (rawInt g5.objs.size):=z8
 have up:∀ c o,c≠z→g5.get? c=some o→g8.get? c=some o:=fun c o c1 e=>b8.extBut _ _ c1 (b7.extBut _ _ c1 (Heap.get?_push_of_some _ e))
 have t8:IsPair g8 g5.objs.size x y:=b8.extBut _ _ (Nat.ne_of_gt zlt) (b7.extBut _ _ (Nat.ne_of_gt zlt) (Heap.get?_push_size _ rfl))
 rw [sz] at z8 t8
 refine wpAny_pure ⟨_,rfl,?_⟩
 show Q (.ref g5.objs.size) _
 rw [sz]
 exact hQ g8 z8 (up _ _ d2 p5) (s5.keep (fun o e=>up _ o d3 e) fun o e=>up _ o d11 e) (r5.keep (fun o e=>up _ o d4 e) fun o e=>up _ o d15 e) t8 fun c o c1 c2 c3 c4 e=>up c o c1 (kp c o c1 c2 c3 c4 e)
theorem j6w {z TI TO i1 i2 l1 l2:Addr} {t1 t2:Bool} {k:Nat} {xs ys:Array Value} {a b:Value} {Q:Fin→Shared→Prop} (hh:A.handled=none) (D:Apart z TI TO i1 i2 l1 l2)
  (hz:IsZip st.heap z TI TO .none) (hTI:IsPair st.heap TI (.ref i1) (.ref i2)) (hTO:IsPair st.heap TO a b)
  (h1:Src t1 st.heap i1 l1 xs k) (h2:Src t2 st.heap i2 l2 ys k) (hend:xs[k]? = none∨ys[k]? = none)
  (hE:∀ h' e,(∀ c o,c≠z→c≠TO→c≠i1→c≠i2→st.heap.get? c=some o→h'.get? c=some o)→(∃ o,h'.get? e=some o∧o.cls=.type "StopIteration")→E (.ref e) { st with heap:=h' }) :
  wpAny (model prog w) A (Builtin.«zip.__next__» ⟨[.ref z],[]⟩) Q E st:=by
 obtain⟨⟨d1,d2,d3,d4⟩,⟨d5,d6,d7,d8,d9,d10⟩,⟨d11,d12,d13,d14⟩,⟨d15,d16,d17,d18⟩⟩:=D
 show wpAny _ A (field (.ref z) 2 >>= _) _ _ st
 refine wpAny_bind (wpAny_field (x:=.bool false) hz rfl rfl ?_)
 show wpAny _ A (field (.ref z) 3 >>= _) _ _ st
 refine wpAny_bind (wpAny_field (x:=.ref TI) hz rfl rfl (wpAny_bind (wpAny_seqItems hTI rfl ?_)))
 show wpAny _ A (Builtin.SmallTypes.ownedTupleIsFree (.ref z) >>= _) _ _ st
 refine wpAny_bind ?_
 unfold Builtin.SmallTypes.ownedTupleIsFree
 refine wpAny_bind (wpAny_field (x:=.none) hz rfl rfl (wpAny_pure ?_))
 simp only [if_true]
 refine wpAny_bind (wpAny_rule (wpAny_bind (wpAny_field (x:=.ref TO) hz rfl rfl (wpAny_bind (wpAny_setField_rec hz (by simp) fun g1 z1 b1=>?_)))))
 replace z1:IsZip g1 z TI TO .ellipsis:=z1
 refine wpAny_bind ?_
 simp only [List.zipIdx_nil,List.zipIdx_cons,List.forIn_nil,List.forIn_cons]
 refine wpAny_bind (wpAny_bind (wpAny_onRaise ?_))
 show wpAny _ A (Builtin.SmallTypes.nextOf (.ref i1) >>= _) _ _ _
 have s1:Src t1 g1 i1 l1 xs k:=h1.keep (fun o e=>b1.extBut _ o d3 e) (fun o e=>b1.extBut _ o d11 e)
 cases hx:xs[k]? with
 | none =>
  refine wpAny_bind (Src.none (st:={ st with heap:=g1 }) hh s1 hx fun g2 e b2 he=>?_)
  obtain⟨oe,hoe,hce⟩:=he
  have z2:IsZip g2 z TI TO .ellipsis:=b2 _ _ d3.symm z1
  have ez:e≠z:=fun q=>by subst q; rw [z2] at hoe; cases hoe; simp at hce
  refine wpAny_setField_rec z2 (by simp) fun g3 _ b3=>hE g3 e (fun c o c1 _ c3 _ q=>b3.extBut _ _ c1 (b2 _ _ c3 (b1.extBut _ _ c1 q))) ⟨oe,b3.extBut _ _ ez hoe,hce⟩
 | some x =>
  have hy:ys[k]? = none:=by rcases hend with h | h; rw [hx] at h; cases h; exact h
  refine wpAny_bind (Src.draw (st:={ st with heap:=g1 }) s1 d13 hx fun g2 s2 b2=>wpAny_pure ?_)
  have p2:IsPair g2 TO a b:=b2.extBut _ _ d8 (b1.extBut _ _ d2 hTO)
  refine wpAny_bind (wpAny_seqItems p2 rfl (wpAny_bind (wpAny_updateSeq_pair p2 fun g3 p3 b3=>?_)))
  refine wpAny_bind (wpAny_letGo (wpAny_pure ?_))
  refine wpAny_bind (wpAny_bind (wpAny_onRaise ?_))
  show wpAny _ A (Builtin.SmallTypes.nextOf (.ref i2) >>= _) _ _ _
  have s3:Src t2 g3 i2 l2 ys k:=h2.keep (fun o e=>b3.extBut _ o d9.symm (b2.extBut _ o d10.symm (b1.extBut _ o d4 e))) (fun o e=>b3.extBut _ o d16 (b2.extBut _ o d17 (b1.extBut _ o d15 e)))
  refine wpAny_bind (Src.none (st:={ st with heap:=g3 }) hh s3 hy fun g4 e b4 he=>?_)
  obtain⟨oe,hoe,hce⟩:=he
  have z4:IsZip g4 z TI TO .ellipsis:=b4 _ _ d4.symm (b3.extBut _ _ d2.symm (b2.extBut _ _ d3.symm z1))
  have ez:e≠z:=fun q=>by subst q; rw [z4] at hoe; cases hoe; simp at hce
  refine wpAny_setField_rec z4 (by simp) fun g5 _ b5=>hE g5 e (fun c o c1 c2 c3 c4 q=>b5.extBut _ _ c1 (b4 _ _ c4 (b3.extBut _ _ c2 (b2.extBut _ _ c3 (b1.extBut _ _ c1 q))))) ⟨oe,b5.extBut _ _ ez hoe,hce⟩
end
section
noncomputable def SqK (t:Bool) (h:Heap) (l:Addr) (xs:Array Value):Prop:=match t with
 | true=>h.IsTuple l xs
 | false=>h.IsList l xs
noncomputable def z7p (t:Bool) (l:Addr):Obj:={ cls:=.type (if t then "tuple_iterator" else "list_iterator"),data:=.fields #[.ref l,.int 0 0] }
theorem SqK.push {t:Bool} {h:Heap} {l:Addr} {xs:Array Value} (x:SqK t h l xs) (o:Obj):SqK t (h.push o) l xs:=by
 cases t with
 | true=>exact Heap.IsTuple.push x o
 | false=>exact Heap.IsList.push x o
theorem Src.new {t:Bool} {h:Heap} {it l:Addr} {xs:Array Value} (e:h.get? it=some (z7p t l)) (q:SqK t h l xs):Src t h it l xs 0:=by
 cases t with
 | true=>exact⟨⟨_,e,rfl,rfl⟩,q⟩
 | false=>exact⟨⟨_,e,rfl,rfl⟩,q⟩
variable {prog:Program} {w:World} {A:Around} {E:Value→Shared→Prop} {st:Shared}
theorem j0g {t:Bool} {l:Addr} {its:Array Value} {Q:Value→Shared→Prop} (hl:SqK t st.heap l its) (hQ:Q (.ref st.heap.objs.size) { st with heap:=st.heap.push (z7p t l) }):wpAny (model prog w) A (pyIter (.ref l)) Q E st:=by
 cases t with
 | true=>exact wpAny_pyIter_tuple hl hQ
 | false=>exact wpAny_pyIter_list hl hQ
noncomputable abbrev zp1 (h:Heap) (t1:Bool) (l1:Addr):Heap:=h.push (z7p t1 l1)
noncomputable abbrev zp2 (h:Heap) (t1 t2:Bool) (l1 l2:Addr):Heap:=(zp1 h t1 l1).push (z7p t2 l2)
noncomputable abbrev zp3 (h:Heap) (t1 t2:Bool) (l1 l2:Addr):Heap:=(zp2 h t1 t2 l1 l2).push { cls:=.type "tuple",data:=.seq #[.ref h.objs.size,.ref (zp1 h t1 l1).objs.size] }
noncomputable abbrev zp4 (h:Heap) (t1 t2:Bool) (l1 l2:Addr):Heap:=(zp3 h t1 t2 l1 l2).push { cls:=.type "tuple",data:=.seq #[.none,.none] }
noncomputable abbrev zp5 (h:Heap) (t1 t2:Bool) (l1 l2:Addr):Heap:=(zp4 h t1 t2 l1 l2).push { cls:=.type "zip",data:=.fields #[.none,.bool false,.bool false,.ref (zp2 h t1 t2 l1 l2).objs.size,.ref (zp3 h t1 t2 l1 l2).objs.size] }
theorem z6h (t1 t2:Bool) (l1 l2:Addr) (xs ys:Array Value) :
  Meets (Builtin.«zip.__new__» ⟨[.type "zip",.ref l1,.ref l2],[]⟩) (fun _ R s=>SqK t1 s.heap l1 xs∧SqK t2 s.heap l2 ys∧R (.ok (.ret (.ref (zp4 s.heap t1 t2 l1 l2).objs.size))) { s with heap:=zp5 s.heap t1 t2 l1 l2 }) :=
 .of_wp fun prog w A R s h=>by
  obtain⟨hp,g,d,tk,os⟩:=s
  obtain⟨q1,q2,h⟩:=h
  have hsub:=sub_zip
  have r1:SqK t1 (Shared.heap ⟨hp,g,d,tk,os⟩) l1 xs:=q1
  have r2:SqK t2 (Shared.heap ⟨hp.push (z7p t1 l1),g,d,tk,os⟩) l2 ys:=q2.push _
  wp_walk using j0g r1,j0g r2
  exact⟨_,rfl,h⟩
theorem z7r {t1 t2:Bool} {l1 l2:Addr} {xs ys:Array Value} {Q:Value→Shared→Prop} (q1:SqK t1 st.heap l1 xs) (q2:SqK t2 st.heap l2 ys)
  (h:∀ h',IsZip h' (st.heap.objs.size+4) (st.heap.objs.size+2) (st.heap.objs.size+3) .none→IsPair h' (st.heap.objs.size+2) (.ref st.heap.objs.size) (.ref (st.heap.objs.size+1)) →
   IsPair h' (st.heap.objs.size+3) .none .none→Src t1 h' st.heap.objs.size l1 xs 0→Src t2 h' (st.heap.objs.size+1) l2 ys 0 →
   (∀ c o,st.heap.get? c=some o→h'.get? c=some o)→Q (.ref (st.heap.objs.size+4)) { st with heap:=h' }) :
  wpAny (model prog w) A (call (.type "zip") [.ref l1,.ref l2]) Q E st:=by
 refine callType_new F.called_zip (by decide) (F.typeCall_zip_2 _ _) (F.newCall_zip_2 _ _) (fun obj=>F.args_object_init_3 obj _ _) F.entry_zip_new (z6h t1 t2 l1 l2 xs ys) ⟨q1,q2,?_⟩
 have n1:(zp1 st.heap t1 l1).objs.size=st.heap.objs.size+1:=Heap.size_push ..
 have n2:(zp2 st.heap t1 t2 l1 l2).objs.size=st.heap.objs.size+2:=by rw [Heap.size_push,n1]
 have n3:(zp3 st.heap t1 t2 l1 l2).objs.size=st.heap.objs.size+3:=by rw [Heap.size_push,n2]
 have n4:(zp4 st.heap t1 t2 l1 l2).objs.size=st.heap.objs.size+4:=by rw [Heap.size_push,n3]
 have g5:(zp5 st.heap t1 t2 l1 l2).get? (zp4 st.heap t1 t2 l1 l2).objs.size=some _:=Heap.get?_push_size _ rfl
 have g4:(zp5 st.heap t1 t2 l1 l2).get? (zp3 st.heap t1 t2 l1 l2).objs.size=some _:=Heap.get?_push_of_some _ (Heap.get?_push_size _ rfl)
 have g3:(zp5 st.heap t1 t2 l1 l2).get? (zp2 st.heap t1 t2 l1 l2).objs.size=some _:=Heap.get?_push_of_some _ (Heap.get?_push_of_some _ (Heap.get?_push_size _ rfl))
 have g2:(zp5 st.heap t1 t2 l1 l2).get? (zp1 st.heap t1 l1).objs.size=some _:=Heap.get?_push_of_some _ (Heap.get?_push_of_some _ (Heap.get?_push_of_some _ (Heap.get?_push_size _ rfl)))
 have g1:(zp5 st.heap t1 t2 l1 l2).get? st.heap.objs.size=some _:=Heap.get?_push_of_some _ (Heap.get?_push_of_some _ (Heap.get?_push_of_some _ (Heap.get?_push_of_some _ (Heap.get?_push_size _ rfl))))
 show _∧_
 rw [n2,n3,n4] at g5
 rw [n1,n2] at g3
 rw [n3] at g4
 rw [n1] at g2
 rw [n4]
 exact⟨⟨_,g5,rfl⟩,h _ g5 g3 g4 (Src.new g1 ((((q1.push _).push _).push _).push _ |>.push _)) (Src.new g2 ((((q2.push _).push _).push _).push _ |>.push _)) fun c o x =>
  Heap.get?_push_of_some _ (Heap.get?_push_of_some _ (Heap.get?_push_of_some _ (Heap.get?_push_of_some _ (Heap.get?_push_of_some _ x))))⟩
end
noncomputable def Its (x:Str):It:=⟨fun i _=>i < x.cps.size,fun i H v H'=>H'=H∧∃ c,x.cps[i]? = some c∧v=.str ⟨#[c]⟩,fun i _=>i=x.cps.size⟩
theorem z0d {P:Program} {w:World} {K:Frag} {y:Str} {pos:Pos} (it:Addr) (x:Str) (t:Tok) (nm:String)
  (W:∀ A':Around,A'.handled=none→Walks P w A' it [it] [it] x.cps.size (SignAt x) (fun i h=>h.IsStrIter it nm x t i))
  (self:∀ (A:Around) (i:Nat) (s:Shared) (Q:Value→Shared→Prop) (E:Value→Shared→Prop),s.heap.IsStrIter it nm x t i→Q (.ref it) s→wpAny (model P w) A (pyIter (.ref it)) Q E s) :
  Turn P w K (.Name y pos) (Its x) [it] it (fun i h=>h.IsStrIter it nm x t i) where
 mem:=by simp
 obj:=fun i h st b hb=>by
  have e:b=it:=by simpa using hb
  subst e
  obtain⟨o,e,c,d⟩:=st
  exact⟨o,e,fun v z=>by rw [d] at z; cases z⟩
 keep:=fun i h h' st k=>let ⟨o,ho,r⟩:=st; ⟨o,k it (by simp) o ho,r⟩
 item:=by
  intro X hP hw hK hc i pins s σ H E I hf st hg
  subst hP hw hK
  obtain⟨f0,f1,f2,f3,f4,f5⟩:=hf it (by simp)
  refine (W X.A (I.ok.hd hc)).item i s _ _ hg st fun v h' tk hv st' kk=>?_
  obtain⟨c,u,hcc,rfl⟩:=hv
  have I1:Inv X pins σ H { s with heap:=h',toks:=tk }:=I.turned (fun b o hb e=>kk b o (by simpa using hb) e) f0 f1 f3 f4 f5
  exact⟨_,rfl,wpAny_pure ⟨.str ⟨#[c]⟩,H,I1,⟨u,rfl⟩,⟨rfl,c,hcc,rfl⟩,st',fun b hb=>(hf b hb).1⟩⟩
 done:=by
  intro X hP hw hK hc i pins s σ H E I hf st hg
  subst hP hw hK
  have hg':i=x.cps.size:=hg
  subst hg'
  obtain⟨f0,f1,f2,f3,f4,f5⟩:=hf it (by simp)
  exact (W X.A (I.ok.hd hc)).done s _ _ st fun h' tk kk=>⟨rfl,I.turned (t':=tk) (fun b o hb e=>kk b o (by simpa using hb) e) f0 f1 f3 f4 f5⟩
 self:=self
noncomputable def w5i (te:TE):TI:=fun σ H R=>te σ H fun v H1=>∃ x,v=.str x∧R (Its x) H1
theorem z9j {X:Cx} {l:Expr} {te:TE} {y:Str} {p:Pos} (hl:PE X l te):PI X (.Name y p) l (w5i te):=by
 intro pins s σ H R I h
 refine thn (hl pins s σ H _ I h) fun v s1 ⟨z,H1,I1,r1,q1⟩=>?_
 obtain⟨x,e,q⟩:=q1
 subst e
 obtain⟨t,rfl⟩:=r1
 have fp:∀ b∈[s1.heap.objs.size],z6o X pins H1 b:=fun b hb=>by
  have e:b=s1.heap.objs.size:=by simpa using hb
  subst e
  exact I1.fpOk (Nat.le_refl _) (I1.hok.fresh (Nat.le_refl _))
 cases ha:x.cps.all (· < 128)
 ·exact wpAny_pyIter_wide ha ⟨s1.heap.objs.size,[s1.heap.objs.size],_,_,H1,rfl,I1.kept (t':=s1.toks) fun b o e=>Heap.get?_push_of_some _ e,
   z0d _ x t "str_iterator" (fun A' hA=>Walks.strWide hA _ x t) (fun _ _ _ _ _ st h=>wpAny_pyIter_striter_wide st h),⟨_,Heap.get?_push_size _ rfl,rfl,rfl⟩,fp,q⟩
 ·exact wpAny_pyIter_ascii ha ⟨s1.heap.objs.size,[s1.heap.objs.size],_,_,H1,rfl,I1.kept (t':=s1.toks) fun b o e=>Heap.get?_push_of_some _ e,
   z0d _ x t "str_ascii_iterator" (fun A' hA=>Walks.strAscii hA _ x t) (fun _ _ _ _ _ st h=>wpAny_pyIter_striter_ascii st h),⟨_,Heap.get?_push_size _ rfl,rfl,rfl⟩,fp,q⟩
noncomputable def SqB (t:Bool) (K:Frag) (H:Hp) (a:Addr) (xs:List V):Prop:=match t with
 | true=>SqT K H a xs
 | false=>SqL K H a xs
section
variable {X:Cx} {pins:List (Addr × Obj)} {σ:St} {H:Hp} {s:Shared}
theorem Inv.sq {t:Bool} {a:Addr} {xs:List V} (I:Inv X pins σ H s) (h:SqB t X.K H a xs):∃ its:List Value,q4l xs its∧SqK t s.heap a its.toArray∧xs.length≤sizeLine:=by
 cases t with
 | true=>obtain⟨its,r,p,z⟩:=I.tuple h; exact⟨its,r,p,z⟩
 | false=>obtain⟨its,r,p,z⟩:=I.list h; exact⟨its,r,p.isList,z⟩
theorem Inv.sq_inj {t:Bool} {a:Addr} {xs ys:List V} (I:Inv X pins σ H s) (h:SqB t X.K H a xs) (h':SqB t X.K H a ys):xs=ys:=by
 cases t with
 | true=>exact I.tuple_inj h h'
 | false=>exact I.list_inj h h'
theorem Inv.sq_ne {t:Bool} {a b:Addr} {xs:List V} (I:Inv X pins σ H s) (h:SqB t X.K H a xs) (f:z6o X pins H b):a≠b:=by
 intro z
 subst z
 obtain⟨f0,_,_,f3,_⟩:=f
 have nob:∀ o,X.base.get? a=some o→False:=fun o e=>by
  rcases f3 with q | q
  ·exact I.ok.noex a o e q
  ·exact absurd (Nat.lt_of_lt_of_le (Heap.lt_size e) (Nat.le_trans I.ok.bsz q)) (Nat.lt_irrefl _)
 cases t with
 | true =>
  rcases (show SqT X.K H a xs from h) with (q | ⟨o,q⟩) | q
  ·rw [f0] at q; cases q
  ·rw [f0] at q; cases q
  ·obtain⟨o,q⟩:=q
   first
    | exact nob _ (I.mod.kin a o q.1)
    | (obtain⟨_,_,q,_⟩:=q; exact nob _ (I.mod.kin a _ q))
    | (obtain⟨_,q,_⟩:=q; exact nob _ (I.mod.kin a _ q))
 | false =>
  rcases (show SqL X.K H a xs from h) with (q | ⟨o,q⟩) | q
  ·rw [f0] at q; cases q
  ·rw [f0] at q; cases q
  ·obtain⟨o,q⟩:=q
   first
    | exact nob _ (I.mod.kin a o q.1)
    | (obtain⟨_,_,q,_⟩:=q; exact nob _ (I.mod.kin a _ q))
    | (obtain⟨_,q,_⟩:=q; exact nob _ (I.mod.kin a _ q))
end
noncomputable def Itz (K:Frag) (t1 t2:Bool) (a b:Addr):It :=
 ⟨fun i H=>∃ xs ys x y,SqB t1 K H a xs∧SqB t2 K H b ys∧xs[i]? = some x∧ys[i]? = some y,
  fun i H v H'=>∃ p x y,v=.ref p∧H p=none∧H'=upd H p (.tup [x,y])∧(∀ xs,SqB t1 K H a xs→xs[i]? = some x)∧∀ ys,SqB t2 K H b ys→ys[i]? = some y,
  fun i H=>∃ xs ys,SqB t1 K H a xs∧SqB t2 K H b ys∧(xs.length≤i∨ys.length≤i)⟩
noncomputable def ItB (t:Bool) (h:Heap) (it l:Addr) (k:Nat):Prop:=match t with
 | true=>h.IsTupleIter it l k
 | false=>h.IsListIter it l k
theorem ItB.src {t:Bool} {h:Heap} {it l:Addr} {k:Nat} {xs:Array Value} (a:ItB t h it l k) (b:SqK t h l xs):Src t h it l xs k:=by cases t <;> exact⟨a,b⟩
theorem Src.it {t:Bool} {h:Heap} {it l:Addr} {k:Nat} {xs:Array Value} (a:Src t h it l xs k):ItB t h it l k:=by cases t <;> exact a.1
theorem ItB.ob {t:Bool} {h:Heap} {it l:Addr} {k:Nat} (a:ItB t h it l k):∃ o,h.get? it=some o∧∀ v,o.data≠.cell v:=by
 cases t <;> (obtain⟨o,e,_,d⟩:=a; exact⟨o,e,fun v z=>by rw [d] at z; cases z⟩)
theorem ItB.keep {t:Bool} {h h':Heap} {it l:Addr} {k:Nat} (a:ItB t h it l k) (e:∀ o,h.get? it=some o→h'.get? it=some o):ItB t h' it l k:=by
 cases t <;> (obtain⟨o,q,r⟩:=a; exact⟨o,e o q,r⟩)
theorem j4q {P:Program} {w:World} {K:Frag} {es:List Expr} {k0:Nat} {tp:Pos} {t1 t2:Bool} {a b z TI TO i1 i2:Addr}
  (D:(TI≠z∧TO≠z∧i1≠z∧i2≠z)∧TI≠TO∧TI≠i1∧TI≠i2∧TO≠i1∧TO≠i2∧i1≠i2) :
  Turn P w K (.Tuple es k0 tp) (Itz K t1 t2 a b) [z,TI,TO,i1,i2] z (fun i h=>IsZip h z TI TO .none∧IsPair h TI (.ref i1) (.ref i2)∧(∃ u v,IsPair h TO u v)∧ItB t1 h i1 a i∧ItB t2 h i2 b i) where
 mem:=by simp
 obj:=fun i h st c hc=>by
  obtain⟨h1,h2,⟨u,v,h3⟩,h4,h5⟩:=st
  simp only [List.mem_cons,List.not_mem_nil,or_false] at hc
  rcases hc with rfl | rfl | rfl | rfl | rfl
  ·exact⟨_,h1,fun v z=>by cases z⟩
  ·exact⟨_,h2,fun v z=>by cases z⟩
  ·exact⟨_,h3,fun v z=>by cases z⟩
  ·exact h4.ob
  ·exact h5.ob
 keep:=fun i h h' st k=>by
  obtain⟨h1,h2,⟨u,v,h3⟩,h4,h5⟩:=st
  exact⟨k z (by simp) _ h1,k TI (by simp) _ h2,⟨u,v,k TO (by simp) _ h3⟩,h4.keep fun o e=>k i1 (by simp) o e,h5.keep fun o e=>k i2 (by simp) o e⟩
 item:=by
  intro X hP hw hK hc i pins s σ H E I hf st hg
  subst hP hw hK
  obtain⟨h1,h2,⟨u,v,h3⟩,h4,h5⟩:=st
  obtain⟨xs,ys,x,y,q1,q2,hx,hy⟩:=hg
  obtain⟨its,r1,p1,_⟩:=I.sq q1
  obtain⟨jts,r2,p2,_⟩:=I.sq q2
  obtain⟨ux,ex,rx⟩:=r1.get hx
  obtain⟨uy,ey,ry⟩:=r2.get hy
  have fz:=hf z (by simp)
  have fTI:=hf TI (by simp)
  have fTO:=hf TO (by simp)
  have f1:=hf i1 (by simp)
  have f2:=hf i2 (by simp)
  have Dd:Apart z TI TO i1 i2 a b:=⟨D.1,D.2,⟨I.sq_ne q1 fz,I.sq_ne q1 fTO,I.sq_ne q1 f1,I.sq_ne q1 f2⟩,⟨I.sq_ne q2 fz,I.sq_ne q2 fTO,I.sq_ne q2 f1,I.sq_ne q2 f2⟩⟩
  have hT:s.TypeIs (.ref z) "zip" := ⟨_,h1,rfl⟩
  unfold pyNext
  refine wpAny_bind (wpAny_attempt (wpAny_callSpecial?_slot (name:=Str.ofString "__next__") hT F.slot_zip_next (wpAny_call_entry F.slot_zip_next hT F.entry_zip_next (j4m Dd h1 h2 h3 (h4.src p1) (h5.src p2) (by simpa using ex) (by simpa using ey) fun h' a1 a2 a3 a4 a5 a6=>wpAny_pure ?_) (F.args_zip_next_1 _))))
  refine⟨_,rfl,wpAny_letOwnedTupleGo_zip a1 fun h2' b1 b2=>?_⟩
  have lt:∀ {c o},s.heap.get? c=some o→s.heap.objs.size≠c:=fun e=>Nat.ne_of_gt (Heap.lt_size e)
  have nz:=lt h1
  have hk:∀ c o,c∉[z,TI,TO,i1,i2]→s.heap.get? c=some o→h2'.get? c=some o:=fun c o hcn e=>by
   simp only [List.mem_cons,List.not_mem_nil,or_false,not_or] at hcn
   exact b2.extBut c o hcn.1 (a6 c o hcn.1 hcn.2.2.1 hcn.2.2.2.1 hcn.2.2.2.2 e)
  have hTI':h2'.get? TI=s.heap.get? TI:=by
   rw [h2]
   exact b2.extBut _ _ D.1.1 (a6 TI _ D.1.1 D.2.1 D.2.2.1 D.2.2.2.1 h2)
  have I1:Inv X pins σ H { s with heap:=h2' }:=by
   refine I.step (g':=s.gens) (d':=s.drawn) (t':=s.toks) (ch:=[z,TI,TO,i1,i2]) (fun c hcm=>?_) (fun c o _ _ hcn e _=>hk c o hcn e) (fun c o _ _ hcn e _=>⟨o.slots,hk c o hcn e⟩) (fun _ _ _ _ n=>n)
    (fun c o hcn e=>⟨o,hk c o hcn e⟩) (fun _ _ e=>e) (fun _ _ _ e=>e) (fun c ps e=>⟨#[],by rw [e]; simp⟩) (fun m hm=>?_) (fun c u' e=>?_) I.bare
   ·obtain⟨_,g1,_,g3,g4,g5⟩:=hf c hcm
    exact⟨g3,g1,g4,g5⟩
   ·obtain⟨o,es',ep,ho,r⟩:=hm
    exact⟨o,es',ep,hk _ o (fun hm'=>(hf _ hm').2.1 rfl) ho,r⟩
   ·have nin:∀ c' u'',H c'=some u''→c'∉[z,TI,TO,i1,i2]:=fun c' u'' e' hm'=>by rw [(hf _ hm').1] at e'; cases e'
    refine (I.hok c u' e).stay (fun c' v' hc' q=>hk c' v' ?_ q) (fun _ q=>q) fun _ _ q=>q
    rcases hc' with rfl | hc'
    ·exact nin _ _ e
    ·exact nin _ _ hc'
  have hp:IsPair h2' s.heap.objs.size ux uy:=b2.extBut _ _ nz a5
  have fp0:H s.heap.objs.size=none:=I.hok.fresh (Nat.le_refl _)
  have nfp:s.heap.objs.size∉[z,TI,TO,i1,i2]:=fun hm=>by
   obtain⟨o,e,_⟩:∃ o,s.heap.get? s.heap.objs.size=some o∧True:=by
    simp only [List.mem_cons,List.not_mem_nil,or_false] at hm
    rcases hm with q | q | q | q | q
    ·exact⟨_,by rw [q]; exact h1,trivial⟩
    ·exact⟨_,by rw [q]; exact h2,trivial⟩
    ·exact⟨_,by rw [q]; exact h3,trivial⟩
    ·obtain⟨o,e,_⟩:=h4.ob; exact⟨o,by rw [q]; exact e,trivial⟩
    ·obtain⟨o,e,_⟩:=h5.ob; exact⟨o,by rw [q]; exact e,trivial⟩
   exact absurd (Heap.lt_size e) (Nat.lt_irrefl _)
  have I2:Inv X pins σ (upd H s.heap.objs.size (.tup [x,y])) { s with heap:=h2' }:=by
   refine I1.step (s:={ s with heap:=h2' }) (g':=s.gens) (d':=s.drawn) (t':=s.toks) (h':=h2') (ch:=[s.heap.objs.size]) (fun c hcm=>?_) (fun c o _ _ _ e _=>e) (fun c o _ _ _ e _=>⟨o.slots,e⟩) (fun c o hcn e n=>?_)
    (fun c o _ e=>⟨o,e⟩) (fun c xs' e=>?_) (fun c o u' e=>?_) (fun c ps e=>⟨#[],?_⟩) (fun m hm=>hm) (fun c u' e=>?_) I.bare
   ·have e:c=s.heap.objs.size:=by simpa using hcm
    subst e
    obtain⟨_,g1,_,g3,g4,g5⟩:=I.fpOk (Nat.le_refl _) fp0
    exact⟨g3,g1,g4,g5⟩
   ·rw [q1a (by simpa using hcn)]; exact n
   ·rw [q1a (q1s e fp0)]; exact e
   ·rw [q1a (q1s e fp0)]; exact e
   ·rw [q1a (q1s e fp0),e]; simp
   ·by_cases hcs:c=s.heap.objs.size
    ·subst hcs
     rw [q0f] at e
     cases e
     exact⟨by simp [sizeLine_eq],[ux,uy],.cons rx (.cons ry .nil),⟨_,hp,rfl,_,rfl⟩⟩
    ·rw [q1a hcs] at e
     exact (I1.hok c u' e).stay (fun _ _ _ q=>q) (fun c' q=>by rw [q1a (q1s q fp0)]; exact q) fun c' xs' q=>by rw [q1a (q1s q fp0)]; exact q
  refine⟨.ref s.heap.objs.size,_,I2,rfl,⟨s.heap.objs.size,x,y,rfl,fp0,rfl,fun xs' q'=>by rw [I.sq_inj q' q1]; exact hx,fun ys' q'=>by rw [I.sq_inj q' q2]; exact hy⟩,?_,fun c hcm=>?_⟩
  ·exact⟨b1,hTI'.trans h2,⟨ux,uy,b2.extBut _ _ D.1.2.1 a2⟩,(Src.it a3).keep fun o e=>b2.extBut _ o D.1.2.2.1 e,(Src.it a4).keep fun o e=>b2.extBut _ o D.1.2.2.2 e⟩
  ·rw [q1a (fun q=>nfp (by rw [← q]; exact hcm))]; exact (hf c hcm).1
 done:=by
  intro X hP hw hK hc i pins s σ H E I hf st hg
  subst hP hw hK
  obtain⟨h1,h2,⟨u,v,h3⟩,h4,h5⟩:=st
  obtain⟨xs,ys,q1,q2,he⟩:=hg
  obtain⟨its,r1,p1,_⟩:=I.sq q1
  obtain⟨jts,r2,p2,_⟩:=I.sq q2
  have Dd:Apart z TI TO i1 i2 a b:=⟨D.1,D.2,⟨I.sq_ne q1 (hf z (by simp)),I.sq_ne q1 (hf TO (by simp)),I.sq_ne q1 (hf i1 (by simp)),I.sq_ne q1 (hf i2 (by simp))⟩,⟨I.sq_ne q2 (hf z (by simp)),I.sq_ne q2 (hf TO (by simp)),I.sq_ne q2 (hf i1 (by simp)),I.sq_ne q2 (hf i2 (by simp))⟩⟩
  have l1:=r1.length
  have l2:=r2.length
  have hend:its.toArray[i]? = none∨jts.toArray[i]? = none:=by
   rcases he with e | e
   ·exact .inl (by simp; omega)
   ·exact .inr (by simp; omega)
  have hT:s.TypeIs (.ref z) "zip" := ⟨_,h1,rfl⟩
  unfold pyNext
  refine wpAny_bind (wpAny_attempt (wpAny_callSpecial?_slot (name:=Str.ofString "__next__") hT F.slot_zip_next (wpAny_call_entry F.slot_zip_next hT F.entry_zip_next (j6w (I.ok.hd hc) Dd h1 h2 h3 (h4.src p1) (h5.src p2) hend fun h' e kk hx=>?_) (F.args_zip_next_1 _))))
  obtain⟨o,ho,hcl⟩:=hx
  refine wpAny_bind (wpAny_isInstance (T := "StopIteration") (b:=true) ⟨o,ho,hcl⟩ isSubtype_stop (wpAny_pure ⟨rfl,?_⟩))
  have hk:∀ c o,c∉[z,TI,TO,i1,i2]→s.heap.get? c=some o→h'.get? c=some o:=fun c o hcn e=>by
   simp only [List.mem_cons,List.not_mem_nil,or_false,not_or] at hcn
   exact kk c o hcn.1 hcn.2.2.1 hcn.2.2.2.1 hcn.2.2.2.2 e
  refine I.step (g':=s.gens) (d':=s.drawn) (t':=s.toks) (ch:=[z,TI,TO,i1,i2]) (fun c hcm=>?_) (fun c o _ _ hcn e _=>hk c o hcn e) (fun c o _ _ hcn e _=>⟨o.slots,hk c o hcn e⟩) (fun _ _ _ _ n=>n)
   (fun c o hcn e=>⟨o,hk c o hcn e⟩) (fun _ _ e=>e) (fun _ _ _ e=>e) (fun c ps e=>⟨#[],by rw [e]; simp⟩) (fun m hm=>?_) (fun c u' e=>?_) I.bare
  ·obtain⟨_,g1,_,g3,g4,g5⟩:=hf c hcm
   exact⟨g3,g1,g4,g5⟩
  ·obtain⟨o,es',ep,ho,r⟩:=hm
   exact⟨o,es',ep,hk _ o (fun hm'=>(hf _ hm').2.1 rfl) ho,r⟩
  ·have nin:∀ c' u'',H c'=some u''→c'∉[z,TI,TO,i1,i2]:=fun c' u'' e' hm'=>by rw [(hf _ hm').1] at e'; cases e'
   refine (I.hok c u' e).stay (fun c' v' hc' q=>hk c' v' ?_ q) (fun _ q=>q) fun _ _ q=>q
   rcases hc' with rfl | hc'
   ·exact nin _ _ e
   ·exact nin _ _ hc'
 self:=fun _ _ _ _ _ st h=>wpAny_pyIter_zip st.1 h
noncomputable def w6f (K:Frag) (t1 t2:Bool) (ta:TA):TI:=fun σ H R=>ta σ H fun vs H1=>∃ a b xs ys,vs=[.ref a,.ref b]∧SqB t1 K H1 a xs∧SqB t2 K H1 b ys∧R (Itz K t1 t2 a b) H1
theorem j0q (n:Nat):(n+2≠n+4∧n+3≠n+4∧n≠n+4∧n+1≠n+4)∧n+2≠n+3∧n+2≠n∧n+2≠n+1∧n+3≠n∧n+3≠n+1∧n≠n+1:=by omega
theorem z9w (n x:Nat) (h:x=n+4∨x=n+2∨x=n+3∨x=n∨x=n+1):n≤x:=by omega
theorem j2b:bootBuiltins "zip" = some (.type "zip"):=by decide +kernel
theorem z7o {X:Cx} {es0:List Expr} {k0:Nat} {tp:Pos} {a b:Expr} {ta:TA} {p pos:Pos} {t1 t2:Bool} (hg:Gl X "zip") (hm:X.mg "zip" = none) (ha:PA X [a,b] ta)
  (hs:starEach [a,b] X.env=[(false,eval a X.env),(false,eval b X.env)]:=by rfl) (hs2:starEach [b] X.env=[(false,eval b X.env)]:=by rfl) :
  PI X (.Tuple es0 k0 tp) (.Call (.Name "zip" p) [a,b] [] pos) (w6f X.K t1 t2 ta):=by
 intro pins s σ H R I h
 refine Call_ (x4h I hg hm j2b (PyProof.Rows.callWith_type1 (thn (ha pos pins s σ H _ I h) fun us s1 ⟨vs,H1,I1,r1,q1⟩=>?_) (by rw [hs,hs2]) (by rw [hs2]; rfl)))
 obtain⟨c,d,xs,ys,e,q1,q2,q⟩:=q1
 subst e
 obtain⟨u,u',rfl,ru,ru'⟩:=j6s r1
 cases ru
 cases ru'
 obtain⟨its,_,p1,_⟩:=I1.sq q1
 obtain⟨jts,_,p2,_⟩:=I1.sq q2
 refine z7r p1 p2 fun h' a1 a2 a3 a4 a5 kk=>?_
 refine wpAny_pyIter_zip (s:={ s1 with heap:=h' }) a1 ?_
 have I2:Inv X pins σ H1 { s1 with heap:=h' }:=I1.kept (t':=s1.toks) kk
 refine⟨_,[s1.heap.objs.size+4,s1.heap.objs.size+2,s1.heap.objs.size+3,s1.heap.objs.size,s1.heap.objs.size+1],_,_,H1,rfl,I2,j4q (t1:=t1) (t2:=t2) (a:=c) (b:=d) (j0q _),
  ⟨a1,a2,⟨_,_,a3⟩,Src.it a4,Src.it a5⟩,fun x hx=>?_,q⟩
 have hge:s1.heap.objs.size≤x:=by
  simp only [List.mem_cons,List.not_mem_nil,or_false] at hx
  exact z9w _ _ hx
 exact I1.fpOk hge (I1.hok.fresh hge)
section
variable {X:Cx} {a b:Expr} {ta tb:TE} {pos:Pos}
theorem x0f (hc:X.calm=true):x4v X (.builtin "all") (fun xs H Q=>∃ p,∃ bs:List Bool,xs=[.ref p]∧SqL X.K H p (bs.map V.bl)∧Q (.bl (bs.all id)) H):=by
 intro pins s σ H xs us Q I r h
 obtain⟨p,bs,rfl,hq,q⟩:=h
 obtain⟨u,rfl,rx⟩:=x1d r
 cases rx
 obtain⟨its,rv,pl,hz⟩:=I.list hq
 have hl:=pl.isList
 have hlt:p < s.heap.objs.size:=by obtain⟨_,e,_⟩:=hl; exact Heap.lt_size e
 have hlen:bs.length=its.length:=by rw [← rv.length,List.length_map]
 refine call_all_walk (wpAny_pyIter_list hl ?_)
 refine⟨s.heap.objs.size,[s.heap.objs.size,p],[s.heap.objs.size],its.toArray.size,_,_,fun i=>(bs[i]?).getD true,rfl,Walks.list (A:=X.A.in1) (I.ok.hd hc) _ p (Nat.ne_of_lt hlt) its.toArray,
  ⟨⟨_,Heap.get?_push_size _ rfl,rfl,rfl⟩,hl.push _⟩,fun i v s' Q' E' hP hQ=>?_,fun h' tk hk=>?_⟩
 ·have hP':its[i]? = some v:=by simpa using hP
  have hi:i < bs.length:=by rw [hlen]; exact (List.getElem?_eq_some_iff.mp hP').1
  obtain⟨u',e',r'⟩:=rv.get (i:=i) (x:=V.bl bs[i]) (by simp [hi])
  rw [hP'] at e'
  cases e'
  cases r'
  have e2:(bs[i]?).getD true=bs[i]:=by simp [hi]
  have hQ2:Q' ((bs[i]?).getD true) s':=hQ
  rw [e2] at hQ2
  exact wpAny_truthy_bool hQ2
 ·have e:((List.range its.toArray.size).all fun i=>(bs[i]?).getD true)=bs.all id:=by
   rw [List.size_toArray,← hlen]
   rw [Bool.eq_iff_iff]
   simp only [List.all_eq_true,List.mem_range,id]
   constructor
   ·intro h x hx
    obtain⟨i,hi,rfl⟩:=List.mem_iff_getElem.mp hx
    have:=h i hi
    simpa [hi] using this
   ·intro h i hi
    have:=h bs[i] (List.getElem_mem hi)
    simpa [hi] using this
  rw [e]
  refine⟨.bl (bs.all id),H,I.kept (t':=tk) fun b x e=>?_,rfl,q⟩
  exact hk b x (fun hm=>by rw [List.mem_singleton.mp hm] at e; exact Nat.lt_irrefl _ (Heap.lt_size e)) (Heap.get?_push_of_some _ e)
noncomputable def w6k (K:Frag):List V→Hp→VK→Prop:=fun xs H Q=>∃ x c t k,xs=[x,.ty c]∧TyOf K H x t∧PySem.W.kitOne K t (.type c)=some k∧Q (.bl k) H
theorem q2h:x4v X (.builtin "isinstance") (w6k X.K):=by
 intro pins s σ H xs us Q I r h
 obtain⟨x,c,t,k,rfl,ty,e,q⟩:=h
 obtain⟨u,u',rfl,rx,rc⟩:=j6s r
 cases rc
 exact z9p I rx ty e fun tk=>⟨.bl k,H,I.tok tk,rfl,q⟩
noncomputable def j9r (f:Addr) (sp:Sp) (E:XK) (tf:TE) (t:TA):TE:=fun σ H Q=>tf σ H fun x H1=>x=.ref f∧t σ H1 fun vs H2=>sp (vs++[]) H2 Q E
theorem j3u {CX:CXT} {k:Nat} {f:Addr} {fd:FuncData} {ps:List Str} {sp:Sp} {E:XK} {x:Str} {p:Pos} {e:Expr} {es:List Expr} {tf:TE} {t:TA} (F:FnOk X.prog X.w X.K X.mg X.base CX k f fd ps sp) (hr:Room k X.A)
  (hk:keepIn X.K (.ref f)=true) (hb:q3p X.K fd ps []) (hx:q8j CX X E) (hf:PE X (.Name x p) tf) (ha:PA X (e::es) t)
  (he:starEach (e::es) X.env=(false,eval e X.env)::starEach es X.env:=by rfl) (hpl:(backTo pos (starEach es X.env)).any (·.1)=false:=by rfl) :
  PE X (.Call (.Name x p) (e::es) [] pos) (j9r f sp E tf t):=by
 intro pins s σ H Q I h
 refine wpAny_Call_Name_kw (thn (hf pins s σ H _ I h) fun u s0 ⟨v,H0,I0,r0,e0,q0⟩=>?_)
 subst e0
 cases r0
 refine PySem.W.callWith_K (h₀:=X.base) I.ok.mod.kin hk (thn (ha pos pins s0 σ H0 _ I0 q0) fun us s1 ⟨vs,H1,I1,r,q⟩=>⟨I1.kIn,?_⟩) he hpl
 exact x9f F hr hb .nil hx I1 r q
theorem q9d:OpR X (compareOp .LtE) (fun x y H Q=>∃ i j,x=.str i∧y=.str j∧Q (.bl (!decide (j.cps.toList < i.cps.toList))) H):=by
 intro pins s σ H x y v u Q I rx ry h
 obtain⟨i,j,rfl,rfl,q⟩:=h
 obtain⟨t,rfl⟩:=rx
 obtain⟨t',rfl⟩:=ry
 exact PySem.P.le_str ⟨.bl _,H,I,rfl,q⟩
theorem j7f:MtR X "str.find" (fun x xs H Q=>∃ z y,x=.str z∧xs=[.str y]∧Q (.int (Txt.find z y)) H):=by
 intro pins s σ H x xs v us Q I rx rv h
 obtain⟨z,y,rfl,rfl,q⟩:=h
 obtain⟨t,rfl⟩:=rx
 obtain⟨u,rfl,t',rfl⟩:=x1d rv
 exact SC.find ⟨.int _,H,I.tok _,⟨_,rfl⟩,q⟩
theorem x6d:OpR X (binaryOp .Mult) (fun x y H Q=>∃ z n,x=.str z∧y=.int n∧z.length≤1000∧n≤1000 ∧ -1000≤n∧Q (.str (Txt.mul z n)) H):=by
 intro pins s σ H x y v u Q I rx ry h
 obtain⟨z,n,rfl,rfl,hz,hn,hn2,q⟩:=h
 obtain⟨t,rfl⟩:=rx
 obtain⟨t',rfl⟩:=ry
 refine SB.mul ⟨?_,fun h1 _=>?_,fun h1 _=>?_⟩ fun t' k=>⟨.str _,H,I.tok _,⟨_,rfl⟩,q⟩
 ·rw [decide_eq_false (by omega),decide_eq_false (by omega)]; rfl
 ·have h2:(1000000:Int)≤(2 ^ 63 - 1) / n:=by
   rw [Int.le_ediv_iff_mul_le (by omega)]
   omega
  omega
 ·unfold Builtin.Str.tooLong
  have:z.length*n.toNat≤1000*1000:=Nat.mul_le_mul hz (by omega)
  have e:=sizeLine_eq
  exact decide_eq_false (by omega)
noncomputable def w7h:V→Option Int→Option Int→Hp→VK→Prop:=fun x lo hi H Q=>∃ z,x=.str z∧z.length≤sizeLine∧∀ y,y.length≤z.length→y=Txt.slice z lo hi→Q (.str y) H
theorem x3q:SlR X w7h:=by
 intro pins s σ H x v vl vu lo hi sl Q I rx hs pl pu h
 obtain⟨z,rfl,hz,q⟩:=h
 obtain⟨t,rfl⟩:=rx
 refine⟨"str",_,F.slot_str_getitem.lookup,typeIs_str _ _ _,?_⟩
 have fin:∀ y,y=Txt.slice z lo hi→y.length≤z.length→∀ t' k,EP X pins σ Q (.str y t') { s with toks:=k }:=fun y e hy t' k=>⟨.str y,H,I.tok _,⟨_,rfl⟩,q y hy e⟩
 have le:=Txt.slice_le z lo hi
 cases pl with
 | none =>
  cases pu with
  | none=>exact wpAny_getItem_str_slice (l:=none) (u:=none) (st:=none) hs rfl (post_val_or_str ⟨Nat.le_trans le hz,fin _ rfl le⟩)
  | int j uj=>exact wpAny_getItem_str_slice (l:=none) (u:=some (j,uj)) (st:=none) hs rfl (post_val_or_str ⟨Nat.le_trans le hz,fin _ rfl le⟩)
 | int i ui =>
  cases pu with
  | none=>exact wpAny_getItem_str_slice (l:=some (i,ui)) (u:=none) (st:=none) hs rfl (post_val_or_str ⟨Nat.le_trans le hz,fin _ rfl le⟩)
  | int j uj=>exact wpAny_getItem_str_slice (l:=some (i,ui)) (u:=some (j,uj)) (st:=none) hs rfl (post_val_or_str ⟨Nat.le_trans le hz,fin _ rfl le⟩)
noncomputable def j3c:List V→List V→Bool
 | [],[]=>true
 | x::xs,y::ys=>eqV x y && j3c xs ys
 | _,_=>false
theorem z2q:∀ {xs ys:List V},xs.length≠ys.length→j3c xs ys=false
 | [],[],h=>absurd rfl h
 | [],_::_,_=>rfl
 | _::_,[],_=>rfl
 | x::xs,y::ys,h=>by
  rw [j3c,z2q (fun e=>h (by simp [e])),Bool.and_false]
theorem x6f:∀ {xs ys:List V},xs.length=ys.length→(List.range xs.length).all (fun j=>eqV (xs.getD j .non) (ys.getD j .non))=j3c xs ys
 | [],[],_=>rfl
 | x::xs,y::ys,h=>by
  have h':xs.length=ys.length:=by simpa using h
  rw [j3c,← x6f h',List.length_cons,List.range_succ_eq_map,List.all_cons,List.all_map]
  rfl
theorem j5j (hu:X.A.units < cLine):OpR X (compareOp .Eq) (fun x y H Q=>∃ p q xs ys,x=.ref p∧y=.ref q∧SqL X.K H p xs∧SqL X.K H q ys∧xs.all x3r=true∧ys.all x3r=true∧Q (.bl (j3c xs ys)) H):=by
 intro pins s σ H x y v u Q I rx ry h
 obtain⟨p,q',xs,ys,rfl,rfl,h1,h2,f1,f2,q⟩:=h
 cases rx
 cases ry
 obtain⟨its,r1,pl1,_⟩:=I.list h1
 obtain⟨jts,r2,pl2,_⟩:=I.list h2
 by_cases hl:xs.length=ys.length
 ·refine SeqAt.eq_listAt (e:=fun j=>eqV (xs.getD j .non) (ys.getD j .non)) pl1.isList pl2.isList (by simp [← r1.length,← r2.length,hl]) hu (fun j g1 g2=>?_) ⟨.bl (j3c xs ys),H,I,?_,q⟩
  ·have j1:j < xs.length:=by rw [r1.length]; simpa using g1
   have j2:j < ys.length:=by rw [r2.length]; simpa using g2
   obtain⟨u1,e1,ru1⟩:=r1.get (i:=j) (x:=xs[j]) (by simp [j1])
   obtain⟨u2,e2,ru2⟩:=r2.get (i:=j) (x:=ys[j]) (by simp [j2])
   have z1:its.toArray[j]=u1:=by
    have:=(List.getElem?_eq_some_iff.mp e1).2
    simpa using this
   have z2:jts.toArray[j]=u2:=by
    have:=(List.getElem?_eq_some_iff.mp e2).2
    simpa using this
   rw [z1,z2]
   have w1:xs.getD j .non=xs[j]:=by simp [j1]
   have w2:ys.getD j .non=ys[j]:=by simp [j2]
   show SeqAt.EqAt _ _ _ _ (eqV (xs.getD j .non) (ys.getD j .non))
   rw [w1,w2]
   exact j5o ru1 ru2 (List.all_eq_true.mp f1 _ (List.getElem_mem j1)) (List.all_eq_true.mp f2 _ (List.getElem_mem j2))
  ·rw [List.size_toArray,← r1.length,x6f hl]; rfl
 ·refine SeqAt.eq_list_lengthsAt pl1.isList pl2.isList (by simp [← r1.length,← r2.length,hl]) hu ⟨.bl (j3c xs ys),H,I,?_,q⟩
  rw [z2q hl]; rfl
end
section
variable {prog:Program} {w:World} {A:Around} {E:Value→Shared→Prop} {s:Shared}
end
noncomputable def j9x:R2:=fun x y H Q=>∃ a b xs ys,x=.ref a∧y=.ref b∧H a=some (.tup xs)∧H b=some (.tup ys)∧xs.length+ys.length≤sizeLine∧∀ p H',H' p=some (.tup (xs++ys))→q1b H H'→Q (.ref p) H'
theorem q9p {X:Cx}:OpR X (binaryOp .Add) j9x:=by
 intro pins s σ H x y v u Q I rx ry h
 obtain⟨a,b,xs,ys,rfl,rfl,ha,hb,hz,q⟩:=h
 by_cases hx:xs=[]
 ·subst hx
  cases rx
  cases ry
  obtain⟨its,r1,p1,_⟩:=I.tuple (SqT.of ha)
  obtain⟨its2,r2,p2,_⟩:=I.tuple (SqT.of hb)
  have e1:its=[]:=r1.nil_iff.mpr rfl
  obtain⟨⟨cls,dd,data,sl⟩,ho,hc,n,hd⟩:=id p1
  obtain⟨⟨cls2,dd2,data2,sl2⟩,ho2,hc2,n2,hd2⟩:=id p2
  simp only at hc hd hc2 hd2
  subst hc hd hc2 hd2
  exact concat_meets ⟨_,ho,rfl⟩ ⟨_,ho2,rfl⟩ noFill_tuple_add seq_tuple_add PySem.F.slot_tuple_add PySem.F.entry_tuple_add (PySem.F.args_tuple_add_2 _ _)
   (tuple_addW0 a b its.toArray its2.toArray n n2 dd dd2 sl sl2 (by simp [e1])) ⟨ho,ho2,⟨.ref b,H,I,rfl,q b H (by simpa using hb) (q1b.refl _)⟩⟩
 ·refine j7u pins s σ H (.ref a) (.ref b) v u Q I rx ry ⟨a,b,xs,ys,rfl,rfl,SqT.of ha,SqT.of hb,hx,hz,fun e=>?_,fun _ p hp=>?_⟩
  ·subst e
   exact q a H (by simpa using ha) (q1b.refl _)
  ·exact q p _ q0f fun c o e=>by rw [q1a (q1s e hp)]; exact e
theorem PT.weak {X:Cx} {e:Expr} {t t':TT} (h:PT X e t) (w:∀ σ H Q,t' σ H Q→t σ H Q):PT X e t':=fun pins s σ H Q I q=>h pins s σ H Q I (w σ H Q q)
end L2
namespace Kp
open PySem PyProof.Rows
noncomputable def q3n (c:Nat):Bool:=decide (97≤c) && decide (c≤122)
noncomputable def abc:Str := "abcdefghijklmnopqrstuvwxyz"
theorem j8y:abc.cps=#[97,98,99,100,101,102,103,104,105,106,107,108,109,110,111,112,113,114,115,116,117,118,119,120,121,122]:=by decide +kernel
theorem z7c:∀ (i:Nat),i < 26→abc.cps[i]? = some (97+i):=by rw [j8y]; decide
theorem j7a:abc.length=26:=by decide +kernel
theorem j6p (x:Str) (c i:Nat):Builtin.Str.subAt x ⟨#[c]⟩ i=true↔x.cps[i]? = some c:=by
 unfold Builtin.Str.subAt
 have l1:(⟨#[c]⟩:Str).length=1:=rfl
 rw [l1,beq_iff_eq]
 show x.cps.extract i (i+1)=#[c]↔_
 by_cases h:i < x.cps.size
 ·have e:x.cps.extract i (i+1)=#[x.cps[i]]:=by
   apply Array.ext
   ·simp; omega
   ·intro j h1 h2
    have:j=0:=by simp at h2; omega
    subst this
    simp
  rw [e,Array.getElem?_eq_getElem h]
  simp
 ·have e:x.cps.extract i (i+1)=#[]:=by
   apply Array.ext
   ·simp; omega
   ·intro j h1 h2; simp at h2
  rw [e,Array.getElem?_eq_none (by omega)]
  simp
theorem z3j (c:Nat):(Txt.find abc ⟨#[c]⟩ < 0)↔q3n c=false:=by
 have at_iff:∀ i,StrLaws.At abc ⟨#[c]⟩ abc.length i↔i < 26∧c=97+i:=by
  intro i
  unfold StrLaws.At
  rw [j6p,j7a]
  constructor
  ·rintro⟨h1,h2⟩
   have h3:i < 26:=by have:(⟨#[c]⟩:Str).length=1:=rfl; omega
   rw [z7c i h3] at h2
   exact⟨h3,(Option.some.inj h2).symm⟩
  ·rintro⟨h1,rfl⟩
   exact⟨by have:(⟨#[97+i]⟩:Str).length=1:=rfl; omega,z7c i h1⟩
 have low:q3n c=true↔97≤c∧c≤122:=by unfold q3n; simp
 rcases find_whole abc ⟨#[c]⟩ with ⟨e,h⟩ | ⟨i,e,h,_⟩
 ·rw [e]
  constructor
  ·intro _
   cases hl:q3n c with
   | false=>rfl
   | true =>
    obtain⟨a,b⟩:=low.mp hl
    exact absurd ((at_iff (c - 97)).mpr ⟨by omega,by omega⟩) (h _)
  ·intro _; decide
 ·rw [e]
  obtain⟨h1,h2⟩:=(at_iff i).mp h
  constructor
  ·intro z; omega
  ·intro z
   have:q3n c=true:=low.mpr ⟨by omega,by omega⟩
   rw [this] at z; cases z
theorem w6h (c:Nat):(!decide ((⟨#[c]⟩:Str).cps.toList < ("a" : Str).cps.toList))=decide (97≤c):=by
 have e:("a" : Str).cps.toList=[97]:=by decide +kernel
 rw [e]
 show (!decide ([c] < [97]))=_
 have:([c] < [97])↔c < 97:=by
  constructor
  ·intro h
   cases h with
   | rel h=>exact h
   | cons h=>cases h
  ·intro h; exact List.Lex.rel h
 rw [Bool.eq_iff_iff]
 simp only [Bool.not_eq_true',decide_eq_false_iff_not,decide_eq_true_eq,this]
 omega
theorem w5d (c:Nat):(!decide (("z" : Str).cps.toList < (⟨#[c]⟩:Str).cps.toList))=decide (c≤122):=by
 have e:("z" : Str).cps.toList=[122]:=by decide +kernel
 rw [e]
 show (!decide ([122] < [c]))=_
 have:([122] < [c])↔122 < c:=by
  constructor
  ·intro h
   cases h with
   | rel h=>exact h
   | cons h=>cases h
  ·intro h; exact List.Lex.rel h
 rw [Bool.eq_iff_iff]
 simp only [Bool.not_eq_true',decide_eq_false_iff_not,decide_eq_true_eq,this]
 omega
inductive D where
 | non | bl (b:Bool) | int (i:Int) | str (x:Str) | tup (xs:List D) | lst (xs:List D)
noncomputable def q2n:D→Bool
 | .str x=>(decide (1≤x.length) && decide (x.length≤8)) && x.cps.toList.all q3n
 | _=>false
noncomputable def q1z:D→Bool
 | .str x=>if x = "" ∨ 8 < x.length then false else (x.cps.toList.filter fun c => !q3n c).isEmpty
 | _=>false
theorem z8h (x:Str):x = "" ↔ x.length=0:=by
 constructor
 ·rintro rfl; rfl
 ·intro h
  obtain⟨c⟩:=x
  have:c=#[]:=Array.eq_empty_of_size_eq_zero h
  subst this
  rfl
theorem j8e:∀ d,q2n d=q1z d
 | .str x=>by
  unfold q2n q1z
  dsimp only
  have e:=z8h x
  by_cases h0:x.length=0
  ·have h1:¬ 1≤x.length:=by omega
   rw [if_pos (.inl (e.mpr h0)),decide_eq_false h1]
   rfl
  ·by_cases h8:8 < x.length
   ·have h1:¬ x.length≤8:=by omega
    rw [if_pos (.inr h8),decide_eq_false h1]
    simp
   ·have h1:1≤x.length:=by omega
    have h2:x.length≤8:=by omega
    rw [if_neg (by rintro (z | z); exact h0 (e.mp z); exact h8 z),decide_eq_true h1,decide_eq_true h2]
    generalize x.cps.toList=l
    rw [Bool.eq_iff_iff]
    simp [List.isEmpty_iff,List.filter_eq_nil_iff]
 | .non=>rfl
 | .bl _=>rfl
 | .int _=>rfl
 | .tup _=>rfl
 | .lst _=>rfl
noncomputable def q0k:D→Bool
 | .int i=>decide (0≤i) && decide (i≤8)
 | _=>false
noncomputable def q8n:List Int→Bool
 | a::b::r=>decide (a < b) && q8n (b::r)
 | _=>true
noncomputable def q3w:List D→List Int
 | .int i::r=>i::q3w r
 | _::r=>q3w r
 | []=>[]
noncomputable def q2z:D→Bool
 | .tup ds=>ds.all q0k && ((decide (1≤ds.length) && decide (ds.length≤9)) && q8n (q3w ds))
 | _=>false
noncomputable def goL:List D→Int→Bool
 | [],_=>true
 | .int i::r,l=>(decide (l≤i) && decide (i≤8)) && goL r (i+1)
 | _::_,_=>false
noncomputable def q4o:D→Bool
 | .tup ds=>if ds.length=0 then false else goL ds 0
 | _=>false
theorem j0w:∀ (ds:List D) (l:Int),l≤9→goL ds l=true→(ds.length:Int)≤9 - l
 | [],l,h,_=>by simp; omega
 | .int i::r,l,h,g=>by
  simp only [goL,Bool.and_eq_true,decide_eq_true_eq] at g
  have:=j0w r (i+1) (by omega) g.2
  simp only [List.length_cons]; omega
 | .non::_,_,_,g=>by cases g
 | .bl _::_,_,_,g=>by cases g
 | .str _::_,_,_,g=>by cases g
 | .tup _::_,_,_,g=>by cases g
 | .lst _::_,_,_,g=>by cases g
theorem z2g:∀ (ds:List D) (l:Int),0≤l→(goL ds l=true↔ds.all q0k=true∧q8n (q3w ds)=true∧∀ i,(q3w ds).head? = some i→l≤i)
 | [],l,h=>by simp [goL,q8n,q3w]
 | .int i::r,l,h=>by
  simp only [goL,Bool.and_eq_true,decide_eq_true_eq,List.all_cons,q0k,q3w,List.head?_cons,Option.some.injEq]
  constructor
  ·rintro⟨⟨a,b⟩,c⟩
   obtain⟨c1,c2,c3⟩:=(z2g r (i+1) (by omega)).mp c
   refine⟨⟨⟨by omega,b⟩,c1⟩,?_,fun j hj=>by omega⟩
   cases hr:q3w r with
   | nil=>rfl
   | cons j t =>
    have:=c3 j (by rw [hr]; rfl)
    rw [hr] at c2
    simp only [q8n,Bool.and_eq_true,decide_eq_true_eq]
    exact⟨by omega,c2⟩
  ·rintro⟨⟨⟨a,b⟩,c⟩,d,e⟩
   refine⟨⟨e i rfl,b⟩,(z2g r (i+1) (by omega)).mpr ⟨c,?_,?_⟩⟩
   ·cases hr:q3w r with
    | nil=>rfl
    | cons j t =>
     rw [hr] at d
     simp only [q8n,Bool.and_eq_true,decide_eq_true_eq] at d
     exact d.2
   ·intro j hj
    cases hr:q3w r with
    | nil=>rw [hr] at hj; cases hj
    | cons k t =>
     rw [hr] at hj d
     cases hj
     simp only [q8n,Bool.and_eq_true,decide_eq_true_eq] at d
     omega
 | .non::_,_,_=>by simp [goL,q0k]
 | .bl _::_,_,_=>by simp [goL,q0k]
 | .str _::_,_,_=>by simp [goL,q0k]
 | .tup _::_,_,_=>by simp [goL,q0k]
 | .lst _::_,_,_=>by simp [goL,q0k]
theorem z0v:∀ (ds:List D),ds.all q0k=true→∀ i,(q3w ds).head? = some i→0≤i
 | [],_,_,h=>by cases h
 | .int i::r,h,j,e=>by
  simp only [List.all_cons,q0k,Bool.and_eq_true,decide_eq_true_eq] at h
  cases e
  exact h.1.1
 | .non::_,h,_,_=>by simp [q0k] at h
 | .bl _::_,h,_,_=>by simp [q0k] at h
 | .str _::_,h,_,_=>by simp [q0k] at h
 | .tup _::_,h,_,_=>by simp [q0k] at h
 | .lst _::_,h,_,_=>by simp [q0k] at h
theorem j2n:∀ d,q2z d=q4o d
 | .tup ds=>by
  unfold q2z q4o
  dsimp only
  by_cases h0:ds.length=0
  ·rw [if_pos h0,decide_eq_false (by omega:¬ 1≤ds.length)]
   simp
  ·rw [if_neg h0,Bool.eq_iff_iff]
   simp only [Bool.and_eq_true,decide_eq_true_eq]
   have g:=z2g ds 0 (by omega)
   constructor
   ·rintro⟨a,⟨b,c⟩,d⟩
    exact g.mpr ⟨a,d,z0v ds a⟩
   ·intro h
    obtain⟨a,d,_⟩:=g.mp h
    have:=j0w ds 0 (by omega) h
    exact⟨a,⟨by omega,by omega⟩,d⟩
 | .non=>rfl
 | .bl _=>rfl
 | .int _=>rfl
 | .str _=>rfl
 | .lst _=>rfl
theorem x4i:∀ (ds:List D),ds.all q0k=true→ds=(q3w ds).map D.int
 | [],_=>rfl
 | .int i::r,h=>by
  rw [List.all_cons,Bool.and_eq_true] at h
  rw [q3w,List.map_cons,← x4i r h.2]
 | .non::_,h=>by simp [q0k] at h
 | .bl _::_,h=>by simp [q0k] at h
 | .str _::_,h=>by simp [q0k] at h
 | .tup _::_,h=>by simp [q0k] at h
 | .lst _::_,h=>by simp [q0k] at h
theorem z3a:∀ (ns:List Int),((ns.zip ns.tail).map fun p=>decide (p.1 < p.2)).all id=q8n ns
 | []=>rfl
 | [_]=>rfl
 | a::b::r=>by
  have ih:=z3a (b::r)
  simp only [List.tail_cons] at ih ⊢
  rw [List.zip_cons_cons,List.map_cons,List.all_cons,q8n,← ih]
  rfl
end Kp
namespace Kp
open PySem L2
mutual
inductive Is (B:Nat) (H:Hp):V→D→Prop
 | non:Is B H .non .non
 | bl (b:Bool):Is B H (.bl b) (.bl b)
 | int (i:Int):Is B H (.int i) (.int i)
 | str (x:Str) (h:x.length≤B):Is B H (.str x) (.str x)
 | tup {a:Addr} {vs:List V} {ds:List D} (e:H a=some (.tup vs)) (l:vs.length≤B) (r:IsL B H vs ds):Is B H (.ref a) (.tup ds)
 | lst {a:Addr} {vs:List V} {ds:List D} (e:H a=some (.lst vs)) (l:vs.length≤B) (r:IsL B H vs ds):Is B H (.ref a) (.lst ds)
inductive IsL (B:Nat) (H:Hp):List V→List D→Prop
 | nil:IsL B H [] []
 | cons {v:V} {d:D} {vs:List V} {ds:List D} (h:Is B H v d) (t:IsL B H vs ds):IsL B H (v::vs) (d::ds)
end
mutual
theorem Is.mono {B B':Nat} {H H':Hp} (hB:B≤B') (s:q1b H H'):∀ {v d},Is B H v d→Is B' H' v d
 | _,_,.non=>.non
 | _,_,.bl b=>.bl b
 | _,_,.int i=>.int i
 | _,_,.str x h=>.str x (Nat.le_trans h hB)
 | _,_,.tup e l r=>.tup (s _ _ e) (Nat.le_trans l hB) (IsL.mono hB s r)
 | _,_,.lst e l r=>.lst (s _ _ e) (Nat.le_trans l hB) (IsL.mono hB s r)
theorem IsL.mono {B B':Nat} {H H':Hp} (hB:B≤B') (s:q1b H H'):∀ {vs ds},IsL B H vs ds→IsL B' H' vs ds
 | _,_,.nil=>.nil
 | _,_,.cons h t=>.cons (Is.mono hB s h) (IsL.mono hB s t)
end
theorem Is.same {B:Nat} {H H':Hp} {v:V} {d:D} (h:Is B H v d) (s:q1b H H'):Is B H' v d:=h.mono (Nat.le_refl _) s
theorem IsL.same {B:Nat} {H H':Hp} {v:List V} {d:List D} (h:IsL B H v d) (s:q1b H H'):IsL B H' v d:=h.mono (Nat.le_refl _) s
theorem IsL.length {B:Nat} {H:Hp}:∀ {vs ds},IsL B H vs ds→vs.length=ds.length
 | _,_,.nil=>rfl
 | _,_,.cons _ t=>by simp [IsL.length t]
theorem IsL.get {B:Nat} {H:Hp}:∀ {vs ds} {i:Nat} {v:V},IsL B H vs ds→vs[i]? = some v→∃ d,ds[i]? = some d∧Is B H v d
 | _,_,_,_,.nil,h=>by simp at h
 | _,_,0,_,.cons h _,e=>by simp at e; subst e; exact⟨_,rfl,h⟩
 | _,_,i+1,v,.cons _ t,e=>by
  obtain⟨d,e',h⟩:=IsL.get (i:=i) (v:=v) t (by simpa using e)
  exact⟨d,by simpa using e',h⟩
noncomputable def Th (B:Nat) (H:Hp) (v:V):Prop:=∃ d,Is B H v d
noncomputable def ThL (B:Nat) (H:Hp) (vs:List V):Prop:=∃ ds,IsL B H vs ds
theorem ThL.nil {B:Nat} {H:Hp}:ThL B H []:=⟨[],.nil⟩
theorem ThL.cons {B:Nat} {H:Hp} {v:V} {vs:List V} (h:Th B H v) (t:ThL B H vs):ThL B H (v::vs):=let ⟨d,q⟩:=h; let ⟨ds,r⟩:=t; ⟨d::ds,.cons q r⟩
theorem Th.tup {B:Nat} {H:Hp} {a:Addr} {vs:List V} (e:H a=some (.tup vs)) (l:vs.length≤B) (h:ThL B H vs):Th B H (.ref a):=let ⟨_,q⟩:=h; ⟨_,.tup e l q⟩
theorem Th.int {B:Nat} {H:Hp} (i:Int):Th B H (.int i):=⟨_,.int i⟩
theorem Th.bl {B:Nat} {H:Hp} (i:Bool):Th B H (.bl i):=⟨_,.bl i⟩
theorem Th.non {B:Nat} {H:Hp}:Th B H .non:=⟨_,.non⟩
theorem Th.str {B:Nat} {H:Hp} (x:Str) (h:x.length≤B):Th B H (.str x):=⟨_,.str x h⟩
theorem q0g {H:Hp} {p:Addr} {o:HO} (h:H p=none):q1b H (upd H p o):=fun b u e=>by rw [q1a (q1s e h)]; exact e
noncomputable def tyN:D→String
 | .non => "NoneType" | .bl _ => "bool" | .int _ => "int" | .str _ => "str" | .tup _ => "tuple" | .lst _ => "list"
theorem Is.ty {B:Nat} {H:Hp} {K:Frag} {v:V} {d:D} (h:Is B H v d):TyOf K H v (.type (tyN d)):=by
 cases h with
 | non=>exact .non
 | bl b=>exact .bl b
 | int i=>exact .int i
 | str x _=>exact .str x
 | tup e _ _=>exact .tup e
 | lst e _ _=>exact .lst e
noncomputable def isInt:D→Bool | .int _=>true | .bl _=>true | _=>false
noncomputable def z8f:D→Bool | .bl _=>true | _=>false
noncomputable def z6s:D→Bool | .str _=>true | _=>false
noncomputable def w3b:D→Bool | .tup _=>true | _=>false
theorem z0o (K:Frag):∀ d:D,PySem.W.kitOne K (.type (tyN d)) (.type "int")=some (isInt d)
 | .non=>by with_unfolding_all rfl
 | .bl _=>by with_unfolding_all rfl
 | .int _=>by with_unfolding_all rfl
 | .str _=>by with_unfolding_all rfl
 | .tup _=>by with_unfolding_all rfl
 | .lst _=>by with_unfolding_all rfl
theorem q8f (K:Frag):∀ d:D,PySem.W.kitOne K (.type (tyN d)) (.type "bool")=some (z8f d)
 | .non=>by with_unfolding_all rfl
 | .bl _=>by with_unfolding_all rfl
 | .int _=>by with_unfolding_all rfl
 | .str _=>by with_unfolding_all rfl
 | .tup _=>by with_unfolding_all rfl
 | .lst _=>by with_unfolding_all rfl
theorem x6r (K:Frag):∀ d:D,PySem.W.kitOne K (.type (tyN d)) (.type "str")=some (z6s d)
 | .non=>by with_unfolding_all rfl
 | .bl _=>by with_unfolding_all rfl
 | .int _=>by with_unfolding_all rfl
 | .str _=>by with_unfolding_all rfl
 | .tup _=>by with_unfolding_all rfl
 | .lst _=>by with_unfolding_all rfl
theorem q9v (K:Frag):∀ d:D,PySem.W.kitOne K (.type (tyN d)) (.type "tuple")=some (w3b d)
 | .non=>by with_unfolding_all rfl
 | .bl _=>by with_unfolding_all rfl
 | .int _=>by with_unfolding_all rfl
 | .str _=>by with_unfolding_all rfl
 | .tup _=>by with_unfolding_all rfl
 | .lst _=>by with_unfolding_all rfl
theorem q2g:bootBuiltins "isinstance" = some (.builtin "isinstance"):=by decide +kernel
theorem q8c:bootBuiltins "int" = some (.type "int"):=by decide +kernel
theorem q7l:bootBuiltins "bool" = some (.type "bool"):=by decide +kernel
theorem x3k:bootBuiltins "str" = some (.type "str"):=by decide +kernel
theorem q2m:bootBuiltins "tuple" = some (.type "tuple"):=by decide +kernel
theorem q7m:bootBuiltins "all" = some (.builtin "all"):=by decide +kernel
theorem q7f {X:Cx} {x:Str} {n:String} {pos:Pos} (hg:Gl X x) (hm:X.mg x=none) (hv:bootBuiltins x=some (.type n)) (hn:x ≠ "__name__" := by decide) (hd:(x==("__debug__" : Str))=false:=by decide):PE X (.Name x pos) (tC (.ty n)):=j7t (v:=.ty n) hg hm hv rfl hn hd
section
variable {X:Cx} {K:Frag} {pos:Pos}
theorem x4z {es:List Expr} {k:Nat} {t:TGs} {n:Nat} (hK:X.K=K) (hc:X.calm=true) (h:PGs X es t) (hn:(assignEach es X.env).length=n:=by rfl) (hst:(assignEach es X.env).findIdx? (·.1)=none:=by rfl):PG X (.Tuple es k pos) (w4z K n t):=by
 subst hK
 exact x5h hc h hn hst
theorem j3o (hK:X.K=K):IxR X (w4y K):=by subst hK; exact q5i
theorem j5t {o e:Expr} {es:List Expr} {to:TE} {t:TA} {name:Str} {apos cpos:Pos} {T id:String} {r:V→List V→Hp→VK→Prop} (hK:X.K=K) (pa:PlainAttrs T) (slot:Slot T name id) (hty:typeOf (.builtin id)=pure (.type "method_descriptor")) (hm:MtR X id r) (ho:PE X o to) (ha:PA X (e::es) t)
  (hbase:attributeBase o name X.env (eval o X.env)=eval o X.env:=by rfl)
  (hfew:((backTo cpos (starEach (e::es) X.env)).all (fun x => !x.1) && (backToKw cpos (keywordEach [] X.env)).all (fun x=>x.1.isSome) && decide ((e::es).length+([]:List Keyword).length+(if ([]:List Keyword).isEmpty then 0 else 1) < 30))=true:=by rfl)
  (hline:(apos.endLine==cpos.line)=true:=by rfl) (hs:starEach (e::es) X.env=(false,eval e X.env)::starEach es X.env:=by rfl) (hplain:(backTo cpos (starEach es X.env)).any (·.1)=false:=by rfl) :
  PE X (.Call (.Attribute o name apos) (e::es) [] cpos) (tBM K T r to t):=by
 subst hK
 exact q9m pa slot hty hm ho ha hbase hfew hline hs hplain
theorem q3g {x:Str} {f:Addr} (hg:Gl X x) (hm:X.mg x=some (.ref f)) (hd:(x==("__debug__" : Str))=false:=by decide):PE X (.Name x pos) (tC (.ref f)):=j8d (v:=.ref f) hg hm rfl hd
end
noncomputable def x5g (outer scope:Scope):Bool:=scope.kind==.function && scope.names.all fun y=>y.2 != .cell && (y.2 != .local || scope.names.lookup y.1==some .local) && (y.2 != .free || outer.names.lookup y.1==some .cell)
theorem z1m {X:Cx} {outer scope:Scope} {NB:List Str} {n:Nat} {fr:List Nat} (hX:X.env.scope=outer) (h:x5g outer scope=true) (hl:NB.length=n+fr.length)
  (ho:∀ (j k:Nat),fr[j]? = some k→∃ x,NB[n+j]? = some x∧X.N[k]? = some x∧scope.names.lookup x=some .free):CompOk X scope NB n fr:=by
 unfold x5g at h
 rw [Bool.and_eq_true,List.all_eq_true] at h
 obtain⟨h1,h2⟩:=h
 refine⟨by simpa using h1,fun y hy=>?_,fun y hy hk=>?_,fun y hy hk=>?_,hl,ho⟩
 ·have:=h2 y hy
  simp only [Bool.and_eq_true,bne_iff_ne,ne_eq] at this
  exact this.1.1
 ·have:=h2 y hy
  simp only [Bool.and_eq_true,Bool.or_eq_true,bne_iff_ne,ne_eq,beq_iff_eq] at this
  exact this.1.2.resolve_left (fun z=>z hk)
 ·have:=h2 y hy
  simp only [Bool.and_eq_true,Bool.or_eq_true,bne_iff_ne,ne_eq,beq_iff_eq] at this
  refine .inl ?_
  show X.env.scope.names.lookup y.1=some .cell
  rw [hX]
  exact this.2.resolve_left (fun z=>z hk)
theorem q5v {X:Cx} {outer scope:Scope} {NB:List Str} {n:Nat} (hX:X.env.scope=outer) (h:x5g outer scope=true) (hl:NB.length=n+0):CompOk X scope NB n [] :=
 z1m hX h hl fun j k e=>by simp at e
theorem x6q {X:Cx} {outer scope:Scope} {NB:List Str} {n k0:Nat} {x:Str} (hX:X.env.scope=outer) (h:x5g outer scope=true) (hl:NB.length=n+1) (h1:NB[n]? = some x) (h2:X.N[k0]? = some x) (h3:scope.names.lookup x=some .free):CompOk X scope NB n [k0] :=
 z1m hX h hl fun j k e=>by
  cases j with
  | zero=>cases e; exact⟨x,h1,h2,h3⟩
  | succ j=>simp at e
theorem x2t {X:Cx} {outer scope:Scope} {NB:List Str} {n k0 k1:Nat} {x y:Str} (hX:X.env.scope=outer) (h:x5g outer scope=true) (hl:NB.length=n+2) (h1:NB[n]? = some x) (h2:X.N[k0]? = some x) (h3:scope.names.lookup x=some .free)
  (g1:NB[n+1]? = some y) (g2:X.N[k1]? = some y) (g3:scope.names.lookup y=some .free):CompOk X scope NB n [k0,k1] :=
 z1m hX h hl fun j k e=>by
  match j,e with
  | 0,e=>cases e; exact⟨x,h1,h2,h3⟩
  | 1,e=>cases e; exact⟨y,g1,g2,g3⟩
  | j+2,e=>simp at e
theorem q2w {J:It} {H1:Hp} {n k:Nat} {frs:St} {g:TG} {tt:TT} {te:TE} {Q:VK} (p:Nat→Bool) (f:Nat→V) (hn:n < sizeLine)
  (go:∀ i H,i < n→q1b H1 H→J.go i H) (stop:∀ H,q1b H1 H→J.stop n H)
  (turn:∀ i H t x H2 (R:St→Hp→Option V→Prop),i < n→q1b H1 H→t.length=k→J.yld i H x H2 →
   (∀ t' H',t'.length=k→q1b H H'→R (t'++frs) H' (if p i=true then some (f i) else none)) →
   g x (t++frs) H2 fun σ3 H3=>tt σ3 H3 fun b H4=>if b=true then te σ3 H4 fun v H5=>R σ3 H5 (some v) else R σ3 H4 none)
  (hq:∀ D H',q1b H1 H'→H1 D=none→H' D=some (.lst (((List.range n).filter p).map f))→Q (.ref D) H'):x3b (List.replicate k none++frs) g tt te Q J H1:=by
 intro D hD
 refine⟨fun i m ys σ H=>i≤n∧m=n - i∧ys=((List.range i).filter p).map f∧q1b H1 H∧∃ t,t.length=k∧σ=t++frs,⟨n,Nat.zero_le _,rfl,rfl,q0g hD,_,by simp,rfl⟩,?_⟩
 rintro i m ys σ H ⟨hi,rfl,rfl,s1,t,ht,rfl⟩ hd
 by_cases hlt:i < n
 ·right
  refine⟨go i H hlt s1,?_,fun x H2 y=>?_⟩
  ·refine Nat.lt_of_le_of_lt ?_ hn
   rw [List.length_map]
   exact Nat.le_trans (List.length_filter_le _ _) (by simpa using hi)
  ·have h:=turn i H t x H2 (fun σ3 H5 r=>match r with
    | some v=>H5 D=some (.lst (((List.range i).filter p).map f))∧∃ m',m' < n - i∧(i+1≤n∧m'=n - (i+1)∧((List.range i).filter p).map f++[v]=((List.range (i+1)).filter p).map f∧q1b H1 (upd H5 D (.lst (((List.range i).filter p).map f++[v])))∧∃ t,t.length=k∧σ3=t++frs)
    | none=>H5 D=some (.lst (((List.range i).filter p).map f))∧∃ m',m' < n - i∧(i+1≤n∧m'=n - (i+1)∧((List.range i).filter p).map f=((List.range (i+1)).filter p).map f∧q1b H1 H5∧∃ t,t.length=k∧σ3=t++frs)) hlt s1 ht y ?_
   ·exact h
   ·intro t' H' ht' s2
    cases hp:p i with
    | true =>
     rw [if_pos rfl]
     refine⟨s2 _ _ hd,n - (i+1),by omega,by omega,rfl,?_,fun b o e=>?_,t',ht',rfl⟩
     ·rw [List.range_succ,List.filter_append,List.map_append]
      simp [hp]
     ·rw [q1a (q1s e hD)]; exact s2 _ _ (s1 _ _ e)
    | false =>
     rw [if_neg Bool.false_ne_true]
     refine⟨s2 _ _ hd,n - (i+1),by omega,by omega,rfl,?_,s1.trans s2,t',ht',rfl⟩
     rw [List.range_succ,List.filter_append,List.map_append]
     simp [hp]
 ·have e:i=n:=by omega
  subst e
  exact .inl ⟨stop H s1,hq D H s1 hD hd⟩
noncomputable def spP (f:D→Bool):Sp:=fun vs H Q _=>∃ B v d,B≤100000∧vs=[v]∧Is B H v d∧∀ H',q1b H H'→Q (.bl (f d)) H'
theorem q2c {f:D→Bool}:∀ vs H Q E,spP f vs H Q E→vs.length=1:=fun vs H Q E ⟨_,_,_,_,e,_⟩=>by subst e; rfl
structure Cal (P:Program) (w:World) (K:Frag) (mg:Str→Option Value) (base:Heap) (name:Str) (k:Nat) (ps:List Str) (sp:Sp):Prop where
 ex:∃ f fd,FnOk P w K mg base CX0 k f fd ps sp∧mg name=some (.ref f)∧keepIn K (.ref f)=true∧q3p K fd ps []
theorem q0h {X:Cx} {x:Str} {k:Nat} {ps:List Str} {sp:Sp} {e:Expr} {es:List Expr} {t:TA} {p pos:Pos} (C:Cal X.prog X.w X.K X.mg X.base x k ps sp) (hr:Room k X.A) (ha:PA X (e::es) t) (hg:Gl X x:=by rfl) (hdb:(x==("__debug__" : Str))=false:=by decide) (he:starEach (e::es) X.env=(false,eval e X.env)::starEach es X.env:=by rfl) (hpl:(backTo pos (starEach es X.env)).any (·.1)=false:=by rfl) :
  PE X (.Call (.Name x p) (e::es) [] pos) (j3y sp [] E0 t):=let ⟨_,_,F,hm,hk,hb⟩:=C.ex; x0w F hr hg hm hk hb .nil x4e ha hdb he hpl
theorem j5b {n B:Nat} (h:n≤B) (hB:B≤100000):n≤sizeLine:=by rw [sizeLine_eq]; omega
noncomputable def whole (d:D):Bool:=isInt d && !z8f d
theorem x4j {d:D} (h:whole d=true):∃ i,d=.int i:=by
 cases d with
 | int i=>exact⟨i,rfl⟩
 | _=>cases h
section
variable {X:Cx} {es:List Expr} {te:TE} {t:TA} {pos:Pos}
theorem q5x {c:Const} {k:Nat} (ha:PE X (.Constant c k pos) te) (hr:PA X es t):PA X (.Constant c k pos::es) (q8p te t):=q0c ha hr rfl
theorem q1g {x:Str} (ha:PE X (.Name x pos) te) (hr:PA X es t):PA X (.Name x pos::es) (q8p te t):=q0c ha hr rfl
theorem j9j {l:List Expr} {k:Nat} (ha:PE X (.Tuple l k pos) te) (hr:PA X es t):PA X (.Tuple l k pos::es) (q8p te t):=q0c ha hr rfl
theorem q7o {o:Operator} {a b:Expr} (ha:PE X (.BinOp a o b pos) te) (hr:PA X es t):PA X (.BinOp a o b pos::es) (q8p te t):=q0c ha hr rfl
theorem q7n {f:Expr} {as:List Expr} {ks:List Keyword} (ha:PE X (.Call f as ks pos) te) (hr:PA X es t):PA X (.Call f as ks pos::es) (q8p te t):=q0c ha hr rfl
theorem q4p {a b:Expr} (ha:PE X (.Subscript a b pos) te) (hr:PA X es t):PA X (.Subscript a b pos::es) (q8p te t):=q0c ha hr rfl
theorem w5a {a:Expr} {o:List CmpOp} {b:List Expr} (ha:PE X (.Compare a o b pos) te) (hr:PA X es t):PA X (.Compare a o b pos::es) (q8p te t):=q0c ha hr rfl
end
theorem z5d {a b:Expr} {o:Operator} {pos:Pos}:x2x (.BinOp a o b pos):=fun _ _=>rfl
theorem w5b {x:Str} {pos:Pos}:x2x (.Name x pos):=fun _ _=>rfl
theorem q2q {c:Const} {k:Nat} {pos:Pos}:x2x (.Constant c k pos):=fun _ _=>rfl
theorem w4u {o:UnaryOp} {a:Expr} {pos:Pos}:x2x (.UnaryOp o a pos):=fun _ _=>rfl
theorem w4e {l:List Expr} {p:Pos} {t:Option Expr} {n:Nat} {env:Env}:swapsWith (.List l p) t n env=pure false:=rfl
structure QA (X:Cx) (es:List Expr) (t:TA):Prop where
 h:PA X es t
section
variable {X:Cx} {es l:List Expr} {t u:TA} {p p':Pos} {j:Nat}
theorem q4g:QA X [] w1j:=⟨q0b⟩
theorem x2c {i:Int} (r:QA X es t):QA X (.Constant (.int i) j p::es) (q8p (tC (.int i)) t):=⟨q0c q0a r.h rfl⟩
theorem q1q {i:Str} (r:QA X es t):QA X (.Constant (.str i) j p::es) (q8p (tC (.str i)) t):=⟨q0c q0n r.h rfl⟩
theorem w1d (r:QA X es t):QA X (.Constant .none j p::es) (q8p (tC .non) t):=⟨q0c x4n r.h rfl⟩
end
structure QE (X:Cx) (e:Expr) (t:TE):Prop where
 h:PE X e t
structure QS (X:Cx) (st:Stmt) (t:TS):Prop where
 h:PS X st t
section
variable {X:Cx} {es:List Expr} {t:TA} {p p' pos:Pos} {j:Nat}
theorem x4t (a:QA X es t):QE X (.List es p) (w4j t):=⟨x0h a.h⟩
theorem j0v {i:Nat} {x:Str} {e:Expr} {te:TE} (hN:X.N.Nodup) (hi:X.N[i]? = some x) (hx:Loc X.env.scope x) (he:QE X e te) (hs:swapsWith e (some (.Name x p')) pos.line X.env=pure false) (hf:X.fn x=true∨X.env.scope.names.lookup x=some .local:=by first | exact .inl rfl | exact .inr rfl | assumption) :
  QS X (.Assign [.Name x p'] e pos) (w1y te (z9c i)):=⟨q0z hN hi hx he.h hs hf⟩
end
end Kp
namespace Kp
open PySem L2 PyProof.Rows
noncomputable def w2w (K:Frag) (w:World) (to:TE) (t:TA):TE:=fun σ H Q=>to σ H fun x H1=>∃ a es n,x=.ref a∧K.lookup a=some ⟨.type "dict",none,.dict es n,#[]⟩∧PySem.W.KeysLit w.params es.toList∧(a==sysModules)=false ∧
 t σ H1 fun xs H2=>∃ k v,xs=[.str k]∧q5e v ((findBy Value.isStrOf es k).getD .none)∧Q v H2
theorem x2j {X:Cx} {o e:Expr} {to:TE} {t:TA} {apos cpos:Pos} (ho:PE X o to) (ha:PA X [e] t)
  (hbase:attributeBase o "get" X.env (eval o X.env)=eval o X.env:=by rfl)
  (hfew:((backTo cpos (starEach [e] X.env)).all (fun x => !x.1) && (backToKw cpos (keywordEach [] X.env)).all (fun x=>x.1.isSome)
   && decide ([e].length+([]:List Keyword).length+(if ([]:List Keyword).isEmpty then 0 else 1) < 30))=true:=by rfl)
  (hline:(apos.endLine==cpos.line)=true:=by rfl) (hs:starEach [e] X.env=(false,eval e X.env)::starEach [] X.env:=by rfl) :
  PE X (.Call (.Attribute o "get" apos) [e] [] cpos) (w2w X.K X.w to t):=by
 intro pins s σ H Q I h
 refine wpAny_Call_method_late hbase hfew hline rfl (thn (ho pins s σ H _ I h) fun v s1 ⟨x,H1,I1,r1,a,es,n,ex,hl,hk,hsys,q1⟩=>?_)
 subst ex
 cases r1
 have hm:=PySem.W.mapOf_K (prog:=X.prog) (w:=X.w) I1.kIn hl hk
 refine⟨"dict", "dict.get",PySem.F.plainAttrs_dict,PySem.F.slot_dict_get,PySem.F.type_dict_get,hm.typeIs,fun b e=>?_,?_⟩
 ·cases e
  exact⟨_,I1.kIn _ _ hl,rfl⟩
 have hA:=ha cpos pins s1 σ H1 _ I1 q1
 rw [hs] at hA ⊢
 refine Calls.callWith_builtin rfl (Calls.evalArgs_plain ?_)
 refine thn hA fun us s2 ⟨vs,H2,I2,r2,k,vv,e2,rv,q2⟩=>?_
 subst e2
 obtain⟨u,rfl,t',rfl⟩:=x1d r2
 have hm2:=PySem.W.mapOf_K (prog:=X.prog) (w:=X.w) I2.kIn hl hk
 exact call_meetsIn PySem.F.slot_dict_get hm2.typeIs PySem.F.entry_dict_get (PySem.F.args_dict_get_2 _ _) (meets_dict_get (strKind X.prog X.w) a (strKind_is X.prog X.w k t') hsys) ⟨_,hm2,vv,H2,I2.tok _,rv,q2⟩
structure Tl (P:Program) (w:World) (K:Frag) (mg:Str→Option Value) (base:Heap) (k:Nat) (g:Addr) (p:D→Bool):Prop where
 ex:∃ k' fd px,k'≤k∧FnOk P w K mg base CX0 k' g fd [px] (spP p)∧keepIn K (.ref g)=true∧q3p K fd [px] []
noncomputable def w1f (P:Program) (w:World) (K:Frag) (mg:Str→Option Value) (base:Heap) (k:Nat) (E:XK) (tf:TE) (t:TA):TE:=fun σ H Q=>tf σ H fun x H1=>∃ g p,x=.ref g∧Tl P w K mg base k g p∧t σ H1 fun vs H2=>spP p (vs++[]) H2 Q E
theorem j4v {X:Cx} {P:Program} {w:World} {K:Frag} {mg:Str→Option Value} {base:Heap} {k:Nat} {E:XK} {x:Str} {p pos:Pos} {e:Expr} {es:List Expr} {tf:TE} {t:TA} (h1:X.prog=P) (h2:X.w=w) (h3:X.K=K) (h4:X.mg=mg) (h5:X.base=base) (hr:Room k X.A)
  (hx:q8j CX0 X E) (hf:PE X (.Name x p) tf) (ha:PA X (e::es) t)
  (he:starEach (e::es) X.env=(false,eval e X.env)::starEach es X.env:=by rfl) (hpl:(backTo pos (starEach es X.env)).any (·.1)=false:=by rfl) :
  PE X (.Call (.Name x p) (e::es) [] pos) (w1f P w K mg base k E tf t):=by
 subst h1 h2 h3 h4 h5
 intro pins s σ H Q I h
 refine wpAny_Call_Name_kw (thn (hf pins s σ H _ I h) fun u s0 ⟨v,H0,I0,r0,g,p,e0,T,q0⟩=>?_)
 subst e0
 cases r0
 obtain⟨k',fd,px,hk',F,hk,hb⟩:=T.ex
 refine PySem.W.callWith_K (h₀:=X.base) I.ok.mod.kin hk (thn (ha pos pins s0 σ H0 _ I0 q0) fun us s1 ⟨vs,H1,I1,r,q⟩=>⟨I1.kIn,?_⟩) he hpl
 exact x9f F (hr.mono hk') hb .nil hx I1 r q
section
variable {P:Program} {w:World} {K:Frag} {mg:Str→Option Value} {base:Heap}
inductive Tls (P:Program) (w:World) (K:Frag) (mg:Str→Option Value) (base:Heap) (k:Nat):List V→List (D→Bool)→Prop
 | nil:Tls P w K mg base k [] []
 | cons {g:Addr} {p:D→Bool} {gs:List V} {ps:List (D→Bool)} (h:Tl P w K mg base k g p) (t:Tls P w K mg base k gs ps):Tls P w K mg base k (.ref g::gs) (p::ps)
theorem Tls.length {k:Nat}:∀ {gs ps},Tls P w K mg base k gs ps→gs.length=ps.length
 | _,_,.nil=>rfl
 | _,_,.cons _ t=>by simp [Tls.length t]
theorem Tls.get {k:Nat}:∀ {gs ps} {i:Nat} {v:V},Tls P w K mg base k gs ps→gs[i]? = some v→∃ g p,v=.ref g∧ps[i]? = some p∧Tl P w K mg base k g p
 | _,_,_,_,.nil,e=>by simp at e
 | _,_,0,_,.cons h _,e=>by simp at e; subst e; exact⟨_,_,rfl,rfl,h⟩
 | _,_,i+1,v,.cons _ t,e=>by
  obtain⟨g,p,a,b,c⟩:=Tls.get (i:=i) (v:=v) t (by simpa using e)
  exact⟨g,p,a,by simpa using b,c⟩
inductive Tbl (P:Program) (w:World) (K:Frag) (mg:Str→Option Value) (base:Heap) (k:Nat):List DictEntry→List (Str × List (D→Bool))→Prop
 | nil:Tbl P w K mg base k [] []
 | cons {x:Str} {tk:Tok} {t:Addr} {gs:List V} {ps:List (D→Bool)} {es:List DictEntry} {tb:List (Str × List (D→Bool))} (hs:∀ H:Hp,SqT K H t gs) (ht:Tls P w K mg base k gs ps) (r:Tbl P w K mg base k es tb) :
   Tbl P w K mg base k (⟨PyData.keyHash w.params x,.str x tk,.ref t⟩::es) ((x,ps)::tb)
theorem Tbl.keys {k:Nat}:∀ {es tb},Tbl P w K mg base k es tb→PySem.W.KeysLit w.params es
 | _,_,.nil=>trivial
 | _,_,.cons _ _ r=>⟨⟨_,_,rfl,rfl⟩,Tbl.keys r⟩
theorem Tbl.find {k:Nat} {x:Str}:∀ {es tb},Tbl P w K mg base k es tb→∃ v,q5e v (((es.find? fun e=>Value.isStrOf x e.key).map (·.val)).getD .none) ∧
  ((tb.lookup x=none∧v=.non)∨∃ ps t gs,tb.lookup x=some ps∧v=.ref t∧(∀ H:Hp,SqT K H t gs)∧Tls P w K mg base k gs ps)
 | _,_,.nil=>⟨.non,rfl,.inl ⟨rfl,rfl⟩⟩
 | _,_,@Tbl.cons _ _ _ _ _ _ y tk t gs ps es tb hs ht r=>by
  rw [List.find?_cons,List.lookup_cons]
  have e:Value.isStrOf x (Value.str y tk)=(x==y):=by
   show (y==x)=(x==y)
   rw [Bool.eq_iff_iff,beq_iff_eq,beq_iff_eq]
   exact eq_comm
  dsimp only
  rw [e]
  cases hx:x==y with
  | true=>exact⟨.ref t,rfl,.inr ⟨ps,t,gs,rfl,rfl,hs,ht⟩⟩
  | false=>exact Tbl.find r
end
end Kp
namespace Kp
open PySem
noncomputable def geD (l:Int):D→Bool
 | .int i=>decide (l≤i)
 | _=>false
noncomputable def q0w:List (D→Bool)→List D→Bool
 | [],[]=>true
 | p::ps,d::ds=>p d && q0w ps ds
 | _,_=>false
noncomputable def x0g (ps:List (D→Bool)):D→Bool
 | .tup ds=>q0w ps ds
 | _=>false
noncomputable def q1l:D→Str
 | .tup (.str x::_)=>x
 | _ => ""
noncomputable def q2t (tb:List (Str × List (D→Bool))):D→Bool
 | .tup (.str x::r)=>match tb.lookup x with
  | some ps=>q0w ps r
  | none=>false
 | _=>false
theorem q6p {d:D} {x:Str} (h:q1l d=x) (hx:x ≠ ""):∃ r,d=.tup (.str x::r):=by
 unfold q1l at h
 split at h
 ·subst h; exact⟨_,rfl⟩
 ·exact absurd h.symm hx
theorem x5a:∀ {ps:List (D→Bool)} {ds:List D},ds.length≠ps.length→q0w ps ds=false
 | [],[],h=>absurd rfl h
 | [],_::_,_=>rfl
 | _::_,[],_=>rfl
 | p::ps,d::ds,h=>by rw [q0w,x5a (fun e=>h (by simp [e])),Bool.and_false]
theorem x3w:∀ {ps:List (D→Bool)} {ds:List D},ds.length=ps.length→((List.range ps.length).map fun i=>(ps.getD i fun _=>true) (ds.getD i .non)).all id=q0w ps ds
 | [],[],_=>rfl
 | p::ps,d::ds,h=>by
  have h':ds.length=ps.length:=by simpa using h
  rw [q0w,← x3w h',List.length_cons,List.range_succ_eq_map,List.map_cons,List.all_cons,List.map_map]
  rfl
theorem x0k {tb:List (Str × List (D→Bool))} {d:D} (h:tb.lookup (q1l d)=none):q2t tb d=false:=by
 unfold q2t
 split
 ·rename_i x r
  have h':tb.lookup x=none:=h
  rw [h']
 ·rfl
noncomputable def j0z (nm:D→Bool):List (Str × List (D→Bool)):=[("set",[nm,whole]),("add",[nm,whole]),("get",[nm])]
noncomputable def q6j:D→Bool:=q2t (j0z q2n)
noncomputable def z9f:List (Str × List (D→Bool)):=[("open",[]),("wish",[q2n,geD 1,q6j]),("seats",[q2z])]
noncomputable def x2a:D→Bool:=q2t z9f
noncomputable def q3r:D→Bool:=x0g [geD 1,x2a]
noncomputable def one (p:D→Bool):List D→Bool
 | [a]=>p a
 | _=>false
noncomputable def two (p q:D→Bool):List D→Bool
 | [a,b]=>p a && q b
 | _=>false
noncomputable def x1z (p q s:D→Bool):List D→Bool
 | [a,b,c]=>p a && (q b && s c)
 | _=>false
noncomputable def q6c:D→Bool
 | .tup (.str x::r)=>if x = "get" then one q1z r else if x = "set" ∨ x = "add" then two q1z whole r else false
 | _=>false
noncomputable def x5o:D→Bool
 | .tup (.str x::r)=>match r with
  | [a,b,c]=>if x = "wish" then q1z a && (geD 1 b && q6c c) else false
  | [a]=>if x = "seats" then q4o a else false
  | []=>decide (x = "open")
  | _=>false
 | _=>false
noncomputable def q8i:D→Bool
 | .tup [a,b]=>geD 1 a && x5o b
 | _=>false
theorem z6a (p q:D→Bool):∀ r:List D,q0w [p,q] r=two p q r
 | []=>rfl
 | [_]=>by simp [q0w,one,two,x1z]
 | [a,b]=>by simp [q0w,one,two,x1z]
 | _::_::_::_=>by simp [q0w,one,two,x1z]
theorem w1t (p:D→Bool):∀ r:List D,q0w [p] r=one p r
 | []=>rfl
 | [a]=>by simp [q0w,one,two,x1z]
 | _::_::_=>by simp [q0w,one,two,x1z]
theorem j8p (p q s:D→Bool):∀ r:List D,q0w [p,q,s] r=x1z p q s r
 | []=>rfl
 | [_]=>by simp [q0w,one,two,x1z]
 | [_,_]=>by simp [q0w,one,two,x1z]
 | [a,b,c]=>by simp [q0w,one,two,x1z]
 | _::_::_::_::_=>by simp [q0w,one,two,x1z]
theorem x1a:q2n=q1z:=funext j8e
theorem z4d:q2z=q4o:=funext j2n
theorem w3m:("set" : Str) ≠ "get" := by decide +kernel
theorem w4f:("add" : Str) ≠ "get" := by decide +kernel
theorem j6o (d:D):q6j d=q6c d:=by
 unfold q6j q2t q6c
 split
 ·rename_i x r
  unfold j0z
  rw [List.lookup_cons,List.lookup_cons,List.lookup_cons,List.lookup_nil,x1a]
  by_cases h1:x = "set"
  ·have e1:(x==("set" : Str))=true:=by simp [h1]
   rw [e1,if_neg (by rw [h1]; exact w3m),if_pos (.inl h1)]
   exact z6a _ _ r
  ·have e1:(x==("set" : Str))=false:=by simp [h1]
   by_cases h2:x = "add"
   ·have e2:(x==("add" : Str))=true:=by simp [h2]
    rw [e1,e2,if_neg (by rw [h2]; exact w4f),if_pos (.inr h2)]
    exact z6a _ _ r
   ·have e2:(x==("add" : Str))=false:=by simp [h2]
    by_cases h3:x = "get"
    ·have e3:(x==("get" : Str))=true:=by simp [h3]
     rw [e1,e2,e3,if_pos h3]
     exact w1t _ r
    ·have e3:(x==("get" : Str))=false:=by simp [h3]
     rw [e1,e2,e3,if_neg h3,if_neg (by rintro (z | z); exact h1 z; exact h2 z)]
 ·rfl
theorem j1h:q6j=q6c:=funext j6o
theorem w3d:("open" : Str) ≠ "wish" := by decide +kernel
theorem w2v:("open" : Str) ≠ "seats" := by decide +kernel
theorem w2n:("wish" : Str) ≠ "seats" := by decide +kernel
theorem w3w:("wish" : Str) ≠ "open" := by decide +kernel
theorem w2x:("seats" : Str) ≠ "wish" := by decide +kernel
theorem w2z:("seats" : Str) ≠ "open" := by decide +kernel
theorem j6k (d:D):x2a d=x5o d:=by
 unfold x2a q2t x5o
 split
 ·rename_i x r
  unfold z9f
  rw [List.lookup_cons,List.lookup_cons,List.lookup_cons,List.lookup_nil,x1a,j1h,z4d]
  by_cases h1:x = "open"
  ·subst h1
   rw [show ((("open" : Str))==("open" : Str))=true by simp]
   match r with
   | []=>simp [q0w]
   | [a]=>exact (if_neg w2v).symm
   | [a,b]=>rfl
   | [a,b,c]=>exact (if_neg w3d).symm
   | _::_::_::_::_=>rfl
  ·have e1:(x==("open" : Str))=false:=by simp [h1]
   rw [e1]
   by_cases h2:x = "wish"
   ·subst h2
    rw [show ((("wish" : Str))==("wish" : Str))=true by simp]
    show q0w [q1z,geD 1,q6c] r=_
    rw [j8p]
    match r with
    | []=>exact (decide_eq_false w3w).symm
    | [a]=>exact (if_neg w2n).symm
    | [a,b]=>rfl
    | [a,b,c]=>exact (if_pos rfl).symm
    | _::_::_::_::_=>rfl
   ·have e2:(x==("wish" : Str))=false:=by simp [h2]
    rw [e2]
    by_cases h3:x = "seats"
    ·subst h3
     rw [show ((("seats" : Str))==("seats" : Str))=true by simp]
     show q0w [q4o] r=_
     rw [w1t]
     match r with
     | []=>exact (decide_eq_false w2z).symm
     | [a]=>exact (if_pos rfl).symm
     | [a,b]=>rfl
     | [a,b,c]=>exact (if_neg w2x).symm
     | _::_::_::_::_=>rfl
    ·have e3:(x==("seats" : Str))=false:=by simp [h3]
     rw [e3]
     match r with
     | []=>exact (decide_eq_false h1).symm
     | [a]=>exact (if_neg h3).symm
     | [a,b]=>rfl
     | [a,b,c]=>exact (if_neg h2).symm
     | _::_::_::_::_=>rfl
 ·rfl
theorem j8x:x2a=x5o:=funext j6k
theorem j1t (d:D):q3r d=q8i d:=by
 unfold q3r x0g q8i
 rw [j8x]
 split
 ·rename_i ds
  rw [z6a]
  match ds with
  | []=>rfl
  | [_]=>rfl
  | [a,b]=>rfl
  | _::_::_::_=>rfl
 ·rename_i h
  cases d with
  | tup ds=>exact absurd rfl (h ds)
  | _=>rfl
theorem z7f (r:List D):q6c (.tup (.str "get" :: r))=one q1z r:=by unfold q6c; exact if_pos rfl
noncomputable def z5k:D→Nat
 | .tup ds=>ds.length
 | _=>0
noncomputable def j3d:D→List D
 | .tup (_::r)=>r
 | _=>[]
noncomputable def z1h (d:D):Bool:=if q1l d = "wish" ∧ z5k d=4 then x1z q1z (geD 1) q6c (j3d d) else if q1l d = "seats" ∧ z5k d=2 then one q4o (j3d d) else decide (q1l d = "open" ∧ z5k d=1)
theorem j2u {d:D} (h:q1l d = ""):z1h d=false:=by
 unfold z1h
 rw [h,if_neg (fun z=>absurd z.1 (by decide +kernel)),if_neg (fun z=>absurd z.1 (by decide +kernel)),decide_eq_false (fun z=>absurd z.1 (by decide +kernel))]
theorem w1o (d:D):z1h d=x5o d:=by
 by_cases h:q1l d = ""
 ·rw [j2u h]
  unfold x5o
  split
  ·rename_i x r
   have hx:x = "" := h
   subst hx
   match r with
   | []=>exact (decide_eq_false (by decide +kernel)).symm
   | [a]=>exact (if_neg (by decide +kernel)).symm
   | [a,b]=>rfl
   | [a,b,c]=>exact (if_neg (by decide +kernel)).symm
   | _::_::_::_::_=>rfl
  ·rfl
 ·obtain⟨r,e⟩:=q6p (d:=d) rfl h
  generalize q1l d=x at e h
  subst e
  show (if x = "wish" ∧ r.length+1=4 then x1z q1z (geD 1) q6c r else if x = "seats" ∧ r.length+1=2 then one q4o r else decide (x = "open" ∧ r.length+1=1))=_
  match r with
  | [] =>
   rw [if_neg (fun z=>absurd z.2 (by decide)),if_neg (fun z=>absurd z.2 (by decide))]
   show decide (x = "open" ∧ 0+1=1)=decide (x = "open")
   simp
  | [a] =>
   rw [if_neg (fun z=>absurd z.2 (by simp))]
   show _=if x = "seats" then q4o a else false
   by_cases hs:x = "seats"
   ·rw [if_pos ⟨hs,rfl⟩,if_pos hs]; rfl
   ·rw [if_neg (fun z=>hs z.1),if_neg hs,decide_eq_false (fun z=>absurd z.2 (by simp))]
  | [a,b] =>
   rw [if_neg (fun z=>absurd z.2 (by simp)),if_neg (fun z=>absurd z.2 (by simp)),decide_eq_false (fun z=>absurd z.2 (by simp))]
   rfl
  | [a,b,c] =>
   show _=if x = "wish" then q1z a && (geD 1 b && q6c c) else false
   by_cases hs:x = "wish"
   ·rw [if_pos ⟨hs,rfl⟩,if_pos hs]; rfl
   ·rw [if_neg (fun z=>hs z.1),if_neg hs,if_neg (fun z=>absurd z.2 (by simp)),decide_eq_false (fun z=>absurd z.2 (by simp))]
  | _::_::_::_::_ =>
   rw [if_neg (fun z=>absurd z.2 (by simp)),if_neg (fun z=>absurd z.2 (by simp)),decide_eq_false (fun z=>absurd z.2 (by simp))]
   rfl
theorem j3h:z1h=x5o:=funext w1o
end Kp
namespace K1
open PySem L2 Kp
noncomputable def top (i:Nat):Stmt:=PySem.Challenge.pw_keeplog_k07_whole_nothing_else.main.body.getD i (.Pass ⟨0,0,0,0⟩)
noncomputable abbrev z9x:Stmt:=top 4
noncomputable abbrev x2m:Stmt:=top 5
noncomputable abbrev q5u:Stmt:=top 6
noncomputable abbrev q7w:Stmt:=top 7
noncomputable abbrev z1c:Stmt:=top 8
noncomputable abbrev x5i:Stmt:=top 9
noncomputable abbrev j2p:Stmt:=top 10
noncomputable abbrev x2q:Stmt:=top 11
noncomputable abbrev w1z:Stmt:=top 12
noncomputable abbrev z2p:Stmt:=top 13
noncomputable abbrev q9h:Stmt:=top 14
noncomputable abbrev q4t:Stmt:=top 15
noncomputable abbrev x4w:Stmt:=top 17
noncomputable abbrev j0k:Stmt:=top 18
noncomputable abbrev x3t:Stmt:=top 20
noncomputable abbrev x2o:Stmt:=top 21
noncomputable abbrev q9g:Stmt:=top 22
noncomputable abbrev q6y:Stmt:=top 23
noncomputable abbrev q5a:Stmt:=top 24
noncomputable abbrev q4i:Stmt:=top 25
noncomputable abbrev x2u:Stmt:=top 26
noncomputable abbrev q9t:Stmt:=top 27
noncomputable abbrev x2p:Stmt:=top 28
noncomputable abbrev x6o:Stmt:=top 29
noncomputable abbrev x4p:Stmt:=top 30
noncomputable abbrev q5g:Stmt:=top 31
noncomputable abbrev x0m:Stmt:=top 33
noncomputable abbrev q4q:Stmt:=top 35
noncomputable abbrev q5r:Stmt:=z0r (top 37) 0
noncomputable abbrev q8v:Stmt:=z0r (top 37) 1
noncomputable abbrev q4y:Stmt:=z0r (top 37) 2
noncomputable abbrev q4j:Stmt:=top 38
noncomputable abbrev q8a:Stmt:=top 39
noncomputable abbrev x0z:Stmt:=top 40
noncomputable abbrev q8z:Stmt:=top 41
noncomputable abbrev x1c:Stmt:=top 42
noncomputable abbrev q6o:Stmt:=top 43
noncomputable abbrev q4s:Stmt:=top 44
noncomputable abbrev q5k:Stmt:=top 45
noncomputable abbrev q9c:Stmt:=top 46
noncomputable abbrev x0t:Stmt:=top 48
noncomputable abbrev x0v:Stmt:=top 50
noncomputable abbrev q9l:Stmt:=top 51
noncomputable abbrev q7a:Stmt:=top 52
noncomputable abbrev q5q:Stmt:=top 53
noncomputable abbrev q4b:Stmt:=top 54
noncomputable abbrev q5f:Stmt:=top 55
noncomputable abbrev q3q:Stmt:=top 56
noncomputable abbrev q9a:Stmt:=top 57
noncomputable abbrev x1h:Stmt:=top 58
noncomputable abbrev z8i:Stmt:=top 60
noncomputable abbrev j8r:Stmt:=top 62
noncomputable abbrev j0i:Stmt:=top 63
noncomputable abbrev z0y:Stmt:=top 64
noncomputable abbrev q5p:Stmt:=top 65
noncomputable abbrev q6g:Stmt:=top 66
noncomputable abbrev q6v:Stmt:=top 67
noncomputable abbrev x3j:Stmt:=top 68
noncomputable abbrev q6z:Stmt:=top 69
noncomputable abbrev q6d:Stmt:=top 70
noncomputable abbrev q3b:Stmt:=top 71
noncomputable abbrev q3s:Stmt:=top 72
noncomputable abbrev q6k:Stmt:=top 73
noncomputable abbrev q7d:Stmt:=top 74
noncomputable abbrev q3x:Stmt:=top 75
noncomputable abbrev q5w:Stmt:=top 76
noncomputable abbrev j8q:Stmt:=top 77
noncomputable abbrev x2w:Stmt:=top 78
noncomputable abbrev q9r:Stmt:=top 79
noncomputable abbrev q7r:Stmt:=top 80
noncomputable abbrev z3n:Stmt:=top 81
noncomputable abbrev x1e:Stmt:=top 82
noncomputable abbrev x0s:Stmt:=top 83
noncomputable abbrev z1a:Stmt:=top 84
noncomputable abbrev x1b:Stmt:=top 85
noncomputable abbrev q8y:Stmt:=top 86
noncomputable abbrev q9w:Stmt:=top 87
noncomputable abbrev x0a:Stmt:=top 88
noncomputable abbrev q9o:Stmt:=top 89
noncomputable abbrev x0o:Stmt:=top 90
noncomputable abbrev q5l:Stmt:=top 91
noncomputable abbrev q7x:Stmt:=top 92
noncomputable abbrev q4h:Stmt:=top 93
noncomputable abbrev q5j:Stmt:=top 94
noncomputable abbrev q3o:Stmt:=top 95
noncomputable abbrev q4r:Stmt:=top 96
noncomputable abbrev q4x:Stmt:=top 97
noncomputable abbrev q2e:Stmt:=top 98
noncomputable abbrev q7c:Stmt:=top 99
noncomputable abbrev q7b:Stmt:=top 100
noncomputable abbrev q5h:Stmt:=top 101
noncomputable abbrev q7e:Stmt:=top 102
noncomputable abbrev j2i:Stmt:=top 103
structure Txt (mg:Str→Option Value):Prop where
 isi:mg "isinstance" = none
 int:mg "int" = none
 bool:mg "bool" = none
 str:mg "str" = none
 tuple:mg "tuple" = none
 list:mg "list" = none
 all:mg "all" = none
 zip:mg "zip" = none
 len:mg "len" = none
 range:mg "range" = none
section
variable {P:Program} {w:World} {K:Frag} {mg:Str→Option Value} {base:Heap}
theorem scW:FnScope ["thing"] ["thing"] (q0e z9x):=fSc
theorem j2w {f:Addr} {fd:FuncData} (F:Fun K "is_whole" "is_whole" z9x f fd) (T:Txt mg):FnOk P w K mg base CX0 1 f fd ["thing"] (spP whole):=by
 refine F.ok scW q2c (fun _ A _ s H vs Q E hr h=>?_)
 obtain⟨B,v,d,hB,rfl,I,k⟩:=h
 refine⟨_,q0p (q0l (q2b (q0q q2h rfl T.isi q2g (q0c (pv 0) (q0c (q7f rfl T.int q8c) q0b)))
  (q2j (z3g (q0q q2h rfl T.isi q2g (q0c (pv 0) (q0c (q7f rfl T.bool q7l) q0b))))))),?_⟩
 refine⟨_,rfl,_,_,_,_,rfl,I.ty,z0o K d,_,rfl,?_⟩
 have k0:=k H (q1b.refl _)
 unfold whole at k0
 cases e:isInt d with
 | false=>rw [e] at k0; exact q1c k0
 | true =>
  rw [e] at k0
  exact q1m ⟨_,rfl,_,_,_,_,rfl,I.ty,q8f K d,_,rfl,k0⟩
theorem scK:FnScope ["thing"] ["thing"] (q0e z1c):=fSc
theorem z6m {d:D} (h:whole d=false):q0k d=false:=by
 cases d with
 | int i=>cases h
 | _=>rfl
theorem z8z {f:Addr} {fd:FuncData} (F:Fun K "is_keeper" "is_keeper" z1c f fd) (T:Txt mg) (CW:Cal P w K mg base "is_whole" 1 ["thing"] (spP whole)):FnOk P w K mg base CX0 2 f fd ["thing"] (spP q0k):=by
 refine F.ok scK q2c (fun _ A _ s H vs Q E hr h=>?_)
 obtain⟨B,v,d,hB,rfl,I,k⟩:=h
 refine⟨_,q0p (q0l (q2b (q0h CW hr (q0c (pv 0) q0b)) (q2j (x1x x7v x7v q0a (pv 0) q0a)))),?_⟩
 refine⟨_,rfl,B,v,d,hB,rfl,I,fun H' s'=>⟨_,rfl,?_⟩⟩
 have k0:=k H' s'
 cases e:whole d with
 | false=>rw [z6m e] at k0; exact q1c k0
 | true =>
  obtain⟨i,rfl⟩:=x4j e
  cases I
  refine q1m ⟨_,rfl,_,_,rfl,rfl,_,rfl,?_⟩
  have k0:Q (.bl (decide (0≤i) && decide (i≤8))) H':=k0
  by_cases h0:(0:Int)≤i
  ·rw [decide_eq_true h0] at k0 ⊢
   exact q1m ⟨_,_,rfl,rfl,k0⟩
  ·rw [decide_eq_false h0] at k0 ⊢
   exact q1c k0
theorem scN:FnScope ["thing"] ["thing"] (q0e j2p):=fSc
theorem x9e {α:Type} (l:Array Nat) (p:Nat→Bool):((List.range l.size).map fun i=>p (l.getD i 0)).all id=l.toList.all p:=by
 rw [Bool.eq_iff_iff]
 simp only [List.all_eq_true,List.mem_map,List.mem_range,id,forall_exists_index,and_imp]
 constructor
 ·intro h x hx
  obtain⟨i,hi,rfl⟩:=List.mem_iff_getElem.mp hx
  have hi':i < l.size:=by simpa using hi
  have:=h _ i hi' rfl
  simpa [hi'] using this
 ·intro h b i hi e
  subst e
  have:=h l[i] (by simp)
  simpa [hi] using this
theorem j8k {f:Addr} {fd:FuncData} (F:Fun K "is_name" "is_name" j2p f fd) (T:Txt mg):FnOk P w K mg base CX0 1 f fd ["thing"] (spP q2n):=by
 refine F.ok scN q2c (fun _ A _ s H vs Q E hr h=>?_)
 obtain⟨B,v,d,hB,rfl,I,k⟩:=h
 refine⟨_,q0p (q0l (q2b (q0q q2h rfl T.isi q2g (q0c (pv 0) (q0c (q7f rfl T.str x3k) q0b)))
  (q2b (x1x x7v x7v q0a (q0q q2v rfl T.len PySem.boot_len (q0c (pv 0) q0b)) q0a)
  (q2j (q0q (x0f rfl) rfl T.all q7m (q0c (q3u (NB:=["sign"]) (n:=1) (fr:=[]) (q5v (outer:=q0e j2p) rfl (by decide +kernel) rfl) rfl (z9j (pv 0))
   (fun _ _ _ _ _=>q1i (i:=0) (show (["sign"]:List Str).Nodup by decide +kernel) rfl (Or.inl rfl)) (fun _ _ _ _ _=>q2u) (fun _ _ _ _ _=>x1x q9d q9d q0n (pv 0) q0n)) q0b)))))),?_⟩
 refine⟨_,rfl,_,_,_,_,rfl,I.ty,x6r K d,_,rfl,?_⟩
 cases d with
 | str x =>
  cases I with
  | str _ hx =>
  refine q1m ⟨_,rfl,x,rfl,j5b hx hB,1,_,rfl,rfl,_,rfl,?_⟩
  have k1:∀ H',q1b H H'→Q (.bl ((decide (1≤x.length) && decide (x.length≤8)) && x.cps.toList.all q3n)) H':=k
  by_cases h1:1≤x.length
  ·rw [decide_eq_true (show (1:Int)≤(x.length:Int) by omega)]
   refine q1m ⟨_,8,rfl,rfl,_,rfl,?_⟩
   by_cases h8:x.length≤8
   ·rw [decide_eq_true (show (x.length:Int)≤8 by omega)]
    refine q1m ⟨_,rfl,x,rfl,q2w (J:=Its x) (k:=1) (fun _=>true) (fun i=>.bl (q3n (x.cps.getD i 0))) (show x.cps.size < sizeLine by rw [sizeLine_eq]; have:x.cps.size=x.length:=rfl; omega) (fun i H hi _=>hi) (fun H _=>rfl) ?_ ?_⟩
    ·intro i H2 t v H3 R hi s1 ht y hR
     obtain⟨rfl,c,hc,rfl⟩:=y
     have ht':∃ t0,t=[t0]:=by
      match t,ht with
      | [t0],_=>exact⟨t0,rfl⟩
     obtain⟨t0,rfl⟩:=ht'
     have ec:x.cps.getD i 0=c:=by rw [Array.getD_eq_getD_getElem?,hc]; rfl
     have hR':=hR [some (.str ⟨#[c]⟩)] H3 rfl (q1b.refl _)
     rw [ec] at hR'
     refine⟨_,rfl,_,_,rfl,rfl,_,rfl,?_⟩
     rw [w6h]
     unfold q3n at hR'
     by_cases h97:97≤c
     ·rw [decide_eq_true h97] at hR' ⊢
      refine q1m ⟨_,_,rfl,rfl,?_⟩
      rw [w5d]
      exact hR'
     ·rw [decide_eq_false h97] at hR' ⊢
      exact q1c hR'
    ·intro D H' s1 hD hd
     refine⟨D,(List.range x.cps.size).map fun i=>q3n (x.cps.getD i 0),rfl,SqL.of ?_,?_⟩
     ·rw [hd,List.filter_eq_self.mpr (fun _ _=>rfl),List.map_map]
      rfl
     ·have k2:=k1 H' s1
      rw [decide_eq_true h1,decide_eq_true h8] at k2
      rw [x9e (α:=Nat)]
      exact k2
   ·rw [decide_eq_false (show ¬ (x.length:Int)≤8 by omega)]
    have k2:=k1 H (q1b.refl _)
    rw [decide_eq_true h1,decide_eq_false h8] at k2
    exact q1c k2
  ·rw [decide_eq_false (show ¬ (1:Int)≤(x.length:Int) by omega)]
   have k2:=k1 H (q1b.refl _)
   rw [decide_eq_false h1] at k2
   exact q1c ⟨_,rfl,q1c k2⟩
 | non=>exact q1c (k H (q1b.refl _))
 | bl _=>exact q1c (k H (q1b.refl _))
 | int _=>exact q1c (k H (q1b.refl _))
 | tup _=>exact q1c (k H (q1b.refl _))
 | lst _=>exact q1c (k H (q1b.refl _))
noncomputable def w2u (p:D→Bool):D→Bool
 | .tup ds=>ds.all p
 | _=>false
noncomputable def j3m (f:Addr) (p:D→Bool):Sp:=fun vs H Q _=>∃ B v d,B≤100000∧vs=[v,.ref f]∧Is B H v d∧∀ H',q1b H H'→Q (.bl (w2u p d)) H'
theorem scR:FnScope ["thing", "teller"] ["thing", "teller"] (q0e w1z):=fSc
theorem z6k (l:List D) (p:D→Bool):((List.range l.length).map fun i=>p (l.getD i .non)).all id=l.all p:=by
 rw [Bool.eq_iff_iff]
 simp only [List.all_eq_true,List.mem_map,List.mem_range,id,forall_exists_index,and_imp]
 constructor
 ·intro h x hx
  obtain⟨i,hi,rfl⟩:=List.mem_iff_getElem.mp hx
  have:=h _ i hi rfl
  simpa [hi] using this
 ·intro h b i hi e
  subst e
  have:=h l[i] (List.getElem_mem hi)
  simpa [hi] using this
theorem z3k {f g:Addr} {fd gd:FuncData} {p:D→Bool} {kk:Nat} {px:Str} (F:Fun K "is_row_of" "is_row_of" w1z f fd) (T:Txt mg) (G:FnOk P w K mg base CX0 kk g gd [px] (spP p)) (kp:keepIn K (.ref g)=true) (b:q3p K gd [px] []) :
  FnOk P w K mg base CX0 (kk+1) f fd ["thing", "teller"] (j3m g p):=by
 refine F.ok scR (fun vs H Q E ⟨_,_,_,_,e,_⟩=>by subst e; rfl) (fun _ A _ s H vs Q E hr h=>?_)
 obtain⟨B,v,d,hB,rfl,I,k⟩:=h
 refine⟨_,q0p (q0l (q2b (q0q q2h rfl T.isi q2g (q0c (pv 0) (q0c (q7f rfl T.tuple q2m) q0b)))
  (q2j (q0q (x0f rfl) rfl T.all q7m (q0c (q3u (NB:=["part", "teller"]) (n:=1) (fr:=[1]) (x6q (outer:=q0e w1z) (x := "teller") rfl (by decide +kernel) rfl rfl rfl rfl) rfl (q8h (pv 0))
   (fun _ _ _ _ _=>q1i (i:=0) (show (["part", "teller"]:List Str).Nodup by decide +kernel) rfl (Or.inl rfl)) (fun _ _ _ _ _=>q2u) (fun _ _ _ _ _=>j3u G hr kp b x4e (pv 1) (q0c (pv 0) q0b))) q0b))))),?_⟩
 refine⟨_,rfl,_,_,_,_,rfl,I.ty,q9v K d,_,rfl,?_⟩
 cases d with
 | tup ds =>
  cases I with
  | @tup a xs _ ea hl r =>
  have k1:∀ H',q1b H H'→Q (.bl (ds.all p)) H':=k
  have hlen:=r.length
  refine q1m ⟨_,rfl,a,rfl,⟨xs,SqT.of ea⟩,q2w (J:=Itt K a) (k:=1) (n:=xs.length) (fun _=>true) (fun i=>.bl (p (ds.getD i .non))) (show xs.length < sizeLine by rw [sizeLine_eq]; omega)
   (fun i H2 hi s1=>⟨xs,xs[i],SqT.of (s1 _ _ ea),by simp [hi]⟩) (fun H2 s1=>⟨xs,SqT.of (s1 _ _ ea),Nat.le_refl _⟩) ?_ ?_⟩
  ·intro i H2 t v H3 R hi s1 ht y hR
   obtain⟨rfl,hy⟩:=y
   have hv:=hy xs (SqT.of (s1 _ _ ea))
   obtain⟨di,hdi,Ii⟩:=r.get hv
   have ht':∃ t0,t=[t0]:=by
    match t,ht with
    | [t0],_=>exact⟨t0,rfl⟩
   obtain⟨t0,rfl⟩:=ht'
   refine⟨_,rfl,rfl,_,rfl,B,v,di,hB,rfl,Ii.same s1,fun H' s2=>?_⟩
   have hR':=hR [some v] H' rfl s2
   have ed:ds.getD i .non=di:=by rw [List.getD_eq_getElem?_getD,hdi]; rfl
   rw [ed] at hR'
   exact hR'
  ·intro D H' s1 hD hd
   refine⟨D,(List.range xs.length).map fun i=>p (ds.getD i .non),rfl,SqL.of ?_,?_⟩
   ·rw [hd,List.filter_eq_self.mpr (fun _ _=>rfl),List.map_map]
    rfl
   ·rw [hlen,z6k]
    exact k1 H' s1
 | non=>exact q1c (k H (q1b.refl _))
 | bl _=>exact q1c (k H (q1b.refl _))
 | int _=>exact q1c (k H (q1b.refl _))
 | str _=>exact q1c (k H (q1b.refl _))
 | lst _=>exact q1c (k H (q1b.refl _))
noncomputable def j5n:Sp:=fun vs H Q _=>∃ a ns,vs=[.ref a]∧H a=some (.tup (ns.map V.int))∧1≤ns.length∧ns.length≤1000∧∀ H',q1b H H'→Q (.bl (q8n ns)) H'
theorem w4n:FnScope ["parts"] ["parts"] (q0e x2q):=fSc
theorem j2y (ns:List Int) (h:1≤ns.length):x3n (ns.map V.int) (some 1) none=ns.tail.map V.int:=by
 unfold x3n
 have e1:HT.sIx (ns.map V.int).length 0 (some 1)=1:=by
  have:=HT.sIx_nat (ns.map V.int).length 0 1
  rw [show ((1:Nat):Int)=1 from rfl] at this
  rw [this,List.length_map]
  omega
 rw [e1,HT.sIx_none,List.length_map,List.take_of_length_le (by simp)]
 cases ns with
 | nil=>simp at h
 | cons a r=>rfl
theorem z5x (ns:List Int):((List.range (ns.length - 1)).map fun i=>decide (ns.getD i 0 < ns.getD (i+1) 0)).all id=q8n ns:=by
 rw [← z3a]
 congr 1
 apply List.ext_getElem?
 intro i
 by_cases hi:i < ns.length - 1
 ·have h1:i < ns.length:=by omega
  have h2:i+1 < ns.length:=by omega
  simp [hi,List.getElem?_zip_eq_some,h1,h2,List.getElem?_tail]
 ·rw [List.getElem?_eq_none (by simpa using hi),List.getElem?_eq_none]
  simp
  omega
theorem z9m {f:Addr} {fd:FuncData} (F:Fun K "is_rising" "is_rising" x2q f fd) (T:Txt mg):FnOk P w K mg base CX0 1 f fd ["parts"] j5n:=by
 refine F.ok w4n (fun vs H Q E ⟨_,_,e,_⟩=>by subst e; rfl) (fun _ A _ s H vs Q E hr h=>?_)
 obtain⟨a,ns,rfl,ha,h1,h2,k⟩:=h
 refine⟨_,q0p (q0l (q0q (x0f rfl) rfl T.all q7m (q0c (q3u (NB:=["part", "later"]) (n:=2) (fr:=[]) (q5v (outer:=q0e x2q) rfl (by decide +kernel) rfl) rfl
   (z7o (t1:=true) (t2:=true) rfl T.zip (q0c (pv 0) (q0c (q2r z7t (pv 0) (q3e q0a) q3m) q0b)))
   (fun _ _ _ _ _=>x4z (K:=K) (n:=2) rfl rfl (q1x (q1i (i:=0) (show (["part", "later"]:List Str).Nodup by decide +kernel) rfl (Or.inl rfl)) (q1x (q1i (i:=1) (show (["part", "later"]:List Str).Nodup by decide +kernel) rfl (Or.inl rfl)) q6b))) (fun _ _ _ _ _=>q2u) (fun _ _ _ _ _=>q1v x5p (pv 0) (pv 1) (q0r _))) q0b))),?_⟩
 have hcut:=j2y ns h1
 have hs1:HT.sIx (ns.map V.int).length 0 (some 1)=1:=by
  have:=HT.sIx_nat (ns.map V.int).length 0 1
  rw [show ((1:Nat):Int)=1 from rfl] at this
  rw [this,List.length_map]
  omega
 refine⟨_,rfl,_,rfl,1,rfl,a,ns.map V.int,rfl,SqT.of ha,fun z=>by rw [hs1] at z; exact absurd z.1 (by decide),fun p hp=>?_⟩
 rw [hcut]
 have sp:q1b H (upd H p (.tup (ns.tail.map V.int))):=q0g hp
 refine⟨a,p,ns.map V.int,ns.tail.map V.int,rfl,SqT.of (sp _ _ ha),SqT.of q0f,q2w (J:=Itz K true true a p) (k:=2) (n:=ns.length - 1) (fun _=>true) (fun i=>.bl (decide (ns.getD i 0 < ns.getD (i+1) 0))) (by rw [sizeLine_eq]; omega) ?_ ?_ ?_ ?_⟩
 ·intro i H2 hi s1
  have i1:i < ns.length:=by omega
  have i2:i < ns.tail.length:=by rw [List.length_tail]; omega
  exact⟨ns.map V.int,ns.tail.map V.int,.int ns[i],.int ns.tail[i],SqT.of (s1 _ _ (sp _ _ ha)),SqT.of (s1 _ _ q0f),by simp [i1],by rw [List.getElem?_map,List.getElem?_eq_getElem i2]; rfl⟩
 ·intro H2 s1
  exact⟨ns.map V.int,ns.tail.map V.int,SqT.of (s1 _ _ (sp _ _ ha)),SqT.of (s1 _ _ q0f),.inr (by simp)⟩
 ·intro i H2 t v H3 R hi s1 ht y hR
  obtain⟨q,x,y,rfl,hq,rfl,e1,e2⟩:=y
  have i1:i < ns.length:=by omega
  have i2:i+1 < ns.length:=by omega
  have e1':=e1 _ (SqT.of (s1 _ _ (sp _ _ ha)))
  have e2':=e2 _ (SqT.of (s1 _ _ q0f))
  rw [List.getElem?_map,List.getElem?_eq_getElem i1] at e1'
  rw [List.getElem?_map,List.getElem?_tail,List.getElem?_eq_getElem i2] at e2'
  cases e1'
  cases e2'
  have ht':∃ t0 t1,t=[t0,t1]:=by
   match t,ht with
   | [t0,t1],_=>exact⟨t0,t1,rfl⟩
  obtain⟨t0,t1,rfl⟩:=ht'
  refine⟨q,_,rfl,SqT.of q0f,rfl,_,_,rfl,_,_,rfl,rfl,⟨_,rfl,_,rfl,_,_,rfl,rfl,?_⟩⟩
  have hR':=hR [some (.int ns[i]),some (.int ns[i+1])] _ rfl (q0g (o:=.tup [.int ns[i],.int ns[i+1]]) hq)
  have g1:ns.getD i 0=ns[i]:=by simp [i1]
  have g2:ns.getD (i+1) 0=ns[i+1]:=by simp [i2]
  rw [g1,g2] at hR'
  exact hR'
 ·intro D H' s1 hD hd
  refine⟨D,(List.range (ns.length - 1)).map fun i=>decide (ns.getD i 0 < ns.getD (i+1) 0),rfl,SqL.of ?_,?_⟩
  ·rw [hd,List.filter_eq_self.mpr (fun _ _=>rfl),List.map_map]
   rfl
  ·rw [z5x]
   exact k H' (sp.trans s1)
theorem scS:FnScope ["thing"] ["thing"] (q0e j0k):=fSc
theorem x7h {B:Nat} {H:Hp}:∀ {ns:List Int} {vs:List V},IsL B H vs (ns.map D.int)→vs=ns.map V.int
 | [],_,h=>by cases h; rfl
 | n::r,_,h=>by
  cases h with
  | cons h t=>cases h; rw [x7h t]; rfl
theorem j2f {f:Addr} {fd:FuncData} (F:Fun K "is_seats" "is_seats" j0k f fd) (T:Txt mg) (CK:Cal P w K mg base "is_keeper" 2 ["thing"] (spP q0k))
  (CR:∀ g gd,FnOk P w K mg base CX0 2 g gd ["thing"] (spP q0k)→keepIn K (.ref g)=true→q3p K gd ["thing"] []→Cal P w K mg base "is_row_of" 3 ["thing", "teller"] (j3m g q0k))
  (CI:Cal P w K mg base "is_rising" 1 ["parts"] j5n):FnOk P w K mg base CX0 4 f fd ["thing"] (spP q2z):=by
 refine F.ok scS q2c (fun _ A _ s H vs Q E hr h=>?_)
 obtain⟨B,v,d,hB,rfl,I,k⟩:=h
 obtain⟨g,gd,G,m,kp,b⟩:=CK.ex
 obtain⟨g2,gd2,G2,m2,kp2,b2⟩:=(CR g gd G kp b).ex
 refine⟨_,q0p (q0l (q2b (x0w G2 hr rfl m2 kp2 b2 .nil x4e (q0c (pv 0) (q0c (q3g rfl m) q0b)))
  (q2b (x1x x7v x7v q0a (q0q q0y rfl T.len PySem.boot_len (q0c (pv 0) q0b)) q0a)
  (q2j (q0h CI (hr.mono (by decide)) (q0c (pv 0) q0b)))))),?_⟩
 refine⟨_,rfl,B,v,d,hB,rfl,I,fun H' s'=>⟨_,rfl,?_⟩⟩
 cases d with
 | tup ds =>
  have k1:∀ H',q1b H H'→Q (.bl (ds.all q0k && ((decide (1≤ds.length) && decide (ds.length≤9)) && q8n (q3w ds)))) H':=k
  show if ds.all q0k=true then _ else _
  cases hall:ds.all q0k with
  | false =>
   have k2:=k1 H' s'
   rw [hall] at k2
   exact q1c k2
  | true =>
   cases I with
   | @tup a xs _ ea hl r =>
   have hlen:=r.length
   refine q1m ⟨_,rfl,a,xs,rfl,.inr (SqT.of (s' _ _ ea)),1,_,rfl,rfl,_,rfl,?_⟩
   by_cases h1:1≤ds.length
   ·rw [decide_eq_true (show (1:Int)≤(xs.length:Int) by omega)]
    refine q1m ⟨_,9,rfl,rfl,_,rfl,?_⟩
    by_cases h9:ds.length≤9
    ·rw [decide_eq_true (show (xs.length:Int)≤9 by omega)]
     have eds:=x4i ds hall
     have exs:xs=(q3w ds).map V.int:=by
      rw [eds] at r
      exact x7h r
     have eln:(q3w ds).length=ds.length:=by
      have:=congrArg List.length eds
      rw [List.length_map] at this
      exact this.symm
     refine q1m ⟨_,rfl,a,q3w ds,rfl,by rw [← exs]; exact s' _ _ ea,by omega,by omega,fun H2 s2=>?_⟩
     have k2:=k1 H2 (s'.trans s2)
     rw [hall,decide_eq_true h1,decide_eq_true h9] at k2
     exact k2
    ·rw [decide_eq_false (show ¬ (xs.length:Int)≤9 by omega)]
     have k2:=k1 H' s'
     rw [hall,decide_eq_true h1,decide_eq_false h9] at k2
     exact q1c k2
   ·rw [decide_eq_false (show ¬ (1:Int)≤(xs.length:Int) by omega)]
    have k2:=k1 H' s'
    rw [hall,decide_eq_false h1] at k2
    exact q1c ⟨_,rfl,q1c k2⟩
 | non=>exact q1c (k H' s')
 | bl _=>exact q1c (k H' s')
 | int _=>exact q1c (k H' s')
 | str _=>exact q1c (k H' s')
 | lst _=>exact q1c (k H' s')
noncomputable def j5s (K:Frag):Sp:=fun vs H Q _=>∃ (a:Addr) (ns:List Int) (k:Int),vs=[.ref a,.int k]∧SqL K H a (ns.map V.int)∧0≤k∧∀ z,Q (.int z) H
theorem scC:FnScope ["_law_script", "_law_k"] ["_law_script", "_law_k"] (q0e j8r):=fSc
theorem j6n {f:Addr} {fd:FuncData} (F:Fun K "_law_cell_at" "_law_cell_at" j8r f fd) (T:Txt mg):FnOk P w K mg base CX0 1 f fd ["_law_script", "_law_k"] (j5s K):=by
 refine F.ok scC (fun vs H Q E ⟨_,_,_,e,_⟩=>by subst e; rfl) (fun _ A _ s H vs Q E hr h=>?_)
 obtain⟨a,ns,k,rfl,hS,h0,q⟩:=h
 refine⟨_,q1e (q1r (q0t x5p (pv 1) (q0q q0y rfl T.len PySem.boot_len (q0c (pv 0) q0b)) (q0r _)) (q0p (q0l (q0u q5i (pv 0) (pv 1) (fun _ _=>rfl)))) q0s) (q0p (q0l q0a)),?_⟩
 refine⟨_,rfl,_,rfl,a,_,rfl,.inl hS,k,_,rfl,rfl,_,rfl,x5d (fun hlt=>?_) (fun _=>q 0)⟩
 have hlt':k < ((ns.map V.int).length:Int):=of_decide_eq_true hlt
 obtain⟨j,rfl⟩:=Int.eq_ofNat_of_zero_le h0
 have hj:j < ns.length:=by rw [List.length_map] at hlt'; omega
 exact⟨_,rfl,_,rfl,a,_,_,.int ns[j],rfl,rfl,hS,q0m (by simp [hj]),q _⟩
noncomputable def q6w (K:Frag):Sp:=fun vs H Q _=>∃ (a:Addr) (ns:List Int) (k:Int),vs=[.ref a,.int k]∧SqL K H a (ns.map V.int)∧0≤k∧k≤100000∧∀ z,0≤z→z < 2147483629→Q (.int z) H
theorem scM:FnScope ["_law_script", "_law_k", "_law_number"] ["_law_script", "_law_k"] (q0e j0i):=fSc
theorem j2g {f:Addr} {fd:FuncData} (F:Fun K "_law_mixed" "_law_mixed" j0i f fd) (CC:Cal P w K mg base "_law_cell_at" 1 ["_law_script", "_law_k"] (j5s K)):FnOk P w K mg base CX0 2 f fd ["_law_script", "_law_k"] (q6w K):=by
 refine F.ok scM (fun vs H Q E ⟨_,_,_,e,_⟩=>by subst e; rfl) (fun _ A _ s H vs Q E hr h=>?_)
 obtain⟨a,ns,k,rfl,hS,h0,h1,q⟩:=h
 refine⟨_,q1e (q0z (i:=2) scM.nd rfl (Or.inl rfl) (q0i q1k (q0i q7h (q0i q1n (q0i q1n (q0h CC hr (q0c (pv 0) (q0c (pv 1) q0b))) (q0i q7h q0a (pv 1))) q0a) q0a) q0a))
  (q0p (q0l (q0i q1k (q0i q1n (q0i q1n (q0i q7h (pv 2) (pv 2)) (q0i q7h q0a (pv 2))) (pv 1)) q0a))),?_⟩
 refine⟨_,rfl,_,rfl,a,ns,k,rfl,hS,h0,fun z=>?_⟩
 refine⟨_,rfl,_,_,rfl,rfl,.inl ⟨by decide,by decide⟩,_,_,rfl,rfl,_,_,rfl,rfl,_,_,rfl,rfl,.inr ⟨by decide,by decide⟩,_,_,rfl,rfl,(by show (0:Int) < 2147483647; decide),?_⟩
 generalize hn:(z+7919*k+1)*48271 % 2147483647=n
 have n0:0≤n:=by rw [← hn]; exact Int.emod_nonneg _ (by decide)
 have n1:n < 2147483647:=by rw [← hn]; exact Int.emod_lt_of_pos _ (by decide)
 refine⟨_,rfl,_,rfl,_,_,rfl,rfl,.inl ⟨by omega,by omega⟩,_,rfl,_,_,rfl,rfl,.inl ⟨by decide,by decide⟩,_,_,rfl,rfl,_,rfl,_,_,rfl,rfl,_,_,rfl,rfl,(by show (0:Int) < 2147483629; decide),?_⟩
 exact q _ (Int.emod_nonneg _ (by decide)) (Int.emod_lt_of_pos _ (by decide))
theorem q5s {α:Type} {xs:List α} {i:Int} (h0:0≤i) (h1:i < xs.length):∃ v,atI xs i=some v∧v∈xs:=by
 obtain⟨j,rfl⟩:=Int.eq_ofNat_of_zero_le h0
 have hj:j < xs.length:=by omega
 exact⟨xs[j],q0m (by simp [hj]),List.getElem_mem hj⟩
theorem q2d (x:Int) {m:Int} (h:0 < m):0≤x % m∧x % m < m:=⟨Int.emod_nonneg _ (Int.ne_of_gt h),Int.emod_lt_of_pos _ h⟩
theorem z2y (a:Array Nat):∀ (k:Nat) (b:Array Nat),(List.foldl (fun x y=>x++y) b (List.replicate k a)).size=b.size+k*a.size
 | 0,b=>by simp
 | k+1,b=>by
  rw [List.replicate_succ,List.foldl_cons,z2y a k]
  simp [Nat.succ_mul]
  omega
theorem x7q (z:Str) (n:Int):(Txt.mul z n).length≤z.length*n.toNat:=by
 unfold Txt.mul
 split
 ·exact Nat.zero_le _
 ·split
  ·rename_i h1 h2
   have:1≤n.toNat:=by omega
   exact Nat.le_trans (by omega) (Nat.mul_le_mul_left z.length this)
  ·show (List.foldl (fun x y=>x++y) #[] (List.replicate n.toNat z.cps)).size≤_
   rw [z2y]
   show 0+n.toNat*z.length≤_
   rw [Nat.zero_add,Nat.mul_comm]
   exact Nat.le_refl _
theorem q3t (x y:Str):(x++y).length=x.length+y.length:=by
 show (x.cps++y.cps).size=_
 rw [Array.size_append]
 rfl
noncomputable def z9s:List Int:=[1,2,4,8,16,32,64,128,256]
theorem j4o:∀ x∈z9s,0 < x∧x < 1073741824:=by decide
end
end K1
namespace Kp
open PySem L2
theorem q4a {n:Nat} (h:n≤1000):n≤sizeLine:=by rw [sizeLine_eq]; omega
section
variable {X:Cx} {es l:List Expr} {te:TE} {t u:TA} {p p' pos:Pos} {j:Nat}
theorem j9g {x:Str} (ha:PE X (.Name x p) te) (r:QA X es t):QA X (.Name x p::es) (q8p te t):=⟨q1g ha r.h⟩
theorem j7v {f:Expr} {as:List Expr} {ks:List Keyword} (ha:PE X (.Call f as ks p) te) (r:QA X es t):QA X (.Call f as ks p::es) (q8p te t):=⟨q7n ha r.h⟩
theorem w2b {a b:Expr} (ha:PE X (.Subscript a b p) te) (r:QA X es t):QA X (.Subscript a b p::es) (q8p te t):=⟨q4p ha r.h⟩
theorem j1n {o:Operator} {a b:Expr} (ha:PE X (.BinOp a o b p) te) (r:QA X es t):QA X (.BinOp a o b p::es) (q8p te t):=⟨q7o ha r.h⟩
theorem q6s (a:QA X es t):QE X (.Tuple es j p) (w4o t):=⟨q2x a.h⟩
theorem w0h {a b:Expr} {ta tb:TE} {r:R2} (hx:IxR X r) (ha:QE X a ta) (hb:PE X b tb) (px:x2x b):QE X (.Subscript a b pos) (tOp r ta tb):=⟨q0u hx ha.h hb px⟩
end
section
variable {X:Cx} {es l:List Expr} {n m:Nat} {p p':Pos} {j:Nat}
end
section
variable {es l:List Expr} {te:TE} {t u:TA} {p p' pos:Pos} {j:Nat}
theorem j8h {X:Cx} {st:Stmt} {x0x:List Stmt} {t u:TS} (h1:QS X st t) (h2:PSs X x0x u):PSs X (st::x0x) (w3s t u):=q1e h1.h h2
theorem q0x {X:Cx} {st:Stmt} {x0x:List Stmt} {t u:TS} (h1:PS X st t) (h2:PSs X x0x u):PSs X (st::x0x) (w3s t u):=q1e h1 h2
theorem q1h {X:Cx} {st:Stmt} {t:TS} (h1:PS X st t):PSs X [st] t:=q0p h1
theorem j9d {X:Cx} {e:Expr} (h:QE X e te):PS X (.Return (some e) pos) (w4s te):=q0l h.h
theorem w2y {X:Cx} {a b:Expr} (ha:QE X (.Subscript a b p) te) (r:QA X es t):QA X (.Subscript a b p::es) (q8p te t):=⟨q4p ha.h r.h⟩
end
end Kp
namespace L2
open PySem PySem.Spec PyProof.Rows
noncomputable def Ite (a:Addr):It :=
 ⟨fun i H=>∃ xs x,H a=some (.lst xs)∧xs[i]? = some x,
  fun i H v H'=>∃ p x,v=.ref p∧H p=none∧H'=upd H p (.tup [.int i,x])∧∀ xs,H a=some (.lst xs)→xs[i]? = some x,
  fun i H=>∃ xs,H a=some (.lst xs)∧xs.length≤i⟩
theorem z8a {P:Program} {w:World} {K:Frag} {es:List Expr} {k0:Nat} {tp:Pos} {a e it:Addr} (D:e≠it) :
  Turn P w K (.Tuple es k0 tp) (Ite a) [e,it] e (fun i h=>(∃ old,IsEnum h e it i old)∧h.IsListIter it a i) where
 mem:=by simp
 obj:=fun i h st c hc=>by
  obtain⟨⟨old,h1⟩,o,h2,_,h3⟩:=st
  simp only [List.mem_cons,List.not_mem_nil,or_false] at hc
  rcases hc with rfl | rfl
  ·exact⟨_,h1,fun v z=>by cases z⟩
  ·exact⟨o,h2,fun v z=>by rw [h3] at z; cases z⟩
 keep:=fun i h h' st k=>by
  obtain⟨⟨old,h1⟩,o,h2,h3⟩:=st
  exact⟨⟨old,k e (by simp) _ h1⟩,o,k it (by simp) o h2,h3⟩
 item:=by
  intro X hP hw hK hc i pins s σ H E I hf st hg
  subst hP hw hK
  obtain⟨⟨old,h1⟩,h2⟩:=st
  obtain⟨xs,x,q1,hx⟩:=hg
  obtain⟨z1,its,n1,r1,p1⟩:=I.hok a _ q1
  have pl:s.heap.IsList a its.toArray:=⟨_,p1,rfl,_,rfl⟩
  obtain⟨ux,ex,rx⟩:=r1.get hx
  have fe:=hf e (by simp)
  have fi:=hf it (by simp)
  have nea:a≠e:=fun z=>by subst z; rw [fe.1] at q1; cases q1
  have nia:a≠it:=fun z=>by subst z; rw [fi.1] at q1; cases q1
  refine wpAny_pyNext_enum_item h1 h2 pl (x:=ux) (by simpa using ex) D fun h' heo hit' ht hz hk=>⟨_,rfl,wpAny_letOwnedTupleGo_enum heo fun h2' he2 hs2=>?_⟩
  have lt:∀ {c o},s.heap.get? c=some o→s.heap.objs.size≠c:=fun q=>Nat.ne_of_gt (Heap.lt_size q)
  have hk2:∀ c o,c∉[e,it]→s.heap.get? c=some o→h2'.get? c=some o:=fun c o hcn q=>by
   simp only [List.mem_cons,List.not_mem_nil,or_false,not_or] at hcn
   exact hs2.extBut c o hcn.1 (hk c o hcn.1 hcn.2 q)
  have I1:Inv X pins σ H { s with heap:=h2',toks:=s.toks+1 }:=by
   refine I.step (g':=s.gens) (d':=s.drawn) (t':=s.toks+1) (ch:=[e,it]) (fun c hcm=>?_) (fun c o _ _ hcn q _=>hk2 c o hcn q) (fun c o _ _ hcn q _=>⟨o.slots,hk2 c o hcn q⟩) (fun _ _ _ _ n=>n)
    (fun c o hcn q=>⟨o,hk2 c o hcn q⟩) (fun _ _ q=>q) (fun _ _ _ q=>q) (fun c ps q=>⟨#[],by rw [q]; simp⟩) (fun m hm=>?_) (fun c u' q=>?_) I.bare
   ·obtain⟨_,g1,_,g3,g4,g5⟩:=hf c hcm
    exact⟨g3,g1,g4,g5⟩
   ·obtain⟨o,es',ep,ho,r⟩:=hm
    exact⟨o,es',ep,hk2 _ o (fun hm'=>(hf _ hm').2.1 rfl) ho,r⟩
   ·have nin:∀ c' u'',H c'=some u''→c'∉[e,it]:=fun c' u'' e' hm'=>by rw [(hf _ hm').1] at e'; cases e'
    refine (I.hok c u' q).stay (fun c' v' hc' q=>hk2 c' v' ?_ q) (fun _ q=>q) fun _ _ q=>q
    rcases hc' with rfl | hc'
    ·exact nin _ _ q
    ·exact nin _ _ hc'
  have ne0:s.heap.objs.size≠e:=lt h1
  have ni0:s.heap.objs.size≠it:=by obtain⟨o,q,_⟩:=h2; exact lt q
  have hp:h2'.get? s.heap.objs.size=some { cls:=.type "tuple",data:=.seq #[.int i s.toks,ux] }:=hs2.extBut _ _ ne0 ht
  have fp0:H s.heap.objs.size=none:=I.hok.fresh (Nat.le_refl _)
  have I2:Inv X pins σ (upd H s.heap.objs.size (.tup [.int i,x])) { s with heap:=h2',toks:=s.toks+1 }:=by
   refine I1.step (s:={ s with heap:=h2',toks:=s.toks+1 }) (g':=s.gens) (d':=s.drawn) (t':=s.toks+1) (h':=h2') (ch:=[s.heap.objs.size]) (fun c hcm=>?_) (fun c o _ _ _ q _=>q) (fun c o _ _ _ q _=>⟨o.slots,q⟩) (fun c o hcn q n=>?_)
    (fun c o _ q=>⟨o,q⟩) (fun c xs' q=>?_) (fun c o u' q=>?_) (fun c ps q=>⟨#[],?_⟩) (fun m hm=>hm) (fun c u' q=>?_) I.bare
   ·have q:c=s.heap.objs.size:=by simpa using hcm
    subst q
    obtain⟨_,g1,_,g3,g4,g5⟩:=I.fpOk (Nat.le_refl _) fp0
    exact⟨g3,g1,g4,g5⟩
   ·rw [q1a (by simpa using hcn)]; exact n
   ·rw [q1a (q1s q fp0)]; exact q
   ·rw [q1a (q1s q fp0)]; exact q
   ·rw [q1a (q1s q fp0),q]; simp
   ·by_cases hcs:c=s.heap.objs.size
    ·subst hcs
     rw [q0f] at q
     cases q
     exact⟨by simp [sizeLine_eq],[.int i s.toks,ux],.cons ⟨_,rfl⟩ (.cons rx .nil),⟨_,hp,rfl,_,rfl⟩⟩
    ·rw [q1a hcs] at q
     exact (I1.hok c u' q).stay (fun _ _ _ q=>q) (fun c' q=>by rw [q1a (q1s q fp0)]; exact q) fun c' xs' q=>by rw [q1a (q1s q fp0)]; exact q
  refine⟨.ref s.heap.objs.size,_,I2,rfl,⟨s.heap.objs.size,x,rfl,fp0,rfl,fun xs' q'=>by rw [q1] at q'; cases q'; exact hx⟩,⟨⟨ux,he2⟩,?_⟩,fun c hcm=>?_⟩
  ·obtain⟨o,q,r⟩:=hit'
   exact⟨o,hs2.extBut _ o (Ne.symm D) q,r⟩
  ·rw [q1a (fun q=>by
    simp only [List.mem_cons,List.not_mem_nil,or_false] at hcm
    rcases hcm with z | z
    ·exact ne0 (by rw [← q]; exact z)
    ·exact ni0 (by rw [← q]; exact z))]
   exact (hf c hcm).1
 done:=by
  intro X hP hw hK hc i pins s σ H E I hf st hg
  subst hP hw hK
  obtain⟨⟨old,h1⟩,h2⟩:=st
  obtain⟨xs,q1,hx⟩:=hg
  obtain⟨z1,its,n1,r1,p1⟩:=I.hok a _ q1
  have pl:s.heap.IsList a its.toArray:=⟨_,p1,rfl,_,rfl⟩
  have l1:=r1.length
  refine wpAny_pyNext_enum_end (I.ok.hd hc) h1 h2 pl (by simp; omega) fun h' hk=>⟨rfl,?_⟩
  have hk2:∀ c o,c∉[e,it]→s.heap.get? c=some o→h'.get? c=some o:=fun c o hcn q=>by
   simp only [List.mem_cons,List.not_mem_nil,or_false,not_or] at hcn
   exact hk c o hcn.2 q
  refine I.step (g':=s.gens) (d':=s.drawn) (t':=s.toks) (ch:=[e,it]) (fun c hcm=>?_) (fun c o _ _ hcn q _=>hk2 c o hcn q) (fun c o _ _ hcn q _=>⟨o.slots,hk2 c o hcn q⟩) (fun _ _ _ _ n=>n)
   (fun c o hcn q=>⟨o,hk2 c o hcn q⟩) (fun _ _ q=>q) (fun _ _ _ q=>q) (fun c ps q=>⟨#[],by rw [q]; simp⟩) (fun m hm=>?_) (fun c u' q=>?_) I.bare
  ·obtain⟨_,g1,_,g3,g4,g5⟩:=hf c hcm
   exact⟨g3,g1,g4,g5⟩
  ·obtain⟨o,es',ep,ho,r⟩:=hm
   exact⟨o,es',ep,hk2 _ o (fun hm'=>(hf _ hm').2.1 rfl) ho,r⟩
  ·have nin:∀ c' u'',H c'=some u''→c'∉[e,it]:=fun c' u'' e' hm'=>by rw [(hf _ hm').1] at e'; cases e'
   refine (I.hok c u' q).stay (fun c' v' hc' q=>hk2 c' v' ?_ q) (fun _ q=>q) fun _ _ q=>q
   rcases hc' with rfl | hc'
   ·exact nin _ _ q
   ·exact nin _ _ hc'
 self:=fun _ _ _ _ _ st h=>let ⟨_,h1⟩:=st.1; wpAny_pyIter_enum h1 h
noncomputable def w2j (ta:TA):TI:=fun σ H R=>ta σ H fun vs H1=>∃ a xs,vs=[.ref a]∧H1 a=some (.lst xs)∧R (Ite a) H1
theorem z6d (n:Nat):n+1≠n:=by omega
theorem z4f (n x:Nat) (h:x=n+1∨x=n):n≤x:=by omega
theorem z7j:bootBuiltins "enumerate" = some (.type "enumerate"):=by decide +kernel
theorem z6x {X:Cx} {es0:List Expr} {k0:Nat} {tp:Pos} {a:Expr} {ta:TA} {p pos:Pos} (hg:Gl X "enumerate") (hm:X.mg "enumerate" = none) (ha:PA X [a] ta)
  (hs:starEach [a] X.env=[(false,eval a X.env)]:=by rfl):PI X (.Tuple es0 k0 tp) (.Call (.Name "enumerate" p) [a] [] pos) (w2j ta):=by
 intro pins s σ H R I h
 refine Call_ (x4h I hg hm z7j (PyProof.Rows.callWith_type1 (thn (ha pos pins s σ H _ I h) fun us s1 ⟨vs,H1,I1,r1,q1⟩=>?_) (by rw [hs]; rfl) (by rfl)))
 obtain⟨c,xs,e,q1,q⟩:=q1
 subst e
 obtain⟨u,rfl,ru⟩:=x1d r1
 cases ru
 obtain⟨z1,its,n1,rr,p1⟩:=I1.hok c _ q1
 refine call_enumerate_1 p1 fun h' a1 a2 a3 kk=>?_
 refine wpAny_pyIter_enum (s:={ s1 with heap:=h' }) a1 ?_
 have I2:Inv X pins σ H1 { s1 with heap:=h' }:=I1.kept (t':=s1.toks) kk
 refine⟨_,[s1.heap.objs.size+1,s1.heap.objs.size],_,_,H1,rfl,I2,z8a (a:=c) (z6d _),⟨⟨_,a1⟩,a2⟩,fun x hx=>?_,q⟩
 have hge:s1.heap.objs.size≤x:=by
  simp only [List.mem_cons,List.not_mem_nil,or_false] at hx
  exact z4f _ _ hx
 exact I1.fpOk hge (I1.hok.fresh hge)
section
variable {X:Cx}
theorem x7g:∀ {xs:List Str} {us:List Value},q4l (xs.map V.str) us→StrsAre us xs
 | [],_,h=>by cases h; exact .nil
 | x::xs,_,h=>by
  cases h with
  | cons r t=>obtain⟨tk,rfl⟩:=r; exact .cons _ _ (x7g t)
theorem x8x:∀ {xs:List Str} {us:List Value},StrsAre us xs→q4l (xs.map V.str) us
 | [],_,h=>by cases h; exact .nil
 | x::xs,_,h=>by
  cases h with
  | cons _ _ t=>exact .cons ⟨_,rfl⟩ (x8x t)
end
end L2
namespace Kp
open PySem
noncomputable def ltS (a b:Str):Bool:=decide (a.cps.toList < b.cps.toList)
noncomputable def q8s:List Str→Bool
 | a::b::r=>ltS a b && q8s (b::r)
 | _=>true
noncomputable def x4r (p:D→Bool):D→Bool
 | .tup ds=>ds.all p && q8s (ds.map q1l)
 | _=>false
noncomputable def x0n:D→Bool:=x0g [q2n,whole]
noncomputable def q4c:D→Bool:=x0g [q2n,geD 1,whole]
noncomputable def x3v:D→Bool:=x4r x0n
noncomputable def q7p:D→Bool:=x4r q4c
noncomputable def q3v:D→Bool:=x0g [x3v,q7p]
noncomputable def z0k:D→Bool
 | .tup (.int a::.int b::_)=>decide (decide (a=0)=decide (b=0))
 | _=>false
noncomputable def x6s (d:D):Bool:=x0g [geD 0,geD 0,q2z,q3v] d && z0k d
noncomputable def goR (p:D→Bool):List D→Str→Bool
 | [],_=>true
 | d::r,ah=>(p d && ltS ah (q1l d)) && goR p r (q1l d)
noncomputable def q9y (p:D→Bool):D→Bool
 | .tup ds=>goR p ds ""
 | _=>false
noncomputable def x7m:D→Bool:=x0g [q1z,whole]
noncomputable def q8e:D→Bool:=x0g [q1z,geD 1,whole]
noncomputable def q8l:D→Bool
 | .tup [a,b]=>q9y x7m a && q9y q8e b
 | _=>false
noncomputable def q4u (a b:D):Bool:=(geD 0 a && geD 0 b) && (match a,b with
 | .int i,.int j=>(decide (i=0) && decide (j=0)) || (decide (0 < i) && decide (0 < j))
 | _,_=>false)
noncomputable def x0y:D→Bool
 | .tup [a,b,c,d]=>q4u a b && (q4o c && q8l d)
 | _=>false
theorem z9v:x0n=x7m:=by unfold x0n x7m; rw [x1a]
theorem x8n:q4c=q8e:=by unfold q4c q8e; rw [x1a]
theorem z7k (p:D→Bool):∀ (ds:List D) (ah:Str),goR p ds ah=(ds.all p && q8s (ah::ds.map q1l))
 | [],ah=>rfl
 | d::r,ah=>by
  rw [goR,z7k p r,List.all_cons,List.map_cons,q8s]
  cases p d <;> cases ltS ah (q1l d) <;> simp
theorem j9q (x:Str) (h:x ≠ ""):ltS "" x=true:=by
 unfold ltS
 rw [decide_eq_true_eq]
 have e:("" : Str).cps.toList=[]:=by decide +kernel
 rw [e]
 obtain⟨c⟩:=x
 cases hc:c.toList with
 | nil =>
  exfalso
  apply h
  have:c=#[]:=by simpa using hc
  subst this
  rfl
 | cons a r =>
  exact List.Lex.nil
theorem x5x {d:D} {r:List D} (h:q1z d=true):q1l (.tup (d::r)) ≠ "" := by
 cases d with
 | str x =>
  intro z
  have z':x = "" := z
  rw [q1z,if_pos (.inl z')] at h
  cases h
 | _=>cases h
theorem x9j {d:D} (h:x7m d=true):∃ x y,d=.tup [x,y]∧q1z x=true∧whole y=true:=by
 cases d with
 | tup ds =>
  have h':q0w [q1z,whole] ds=true:=h
  rw [z6a] at h'
  match ds,h' with
  | [x,y],h' =>
   have h2:(q1z x && whole y)=true:=h'
   rw [Bool.and_eq_true] at h2
   exact⟨x,y,rfl,h2⟩
 | _=>cases h
theorem x5f {d:D} (h:q8e d=true):∃ x y z,d=.tup [x,y,z]∧q1z x=true∧geD 1 y=true∧whole z=true:=by
 cases d with
 | tup ds =>
  have h':q0w [q1z,geD 1,whole] ds=true:=h
  rw [j8p] at h'
  match ds,h' with
  | [x,y,z],h' =>
   have h2:(q1z x && (geD 1 y && whole z))=true:=h'
   rw [Bool.and_eq_true,Bool.and_eq_true] at h2
   exact⟨x,y,z,rfl,h2⟩
 | _=>cases h
theorem z3t {p:D→Bool} (hp:∀ d,p d=true→q1l d ≠ "") (d:D):x4r p d=q9y p d:=by
 cases d with
 | tup ds =>
  show (ds.all p && q8s (ds.map q1l))=goR p ds ""
  rw [z7k]
  cases ds with
  | nil=>rfl
  | cons a r =>
   rw [List.all_cons,List.map_cons,q8s]
   cases h:p a with
   | false=>rfl
   | true=>rw [j9q _ (hp a h),Bool.true_and,Bool.true_and]
 | _=>rfl
theorem j8v:∀ d,x7m d=true→q1l d ≠ "" := fun d h=>by
 obtain⟨x,y,rfl,hx,_⟩:=x9j h
 exact x5x hx
theorem z9b:∀ d,q8e d=true→q1l d ≠ "" := fun d h=>by
 obtain⟨x,y,z,rfl,hx,_⟩:=x5f h
 exact x5x hx
theorem j2m:x3v=q9y x7m:=by unfold x3v; rw [z9v]; exact funext (z3t j8v)
theorem z5a:q7p=q9y q8e:=by unfold q7p; rw [x8n]; exact funext (z3t z9b)
theorem j3e (d:D):q3v d=q8l d:=by
 unfold q3v
 rw [j2m,z5a]
 cases d with
 | tup ds =>
  show q0w [q9y x7m,q9y q8e] ds=_
  rw [z6a]
  match ds with
  | []=>rfl
  | [_]=>rfl
  | [a,b]=>rfl
  | _::_::_::_=>rfl
 | _=>rfl
theorem j1v:q3v=q8l:=funext j3e
theorem x6x (a b:D) (r:List D):((geD 0 a && geD 0 b) && z0k (.tup (a::b::r)))=q4u a b:=by
 unfold q4u
 cases ha:geD 0 a with
 | false=>rfl
 | true =>
  cases hb:geD 0 b with
  | false=>rfl
  | true =>
   cases a with
   | int i =>
    cases b with
    | int j =>
     have hi:0≤i:=of_decide_eq_true ha
     have hj:0≤j:=of_decide_eq_true hb
     show (true && true && decide (decide (i=0)=decide (j=0)))=(true && true && ((decide (i=0) && decide (j=0)) || (decide (0 < i) && decide (0 < j))))
     by_cases h1:i=0
     ·by_cases h2:j=0
      ·simp [h1,h2]
      ·simp [h1,h2]
     ·have h1':0 < i:=by omega
      by_cases h2:j=0
      ·simp [h1,h2]
      ·have h2':0 < j:=by omega
       simp [h1,h2,h1',h2']
    | _=>cases hb
   | _=>cases ha
theorem z6r (d:D):x6s d=x0y d:=by
 unfold x6s
 rw [j1v,z4d]
 cases d with
 | tup ds =>
  show (q0w [geD 0,geD 0,q4o,q8l] ds && z0k (.tup ds))=_
  match ds with
  | []=>rfl
  | [_]=>simp [q0w,x0y]
  | [_,_]=>simp [q0w,x0y]
  | [_,_,_]=>simp [q0w,x0y]
  | [a,b,c,e] =>
   show ((geD 0 a && (geD 0 b && (q4o c && (q8l e && true)))) && z0k (.tup [a,b,c,e]))=(q4u a b && (q4o c && q8l e))
   rw [← x6x a b [c,e]]
   cases geD 0 a <;> cases geD 0 b <;> cases q4o c <;> cases q8l e <;> simp
  | _::_::_::_::_::_=>simp [q0w,x0y]
 | _=>rfl
end Kp
namespace Kp
open PySem L2
noncomputable def q9e (H H':Hp):Prop:=∀ b xs,H b=some (.tup xs)→H' b=some (.tup xs)
theorem z8s {J:It} {H1:Hp} {n k:Nat} {frs:St} {g:TG} {tt:TT} {te:TE} {Q:VK} (R:Hp→V→Prop) (mono:∀ H H' v,q9e H H'→R H v→R H' v) (hn:n < sizeLine)
  (go:∀ i H,i < n→q1b H1 H→J.go i H) (stop:∀ H,q1b H1 H→J.stop n H)
  (turn:∀ i H t x H2 (S:St→Hp→Option V→Prop),i < n→q1b H1 H→t.length=k→J.yld i H x H2 →
   (∀ t' H' v,t'.length=k→q1b H H'→R H' v→S (t'++frs) H' (some v))→(∀ t' H',t'.length=k→q1b H H'→S (t'++frs) H' none) →
   g x (t++frs) H2 fun σ3 H3=>tt σ3 H3 fun b H4=>if b=true then te σ3 H4 fun v H5=>S σ3 H5 (some v) else S σ3 H4 none)
  (hq:∀ D H' ys,q1b H1 H'→H1 D=none→H' D=some (.lst ys)→ys.length≤n→(∀ v∈ys,R H' v)→Q (.ref D) H'):x3b (List.replicate k none++frs) g tt te Q J H1:=by
 intro D hD
 refine⟨fun i m ys σ H=>i≤n∧m=n - i∧ys.length≤i∧(∀ v∈ys,R H v)∧q1b H1 H∧∃ t,t.length=k∧σ=t++frs,⟨n,Nat.zero_le _,rfl,Nat.le_refl _,fun v hv=>(List.not_mem_nil hv).elim,q0g hD,_,by simp,rfl⟩,?_⟩
 rintro i m ys σ H ⟨hi,rfl,hl,hR,s1,t,ht,rfl⟩ hd
 by_cases hlt:i < n
 ·right
  refine⟨go i H hlt s1,by omega,fun x H2 y=>?_⟩
  have keep:∀ (H5:Hp) (zs:List V),H5 D=some (.lst ys)→q9e H5 (upd H5 D (.lst zs)):=fun H5 zs h5 b xs e=>by
   rw [q1a (fun q=>by rw [q,h5] at e; cases e)]; exact e
  have tup:∀ {H H':Hp},q1b H H'→q9e H H':=fun s b xs e=>s _ _ e
  refine turn i H t x H2 (fun σ3 H5 r=>match r with
   | some v=>H5 D=some (.lst ys)∧∃ m',m' < n - i∧(i+1≤n∧m'=n - (i+1)∧(ys++[v]).length≤i+1∧(∀ u∈ys++[v],R (upd H5 D (.lst (ys++[v]))) u)∧q1b H1 (upd H5 D (.lst (ys++[v])))∧∃ t,t.length=k∧σ3=t++frs)
   | none=>H5 D=some (.lst ys)∧∃ m',m' < n - i∧(i+1≤n∧m'=n - (i+1)∧ys.length≤i+1∧(∀ u∈ys,R H5 u)∧q1b H1 H5∧∃ t,t.length=k∧σ3=t++frs)) hlt s1 ht y ?_ ?_
  ·intro t' H' v ht' s2 rv
   have h5:=s2 _ _ hd
   refine⟨h5,n - (i+1),by omega,by omega,rfl,by rw [List.length_append]; show ys.length+1≤_; omega,fun u hu=>?_,fun b o e=>?_,t',ht',rfl⟩
   ·rcases List.mem_append.mp hu with z | z
    ·exact mono _ _ _ (keep H' _ h5) (mono _ _ _ (tup s2) (hR u z))
    ·rw [List.mem_singleton.mp z]
     exact mono _ _ _ (keep H' _ h5) rv
   ·rw [q1a (q1s e hD)]; exact s2 _ _ (s1 _ _ e)
  ·intro t' H' ht' s2
   exact⟨s2 _ _ hd,n - (i+1),by omega,by omega,rfl,by omega,fun u hu=>mono _ _ _ (tup s2) (hR u hu),s1.trans s2,t',ht',rfl⟩
 ·have e:i=n:=by omega
  subst e
  exact .inl ⟨stop H s1,hq D H ys s1 hD hd hl hR⟩
theorem q5c {t:St} (h:t.length=1):∃ t0,t=[t0]:=by
 match t,h with
 | [t0],_=>exact⟨t0,rfl⟩
theorem x8r {t:St} (h:t.length=2):∃ t0 t1,t=[t0,t1]:=by
 match t,h with
 | [t0,t1],_=>exact⟨t0,t1,rfl⟩
end Kp
namespace L2
open PySem PySem.Spec PyProof.Rows
section
variable {κ:Type} [DecidableEq κ]
noncomputable def z5o (kvs:List (κ × V)) (k:κ):Option V:=(kvs.find? fun kv=>decide (kv.1=k)).map (·.2)
noncomputable def j4z (kvs:List (κ × V)) (k:κ) (v:V):List (κ × V) :=
 if (kvs.any fun kv=>decide (kv.1=k))=true then kvs.map (fun kv=>if kv.1=k then (kv.1,v) else kv) else kvs++[(k,v)]
theorem z3u {p:κ × V} {r:List (κ × V)} {k:κ} (e:p.1=k):z5o (p::r) k=some p.2:=by simp [z5o,List.find?_cons,e]
theorem z3c {p:κ × V} {r:List (κ × V)} {k:κ} (e:¬ p.1=k):z5o (p::r) k=z5o r k:=by simp [z5o,List.find?_cons,e]
theorem z0n (kvs:List (κ × V)) (k:κ) (v:V):(j4z kvs k v).length≤kvs.length+1:=by
 unfold j4z
 split
 ·rw [List.length_map]; omega
 ·rw [List.length_append,List.length_cons,List.length_nil]; omega
theorem KV.val {kvs:List (κ × V)} {vs:List (κ × Value)} (r:KV kvs vs) (k:κ):z3z (z5o kvs k) (valueAt vs k):=by
 unfold KV at r
 induction r with
 | nil=>exact True.intro
 | @cons p q ps qs h t ih =>
  obtain⟨h1,h2⟩:=h
  by_cases e:p.1=k
  ·have e':q.1=k:=h1.symm.trans e
   have b:valueAt (q::qs) k=some q.2:=by simp [valueAt,List.find?_cons,e']
   rw [z3u e,b]; exact h2
  ·have e':¬ q.1=k:=fun z=>e (h1.trans z)
   have b:valueAt (q::qs) k=valueAt qs k:=by simp [valueAt,List.find?_cons,e']
   rw [z3c e,b]; exact ih
theorem KV.any {kvs:List (κ × V)} {vs:List (κ × Value)} (r:KV kvs vs) (k:κ):(kvs.any fun kv=>decide (kv.1=k))=vs.any fun kv=>decide (kv.1=k):=by
 unfold KV at r
 induction r with
 | nil=>rfl
 | cons h t ih=>rw [List.any_cons,List.any_cons,ih,h.1]
theorem KV.repl {kvs:List (κ × V)} {vs:List (κ × Value)} (r:KV kvs vs) (k:κ) {y:V} {u:Value} (ry:q5e y u) :
  KV (kvs.map fun kv=>if kv.1=k then (kv.1,y) else kv) (vs.map fun kv=>if kv.1=k then (kv.1,u) else kv):=by
 unfold KV at r ⊢
 induction r with
 | nil=>exact .nil
 | @cons p q ps qs h t ih =>
  rw [List.map_cons,List.map_cons]
  refine .cons ?_ ih
  obtain⟨h1,h2⟩:=h
  by_cases e:p.1=k
  ·rw [if_pos e,if_pos (h1.symm.trans e)]; exact⟨h1,ry⟩
  ·rw [if_neg e,if_neg (fun z=>e (h1.trans z))]; exact⟨h1,h2⟩
theorem KV.put {kvs:List (κ × V)} {vs:List (κ × Value)} (r:KV kvs vs) (k:κ) {y:V} {u:Value} (ry:q5e y u):KV (j4z kvs k y) (stored vs k u):=by
 unfold j4z stored
 rw [r.any k]
 by_cases e:(vs.any fun kv=>decide (kv.1=k))=true
 ·rw [if_pos e,if_pos e]; exact r.repl k ry
 ·rw [if_neg e,if_neg e]; exact Paired.snoc r ⟨rfl,ry⟩
end
theorem j6l {P:Program} {w:World} {k:Key} {u:Value} (r:q5e (kV k) u):(q5b P w).is k u=true:=by
 cases k with
 | inl i=>obtain⟨t,e⟩:=(show ∃ t,u=Value.int i t from r); subst e; exact z1n P w i t
 | inr x=>obtain⟨t,e⟩:=(show ∃ t,u=Value.str x t from r); subst e; exact z1o P w x t
theorem z0f {P:Program} {w:World}:∀ {ks:List Key} {us:List Value},q4l (ks.map kV) us→ItemsAre (q5b P w) ks us
 | [],_,r=>by rw [List.map_nil] at r; cases r; exact .nil
 | k::ks,_,r=>by
  rw [List.map_cons] at r
  cases r with
  | cons h t=>exact .cons (j6l h) (z0f t)
noncomputable abbrev KT (H:Hp):List (List Key × V)→List (List Key × Addr × Value)→Prop:=Paired fun p q=>p.1=q.1∧H q.2.1=some (.tup (p.1.map kV))∧q5e p.2 q.2.2
theorem KT.val {H:Hp} {kvs:List (List Key × V)} {xs:List (List Key × Addr × Value)} (r:KT H kvs xs) (k:List Key):z3z (z5o kvs k) ((atKey xs k).map (·.2)):=by
 induction r with
 | nil=>exact True.intro
 | @cons p q ps qs h t ih =>
  obtain⟨h1,_,h2⟩:=h
  by_cases e:p.1=k
  ·have e':q.1=k:=h1.symm.trans e
   have b:atKey (q::qs) k=some q.2:=by simp [atKey,List.find?_cons,e']
   rw [z3u e,b]; exact h2
  ·have e':¬ q.1=k:=fun z=>e (h1.trans z)
   have b:atKey (q::qs) k=atKey qs k:=by simp [atKey,List.find?_cons,e']
   rw [z3c e,b]; exact ih
section
variable {P:Program} {w:World} {H:Hp} {h:Heap} {a:Addr}
theorem w0c {u:HO} (ok:HOk P w H h) (e:Rd H a u):q5d P w H h a u:=e.ok ok
theorem j7z {kvs:List (Key × V)} (ok:HOk P w H h) (e:Rd H a (.dK kvs)):kvs.length≤sizeLine∧(a==sysModules)=false∧∃ vs,KV kvs vs∧h.DictOf (q5b P w) a vs :=
 show q5d P w H h a (.dK kvs) from w0c ok e
theorem w3y {kvs:List (Key × V)} (ok:HOk P w H h) (e:H a=some (.dK kvs)):kvs.length≤sizeLine∧(a==sysModules)=false∧∃ vs,KV kvs vs∧h.DictOf (q5b P w) a vs:=j7z ok (.inl e)
theorem j5k {ks:List Key} (ok:HOk P w H h) (e:H a=some (.tup (ks.map kV))):(tupleKind (q5b P w)).is h ks a:=by
 obtain⟨_,its,r,o,h1,h2,n,h3⟩:=(show q5d P w H h a (.tup (ks.map kV)) from ok a _ e)
 exact⟨o,its.toArray,n,h1,h2,h3,by simpa using z0f r⟩
theorem w0v {kvs:List (List Key × V)} (ok:HOk P w H h) (e:Rd H a (.dT kvs)):kvs.length≤sizeLine∧(a==sysModules)=false ∧
  ∃ xs,KT H kvs xs∧h.DictOfH (tupleKind (q5b P w)) a xs:=by
 obtain⟨z,y,xs,r,o,es,ep,h1,h2,h3,h4,h5⟩:=(show q5d P w H h a (.dT kvs) from w0c ok e)
 refine⟨z,y,xs,r,o,es,ep,h1,h2,h3,h4,fun x hx=>?_,h5⟩
 have all:∀ {l:List (List Key × V)} {m:List (List Key × Addr × Value)},KT H l m→∀ x∈m,(tupleKind (q5b P w)).is h x.1 x.2.1:=by
  intro l m q
  induction q with
  | nil=>intro x hx; exact nomatch hx
  | @cons p q ps qs hq t ih =>
   intro x hx
   rcases List.mem_cons.mp hx with e | hx
   ·subst e
    exact j5k ok (by rw [← hq.1]; exact hq.2.1)
   ·exact ih x hx
 exact all r x hx
end
noncomputable def j6c (H:Hp) (a:Addr) (y:V) (r:Option V):Prop :=
 (∃ kvs k,Rd H a (.dK kvs)∧y=kV k∧r=z5o kvs k)∨∃ kvs k b,Rd H a (.dT kvs)∧y=.ref b∧H b=some (.tup (k.map kV))∧r=z5o kvs k
theorem j6c.k {H:Hp} {a:Addr} {kvs:List (Key × V)} {k:Key} (e:H a=some (.dK kvs)):j6c H a (kV k) (z5o kvs k):=.inl ⟨kvs,k,.inl e,rfl,rfl⟩
section
variable {X:Cx} {pins:List (Addr × Obj)} {σ:St} {H:Hp} {s:Shared} {a:Addr} {y v:V} {u r:Value} {o:Option V} {A:Around} {E:Value→Shared→Prop}
theorem Inv.big (I:Inv X pins σ H s):sysModules < s.heap.objs.size:=by
 have h:mainGlobals < s.heap.objs.size:=(I.mod.glob.keeps I.bk).lt
 exact Nat.lt_trans (by decide) h
theorem z8y {Q:Value→Shared→Prop} (hu:A.units+1 < cLine) (I:Inv X pins σ H s) (g:j6c H a y (some v)) (ry:q5e y u) (h:∀ w' s',Inv X pins σ H s'→q5e v w'→Q w' s') :
  wpAny (model X.prog X.w) A (getItem (.ref a) u) Q E s:=by
 rcases g with ⟨kvs,k,e,ey,l⟩ | ⟨kvs,k,b,e,ey,eb,l⟩
 ·subst ey
  obtain⟨z,hd,vs,rel,dd⟩:=j7z I.hok e
  obtain⟨w',hw,rw'⟩:=z3z.some_of (v:=v) (o:=valueAt vs k) (by rw [l]; exact rel.val k)
  exact wpAny_getItem_of (j6l ry) dd.mapOf hw (h w' _ (I.tok _) rw')
 ·subst ey
  cases (show u=Value.ref b from ry)
  obtain⟨z,hd,xs,rel,dd⟩:=w0v I.hok e
  obtain⟨w',hw,rw'⟩:=z3z.some_of (v:=v) (o:=(atKey xs k).map (·.2)) (by rw [l]; exact rel.val k)
  obtain⟨p,hp,hp2⟩:=Option.map_eq_some_iff.mp hw
  refine wpAny_getItem_heap (tupleKind_room_in1 hu) (j5k I.hok eb) dd hp ?_
  rw [hp2]
  exact h w' _ (I.tok _) rw'
theorem j8f {h':Heap} {t':Nat} {ob:HO} (I:Inv X pins σ H s) (mu:Mut (H a)) (hs:Heap.SameBut a s.heap h') (he:∃ q,h'.get? a=some q) (new:q5d X.prog X.w (upd H a ob) h' a ob) :
  Inv X pins σ (upd H a ob) { s with heap:=h',toks:=t' } :=
 I.write (x:=a) (e:=a) mu (.inl rfl) (fun b q hb z=>(hs.2 b hb).trans z) he new
theorem j9u {P:Program} {w:World} {H':Hp} {h':Heap} {kvs:List (Key × V)} {vs:List (Key × Value)} (z:kvs.length≤sizeLine) (hd:(a==sysModules)=false) (rel:KV kvs vs) (dd:h'.DictOf (q5b P w) a vs) :
  q5d P w H' h' a (.dK kvs):=⟨z,hd,vs,rel,dd⟩
end
section
variable {X:Cx} {pins:List (Addr × Obj)} {σ:St} {H:Hp} {s:Shared} {a:Addr} {kvs:List (Key × V)} {k:Key} {u:Value} {A:Around} {E:Value→Shared→Prop}
end
noncomputable def w5c (i:Expr):Prop:=∀ ov iv,subscripted i false ov iv=operate [ov,iv] (getItem ov iv)
theorem j8g {prog:Program} {w:World} {A:Around} {E:Value→Shared→Prop} {s:Shared} {env:Env} {value slice:Expr} {pos:Pos} {T id:String} {Q:Value→Shared→Prop}
  (hl:typeLookup (.type T) "__getitem__" = pure (some (.builtin id))) (hs:w5c slice)
  (h:wpAny (model prog w) A (eval value env) (fun o s₁=>wpAny (model prog w) A (eval slice env) (fun i s₂=>s₂.TypeIs o T∧wpAny (model prog w) A (getItem o i) Q E s₂) E s₁) E s) :
  wpAny (model prog w) A (eval (.Subscript value slice pos) env) Q E s:=by
 refine Subscript_ (wpAny_mono h (fun o s₁ h₁=>wpAny_mono h₁ (fun i s₂ h₂=>?_) fun _ _ x=>x) fun _ _ x=>x)
 obtain⟨hT,h₂⟩:=h₂
 unfold subscriptTail
 refine wpAny_bind ?_
 rw [getitemInPython_of_ne hT.not_modules]
 refine wpAny_bind (wpAny_specialOf hT hl ?_)
 have fin:wpAny (model prog w) A (subscripted slice false o i) (fun r s₃=>wpAny (model prog w) A (letTemporaryGo value o r >>= fun _=>pure r) Q E s₃) E s₂:=by
  rw [hs o i]
  exact wpAny_operating (wpAny_mono h₂ (fun r s₃ h₃=>wpAny_bind (wpAny_letTemporaryGo (wpAny_pure h₃))) fun _ _ x=>x)
 first
  | exact wpAny_pure (wpAny_bind fin)
  | exact wpAny_bind (wpAny_pure (wpAny_bind fin))
  | exact wpAny_bind fin
theorem z1v {X:Cx} {pins:List (Addr × Obj)} {σ:St} {H:Hp} {s:Shared} {a:Addr} {y:V} {o:Option V} (I:Inv X pins σ H s) (g:j6c H a y o):s.TypeIs (.ref a) "dict" := by
 rcases g with ⟨kvs,k,e,_,_⟩ | ⟨kvs,k,b,e,_,_,_⟩
 ·obtain⟨_,_,vs,_,dd⟩:=j7z I.hok e
  exact dd.typeIs
 ·obtain⟨_,_,xs,_,dd⟩:=w0v I.hok e
  exact dd.typeIs
noncomputable def w2f (td ty:TE):TE:=fun σ H Q=>td σ H fun x H1=>ty σ H1 fun y H2=>∃ a v,x=.ref a∧j6c H2 a y (some v)∧Q v H2
section
variable {X:Cx} {o i e value:Expr} {pos pos' tpos:Pos} {td ty tv:TE}
theorem j6u (hu:X.A.units+1 < cLine) (ho:PE X o td) (hi:PE X i ty) (hs:w5c i):PE X (.Subscript o i pos) (w2f td ty):=by
 intro pins s σ H Q I h
 refine j8g PySem.F.slot_dict_getitem.lookup hs (thn (ho pins s σ H _ I h) fun u s1 ⟨x,H1,I1,rx,q1⟩=>thn (hi pins s1 σ H1 _ I1 q1) fun iv s2 ⟨y,H2,I2,ry,a,v,ex,g,q2⟩=>?_)
 subst ex
 obtain rfl:u=Value.ref a:=rx
 exact⟨z1v I2 g,z8y hu I2 g ry fun w' s3 I3 rw'=>⟨v,H2,I3,rw',q2⟩⟩
end
theorem j1x {P:Program} {w:World} {H:Hp} (h:Heap) (hb:sysModules < h.objs.size):q5d P w H (h.push { cls:=.type "dict",data:=.dict #[] }) h.objs.size (.dK []) :=
 ⟨Nat.zero_le _,beq_eq_false_iff_ne.mpr (Ne.symm (Nat.ne_of_lt hb)),[],.nil,Heap.DictOf.new h⟩
section
variable {X:Cx} {pos:Pos}
end
noncomputable def j1d:List (TE × TE)→St→Hp→(List (V × V)→Hp→Prop)→Prop
 | [],_,H,Q=>Q [] H
 | (tk,tv)::r,σ,H,Q=>tk σ H fun x H1=>tv σ H1 fun y H2=>j1d r σ H2 fun ps H3=>Q ((x,y)::ps) H3
noncomputable abbrev VV:List (V × V)→List (Value × Value)→Prop:=Paired fun p q=>q5e p.1 q.1∧q5e p.2 q.2
noncomputable def PPs (X:Cx) (pos:Pos) (keys:List (Option Expr)) (values:List Expr) (trs:List (TE × TE)):Prop :=
 ∀ (pins:List (Addr × Obj)) (s:Shared) (σ:St) (H:Hp) (Q:List (V × V)→Hp→Prop),Inv X pins σ H s→j1d trs σ H Q →
  wpAny (model X.prog X.w) X.A (evalPairs (pairTrees keys values X.env pos)) (fun vs s'=>∃ ps H',Inv X pins σ H' s'∧VV ps vs∧Q ps H') X.xe s
theorem j6j {X:Cx} {pos:Pos}:PPs X pos [] [] []:=fun pins s σ H Q I h=>pairTrees_nil_walk ⟨[],H,I,.nil,h⟩
theorem x1q {X:Cx} {pos:Pos} {k v:Expr} {ks:List (Option Expr)} {vs:List Expr} {tk tv:TE} {trs:List (TE × TE)} (hk:PE X k tk) (hv:PE X v tv) (hr:PPs X pos ks vs trs) :
  PPs X pos (some k::ks) (v::vs) ((tk,tv)::trs):=fun pins s σ H Q I h =>
 pairTrees_cons_walk (thn (hk pins s σ H _ I h) fun u s1 ⟨x,H1,I1,rx,q1⟩=>thn (hv pins s1 σ H1 _ I1 q1) fun w2 s2 ⟨y,H2,I2,ry,q2⟩ =>
  thn (hr pins s2 σ H2 _ I2 q2) fun ws s3 ⟨ps,H3,I3,rel,q3⟩=>⟨(x,y)::ps,H3,I3,.cons ⟨rx,ry⟩ rel,q3⟩)
noncomputable def q8x (kvs more:List (Key × V)):List (Key × V):=more.foldl (fun acc kv=>j4z acc kv.1 kv.2) kvs
theorem KV.merge:∀ {more:List (Key × V)} {rs:List (Key × Value)} {kvs:List (Key × V)} {vs:List (Key × Value)},KV more rs→KV kvs vs→KV (q8x kvs more) (merged vs rs):=by
 intro more rs kvs vs r
 unfold KV at r
 induction r generalizing kvs vs with
 | nil=>intro q; exact q
 | @cons p q ps qs h t ih =>
  intro r0
  have e:KV (j4z kvs p.1 p.2) (stored vs q.1 q.2):=by
   have:=r0.put p.1 h.2
   rw [← h.1]; exact this
  exact ih e
theorem x1j:∀ (more kvs:List (Key × V)),(q8x kvs more).length≤kvs.length+more.length
 | [],kvs=>by show kvs.length≤kvs.length+0; omega
 | p::r,kvs=>by
  have h1:=x1j r (j4z kvs p.1 p.2)
  have h2:=z0n kvs p.1 p.2
  show (q8x (j4z kvs p.1 p.2) r).length≤_
  rw [List.length_cons]; omega
theorem x5w {P:Program} {w:World}:∀ {kvs:List (Key × V)} {ws:List (Value × Value)},VV (kvs.map fun kv=>(kV kv.1,kv.2)) ws→∃ rs,Carries (q5b P w) ws rs∧KV kvs rs
 | [],_,r=>by rw [List.map_nil] at r; cases r; exact⟨[],True.intro,.nil⟩
 | p::kvs,_,r=>by
  rw [List.map_cons] at r
  cases r with
  | @cons a b as bs h t =>
   obtain⟨rs,c,q⟩:=x5w (P:=P) (w:=w) t
   obtain⟨b1,b2⟩:=b
   exact⟨(p.1,b2)::rs,⟨j6l h.1,rfl,c⟩,.cons ⟨rfl,h.2⟩ q⟩
noncomputable def w3e (trs:List (TE × TE)):TE:=fun σ H Q=>∀ p,H p=none→j1d trs σ (upd H p (.dK [])) fun ps H2=>H2 p=some (.dK [])∧∃ kvs:List (Key × V),ps=kvs.map (fun kv=>(kV kv.1,kv.2))∧kvs.length≤15∧Q (.ref p) (upd H2 p (.dK (q8x [] kvs)))
theorem j8n {X:Cx} {pos:Pos} {keys:List (Option Expr)} {values:List Expr} {trs:List (TE × TE)} (h:PPs X pos keys values trs) (hall:keys.all (·.isSome)=true) (hl:keys.length=values.length) (h0:keys≠[])
  (h15:keys.length≤15):PE X (.Dict keys values pos) (w3e trs):=by
 intro pins s σ H Q I q
 have hn:=I.hok.fresh (Nat.le_refl s.heap.objs.size)
 have I1:=I.laid (a:=s.heap.objs.size) (o:=.dK []) (h':=s.heap.push { cls:=.type "dict",data:=.dict #[] }) (t':=s.toks) (fun _ _ q=>Heap.get?_push_of_some _ q) (Nat.le_refl _) (j1x s.heap I.big)
 refine wpAny_Dict_walk (knd:=q5b X.prog X.w) hall hl h0 h15 (thn (h pins _ σ _ _ I1 (q _ hn)) fun ws s2 ⟨ps,H2,I2,rel,e,kvs,ep,lk,q2⟩=>?_)
 subst ep
 obtain⟨rs,c,rk⟩:=x5w (P:=X.prog) (w:=X.w) rel
 obtain⟨z,hd,vs0,r0,dd⟩:=w3y I2.hok e
 cases r0
 refine⟨rs,c,dd,fun h' dd' hs=>⟨.ref s.heap.objs.size,_,?_,rfl,q2⟩⟩
 have hz:(q8x [] kvs).length≤sizeLine:=by
  have h1:=x1j kvs []
  rw [List.length_nil] at h1
  rw [sizeLine_eq]; omega
 have he:∃ q,h'.get? s.heap.objs.size=some q:=let ⟨q,_,_,hq,_⟩:=dd'; ⟨q,hq⟩
 exact j8f I2 (by rw [e]; exact True.intro) hs he (j9u hz hd (rk.merge .nil) dd')
end L2
namespace Kp
open PySem L2 PySem.Spec PyProof.Rows
theorem j9t {X:Cx} (hu:X.A.units < cLine):OpR X (compareOp .Eq) (fun x y H Q=>∃ p q xs,x=.ref p∧y=.ref q∧SqL X.K H p xs∧SqL X.K H q []∧Q (.bl xs.isEmpty) H):=by
 intro pins s σ H x y v u Q I rx ry h
 obtain⟨p,q',xs,rfl,rfl,h1,h2,q⟩:=h
 cases xs with
 | nil=>exact j5j hu pins s σ H _ _ _ _ Q I rx ry ⟨p,q',[],[],rfl,rfl,h1,h2,rfl,rfl,q⟩
 | cons a r =>
  cases rx
  cases ry
  obtain⟨its,r1,pl1,_⟩:=I.list h1
  obtain⟨jts,r2,pl2,_⟩:=I.list h2
  exact SeqAt.eq_list_lengthsAt pl1.isList pl2.isList (by simp [← r1.length,← r2.length]) hu ⟨.bl false,H,I,rfl,q⟩
theorem q7i {kvs:List (Key × V)} {k:Key} {v:V} (h:decide (z5o (q8x [] kvs) k=some v)=true):z5o (q8x [] kvs) k=some v:=of_decide_eq_true h
end Kp
namespace Kp
open PySem L2
mutual
inductive ThN (B:Nat) (H:Hp):V→Prop
 | non:ThN B H .non
 | bl (b:Bool):ThN B H (.bl b)
 | int (i:Int):ThN B H (.int i)
 | str (x:Str) (h:x.length≤B):ThN B H (.str x)
 | tup {a:Addr} {vs:List V} (e:H a=some (.tup vs)) (l:vs.length≤B) (r:ThNL B H vs):ThN B H (.ref a)
inductive ThNL (B:Nat) (H:Hp):List V→Prop
 | nil:ThNL B H []
 | cons {v:V} {vs:List V} (h:ThN B H v) (t:ThNL B H vs):ThNL B H (v::vs)
end
mutual
theorem ThN.sameT {B B':Nat} {H H':Hp} (hB:B≤B') (s:q9e H H'):∀ {v},ThN B H v→ThN B' H' v
 | _,.non=>.non
 | _,.bl b=>.bl b
 | _,.int i=>.int i
 | _,.str x h=>.str x (Nat.le_trans h hB)
 | _,.tup e l r=>.tup (s _ _ e) (Nat.le_trans l hB) (ThNL.sameT hB s r)
theorem ThNL.sameT {B B':Nat} {H H':Hp} (hB:B≤B') (s:q9e H H'):∀ {vs},ThNL B H vs→ThNL B' H' vs
 | _,.nil=>.nil
 | _,.cons h t=>.cons (ThN.sameT hB s h) (ThNL.sameT hB s t)
end
mutual
theorem ThN.th {B:Nat} {H:Hp}:∀ {v},ThN B H v→Th B H v
 | _,.non=>Th.non
 | _,.bl b=>Th.bl b
 | _,.int i=>Th.int i
 | _,.str x h=>Th.str x h
 | _,.tup e l r=>Th.tup e l (ThNL.th r)
theorem ThNL.th {B:Nat} {H:Hp}:∀ {vs},ThNL B H vs→ThL B H vs
 | _,.nil=>ThL.nil
 | _,.cons h t=>ThL.cons (ThN.th h) (ThNL.th t)
end
theorem j4w {H H':Hp} (s:q1b H H'):q9e H H':=fun b xs e=>s _ _ e
end Kp
namespace HT
open PySem PySem.Spec PyProof.Rows L2
section
variable {prog:Program} {w:World} {A:Around} {E:Value→Shared→Prop} {s:Shared}
theorem getItem_tuple_whole {t sl:Addr} {items:Array Value} {vl vu:Value} {lo hi:Option Int} {Q:Value→Shared→Prop} (ht:IsTup s.heap t items) (hs:s.heap.IsSliceOf sl vl vu .none) (pl:IsPart vl lo) (pu:IsPart vu hi)
  (hw:sIx items.size 0 lo=0∧sIx items.size items.size hi=items.size) (h:Q (.ref t) s):wpAny (model prog w) A (getItem (.ref t) (.ref sl)) Q E s:=by
 obtain⟨os,hos,hcs,hds⟩:=id hs
 have hTs:s.TypeIs (.ref sl) "slice" := ⟨os,hos,hcs⟩
 unfold getItem
 try with_reducible refine wpAny_holding ?_
 first | refine wpAny_bind (wpAny_pure ?_) | skip
 refine wpAny_bind (wpAny_sequenceKey ht.typeIs (by decide) ?_)
 refine wpAny_bind (wpAny_callSpecial?_slot (name:=Str.ofString "__getitem__") ht.typeIs PyProof.Rows.slot_tuple_getitem
  (wpAny_call_entry PyProof.Rows.slot_tuple_getitem ht.typeIs entry_tuple_getitem ?_ (args_tuple_getitem _ _)))
 show wpAny _ _ (Builtin.Tuple.tupleItemsOf (.ref t) >>= _) _ _ s
 refine wpAny_bind (tupleItemsOf_ ht ?_)
 refine wpAny_bind (wpAny_typeOf hTs ?_)
 rw [if_pos (by decide)]
 refine wpAny_bind (q8k hs pl pu ?_)
 have hyes:(((sIx items.size 0 lo:Nat):Int)==0 && (1:Int)==1 && (sIx items.size items.size hi - sIx items.size 0 lo)==items.size)=true:=by
  rw [hw.1,hw.2]; simp
 show wpAny _ _ (if (((sIx items.size 0 lo:Nat):Int)==0 && (1:Int)==1 && (sIx items.size items.size hi - sIx items.size 0 lo)==items.size)=true then _ else _) _ _ s
 rw [if_pos hyes]
 refine wpAny_bind (m:=Builtin.Tuple.tupleIsExact _) (wpAny_bind (wpAny_typeOf ht.typeIs (wpAny_pure ?_)))
 rw [if_pos (by decide)]
 refine wpAny_bind (wpAny_rule ?_)
 first
  | exact wpAny_bind (wpAny_pure (wpAny_pure ⟨_,rfl,wpAny_pure h⟩))
  | exact wpAny_pure ⟨_,rfl,wpAny_pure h⟩
  | exact wpAny_bind (wpAny_pure ⟨_,rfl,wpAny_pure h⟩)
end
end HT
namespace L2
open PySem PySem.Spec PyProof.Rows L2
theorem z5b {xs:List V} {lo hi:Option Int} (h1:HT.sIx xs.length 0 lo=0) (h2:HT.sIx xs.length xs.length hi=xs.length):x3n xs lo hi=xs:=by
 unfold x3n; rw [h1,h2]; simp
end L2
namespace L2
open PySem PySem.Spec PyProof.Rows
section
variable {X:Cx}
variable {o e:Expr} {es:List Expr} {to:TE} {t:TA} {name:Str} {apos cpos:Pos} {id:String} {r:V→List V→Hp→VK→Prop}
end
section
variable {X:Cx}
end
end L2
namespace K1
open PySem L2 Kp
end K1
namespace L2
open PySem PySem.Spec PyProof.Rows
section
variable {X:Cx}
end
end L2
namespace K1
open PySem L2 Kp
theorem SqT.same' {K:Frag} {H H':Hp} {a:Addr} {xs:List V} (h:SqT K H a xs) (s:q1b H H'):SqT K H' a xs:=by
 rcases h with h | h
 ·exact .inl (h.elim (fun e=>.inl (s _ _ e)) fun⟨o,e⟩=>.inr ⟨o,s _ _ e⟩)
 ·exact .inr h
end K1
set_option maxHeartbeats 1000000
namespace L2
open PySem PySem.Spec PyProof.Rows
section
variable {prog:Program} {w:World} {A:Around} {R:Result→Shared→Prop} {it:Addr} {fp wr:List Addr} {n:Nat} {Pv:Nat→Value→Prop} {St:Nat→Heap→Prop} {dv:Value}
end
section
variable {X:Cx}
end
end L2
namespace K1
open PySem L2 Kp
theorem w0z (ms:List Int) (p:Int→Bool) (f:Int→V):(((List.range (ms.map V.int).length).filter fun i=>p (ms.getD i 0)).map fun i=>f (ms.getD i 0))=(ms.filter p).map f:=by
 have e0:ms=(List.range ms.length).map fun i=>ms.getD i 0:=by
  apply List.ext_getElem?
  intro i
  by_cases hi:i < ms.length
  ·simp [hi]
  ·rw [List.getElem?_eq_none (by omega),List.getElem?_eq_none (by simp; omega)]
 rw [List.length_map]
 conv=>rhs; rw [e0]
 rw [List.filter_map,List.map_map]
 rfl
theorem x7o {K:Frag} {a:Addr} {ms:List Int} {H1:Hp} {frs:St} {g:TG} {tt:TT} {te:TE} {Q:VK} (hS:SqT K H1 a (ms.map V.int)) (hn:ms.length≤1000) (p:Int→Bool) (f:Int→V)
  (turn:∀ (i:Nat) (hi:i < ms.length) t H2 (R:St→Hp→Option V→Prop),q1b H1 H2→t.length=1→(∀ t' H',t'.length=1→q1b H2 H'→R (t'++frs) H' (if p ms[i]=true then some (f ms[i]) else none)) →
   g (.int ms[i]) (t++frs) H2 fun σ3 H3=>tt σ3 H3 fun b H4=>if b=true then te σ3 H4 fun v H5=>R σ3 H5 (some v) else R σ3 H4 none)
  (hq:∀ D H',q1b H1 H'→H1 D=none→H' D=some (.lst ((ms.filter p).map f))→Q (.ref D) H'):x3b (List.replicate 1 none++frs) g tt te Q (Itt K a) H1:=by
 refine q2w (J:=Itt K a) (k:=1) (n:=(ms.map V.int).length) (fun i=>p (ms.getD i 0)) (fun i=>f (ms.getD i 0)) (by rw [List.length_map,sizeLine_eq]; omega) (fun i H3 hi s4=>⟨_,.int (ms.getD i 0),SqT.same' hS s4,?_⟩) (fun H3 s4=>⟨_,SqT.same' hS s4,Nat.le_refl _⟩) ?_ ?_
 ·rw [List.length_map] at hi
  simp [hi]
 ·intro i H3 t v H4 R hi s4 ht y hR
  obtain⟨rfl,hy⟩:=y
  have hi':i < ms.length:=by simpa using hi
  have hv:=hy _ (SqT.same' hS s4)
  rw [List.getElem?_map,List.getElem?_eq_getElem hi'] at hv
  cases hv
  have eg:ms.getD i 0=ms[i]:=by simp [hi']
  rw [eg] at hR
  exact turn i hi' t H4 R s4 ht hR
 ·intro D1 H3 s4 hD hd
  rw [w0z] at hd
  exact hq D1 H3 s4 hD hd
end K1
namespace Kp
open PySem L2
end Kp
set_option maxHeartbeats 4000000
namespace Kp
open PySem L2
noncomputable def q3f (a:Addr) (H H':Hp):Prop:=∀ b o,b≠a→H b=some o→H' b=some o
theorem q3f.refl {a:Addr} (H:Hp):q3f a H H:=fun _ _ _ e=>e
theorem q3f.trans {a:Addr} {H H1 H2:Hp} (s:q3f a H H1) (t:q3f a H1 H2):q3f a H H2:=fun b o n e=>t b o n (s b o n e)
theorem q3f.of {a:Addr} {H H':Hp} (s:q1b H H'):q3f a H H':=fun b o _ e=>s b o e
theorem q3f.upd {a:Addr} {H:Hp} {o:HO}:q3f a H (upd H a o):=fun b _ n e=>by rw [q1a n]; exact e
theorem j2l {J:It} {H1:Hp} {a:Addr} {n k:Nat} {frs:St} {g:TG} {tt:TT} {te:TE} {Q:VK} (W:Nat→List V→Hp→Prop) (hn:n < sizeLine) (ha:∃ o,H1 a=some o)
  (w0:∀ D,H1 D=none→W 0 [] (upd H1 D (.lst []))) (wst:∀ i ys H D zs us,H1 D=none→D≠a→H D=some (.lst zs)→W i ys H→W i ys (upd H D (.lst us)))
  (go:∀ i ys H,i < n→W i ys H→J.go i H) (stop:∀ ys H,W n ys H→J.stop n H)
  (turn:∀ i ys H t x H2 (R:St→Hp→Option V→Prop),i < n→ys.length=i→W i ys H→t.length=k→J.yld i H x H2 →
   (∀ t' H' v,t'.length=k→q3f a H H'→W (i+1) (ys++[v]) H'→R (t'++frs) H' (some v)) →
   g x (t++frs) H2 fun σ3 H3=>tt σ3 H3 fun b H4=>if b=true then te σ3 H4 fun v H5=>R σ3 H5 (some v) else R σ3 H4 none)
  (hq:∀ D H' ys,D≠a→ys.length=n→W n ys H'→H' D=some (.lst ys)→Q (.ref D) H'):x3b (List.replicate k none++frs) g tt te Q J H1:=by
 intro D hD
 have hDa:D≠a:=fun z=>by obtain⟨o,e⟩:=ha; rw [← z,hD] at e; cases e
 refine⟨fun i m ys σ H=>i≤n∧m=n - i∧ys.length=i∧W i ys H∧∃ t,t.length=k∧σ=t++frs,⟨n,Nat.zero_le _,rfl,rfl,w0 D hD,_,by simp,rfl⟩,?_⟩
 rintro i m ys σ H ⟨hi,rfl,hy,w,t,ht,rfl⟩ hd
 by_cases hlt:i < n
 ·right
  refine⟨go i ys H hlt w,by omega,fun x H2 y=>?_⟩
  have h:=turn i ys H t x H2 (fun σ3 H5 r=>match r with
   | some v=>H5 D=some (.lst ys)∧∃ m',m' < n - i∧(i+1≤n∧m'=n - (i+1)∧(ys++[v]).length=i+1∧W (i+1) (ys++[v]) (upd H5 D (.lst (ys++[v])))∧∃ t,t.length=k∧σ3=t++frs)
   | none=>H5 D=some (.lst ys)∧∃ m',m' < n - i∧(i+1≤n∧m'=n - (i+1)∧ys.length=i+1∧W (i+1) ys H5∧∃ t,t.length=k∧σ3=t++frs)) hlt hy w ht y ?_
  ·exact h
  ·intro t' H' v ht' s2 w2
   have hd':=s2 _ _ hDa hd
   exact⟨hd',n - (i+1),by omega,by omega,rfl,by rw [List.length_append,hy]; rfl,wst _ _ _ _ _ _ hD hDa hd' w2,t',ht',rfl⟩
 ·have e:i=n:=by omega
  subst e
  exact .inl ⟨stop ys H w,hq D H ys hDa hy w hd⟩
mutual
noncomputable def z6n:D→Bool
 | .tup ds=>noLL ds
 | .lst _=>false
 | _=>true
noncomputable def noLL:List D→Bool
 | []=>true
 | d::ds=>z6n d && noLL ds
end
mutual
theorem Is.sameT {B:Nat} {H H':Hp} (s:q9e H H'):∀ {v d},Is B H v d→z6n d=true→Is B H' v d
 | _,_,.non,_=>.non
 | _,_,.bl b,_=>.bl b
 | _,_,.int i,_=>.int i
 | _,_,.str x h,_=>.str x h
 | _,_,.tup e l r,h=>.tup (s _ _ e) l (IsL.sameT s r h)
 | _,_,.lst _ _ _,h=>by cases h
theorem IsL.sameT {B:Nat} {H H':Hp} (s:q9e H H'):∀ {vs ds},IsL B H vs ds→noLL ds=true→IsL B H' vs ds
 | _,_,.nil,_=>.nil
 | _,_,.cons h t,e=>by
  rw [noLL,Bool.and_eq_true] at e
  exact .cons (Is.sameT s h e.1) (IsL.sameT s t e.2)
end
theorem x1t:∀ {ds:List D},noLL ds=true↔∀ d∈ds,z6n d=true
 | []=>by
  constructor
  ·intro _ d h
   cases h
  ·intro _
   rfl
 | d::ds=>by
  rw [noLL,Bool.and_eq_true,x1t]
  simp
theorem q3f.tups {a:Addr} {H H':Hp} (s:q3f a H H') (h:∀ xs,H a≠some (.tup xs)):q9e H H':=fun b xs e=>s b _ (fun z=>by rw [z] at e; exact h xs e) e
theorem x9x {D:Addr} {H:Hp} {o:HO} (h:∀ xs,H D≠some (.tup xs)):q9e H (upd H D o):=fun b xs e=>by
 have n:b≠D:=fun z=>by rw [z] at e; exact h xs e
 rw [q1a n]
 exact e
end Kp
namespace Kp
open PySem
noncomputable def q4n:D→Bool
 | .bl _=>true
 | _=>false
noncomputable def q8m:D→Bool
 | .non=>true
 | d=>q0k d
noncomputable def w1v (p:D→Bool):D→Bool
 | .tup ds=>ds.all p
 | _=>false
noncomputable def q2l (d:D):Bool:=w1v q3r d && decide (z5k d≤5)
noncomputable def j5l:D→Bool
 | .tup (.int i::_)=>decide (1≤i)
 | _=>false
noncomputable def x0r (d:D):Bool:=x6s d && j5l d
noncomputable def q3c:List (Str × List (D→Bool)):=[("ask",[q0k,q0k,geD 1,geD 0,geD 0]),("voice",[q0k,q0k,geD 1,q4n]),("hand",[q0k,q0k,geD 1,geD 0,geD 0,q2l,geD 0]),("pack",[q0k,q0k,geD 1,x0r]),
 ("held",[q0k,q0k,geD 1,q4n,geD 0]),("wish",[q2n,q0k,geD 1,q6j]),("told",[q0k,q2n,geD 1,whole]),("away",[q0k,q2n,geD 1,q8m])]
noncomputable def q8u:D→D→Bool
 | .int i,.int j=>decide (i=j)
 | .str i,.str j=>decide (i=j)
 | _,_=>false
noncomputable def j6i:D→Bool
 | .tup (_::a::b::_) => !q8u a b
 | _=>false
noncomputable def z5m:D→Bool
 | .tup (.str x::_::_::_::a::b::r)=>if x = "ask" ∨ x = "hand" then z0k (.tup (a::b::r)) else true
 | _=>true
noncomputable def q2o (d:D):Bool:=q2t q3c d && (j6i d && z5m d)
noncomputable def x3f (a b t:D):Bool:=((q0k a && q0k b) && !q8u a b) && geD 1 t
noncomputable def x3o:D→Bool
 | .tup ds=>decide (ds.length≤5) && ds.all q8i
 | _=>false
noncomputable def nzD:D→Bool
 | .tup (.int i::_) => !decide (i=0)
 | _=>false
noncomputable def q7y (x:Str) (r:List D):Bool :=
 if x = "ask" then (match r with | [a,b,t,p,l]=>x3f a b t && q4u p l | _=>false)
 else if x = "voice" then (match r with | [a,b,t,v]=>x3f a b t && q4n v | _=>false)
 else if x = "hand" then (match r with | [a,b,t,p,l,e,m]=>x3f a b t && (q4u p l && (x3o e && geD 0 m)) | _=>false)
 else if x = "pack" then (match r with | [a,b,t,k]=>x3f a b t && (x0y k && nzD k) | _=>false)
 else if x = "held" then (match r with | [a,b,t,v,m]=>x3f a b t && (q4n v && geD 0 m) | _=>false)
 else if x = "wish" then (match r with | [n,k,c,d]=>geD 1 c && (q1z n && (q0k k && q6c d)) | _=>false)
 else if x = "told" then (match r with | [k,n,c,v]=>geD 1 c && ((q0k k && q1z n) && whole v) | _=>false)
 else if x = "away" then (match r with | [k,n,c,h]=>geD 1 c && ((q0k k && q1z n) && q8m h) | _=>false)
 else false
noncomputable def z0t:D→Bool
 | .tup (.str x::r)=>q7y x r
 | _=>false
theorem z4j (p q s t:D→Bool):∀ r:List D,q0w [p,q,s,t] r=(match r with | [a,b,c,d]=>p a && (q b && (s c && t d)) | _=>false)
 | []=>rfl
 | [_]=>by simp [q0w]
 | [_,_]=>by simp [q0w]
 | [_,_,_]=>by simp [q0w]
 | [a,b,c,d]=>by simp [q0w]
 | _::_::_::_::_::_=>by simp [q0w]
theorem j2c (p q s t u:D→Bool):∀ r:List D,q0w [p,q,s,t,u] r=(match r with | [a,b,c,d,e]=>p a && (q b && (s c && (t d && u e))) | _=>false)
 | []=>rfl
 | [_]=>by simp [q0w]
 | [_,_]=>by simp [q0w]
 | [_,_,_]=>by simp [q0w]
 | [_,_,_,_]=>by simp [q0w]
 | [a,b,c,d,e]=>by simp [q0w]
 | _::_::_::_::_::_::_=>by simp [q0w]
theorem j7k (p q s t u v w:D→Bool):∀ r:List D,q0w [p,q,s,t,u,v,w] r=(match r with | [a,b,c,d,e,f,g]=>p a && (q b && (s c && (t d && (u e && (v f && w g))))) | _=>false)
 | []=>rfl
 | [_]=>by simp [q0w]
 | [_,_]=>by simp [q0w]
 | [_,_,_]=>by simp [q0w]
 | [_,_,_,_]=>by simp [q0w]
 | [_,_,_,_,_]=>by simp [q0w]
 | [_,_,_,_,_,_]=>by simp [q0w]
 | [a,b,c,d,e,f,g]=>by simp [q0w]
 | _::_::_::_::_::_::_::_::_=>by simp [q0w]
theorem j2v:q3r=q8i:=funext j1t
theorem z4v (d:D):q2l d=x3o d:=by
 unfold q2l
 rw [j2v]
 cases d with
 | tup ds =>
  show (ds.all q8i && decide (ds.length≤5))=(decide (ds.length≤5) && ds.all q8i)
  rw [Bool.and_comm]
 | _=>rfl
theorem x6u {d:D} (h:x0y d=true):∃ i r,d=.tup (.int i::r)∧0≤i:=by
 cases d with
 | tup ds =>
  match ds,h with
  | [a,b,c,e],h =>
   have h':(q4u a b && (q4o c && q8l e))=true:=h
   unfold q4u at h'
   rw [Bool.and_eq_true,Bool.and_eq_true,Bool.and_eq_true] at h'
   have ha:=h'.1.1.1
   cases a with
   | int i=>exact⟨i,_,rfl,of_decide_eq_true ha⟩
   | _=>cases ha
 | _=>cases h
theorem j8z (d:D):x0r d=(x0y d && nzD d):=by
 unfold x0r
 rw [z6r]
 cases h:x0y d with
 | false=>rfl
 | true =>
  obtain⟨i,r,rfl,hi⟩:=x6u h
  show (true && decide (1≤i))=(true && !decide (i=0))
  rw [Bool.true_and,Bool.true_and,Bool.eq_iff_iff]
  simp only [decide_eq_true_eq,Bool.not_eq_true',decide_eq_false_iff_not]
  omega
theorem x4g {n k:D} (h1:q1z n=true) (h2:q0k k=true):q8u n k=false∧q8u k n=false:=by
 cases n with
 | str x =>
  cases k with
  | int i=>exact⟨rfl,rfl⟩
  | _=>cases h2
 | _=>cases h1
theorem z8u (d:D):q2o d=z0t d:=by
 unfold q2o z0t q2t
 split
 ·rename_i x r
  unfold q3c q7y
  simp only [List.lookup_cons,List.lookup_nil]
  have ne:∀ {s t:Str},s≠t→(s==t)=false:=fun h=>by simp [h]
  by_cases h1:x = "ask"
  ·subst h1
   rw [if_pos rfl,show (("ask" : Str)==("ask" : Str))=true by simp]
   show (q0w [q0k,q0k,geD 1,geD 0,geD 0] r && _)=_
   rw [j2c]
   match r with
   | [a,b,t,p,l] =>
    show ((q0k a && (q0k b && (geD 1 t && (geD 0 p && geD 0 l)))) && (!q8u a b && (if ("ask" : Str) = "ask" ∨ ("ask" : Str) = "hand" then z0k (.tup [p,l]) else true)))=(x3f a b t && q4u p l)
    rw [if_pos (.inl rfl),← x6x p l []]
    unfold x3f
    ac_rfl
   | []=>rfl
   | [_]=>rfl
   | [_,_]=>rfl
   | [_,_,_]=>rfl
   | [_,_,_,_]=>rfl
   | _::_::_::_::_::_::_=>rfl
  rw [if_neg h1,ne h1]
  by_cases h2:x = "voice"
  ·subst h2
   rw [if_pos rfl,show (("voice" : Str)==("voice" : Str))=true by simp]
   show (q0w [q0k,q0k,geD 1,q4n] r && _)=_
   rw [z4j]
   match r with
   | [a,b,t,v] =>
    show ((q0k a && (q0k b && (geD 1 t && q4n v))) && (!q8u a b && true))=(x3f a b t && q4n v)
    unfold x3f
    rw [Bool.and_true]
    ac_rfl
   | []=>rfl
   | [_]=>rfl
   | [_,_]=>rfl
   | [_,_,_]=>rfl
   | _::_::_::_::_::_=>rfl
  rw [if_neg h2,ne h2]
  by_cases h3:x = "hand"
  ·subst h3
   rw [if_pos rfl,show (("hand" : Str)==("hand" : Str))=true by simp]
   show (q0w [q0k,q0k,geD 1,geD 0,geD 0,q2l,geD 0] r && _)=_
   rw [j7k]
   match r with
   | [a,b,t,p,l,e,m] =>
    show ((q0k a && (q0k b && (geD 1 t && (geD 0 p && (geD 0 l && (q2l e && geD 0 m)))))) && (!q8u a b && (if ("hand" : Str) = "ask" ∨ ("hand" : Str) = "hand" then z0k (.tup [p,l,e,m]) else true)))=(x3f a b t && (q4u p l && (x3o e && geD 0 m)))
    rw [if_pos (.inr rfl),← x6x p l [e,m],z4v]
    unfold x3f
    ac_rfl
   | []=>rfl
   | [_]=>rfl
   | [_,_]=>rfl
   | [_,_,_]=>rfl
   | [_,_,_,_]=>rfl
   | [_,_,_,_,_]=>rfl
   | [_,_,_,_,_,_]=>rfl
   | _::_::_::_::_::_::_::_::_=>rfl
  rw [if_neg h3,ne h3]
  have hx:¬ (x = "ask" ∨ x = "hand"):=by rintro (z | z); exact h1 z; exact h3 z
  have ends:∀ r,z5m (.tup (.str x::r))=true:=fun r=>by
   match r with
   | []=>rfl
   | [_]=>rfl
   | [_,_]=>rfl
   | [_,_,_]=>rfl
   | [_,_,_,_]=>rfl
   | _::_::_::a::b::t =>
    show (if x = "ask" ∨ x = "hand" then z0k (.tup (a::b::t)) else true)=true
    rw [if_neg hx]
  rw [ends,Bool.and_true]
  by_cases h4:x = "pack"
  ·subst h4
   rw [if_pos rfl,show (("pack" : Str)==("pack" : Str))=true by simp]
   show (q0w [q0k,q0k,geD 1,x0r] r && _)=_
   rw [z4j]
   match r with
   | [a,b,t,v] =>
    show ((q0k a && (q0k b && (geD 1 t && x0r v))) && !q8u a b)=(x3f a b t && (x0y v && nzD v))
    rw [j8z]
    unfold x3f
    ac_rfl
   | []=>rfl
   | [_]=>rfl
   | [_,_]=>rfl
   | [_,_,_]=>rfl
   | _::_::_::_::_::_=>rfl
  rw [if_neg h4,ne h4]
  by_cases h5:x = "held"
  ·subst h5
   rw [if_pos rfl,show (("held" : Str)==("held" : Str))=true by simp]
   show (q0w [q0k,q0k,geD 1,q4n,geD 0] r && _)=_
   rw [j2c]
   match r with
   | [a,b,t,v,m] =>
    show ((q0k a && (q0k b && (geD 1 t && (q4n v && geD 0 m)))) && !q8u a b)=(x3f a b t && (q4n v && geD 0 m))
    unfold x3f
    ac_rfl
   | []=>rfl
   | [_]=>rfl
   | [_,_]=>rfl
   | [_,_,_]=>rfl
   | [_,_,_,_]=>rfl
   | _::_::_::_::_::_::_=>rfl
  rw [if_neg h5,ne h5]
  by_cases h6:x = "wish"
  ·subst h6
   rw [if_pos rfl,show (("wish" : Str)==("wish" : Str))=true by simp]
   show (q0w [q2n,q0k,geD 1,q6j] r && _)=_
   rw [z4j,x1a,j1h]
   match r with
   | [n,k,c,d] =>
    show ((q1z n && (q0k k && (geD 1 c && q6c d))) && !q8u n k)=(geD 1 c && (q1z n && (q0k k && q6c d)))
    cases hn:q1z n with
    | false=>simp
    | true =>
     cases hk:q0k k with
     | false=>simp
     | true=>rw [(x4g hn hk).1]; simp
   | []=>rfl
   | [_]=>rfl
   | [_,_]=>rfl
   | [_,_,_]=>rfl
   | _::_::_::_::_::_=>rfl
  rw [if_neg h6,ne h6]
  by_cases h7:x = "told"
  ·subst h7
   rw [if_pos rfl,show (("told" : Str)==("told" : Str))=true by simp]
   show (q0w [q0k,q2n,geD 1,whole] r && _)=_
   rw [z4j,x1a]
   match r with
   | [k,n,c,d] =>
    show ((q0k k && (q1z n && (geD 1 c && whole d))) && !q8u k n)=(geD 1 c && ((q0k k && q1z n) && whole d))
    cases hn:q1z n with
    | false=>simp
    | true =>
     cases hk:q0k k with
     | false=>simp
     | true=>rw [(x4g hn hk).2]; simp
   | []=>rfl
   | [_]=>rfl
   | [_,_]=>rfl
   | [_,_,_]=>rfl
   | _::_::_::_::_::_=>rfl
  rw [if_neg h7,ne h7]
  by_cases h8:x = "away"
  ·subst h8
   rw [if_pos rfl,show (("away" : Str)==("away" : Str))=true by simp]
   show (q0w [q0k,q2n,geD 1,q8m] r && _)=_
   rw [z4j,x1a]
   match r with
   | [k,n,c,d] =>
    show ((q0k k && (q1z n && (geD 1 c && q8m d))) && !q8u k n)=(geD 1 c && ((q0k k && q1z n) && q8m d))
    cases hn:q1z n with
    | false=>simp
    | true =>
     cases hk:q0k k with
     | false=>simp
     | true=>rw [(x4g hn hk).2]; simp
   | []=>rfl
   | [_]=>rfl
   | [_,_]=>rfl
   | [_,_,_]=>rfl
   | _::_::_::_::_::_=>rfl
  rw [if_neg h8,ne h8]
  rfl
 ·rename_i h
  cases d with
  | tup ds =>
   match ds with
   | []=>rfl
   | .str x::r=>exact absurd rfl (h x r)
   | .non::_=>rfl
   | .bl _::_=>rfl
   | .int _::_=>rfl
   | .tup _::_=>rfl
   | .lst _::_=>rfl
  | _=>rfl
end Kp
namespace Kp
open PySem L2 PySem.Spec PyProof.Rows
noncomputable abbrev Ord:=PyProof.Rows.KeyKind
section
variable {prog:Program} {w:World} {A:Around} {E:Value→Shared→Prop} {s:Shared} {a0:Array Keyed} {κ:Ord} {kd:SortKind} {st:SortSt}
structure TB (κ:Ord) (kd:SortKind) (a0:Array Keyed) (st:SortSt):Prop where
 pm:(arrOf st).Perm a0
 kn:kindOf st=kd
 fl:failedOf st=none
 pe:pendingOf st=#[]
 un:∀ i j,i < a0.size→j < a0.size→KK κ (arrOf st) i=KK κ (arrOf st) j→i=j
noncomputable def Up (κ:Ord) (xs:Array Keyed) (k:Nat):Prop:=∀ i j,i < j→j < k→κ.blt (KK κ xs i) (KK κ xs j)=true
noncomputable def TD (κ:Ord) (a0:Array Keyed) (st:SortSt):Prop:=(arrOf st).Perm a0∧failedOf st=none∧pendingOf st=#[(0,a0.size,0)]∧Up κ (arrOf st) a0.size
end
end Kp
namespace Kp
open PySem L2 PySem.Spec PyProof.Rows
section
variable {prog:Program} {w:World} {A:Around} {E:Value→Shared→Prop} {s:Shared}
end
end Kp
namespace Kp
open PySem L2 PySem.Spec PyProof.Rows
section
variable {prog:Program} {w:World} {A:Around} {E:Value→Shared→Prop} {s:Shared}
end
end Kp
namespace Kp
open PySem L2 PySem.Spec PyProof.Rows
noncomputable def j9n (a b:Str):Prop:=a.cps.toList < b.cps.toList
section
variable {X:Cx}
end
end Kp
namespace Kp
open PySem L2 PySem.Spec PyProof.Rows
section
variable {X:Cx}
end
end Kp
namespace L2
open PySem PySem.Spec PyProof.Rows
noncomputable def w7m:V→Option Int→Option Int→Hp→VK→Prop:=fun x lo hi H Q=>∃ a xs,x=.ref a∧H a=some (.tup xs)∧∀ p H',H' p=some (.tup (x3n xs lo hi))→q1b H H'→Q (.ref p) H'
theorem z6v {X:Cx}:SlR X w7m:=by
 intro pins s σ H x v vl vu lo hi sl Q I rx hs pl pu h
 obtain⟨a,xs,rfl,hx,q⟩:=h
 by_cases hw:HT.sIx xs.length 0 lo=0∧HT.sIx xs.length xs.length hi=xs.length
 ·cases rx
  obtain⟨its,r,ht,hz⟩:=I.tuple (SqT.of hx)
  have hlen:its.toArray.size=xs.length:=by rw [List.size_toArray]; exact r.length.symm
  refine⟨"tuple",_,PyProof.Rows.slot_tuple_getitem.lookup,ht.typeIs,?_⟩
  refine HT.getItem_tuple_whole ht hs pl pu (by rw [hlen]; exact hw) ⟨.ref a,H,I,rfl,q a H (by rw [z5b hw.1 hw.2]; exact hx) (q1b.refl _)⟩
 ·exact z7t pins s σ H _ _ vl vu lo hi sl Q I rx hs pl pu ⟨a,xs,rfl,SqT.of hx,hw,fun p hp=>q p _ q0f (Kp.q0g hp)⟩
end L2
namespace K1
open PySem L2 Kp
theorem w6l {p:Prop} [Decidable p] (h:¬ decide p=true):¬ p:=fun g=>h (decide_eq_true g)
end K1
namespace Kp
open PySem L2 PySem.Spec PyProof.Rows
end Kp
namespace Kp
open PySem L2 PySem.Spec PyProof.Rows
end Kp
namespace L2
open PySem
end L2
namespace Kp
open PySem L2
theorem z3i {J:It} {H1:Hp} {n k:Nat} {frs:St} {g:TG} {tt:TT} {te:TE} {Q:VK} (R:Nat→Hp→V→Prop) (mono:∀ i H H' v,q9e H H'→R i H v→R i H' v) (hn:n < sizeLine)
  (go:∀ i H,i < n→q1b H1 H→J.go i H) (stop:∀ H,q1b H1 H→J.stop n H)
  (turn:∀ i H t x H2 (S:St→Hp→Option V→Prop),i < n→q1b H1 H→t.length=k→J.yld i H x H2 →
   (∀ t' H' v,t'.length=k→q1b H H'→R i H' v→S (t'++frs) H' (some v)) →
   g x (t++frs) H2 fun σ3 H3=>tt σ3 H3 fun b H4=>if b=true then te σ3 H4 fun v H5=>S σ3 H5 (some v) else S σ3 H4 none)
  (hq:∀ D H' ys,q1b H1 H'→H1 D=none→H' D=some (.lst ys)→ys.length=n→(∀ i v,ys[i]? = some v→R i H' v)→Q (.ref D) H'):x3b (List.replicate k none++frs) g tt te Q J H1:=by
 intro D hD
 refine⟨fun i m ys σ H=>i≤n∧m=n - i∧ys.length=i∧(∀ j v,ys[j]? = some v→R j H v)∧q1b H1 H∧∃ t,t.length=k∧σ=t++frs,⟨n,Nat.zero_le _,rfl,rfl,fun j v hv=>by simp at hv,q0g hD,_,by simp,rfl⟩,?_⟩
 rintro i m ys σ H ⟨hi,rfl,hl,hR,s1,t,ht,rfl⟩ hd
 by_cases hlt:i < n
 ·right
  refine⟨go i H hlt s1,by omega,fun x H2 y=>?_⟩
  have keep:∀ (H5:Hp) (zs:List V),H5 D=some (.lst ys)→q9e H5 (upd H5 D (.lst zs)):=fun H5 zs h5 b xs e=>by
   rw [q1a (fun q=>by rw [q,h5] at e; cases e)]; exact e
  have tup:∀ {H H':Hp},q1b H H'→q9e H H':=fun s b xs e=>s _ _ e
  refine turn i H t x H2 (fun σ3 H5 r=>match r with
   | some v=>H5 D=some (.lst ys)∧∃ m',m' < n - i∧(i+1≤n∧m'=n - (i+1)∧(ys++[v]).length=i+1∧(∀ j u,(ys++[v])[j]? = some u→R j (upd H5 D (.lst (ys++[v]))) u)∧q1b H1 (upd H5 D (.lst (ys++[v])))∧∃ t,t.length=k∧σ3=t++frs)
   | none=>H5 D=some (.lst ys)∧∃ m',m' < n - i∧(i+1≤n∧m'=n - (i+1)∧ys.length=i+1∧(∀ j u,ys[j]? = some u→R j H5 u)∧q1b H1 H5∧∃ t,t.length=k∧σ3=t++frs)) hlt s1 ht y ?_
  intro t' H' v ht' s2 rv
  have h5:=s2 _ _ hd
  refine⟨h5,n - (i+1),by omega,by omega,rfl,by rw [List.length_append,hl]; rfl,fun j u hu=>?_,fun b o e=>?_,t',ht',rfl⟩
  ·by_cases hj:j < ys.length
   ·rw [List.getElem?_append_left hj] at hu
    exact mono _ _ _ _ (keep H' _ h5) (mono _ _ _ _ (tup s2) (hR j u hu))
   ·rw [List.getElem?_append_right (by omega)] at hu
    have e0:j - ys.length=0:=by
     cases e:j - ys.length with
     | zero=>rfl
     | succ m=>rw [e] at hu; simp at hu
    rw [e0] at hu
    cases hu
    obtain rfl:j=i:=by omega
    exact mono _ _ _ _ (keep H' _ h5) rv
  ·rw [q1a (q1s e hD)]; exact s2 _ _ (s1 _ _ e)
 ·have e:i=n:=by omega
  subst e
  exact .inl ⟨stop H s1,hq D H ys s1 hD hd hl hR⟩
end Kp
namespace K1
open PySem L2 Kp
theorem q9q {a b:Str} (h:a.cps.toList=b.cps.toList):a=b:=by
 obtain⟨⟨x⟩⟩:=a
 obtain⟨⟨y⟩⟩:=b
 simp only at h
 rw [h]
instance (a b:Str):Decidable (j9n a b):=inferInstanceAs (Decidable (a.cps.toList < b.cps.toList))
end K1
namespace Kp
open PySem L2 PySem.Spec PyProof.Rows
section
variable {X:Cx}
end
end Kp
namespace Kp
open PySem L2
end Kp
namespace Kp
open PySem L2 PySem.Spec PyProof.Rows
section
variable {X:Cx}
theorem x9t:MtR X "str.startswith" (fun x xs H Q=>∃ z y,x=.str z∧xs=[.str y]∧Q (.bl (Txt.startswith z y)) H):=by
 intro pins s σ H x xs v us Q I rx rv h
 obtain⟨z,y,rfl,rfl,q⟩:=h
 obtain⟨t,rfl⟩:=rx
 obtain⟨u,rfl,t',rfl⟩:=x1d rv
 exact SC.startswith ⟨.bl _,H,I,rfl,q⟩
theorem z4a:∀ l:List (Str × Tok),q4l ((l.map (·.1)).map V.str) (strValues l)
 | []=>.nil
 | p::l=>.cons ⟨_,rfl⟩ (z4a l)
theorem x8i {z y:Str} (hy:1≤y.length):(Txt.split z y).length≤z.length+1:=by
 have:=split_weight z y hy
 omega
theorem z1b {z y a:Str} (h:a∈Txt.split z y):a.length≤z.length:=part_short h
theorem z3o:MtR X "str.split" (fun x xs H Q=>∃ z y,x=.str z∧xs=[.str y]∧1≤y.length∧z.length+1≤sizeLine∧∀ l,H l=none→Q (.ref l) (upd H l (.lst ((Txt.split z y).map V.str)))):=by
 intro pins s σ H x xs v us Q I rx rv h
 obtain⟨z,y,rfl,rfl,hy,hz,q⟩:=h
 obtain⟨t,rfl⟩:=rx
 obtain⟨u,rfl,t',rfl⟩:=x1d rv
 have hfew:=x8i (z:=z) hy
 have fin:∀ (l:List (Str × Tok)) (k:Nat),l.map (·.1)=Txt.split z y →
   EP X pins σ Q (.ref s.heap.objs.size) { s with toks:=k,heap:=s.heap.push { cls:=.type "list",data:=.seq (strValues l).toArray } }:=by
  intro l k e
  refine⟨.ref s.heap.objs.size,_,I.laid (t':=k) (o:=.lst ((Txt.split z y).map V.str)) (fun b o hb=>Heap.get?_push_of_some _ hb) (Nat.le_refl _) ⟨?_,strValues l,_,?_,Heap.get?_push_size _ rfl⟩,rfl,q _ (I.hok.fresh (Nat.le_refl _))⟩
  ·rw [List.length_map]; omega
  ·rw [← e]; exact z4a l
 have hy0:(y.length==0)=false:=by
  rw [beq_eq_false_iff_ne]; omega
 have hself:∀ S:List Str,S=[z]→Txt.split z y=S→listOfItself z t X.A (wants (EP X pins σ Q) X.xe) s:=by
  intro S e1 e2
  exact fin [(z,t)] s.toks (by rw [e2,e1]; rfl)
 cases hc:(decide (z.length < y.length) || decide (Builtin.Str.strKind z < Builtin.Str.strKind y)) with
 | true=>exact call_meets PySem.F.slot_str_split (typeIs_str _ _ _) PySem.F.entry_str_split (PySem.F.args_str_split_2 _ _) (meets_str_split_cannot_occur z y t t' hc) (hself [z] rfl (if_pos hc))
 | false =>
  have hc':¬ (decide (z.length < y.length) || decide (Builtin.Str.strKind z < Builtin.Str.strKind y))=true:=by rw [hc]; decide
  cases ho:(Builtin.Str.occurrences z y 0 z.length (z.length+1)).isEmpty with
  | true=>exact call_meets PySem.F.slot_str_split (typeIs_str _ _ _) PySem.F.entry_str_split (PySem.F.args_str_split_2 _ _) (meets_str_split_not_found z y t t' hc hy0 ho) (hself [z] rfl ((if_neg hc').trans (if_pos ho)))
  | false =>
   have ho':¬ (Builtin.Str.occurrences z y 0 z.length (z.length+1)).isEmpty=true:=by rw [ho]; decide
   have es:Txt.split z y=Builtin.Str.partsBetween z (Builtin.Str.occurrences z y 0 z.length (z.length+1)) y.length:=(if_neg hc').trans (if_neg ho')
   refine call_meets PySem.F.slot_str_split (typeIs_str _ _ _) PySem.F.entry_str_split (PySem.F.args_str_split_2 _ _) (meets_str_split_sep z y t t' hc hy0 ho (by omega) (by rw [← es]; omega)) ?_
   rw [← es]
   simp only [strsFrom_eq]
   exact fin (numbered s.toks (Txt.split z y)) _ (numbered_texts _ _)
theorem x9v:x4v X (.type "int") (fun xs H Q=>∃ z n,xs=[.str z]∧intText? z=some n∧z.length≤640∧Q (.int n) H):=by
 intro pins s σ H xs us Q I r h
 obtain⟨z,n,rfl,hn,hl,q⟩:=h
 obtain⟨u,rfl,t,rfl⟩:=x1d r
 exact PySem.W.KIN.call_text hn hl ⟨.int n,H,I.tok _,⟨_,rfl⟩,q⟩
theorem q9j:MtR X "str.join" (fun x xs H Q=>∃ z p,∃ ys:List Str,x=.str z∧xs=[.ref p]∧SqL X.K H p (ys.map V.str)∧JoinOk z ys=true∧Q (.str (Str.join z ys)) H):=by
 intro pins s σ H x xs v us Q I rx rv h
 obtain⟨z,p,ys,rfl,rfl,hq,hok,q⟩:=h
 obtain⟨t,rfl⟩:=rx
 obtain⟨u,rfl,rx⟩:=x1d rv
 cases rx
 obtain⟨its,rv,pl,hz⟩:=I.list hq
 have hl:=pl.isList
 have hv:∃ l:List (Str × Tok),strValues l=its∧l.map (·.1)=ys:=by
  clear hl pl hq hz hok q
  generalize hw:ys.map V.str=ws at rv
  induction rv generalizing ys with
  | nil=>exact⟨[],rfl,(List.map_eq_nil_iff.mp hw).symm⟩
  | cons r1 t1 ih =>
   cases ys with
   | nil=>cases hw
   | cons y ys =>
    cases hw
    obtain⟨k,rfl⟩:=r1
    obtain⟨l,e1,e2⟩:=ih ys rfl
    exact⟨(y,k)::l,by rw [← e1]; rfl,by rw [← e2]; rfl⟩
 obtain⟨l,e1,e2⟩:=hv
 rw [← e1] at hl
 refine SC.join hl e2 hok fun t' k=>⟨.str (Str.join z ys),H,I.tok _,?_,q⟩
 show ∃ t,_=_
 exact⟨t',by rw [show Txt.join z ys=Str.join z ys from StrLaws.glued_eq_join z ys]⟩
end
end Kp
namespace Kp
open PySem PySem.Spec PyProof.Rows PySem.NumText
noncomputable def q1j (n:Int):Str:=Str.ofString (toString n)
noncomputable def z8g (n:Int):List Nat:=(q1j n).cps.toList
noncomputable def x1o (m:Nat):List Nat:=(Nat.toDigits 10 m).map Char.toNat
theorem q7u (m:Nat):z8g (m:Int)=x1o m:=PySem.W.KIN.signs_num m
theorem x0e {n:Int} (h:n < 0):z8g n=45::x1o n.natAbs:=by
 unfold z8g q1j
 rw [toString_neg h,signs_ofString,String.toList_append,List.map_append]
 have e:(0:Int) - n=((n.natAbs:Nat):Int):=by omega
 rw [e]
 have q:=PySem.W.KIN.signs_num n.natAbs
 rw [signs_ofString] at q
 rw [q]
 rfl
theorem q6i (m:Nat):AllDigits (x1o m):=by
 intro c hc
 obtain⟨ch,hch,rfl⟩:=List.mem_map.mp hc
 have h:=Nat.isDigit_of_mem_toDigits (b:=10) (n:=m) (by decide) (by decide) hch
 have h2:ch.val.toNat≥48∧ch.val.toNat≤57:=by
  unfold Char.isDigit at h
  rw [Bool.and_eq_true,decide_eq_true_eq,decide_eq_true_eq] at h
  exact⟨h.1,h.2⟩
 exact⟨h2.1,h2.2⟩
theorem j0u (m:Nat):x1o m≠[]:=fun e=>Nat.toDigits_ne_nil (List.map_eq_nil_iff.mp e)
theorem x0c (m:Nat) {k:Nat} (hk:0 < k):(x1o m).length≤k↔m < 10 ^ k:=by
 unfold x1o
 rw [List.length_map]
 exact Nat.length_toDigits_le_iff (by decide) hk
theorem x3l {m:Nat} (h:m < 10):x1o m=[48+m]:=by
 unfold x1o
 rw [Nat.toDigits_of_lt_base h]
 have:∀ m:Nat,m < 10→[(Nat.digitChar m).toNat]=[48+m]:=by decide
 exact this m h
theorem x8u {m:Nat} (h:10≤m):x1o m=x1o (m / 10)++[48+m % 10]:=by
 unfold x1o
 rw [Nat.toDigits_of_base_le (by decide) h,List.map_append]
 have:∀ m:Nat,m < 10→[(Nat.digitChar m).toNat]=[48+m]:=by decide
 rw [← this (m % 10) (Nat.mod_lt _ (by decide))]
 rfl
theorem x7n (n:Int):(q1j n).length=(z8g n).length:=by
 unfold z8g
 rw [Array.length_toList]
 rfl
theorem q9q {a b:Str} (h:a.cps.toList=b.cps.toList):a=b:=by
 obtain⟨⟨x⟩⟩:=a
 obtain⟨⟨y⟩⟩:=b
 cases (show x=y from h)
 rfl
theorem z4k (n:Int):∀ c∈z8g n,c=45∨(48≤c∧c≤57):=by
 intro c hc
 by_cases h:n < 0
 ·rw [x0e h] at hc
  rcases List.mem_cons.mp hc with rfl | hc
  ·exact .inl rfl
  ·exact .inr (q6i _ c hc)
 ·obtain⟨m,rfl⟩:=Int.eq_ofNat_of_zero_le (show 0≤n by omega)
  rw [q7u] at hc
  exact .inr (q6i _ c hc)
theorem z0h {n:Int} (h:n.natAbs < 10 ^ 600):intText? (q1j n)=some n:=by
 have hl:(x1o n.natAbs).length≤600:=(x0c _ (by decide)).mpr h
 by_cases hn:n < 0
 ·have e:=x0e hn
  have hx:(q1j n).length≤4300:=by rw [x7n,e,List.length_cons]; omega
  have:=intText_neg (x:=q1j n) e (q6i _) (j0u _) hx
  rw [this]
  have v:=PySem.W.KIN.val_back n.natAbs
  show some (-((digitsVal (x1o n.natAbs):Nat):Int))=_
  unfold x1o
  rw [v]
  congr 1
  omega
 ·obtain⟨m,rfl⟩:=Int.eq_ofNat_of_zero_le (show 0≤n by omega)
  have e:=q7u m
  have hx:(q1j (m:Int)).length≤4300:=by rw [x7n,e]; simp at hl; omega
  have e':(q1j (m:Int)).cps.toList=x1o m:=e
  have:=intText_digits (x:=q1j (m:Int)) (by rw [e']; exact q6i m) (by rw [e']; exact j0u m) hx
  rw [this,e']
  have v:=PySem.W.KIN.val_back m
  unfold x1o
  rw [v]
theorem q1d {n:Int} {k:Nat} (hk:0 < k) (h:n.natAbs < 10 ^ k):(q1j n).length≤k+1:=by
 have hl:(x1o n.natAbs).length≤k:=(x0c _ hk).mpr h
 rw [x7n]
 by_cases hn:n < 0
 ·rw [x0e hn,List.length_cons]; omega
 ·obtain⟨m,rfl⟩:=Int.eq_ofNat_of_zero_le (show 0≤n by omega)
  rw [q7u]
  have:((m:Int)).natAbs=m:=by simp
  rw [this] at hl
  omega
end Kp
namespace Kp
open PySem PySem.Spec PyProof.Rows
noncomputable def x8k (c:Nat):List (List Nat)→List Nat
 | []=>[]
 | [x]=>x
 | x::y::r=>x++c::x8k c (y::r)
theorem x7a {c:Nat}:∀ {x y r s:List Nat},c∉x→c∉y→x++c::r=y++c::s→x=y∧r=s
 | [],[],r,s,_,_,h=>⟨rfl,(List.cons.inj h).2⟩
 | [],b::y,r,s,_,hy,h=>absurd ((List.cons.inj h).1) (fun e=>hy (e▸List.mem_cons_self))
 | a::x,[],r,s,hx,_,h=>absurd ((List.cons.inj h).1) (fun e=>hx (e▸List.mem_cons_self))
 | a::x,b::y,r,s,hx,hy,h=>by
  obtain⟨e,h⟩:=List.cons.inj h
  obtain⟨e1,e2⟩:=x7a (fun z=>hx (List.mem_cons_of_mem _ z)) (fun z=>hy (List.mem_cons_of_mem _ z)) h
  exact⟨by rw [e,e1],e2⟩
theorem x8o {c:Nat}:∀ (ws us:List (List Nat)),ws≠[]→us≠[]→(∀ x∈ws,c∉x)→(∀ x∈us,c∉x)→x8k c ws=x8k c us→ws=us
 | [],_,h,_,_,_,_=>absurd rfl h
 | _,[],_,h,_,_,_=>absurd rfl h
 | [x],[y],_,_,_,_,h=>by
  have:x=y:=h
  rw [this]
 | [x],y::z::r,_,_,hx,_,h=>by
  have e:x=y++c::x8k c (z::r):=h
  exact absurd (show c∈x by rw [e]; simp) (hx x (by simp))
 | x::z::r,[y],_,_,_,hy,h=>by
  have e:x++c::x8k c (z::r)=y:=h
  exact absurd (show c∈y by rw [← e]; simp) (hy y (by simp))
 | x::z::r,y::u::s,_,_,hx,hy,h=>by
  obtain⟨e1,e2⟩:=x7a (hx x (by simp)) (hy y (by simp)) (show x++c::x8k c (z::r)=y++c::x8k c (u::s) from h)
  have:=x8o (z::r) (u::s) (by simp) (by simp) (fun p hp=>hx p (List.mem_cons_of_mem _ hp)) (fun p hp=>hy p (List.mem_cons_of_mem _ hp)) e2
  rw [e1,this]
noncomputable def cL (x:Str):List Nat:=x.cps.toList
theorem x1k (a b:Str):cL (a++b)=cL a++cL b:=by unfold cL; rw [show (a++b).cps=a.cps++b.cps from rfl,Array.toList_append]
theorem z0w (c:Nat):∀ ws:List Str,cL (Str.join ⟨#[c]⟩ ws)=x8k c (ws.map cL)
 | []=>rfl
 | [x]=>rfl
 | x::y::r=>by
  have ih:=z0w c (y::r)
  have e:Str.join ⟨#[c]⟩ (x::y::r)=x++⟨#[c]⟩++Str.join ⟨#[c]⟩ (y::r):=rfl
  rw [e,x1k,x1k,ih,List.append_assoc]
  rfl
theorem x6k:∀ {ws us:List Str},ws.map cL=us.map cL→ws=us
 | [],[],_=>rfl
 | [],_::_,h=>by cases h
 | _::_,[],h=>by cases h
 | x::ws,y::us,h=>by
  obtain⟨e,h⟩:=List.cons.inj h
  rw [q9q e,x6k h]
theorem z3m (x:Str) (c:Nat):Txt.split x ⟨#[c]⟩≠[]:=by
 intro e
 have h:=StrLaws.join_split x ⟨#[c]⟩
 rw [e] at h
 have hx:x=Str.empty:=h.symm
 subst hx
 have q:Txt.split Str.empty ⟨#[c]⟩=[Str.empty]:=if_pos (by rfl)
 rw [q] at e
 cases e
theorem z4e {c:Nat} {ws:List Str} (hne:ws≠[]) (hf:∀ x∈ws,c∉cL x):Txt.split (Str.join ⟨#[c]⟩ ws) ⟨#[c]⟩=ws:=by
 have h1:=congrArg cL (StrLaws.join_split (Str.join ⟨#[c]⟩ ws) ⟨#[c]⟩)
 rw [z0w,z0w] at h1
 refine x6k (x8o _ _ (fun e=>z3m _ _ (List.map_eq_nil_iff.mp e)) (fun e=>hne (List.map_eq_nil_iff.mp e)) ?_ ?_ h1)
 ·intro x hx
  obtain⟨p,hp,rfl⟩:=List.mem_map.mp hx
  exact StrLaws.split_free _ c p hp
 ·intro x hx
  obtain⟨p,hp,rfl⟩:=List.mem_map.mp hx
  exact hf p hp
end Kp
namespace Kp
open PySem L2 PySem.Spec PyProof.Rows PySem.NumText
theorem w0w (p:Nat→Bool):∀ l:List Nat,(l.takeWhile p).length+(l.dropWhile p).length=l.length
 | []=>rfl
 | a::r=>by
  rw [List.takeWhile_cons,List.dropWhile_cons]
  split
  ·have:=w0w p r
   simp only [List.length_cons]
   omega
  ·simp
theorem z4o (x:Str):(Txt.lstripChars x "-").length=((cL x).dropWhile (· == 45)).length:=by
 unfold Txt.lstripChars
 rw [stripBy_eq]
 have e:("-" : Str).cps=#[45]:=by decide +kernel
 rw [e]
 have e2:(#[45]:Array Nat).contains=fun c=>c==45:=by
  funext c
  rw [Bool.eq_iff_iff]
  simp
 rw [e2]
 have h:=w0w (fun c=>c==45) (cL x)
 show (Builtin.Str.strSub x ((cL x).takeWhile fun c=>c==45).length x.length).length=_
 have h2:=congrArg List.length (StrLaws.strSub_toList x ((cL x).takeWhile fun c=>c==45).length x.length)
 rw [Array.length_toList,List.length_take,List.length_drop] at h2
 have h3:(cL x).length=x.length:=Array.length_toList
 have h4:x.cps.toList.length=x.length:=h3
 show (Builtin.Str.strSub x _ x.length).cps.size=_
 rw [h2,h4]
 omega
theorem z6j (n:Int):(Txt.lstripChars (q1j n) "-").length=(x1o n.natAbs).length:=by
 rw [z4o]
 have hd:∀ m,(x1o m).dropWhile (· == 45)=x1o m:=by
  intro m
  have h:=q6i m
  cases e:x1o m with
  | nil=>rfl
  | cons c r =>
   rw [e] at h
   have hc:=h c List.mem_cons_self
   have:(c==45)=false:=by rw [beq_eq_false_iff_ne]; omega
   rw [List.dropWhile_cons,this]
   rfl
 show ((z8g n).dropWhile (· == 45)).length=_
 by_cases hn:n < 0
 ·rw [x0e hn,List.dropWhile_cons]
  show ((x1o n.natAbs).dropWhile (· == 45)).length=_
  rw [hd]
 ·obtain⟨m,rfl⟩:=Int.eq_ofNat_of_zero_le (show 0≤n by omega)
  rw [q7u,hd]
  simp
theorem x8c (n:Int):(Txt.lstripChars (q1j n) "-").length < 61↔n.natAbs < 10 ^ 60:=by
 rw [z6j,← x0c _ (by decide:0 < 60)]
 omega
theorem z8n (x:Str):(Txt.lstripChars x "-").length≤x.length:=len_lstripChars x "-"
section
variable {X:Cx}
end
end Kp
namespace Kp
open PySem L2 PySem.Spec PyProof.Rows PySem.NumText
noncomputable def q1y:D→List Str
 | .int i=>[q1j i]
 | _=>[]
noncomputable def z0l:D→List Str
 | .str x=>[x]
 | _=>[]
noncomputable def j5x:D→List Str
 | .bl b=>[if b then "yes" else "no"]
 | _=>[]
noncomputable def j6v:D→List Str
 | .non=>["none"]
 | d=>q1y d
noncomputable def q2f:List (D→List Str)→List D→List Str
 | f::fs,d::ds=>f d++q2f fs ds
 | _,_=>[]
noncomputable def z3f (fs:List (D→List Str)):D→List Str
 | .tup ds=>q2f fs ds
 | _=>[]
noncomputable def q4d (f:D→List Str):D→List Str
 | .tup ds=>q1j (ds.length:Int)::ds.flatMap f
 | _=>[]
noncomputable def byW (tb:List (Str × List (D→List Str))):D→List Str
 | .tup (.str x::ds)=>x::q2f ((tb.lookup x).getD []) ds
 | _=>[]
noncomputable def q4m:D→List Str:=q4d q1y
noncomputable def j6d:List (Str × List (D→List Str)):=[("set",[z0l,q1y]),("add",[z0l,q1y]),("get",[z0l])]
noncomputable def q6n:D→List Str:=byW j6d
noncomputable def j5u:List (Str × List (D→List Str)):=[("open",[]),("wish",[z0l,q1y,q6n]),("seats",[q4m])]
noncomputable def j2a:D→List Str:=byW j5u
noncomputable def q3z:D→List Str:=z3f [q1y,j2a]
noncomputable def q4k:D→List Str:=q4d q3z
noncomputable def q8o:D→List Str:=z3f [z0l,q1y]
noncomputable def q6h:D→List Str:=z3f [z0l,q1y,q1y]
noncomputable def q9k:D→List Str:=z3f [q4d q8o,q4d q6h]
noncomputable def z5v:D→List Str:=z3f [q1y,q1y,q4m,q9k]
noncomputable def q6r:List (Str × List (D→List Str)):=[("ask",[q1y,q1y,q1y,q1y,q1y]),("voice",[q1y,q1y,q1y,j5x]),("hand",[q1y,q1y,q1y,q1y,q1y,q1y,q4k]),("pack",[q1y,q1y,q1y,z5v]),
 ("held",[q1y,q1y,q1y,j5x,q1y]),("wish",[z0l,q1y,q1y,q6n]),("told",[q1y,z0l,q1y,q1y]),("away",[q1y,z0l,q1y,j6v])]
noncomputable def j1a:List D→List D
 | [a,b]=>[b,a]
 | a::r=>a::j1a r
 | []=>[]
noncomputable def q2i:D→List Str
 | .tup (.str x::ds)=>x::q2f ((q6r.lookup x).getD []) (if x = "hand" then j1a ds else ds)
 | _=>[]
mutual
noncomputable def q2a (k:Nat):D→Bool
 | .int i=>decide (i.natAbs < 10 ^ k)
 | .tup ds=>smallL k ds
 | .lst ds=>smallL k ds
 | _=>true
noncomputable def smallL (k:Nat):List D→Bool
 | []=>true
 | d::ds=>q2a k d && smallL k ds
end
mutual
noncomputable def j1m (B:Nat):D→Bool
 | .tup ds=>decide (ds.length≤B) && widL B ds
 | .lst ds=>decide (ds.length≤B) && widL B ds
 | _=>true
noncomputable def widL (B:Nat):List D→Bool
 | []=>true
 | d::ds=>j1m B d && widL B ds
end
mutual
theorem Is.wid {B:Nat} {H:Hp}:∀ {v:V} {d:D},Is B H v d→j1m B d=true
 | _,_,.non=>rfl
 | _,_,.bl _=>rfl
 | _,_,.int _=>rfl
 | _,_,.str _ _=>rfl
 | _,_,.tup e l r=>by rw [j1m,r.wid,decide_eq_true (r.length▸l)]; rfl
 | _,_,.lst e l r=>by rw [j1m,r.wid,decide_eq_true (r.length▸l)]; rfl
theorem IsL.wid {B:Nat} {H:Hp}:∀ {vs:List V} {ds:List D},IsL B H vs ds→widL B ds=true
 | _,_,.nil=>rfl
 | _,_,.cons h t=>by rw [widL,h.wid,t.wid]; rfl
end
theorem q2k {k:Nat}:∀ {ds:List D},smallL k ds=true↔∀ d∈ds,q2a k d=true
 | []=>by simp [smallL]
 | d::ds=>by rw [smallL,Bool.and_eq_true,q2k]; simp
theorem x1r {k:Nat}:∀ {ds:List D},widL k ds=true↔∀ d∈ds,j1m k d=true
 | []=>by simp [widL]
 | d::ds=>by rw [widL,Bool.and_eq_true,x1r]; simp
noncomputable def x9m (w:Str):Prop:=(Txt.lstripChars w "-").length < 61
structure POk (n:Nat) (ds:List D) (ws:List Str):Prop where
 free:∀ w∈ws,32∉cL w
 fit:(∀ w∈ws,x9m w)↔smallL 60 ds=true
 len:∀ k,60≤k→smallL k ds=true→∀ w∈ws,w.length≤k+1
 few:ws.length≤n
noncomputable def WOk (B n:Nat) (p:D→Bool) (f:D→List Str):Prop:=∀ d,p d=true→j1m B d=true→POk n [d] (f d)
theorem POk.nil:POk 0 [] []:=⟨fun _ h=>absurd h List.not_mem_nil,⟨fun _=>rfl,fun _ _ h=>absurd h List.not_mem_nil⟩,fun _ _ _ _ h=>absurd h List.not_mem_nil,Nat.le_refl _⟩
theorem x6e {k:Nat} {a b:List D}:smallL k (a++b)=true↔smallL k a=true∧smallL k b=true:=by
 rw [q2k,q2k,q2k]
 simp only [List.mem_append,or_imp,forall_and]
theorem POk.app {n m:Nat} {a b:List D} {u w:List Str} (h:POk n a u) (g:POk m b w):POk (n+m) (a++b) (u++w) where
 free:=fun x hx=>(List.mem_append.mp hx).elim (h.free x) (g.free x)
 fit:=by
  rw [x6e,← h.fit,← g.fit]
  simp only [List.mem_append,or_imp,forall_and]
 len:=fun k hk hs x hx=>by
  obtain⟨h1,h2⟩:=x6e.mp hs
  exact (List.mem_append.mp hx).elim (h.len k hk h1 x) (g.len k hk h2 x)
 few:=by
  have:=h.few
  have:=g.few
  rw [List.length_append]
  omega
theorem POk.up {n m:Nat} {a:List D} {u:List Str} (h:POk n a u) (hm:n≤m):POk m a u:=⟨h.free,h.fit,h.len,Nat.le_trans h.few hm⟩
theorem POk.tup {n:Nat} {ds:List D} {u:List Str} (h:POk n ds u):POk n [.tup ds] u :=
 ⟨h.free,by rw [smallL,smallL,Bool.and_true,q2a]; exact h.fit,fun k hk hs=>h.len k hk (by rw [smallL,smallL,Bool.and_true,q2a] at hs; exact hs),h.few⟩
theorem POk.of {n:Nat} {ds es:List D} {u:List Str} (h:POk n ds u) (e:∀ k,60≤k→(smallL k ds=true↔smallL k es=true)):POk n es u :=
 ⟨h.free,h.fit.trans (e 60 (by decide)),fun k hk hs=>h.len k hk ((e k hk).mpr hs),h.few⟩
theorem WOk.up {B n m:Nat} {p:D→Bool} {f:D→List Str} (h:WOk B n p f) (hm:n≤m):WOk B m p f:=fun d a b=>(h d a b).up hm
theorem WOk.sub {B n:Nat} {p q:D→Bool} {f:D→List Str} (h:WOk B n p f) (hq:∀ d,q d=true→p d=true):WOk B n q f:=fun d a b=>h d (hq d a) b
theorem j1z (n:Int):32∉cL (q1j n):=fun h=>by
 rcases z4k n 32 h with h | h
 ·cases h
 ·omega
theorem q0v:∀ {d:D},whole d=true→∃ i,d=.int i
 | .int i,_=>⟨i,rfl⟩
theorem q1o {l:Int}:∀ {d:D},geD l d=true→whole d=true
 | .int i,_=>rfl
theorem q1p:∀ {d:D},q0k d=true→whole d=true
 | .int i,_=>rfl
theorem z8l (i:Int):POk 1 [.int i] [q1j i] where
 free:=fun w hw=>by
  cases List.mem_singleton.mp hw
  exact j1z i
 fit:=by
  rw [smallL,smallL,Bool.and_true]
  show (∀ w∈[q1j i],x9m w)↔decide (i.natAbs < 10 ^ 60)=true
  rw [decide_eq_true_eq,← x8c]
  simp [x9m]
 len:=fun k hk hs w hw=>by
  cases List.mem_singleton.mp hw
  rw [smallL,smallL,Bool.and_true] at hs
  exact q1d (by omega) (of_decide_eq_true hs)
 few:=Nat.le_refl _
theorem q4v {B:Nat}:WOk B 1 whole q1y:=fun d h _=>by
 obtain⟨i,rfl⟩:=q0v h
 exact z8l i
end Kp
namespace Kp
open PySem L2 PySem.Spec PyProof.Rows PySem.NumText
noncomputable def x3g (x:Str):Bool:=x.cps.toList.all q3n && decide (x.length≤8)
theorem j1r {x:Str} (h:x3g x=true):32∉cL x:=fun hm=>by
 unfold x3g at h
 rw [Bool.and_eq_true,List.all_eq_true] at h
 have:=h.1 32 hm
 revert this
 decide
theorem j1e {x:Str} (h:x3g x=true):x9m x:=by
 unfold x3g at h
 rw [Bool.and_eq_true,decide_eq_true_eq] at h
 have:=z8n x
 unfold x9m
 omega
theorem q6e {x:Str} (h:x3g x=true):x.length≤8:=by
 unfold x3g at h
 rw [Bool.and_eq_true,decide_eq_true_eq] at h
 exact h.2
theorem q2y:∀ {d:D},q2n d=true→∃ x,d=.str x∧x3g x=true
 | .str x,h=>by
  refine⟨x,rfl,?_⟩
  unfold q2n at h
  dsimp only at h
  rw [Bool.and_eq_true,Bool.and_eq_true] at h
  unfold x3g
  rw [h.2,h.1.2]
  rfl
theorem x3y {x:Str} (d:D) (hx:x3g x=true) (hd:∀ k,q2a k d=true):POk 1 [d] [x] where
 free:=fun w hw=>by
  cases List.mem_singleton.mp hw
  exact j1r hx
 fit:=by
  have:=j1e hx
  rw [smallL,smallL,Bool.and_true,hd]
  simp [this]
 len:=fun k hk hs w hw=>by
  cases List.mem_singleton.mp hw
  have:=q6e hx
  omega
 few:=Nat.le_refl _
theorem q8d {B:Nat}:WOk B 1 q2n z0l:=fun d h _=>by
 obtain⟨x,rfl,hx⟩:=q2y h
 exact x3y _ hx fun _=>rfl
theorem x2i:∀ {d:D},q4n d=true→∃ b,d=.bl b
 | .bl b,_=>⟨b,rfl⟩
theorem w0u (b:Bool):x3g (if b then "yes" else "no")=true:=by cases b <;> decide +kernel
theorem z7d {B:Nat}:WOk B 1 q4n j5x:=fun d h _=>by
 obtain⟨b,rfl⟩:=x2i h
 exact x3y _ (w0u b) fun _=>rfl
theorem j1w:x3g "none" = true:=by decide +kernel
theorem z8e:∀ {d:D},q8m d=true→d=.non∨(whole d=true∧j6v d=q1y d)
 | .non,_=>.inl rfl
 | .int i,_=>.inr ⟨rfl,rfl⟩
theorem j8b {B:Nat}:WOk B 1 q8m j6v:=fun d h hw=>by
 rcases z8e h with rfl | ⟨h1,e⟩
 ·exact x3y _ j1w fun _=>rfl
 ·rw [e]; exact q4v d h1 hw
inductive WOkL (B:Nat):Nat→List (D→Bool)→List (D→List Str)→Prop
 | nil:WOkL B 0 [] []
 | cons {n m:Nat} {p:D→Bool} {f:D→List Str} {ps:List (D→Bool)} {fs:List (D→List Str)} (h:WOk B n p f) (t:WOkL B m ps fs):WOkL B (n+m) (p::ps) (f::fs)
theorem WOkL.p {B:Nat}:∀ {n:Nat} {ps:List (D→Bool)} {fs:List (D→List Str)} {ds:List D},WOkL B n ps fs→q0w ps ds=true→widL B ds=true→POk n ds (q2f fs ds)
 | _,_,_,[],.nil,_,_=>.nil
 | _,_,_,_::_,.nil,h,_=>by cases h
 | _,_,_,[],.cons _ _,h,_=>by cases h
 | _,_,_,d::ds,.cons h t,hf,hw=>by
  rw [q0w,Bool.and_eq_true] at hf
  rw [widL,Bool.and_eq_true] at hw
  exact (h d hf.1 hw.1).app (t.p hf.2 hw.2)
theorem q4w {ps:List (D→Bool)}:∀ {d:D},x0g ps d=true→∃ ds,d=.tup ds∧q0w ps ds=true
 | .tup ds,h=>⟨ds,rfl,h⟩
theorem x1f {B:Nat} {ds:List D} (h:j1m B (.tup ds)=true):ds.length≤B∧widL B ds=true:=by
 rw [j1m,Bool.and_eq_true,decide_eq_true_eq] at h
 exact h
theorem x4q {B n:Nat} {ps:List (D→Bool)} {fs:List (D→List Str)} (t:WOkL B n ps fs):WOk B n (x0g ps) (z3f fs):=fun d hd hw=>by
 obtain⟨ds,rfl,h⟩:=q4w hd
 exact (t.p h (x1f hw).2).tup
theorem x7c {B n:Nat} {p:D→Bool} {f:D→List Str} (h:WOk B n p f):∀ {ds:List D},ds.all p=true→widL B ds=true→POk (ds.length*n) ds (ds.flatMap f)
 | [],_,_=>by rw [List.length_nil,Nat.zero_mul]; exact .nil
 | d::ds,ha,hw=>by
  rw [List.all_cons,Bool.and_eq_true] at ha
  rw [widL,Bool.and_eq_true] at hw
  have:=(h d ha.1 hw.1).app (x7c h ha.2 hw.2)
  rw [List.flatMap_cons]
  exact this.up (by rw [List.length_cons,Nat.succ_mul]; omega)
theorem x4u {B n m:Nat} {p:D→Bool} {f:D→List Str} (h:WOk B n p f) {ds:List D} (ha:ds.all p=true) (hw:widL B ds=true) (hl:ds.length≤m) (hm:m < 10 ^ 60):POk (1+m*n) [.tup ds] (q4d f (.tup ds)):=by
 have h1:=x7c h ha hw
 have h0:=z8l (ds.length:Int)
 have h2:=h0.app h1
 have h3:POk (1+ds.length*n) ds (q4d f (.tup ds)):=by
  refine h2.of fun k hk=>?_
  have hb:10 ^ 60≤10 ^ k:=Nat.pow_le_pow_right (by decide) hk
  rw [List.singleton_append,smallL,q2a,decide_eq_true (by simp; omega),Bool.true_and]
 exact (h3.up (by have:=Nat.mul_le_mul_right n hl; omega)).tup
theorem x8h {B n:Nat} {p:D→Bool} {f:D→List Str} (h:WOk B n p f) (hB:B < 10 ^ 60):WOk B (1+B*n) (x4r p) (q4d f):=fun d hd hw=>by
 cases d with
 | tup ds =>
  have hd':(ds.all p && q8s (ds.map q1l))=true:=hd
  rw [Bool.and_eq_true] at hd'
  exact x4u h hd'.1 (x1f hw).2 (x1f hw).1 hB
 | _=>cases hd
theorem q9f {B:Nat}:WOk B 10 q2z q4m:=fun d hd hw=>by
 cases d with
 | tup ds =>
  have hd':(ds.all q0k && ((decide (1≤ds.length) && decide (ds.length≤9)) && q8n (q3w ds)))=true:=hd
  rw [Bool.and_eq_true,Bool.and_eq_true,Bool.and_eq_true,decide_eq_true_eq,decide_eq_true_eq] at hd'
  exact x4u (m:=9) (q4v.sub fun _=>q1p) hd'.1 (x1f hw).2 hd'.2.1.2 (by decide)
 | _=>cases hd
theorem z1x {B n:Nat} {p:D→Bool} {f:D→List Str} (h:WOk B n p f) {d:D} (hd:w1v p d=true) (hl:z5k d≤5) (hw:j1m B d=true):POk (1+5*n) [d] (q4d f d):=by
 cases d with
 | tup ds=>exact x4u (m:=5) h hd (x1f hw).2 hl (by decide)
 | _=>cases hd
inductive TOk (B n:Nat):List (Str × List (D→Bool))→List (Str × List (D→List Str))→Prop
 | nil:TOk B n [] []
 | cons {x:Str} {m:Nat} {ps:List (D→Bool)} {fs:List (D→List Str)} {t:List (Str × List (D→Bool))} {u:List (Str × List (D→List Str))} (hx:x3g x=true) (hm:m≤n) (h:WOkL B m ps fs) (r:TOk B n t u):TOk B n ((x,ps)::t) ((x,fs)::u)
theorem TOk.at {B n:Nat} {x:Str}:∀ {t:List (Str × List (D→Bool))} {u:List (Str × List (D→List Str))} {ps:List (D→Bool)},TOk B n t u→t.lookup x=some ps→∃ m fs,u.lookup x=some fs∧m≤n∧WOkL B m ps fs∧x3g x=true
 | _,_,_,.nil,e=>by cases e
 | _,_,ps',.cons (x:=y) hx hm h r,e=>by
  rw [List.lookup_cons] at e
  by_cases hy:x=y
  ·subst hy
   rw [show (x==x)=true from by simp] at e
   cases e
   exact⟨_,_,by rw [List.lookup_cons,show (x==x)=true from by simp],hm,h,hx⟩
  ·have hb:(x==y)=false:=by rw [beq_eq_false_iff_ne]; exact hy
   rw [hb] at e
   obtain⟨m,fs,a,b⟩:=r.at e
   exact⟨m,fs,by rw [List.lookup_cons,hb]; exact a,b⟩
theorem q3l {tb:List (Str × List (D→Bool))} {d:D} (h:q2t tb d=true):∃ x r ps,d=.tup (.str x::r)∧tb.lookup x=some ps∧q0w ps r=true:=by
 unfold q2t at h
 split at h
 ·rename_i x r
  split at h
  ·rename_i ps e
   exact⟨x,r,ps,rfl,e,h⟩
  ·cases h
 ·cases h
theorem z7g {B n:Nat} {t:List (Str × List (D→Bool))} {u:List (Str × List (D→List Str))} (T:TOk B n t u):WOk B (1+n) (q2t t) (byW u):=fun d hd hw=>by
 obtain⟨x,r,ps,rfl,e,hf⟩:=q3l hd
 obtain⟨m,fs,e2,hm,h,hx⟩:=T.at e
 have hw':=(x1f hw).2
 rw [widL,Bool.and_eq_true] at hw'
 have h1:=h.p hf hw'.2
 have h2:=(x3y (.str x) hx fun _=>rfl).app h1
 have h3:POk (1+m) [.tup (.str x::r)] (byW u (.tup (.str x::r))):=by
  have:byW u (.tup (.str x::r))=[x]++q2f fs r:=by
   show x::q2f ((u.lookup x).getD []) r=_
   rw [e2]; rfl
  rw [this]
  exact h2.tup
 exact h3.up (by omega)
theorem x3m {B:Nat}:WOk B 3 q6j q6n:=z7g (n:=2) (.cons (by decide +kernel) (by decide) (.cons q8d (.cons q4v .nil)) (.cons (by decide +kernel) (by decide) (.cons q8d (.cons q4v .nil)) (.cons (by decide +kernel) (by decide) (.cons q8d .nil) .nil)))
theorem j2s {B:Nat}:WOk B 11 x2a j2a:=z7g (n:=10) (.cons (by decide +kernel) (by decide) .nil (.cons (by decide +kernel) (by decide) (.cons q8d (.cons (q4v.sub fun _=>q1o) (.cons x3m .nil))) (.cons (by decide +kernel) (by decide) (.cons q9f .nil) .nil)))
theorem x4x {B:Nat}:WOk B 12 q3r q3z:=x4q (.cons (q4v.sub fun _=>q1o) (.cons j2s .nil))
theorem z3q {B:Nat}:WOk B 2 x0n q8o:=x4q (.cons q8d (.cons q4v .nil))
theorem x5z {B:Nat}:WOk B 3 q4c q6h:=x4q (.cons q8d (.cons (q4v.sub fun _=>q1o) (.cons q4v .nil)))
theorem x9w {B:Nat} (hB:B < 10 ^ 60):WOk B (2+5*B) q3v q9k:=(x4q (.cons (x8h z3q hB) (.cons (x8h x5z hB) .nil))).up (by omega)
theorem z6q {B:Nat} (hB:B < 10 ^ 60):WOk B (14+5*B) (x0g [geD 0,geD 0,q2z,q3v]) z5v:=(x4q (.cons (q4v.sub fun _=>q1o) (.cons (q4v.sub fun _=>q1o) (.cons q9f (.cons (x9w hB) .nil))))).up (by omega)
theorem j1s {B:Nat} (hB:B < 10 ^ 60):WOk B (14+5*B) x0r z5v:=(z6q hB).sub fun d h=>by
 unfold x0r x6s at h
 rw [Bool.and_eq_true,Bool.and_eq_true] at h
 exact h.1.1
end Kp
namespace Kp
open PySem L2 PySem.Spec PyProof.Rows PySem.NumText
noncomputable def x2g:List (Str × List (D→Bool)):=[("ask",[q0k,q0k,geD 1,geD 0,geD 0]),("voice",[q0k,q0k,geD 1,q4n])]
noncomputable def x2f:List (Str × List (D→Bool)):=[("pack",[q0k,q0k,geD 1,x0r]),
 ("held",[q0k,q0k,geD 1,q4n,geD 0]),("wish",[q2n,q0k,geD 1,q6j]),("told",[q0k,q2n,geD 1,whole]),("away",[q0k,q2n,geD 1,q8m])]
noncomputable def x0d:List (Str × List (D→List Str)):=[("ask",[q1y,q1y,q1y,q1y,q1y]),("voice",[q1y,q1y,q1y,j5x])]
noncomputable def x0b:List (Str × List (D→List Str)):=[("pack",[q1y,q1y,q1y,z5v]),
 ("held",[q1y,q1y,q1y,j5x,q1y]),("wish",[z0l,q1y,q1y,q6n]),("told",[q1y,z0l,q1y,q1y]),("away",[q1y,z0l,q1y,j6v])]
theorem q7j {α:Type} {x y:Str} {a:α} (h:x≠y):∀ (l r:List (Str × α)),(l++(y,a)::r).lookup x=(l++r).lookup x
 | [],r=>by
  have hb:(x==y)=false:=by rw [beq_eq_false_iff_ne]; exact h
  rw [List.nil_append,List.nil_append,List.lookup_cons,hb]
 | (z,b)::l,r=>by
  rw [List.cons_append,List.cons_append,List.lookup_cons,List.lookup_cons,q7j h l r]
theorem k1 {B:Nat}:WOk B 1 q0k q1y:=q4v.sub fun _=>q1p
theorem g1 {B:Nat} {l:Int}:WOk B 1 (geD l) q1y:=q4v.sub fun _=>q1o
theorem z5f {B:Nat} (hB:B < 10 ^ 60):TOk B (17+5*B) (x2g++x2f) (x0d++x0b) :=
 .cons (by decide +kernel) (by omega) (.cons k1 (.cons k1 (.cons g1 (.cons g1 (.cons g1 .nil)))))
 (.cons (by decide +kernel) (by omega) (.cons k1 (.cons k1 (.cons g1 (.cons z7d .nil))))
 (.cons (by decide +kernel) (by omega) (.cons k1 (.cons k1 (.cons g1 (.cons (j1s hB) .nil))))
 (.cons (by decide +kernel) (by omega) (.cons k1 (.cons k1 (.cons g1 (.cons z7d (.cons g1 .nil)))))
 (.cons (by decide +kernel) (by omega) (.cons q8d (.cons k1 (.cons g1 (.cons x3m .nil))))
 (.cons (by decide +kernel) (by omega) (.cons k1 (.cons q8d (.cons g1 (.cons q4v .nil))))
 (.cons (by decide +kernel) (by omega) (.cons k1 (.cons q8d (.cons g1 (.cons j8b .nil)))) .nil))))))
theorem j8m {B:Nat}:WOk B 61 q2l q4k:=fun d hd hw=>by
 unfold q2l at hd
 rw [Bool.and_eq_true,decide_eq_true_eq] at hd
 exact z1x x4x hd.1 hd.2 hw
theorem z3h {r:List D} (h:q0w [q0k,q0k,geD 1,geD 0,geD 0,q2l,geD 0] r=true):∃ a b c p l e m,r=[a,b,c,p,l,e,m]∧q0k a=true∧q0k b=true∧geD 1 c=true∧geD 0 p=true∧geD 0 l=true∧q2l e=true∧geD 0 m=true:=by
 rw [j7k] at h
 split at h
 ·rename_i a b c d e f g
  simp only [Bool.and_eq_true] at h
  obtain⟨h1,h2,h3,h4,h5,h6,h7⟩:=h
  exact⟨a,b,c,d,e,f,g,rfl,h1,h2,h3,h4,h5,h6,h7⟩
 ·cases h
theorem x6m {B:Nat} (hB:B < 10 ^ 60):WOk B (70+5*B) (q2t q3c) q2i:=fun d hd hw=>by
 obtain⟨x,r,ps,rfl,e,hf⟩:=q3l hd
 have hw':=(x1f hw).2
 by_cases hx:x = "hand"
 ·subst hx
  have e2:ps=[q0k,q0k,geD 1,geD 0,geD 0,q2l,geD 0]:=(Option.some.inj e).symm
  subst e2
  obtain⟨a,b,c,p,l,es,m,rfl,h1,h2,h3,h4,h5,h6,h7⟩:=z3h hf
  have ew:q2i (.tup (.str "hand" :: [a,b,c,p,l,es,m]))=[("hand" : Str)]++q2f [q1y,q1y,q1y,q1y,q1y,q1y,q4k] [a,b,c,p,l,m,es]:=rfl
  rw [ew]
  have hww:∀ d∈[a,b,c,p,l,m,es],j1m B d=true:=fun d hd=>x1r.mp hw' d (by simp at hd ⊢; rcases hd with h | h | h | h | h | h | h <;> simp [h])
  have q:POk _ [a,b,c,p,l,m,es] (q2f [q1y,q1y,q1y,q1y,q1y,q1y,q4k] [a,b,c,p,l,m,es]) :=
   WOkL.p (B:=B) (ps:=[q0k,q0k,geD 1,geD 0,geD 0,geD 0,q2l]) (.cons k1 (.cons k1 (.cons g1 (.cons g1 (.cons g1 (.cons g1 (.cons j8m .nil))))))) (by simp [q0w,h1,h2,h3,h4,h5,h6,h7]) (x1r.mpr hww)
  have q2:=(x3y (x:=("hand" : Str)) (.str "hand") (by decide +kernel) fun _=>rfl).app q
  refine ((q2.of (es:=.str "hand" :: [a,b,c,p,l,es,m]) fun k _=>?_).up (by omega)).tup
  simp only [List.singleton_append,smallL,Bool.and_eq_true,Bool.and_true]
  constructor
  ·rintro⟨z1,z2,z3,z4,z5,z6,z7,z8⟩; exact⟨z1,z2,z3,z4,z5,z6,z8,z7⟩
  ·rintro⟨z1,z2,z3,z4,z5,z6,z7,z8⟩; exact⟨z1,z2,z3,z4,z5,z6,z8,z7⟩
 ·have e1:(x2g++x2f).lookup x=some ps:=by rw [← q7j (y := "hand") hx]; exact e
  have e2:q6r.lookup x=(x0d++x0b).lookup x:=by rw [← q7j (y := "hand") (a:=[q1y,q1y,q1y,q1y,q1y,q1y,q4k]) hx]; rfl
  have hb:q2t (x2g++x2f) (.tup (.str x::r))=true:=by
   unfold q2t
   dsimp only
   rw [e1]
   exact hf
  have q:=z7g (z5f hB) _ hb hw
  have ew:q2i (.tup (.str x::r))=byW (x0d++x0b) (.tup (.str x::r)):=by
   show x::q2f ((q6r.lookup x).getD []) (if x = "hand" then j1a r else r)=x::q2f (((x0d++x0b).lookup x).getD []) r
   rw [if_neg hx,e2]
  rw [ew]
  exact q.up (by omega)
end Kp
namespace K1
open PySem L2 Kp
section
variable {P:Program} {w:World} {K:Frag} {mg:Str→Option Value} {base:Heap}
theorem SqL.same {H H':Hp} {a:Addr} {xs:List V} (h:SqL K H a xs) (s:q1b H H'):SqL K H' a xs:=by
 rcases h with h | h
 ·exact .inl (h.elim (fun e=>.inl (s _ _ e)) fun⟨o,e⟩=>.inr ⟨o,s _ _ e⟩)
 ·exact .inr h
noncomputable def z0j (K:Frag) (lim:Int) (R:Hp→V→Prop):Sp:=fun vs H Q _=>∃ (a:Addr) (ns:List Int) (k:Int),vs=[.ref a,.int k]∧SqL K H a (ns.map V.int)∧0≤k∧k≤lim∧∀ v H',R H' v→q1b H H'→Q v H'
theorem q7z {lim:Int} {R:Hp→V→Prop}:∀ vs H Q E,z0j K lim R vs H Q E→vs.length=2:=fun vs H Q E ⟨_,_,_,e,_⟩=>by subst e; rfl
noncomputable def w2k:TS:=fun D σ H=>∃ a at' n m x4 x5,σ=[some (.ref a),some (.int at'),some (.int n),some (.int m),x4,x5]∧0≤n∧0≤m∧m≤3∧∀ m':Int,0≤m'→m'≤39→D.nx [some (.ref a),some (.int at'),some (.int n),some (.int m'),x4,x5] H
theorem PS.weakM {X:Cx} {st:Stmt} {t t':TS} (h:PS X st t) (w:∀ D σ H,t' D σ H→t D σ H):PS X st t':=fun pins s σ H D I q=>h pins s σ H D I (w D σ H q)
end
theorem j0l:∀ c∈("abcdefghijklmnopqrstuvwxyz" : Str).cps.toList,q3n c=true:=by decide +kernel
theorem z2d (x y:Str):(x++y).cps.toList.all q3n=(x.cps.toList.all q3n && y.cps.toList.all q3n):=by
 show (x.cps++y.cps).toList.all q3n=_
 rw [Array.toList_append,List.all_append]
theorem z1s {x:Str} (h1:1≤x.length) (h8:x.length≤8) (hl:x.cps.toList.all q3n=true):q2n (.str x)=true:=by
 show ((decide (1≤x.length) && decide (x.length≤8)) && x.cps.toList.all q3n)=true
 rw [decide_eq_true h1,decide_eq_true h8,hl]
 rfl
theorem z3v (a:Array Nat) (ha:a.toList.all q3n=true):∀ (k:Nat) (b:Array Nat),b.toList.all q3n=true→(List.foldl (fun x y=>x++y) b (List.replicate k a)).toList.all q3n=true
 | 0,b,h=>h
 | k+1,b,h=>by
  rw [List.replicate_succ,List.foldl_cons]
  exact z3v a ha k _ (by rw [Array.toList_append,List.all_append,h,ha]; rfl)
theorem j0r (n:Int):(Txt.mul "a" n).cps.toList.all q3n=true:=by
 have ha:("a" : Str).cps.toList.all q3n=true:=by decide +kernel
 unfold Txt.mul
 split
 ·rfl
 ·split
  ·exact ha
  ·exact z3v _ ha _ _ rfl
section
variable {P:Program} {w:World} {K:Frag} {mg:Str→Option Value} {base:Heap}
noncomputable def q9i:Sp:=fun vs H Q _=>∃ n,vs=[.int n]∧0≤n∧∀ x H',q2n (.str x)=true→q1b H H'→Q (.str x) H'
theorem z5n:FnScope ["_law_number", "_law_letters", "_law_name_here", "_law_at"] ["_law_number"] (q0e z0y):=fSc
theorem z1d {f:Addr} {fd:FuncData} (F:Fun K "_law_name_by" "_law_name_by" z0y f fd) (T:Txt mg):FnOk P w K mg base CX0 1 f fd ["_law_number"] q9i:=by
 refine F.ok z5n (fun vs H Q E ⟨_,e,_⟩=>by subst e; rfl) (fun _ A _ s H vs Q E hr h=>?_)
 obtain⟨n,rfl,h0,q⟩:=h
 refine⟨_,q1e (q1r (q0t q1w (q0i q1k (pv 0) q0a) q0a (q0r _)) (q0p (q0l (q0u q5i (x0h (q0c q0n (q0c q0n (q0c q0n (q0c q0n (q0c q0n (q0c q0n (q0c q0n (q0c q0n (q0c q0n q0b))))))))))
   (q0i q1k (q0i q1u (pv 0) q0a) q0a) (fun _ _=>rfl)))) q0s)
  (q1e (q0z (i:=1) z5n.nd rfl (Or.inl rfl) q0n)
  (q1e (q0z (i:=2) z5n.nd rfl (Or.inl rfl) (q0u x2e (pv 1) (q0i q1k (pv 0) q0a) (fun _ _=>rfl)))
  (q1e (z3y PassesOwn.never (q0t x5p (q0q q2v rfl T.len PySem.boot_len (q0c (pv 2) q0b)) (q0i q1n q0a (q0i q1k (q0i q1u (pv 0) q0a) q0a)) (q0r _))
   (q1e (q0z (i:=3) z5n.nd rfl (Or.inl rfl) (q0i q1n (q0i q1u (pv 0) q0a) (q0i q7h (q0i q7h q0a (q0q q2v rfl T.len PySem.boot_len (q0c (pv 2) q0b))) (q0i q1k (pv 0) q0a))))
   (q0p (q0z (i:=2) z5n.nd rfl (Or.inl rfl) (q0i q0j (pv 2) (q0u x2e (pv 1) (q0i q1k (pv 3) q0a) (fun _ _=>rfl)))))))
  (q1e (q1r (q0t q1w (q0i q1k (q0i q1u (pv 0) q0a) q0a) q0a (q0r _)) (q0p (q0l (pv 2))) q0s)
  (q1e (q0z (i:=3) z5n.nd rfl (Or.inl rfl) (q0i q1k (q0i q1u (pv 0) q0a) (q0q q2v rfl T.len PySem.boot_len (q0c (pv 2) q0b))))
  (q0p (q0l (q0i q0j (q0i q0j (q0i x6d q0n (pv 3)) (q0u x2e (pv 2) (pv 3) (fun _ _=>rfl))) (q0i x6d q0n (q0i x6h (q0i x6h (q0q q2v rfl T.len PySem.boot_len (q0c (pv 2) q0b)) q0a) (pv 3))))))))))),?_⟩
 refine⟨_,rfl,_,_,rfl,rfl,(by show (0:Int) < 8; decide),rfl,_,rfl,x5d (fun _=>?_) (fun _=>?_)⟩
 ·
  refine⟨by rw [sizeLine_eq]; decide,fun p hp=>⟨_,rfl,_,_,rfl,rfl,⟨by decide,by decide⟩,_,_,rfl,rfl,(by show (0:Int) < 9; decide),?_⟩⟩
  obtain⟨e0,e1⟩:=q2d (n / 8) (m:=9) (by decide)
  obtain⟨v,hv,hm⟩:=q5s (xs:=[V.str "open",V.str "wish",V.str "seats",V.str "set",V.str "add",V.str "get",V.str "none",V.str "yes",V.str "no"]) e0 (by simpa using e1)
  have hx:∃ x:Str,v=.str x∧q2n (.str x)=true:=by
   simp only [List.mem_cons,List.not_mem_nil,or_false] at hm
   rcases hm with rfl | rfl | rfl | rfl | rfl | rfl | rfl | rfl | rfl <;> exact⟨_,rfl,by decide +kernel⟩
  obtain⟨x,rfl,hl⟩:=hx
  exact⟨p,_,_,_,rfl,rfl,SqL.of q0f,hv,q x _ hl (q0g hp)⟩
 ·
  have la:("abcdefghijklmnopqrstuvwxyz" : Str).length=26:=by decide +kernel
  have lb:(("abcdefghijklmnopqrstuvwxyz" : Str).cps.toList).length=26:=by rw [Array.length_toList]; exact la
  obtain⟨e0,e1⟩:=q2d n (m:=26) (by decide)
  obtain⟨c,hc,hcm⟩:=q5s (xs:=("abcdefghijklmnopqrstuvwxyz" : Str).cps.toList) e0 (by rw [lb]; exact e1)
  refine⟨_,rfl,_,rfl,_,_,rfl,rfl,(by show (0:Int) < 26; decide),_,_,c,rfl,rfl,(by rw [la,sizeLine_eq]; decide),hc,?_⟩
  refine⟨fun m σ H'=>∃ x t,σ=[some (.int n),some (.str "abcdefghijklmnopqrstuvwxyz"),some (.str x),t]∧H=H'∧1≤x.length∧x.length≤8∧x.cps.toList.all q3n=true∧m=8 - x.length,⟨7,⟨#[c]⟩,none,rfl,rfl,Nat.le_refl _,(show 1≤8 by decide),(by show (q3n c && true)=true; rw [j0l c hcm]; rfl),rfl⟩,?_⟩
  rintro m σ H' ⟨x,t,rfl,rfl,l1,l8,hlow,rfl⟩
  obtain⟨f0,f1⟩:=q2d (n / 26) (m:=8) (by decide)
  have lx:x.length≤sizeLine:=by rw [sizeLine_eq]; omega
  refine⟨_,rfl,x,rfl,lx,_,rfl,_,_,rfl,rfl,⟨by decide,by decide⟩,_,_,rfl,rfl,(by show (0:Int) < 8; decide),_,_,rfl,rfl,_,_,rfl,rfl,_,rfl,x5d (fun hlt=>?_) (fun _=>?_)⟩
  ·have hlt':(x.length:Int) < 1+n / 26 % 8:=of_decide_eq_true hlt
   refine⟨fun σ' H2=>∃ x' t',σ'=[some (.int n),some (.str "abcdefghijklmnopqrstuvwxyz"),some (.str x'),t']∧H=H2∧x'.length=x.length+1∧x'.cps.toList.all q3n=true,?_,?_⟩
   ·rintro σ' H2 ⟨x',t',rfl,rfl,e,hl'⟩
    exact⟨8 - x'.length,by omega,x',t',rfl,rfl,by omega,by omega,hl',rfl⟩
   ·obtain⟨g0,g1⟩:=q2d (n / 208+5*(x.length:Int)*(n % 3)) (m:=26) (by decide)
    obtain⟨d,hd,hdm⟩:=q5s (xs:=("abcdefghijklmnopqrstuvwxyz" : Str).cps.toList) g0 (by rw [lb]; exact g1)
    refine⟨_,rfl,_,_,rfl,rfl,⟨by decide,by decide⟩,_,rfl,x,rfl,lx,_,_,rfl,rfl,.inl ⟨by decide,by decide⟩,_,rfl,_,_,rfl,rfl,(by show (0:Int) < 3; decide),_,_,rfl,rfl,.inl ⟨by omega,by omega⟩,_,_,rfl,rfl,?_⟩
    refine⟨_,rfl,_,rfl,_,rfl,_,_,rfl,rfl,(by show (0:Int) < 26; decide),_,_,d,rfl,rfl,(by rw [la,sizeLine_eq]; decide),hd,_,_,rfl,rfl,(by show x.length+1≤sizeLine; rw [sizeLine_eq]; omega),?_⟩
    exact⟨_,_,rfl,rfl,by rw [q3t]; rfl,by rw [z2d,hlow]; show (q3n d && true)=true; rw [j0l d hdm]; rfl⟩
  ·refine⟨_,rfl,_,_,rfl,rfl,⟨by decide,by decide⟩,_,_,rfl,rfl,(by show (0:Int) < 2; decide),rfl,_,rfl,x5d (fun _=>?_) (fun _=>?_)⟩
   ·exact⟨_,rfl,q x H (z1s l1 l8 hlow) (q1b.refl _)⟩
   ·have lp:(0:Int) < (x.length:Int):=by omega
    refine⟨_,rfl,_,_,rfl,rfl,⟨by decide,by decide⟩,_,rfl,x,rfl,lx,_,_,rfl,rfl,lp,?_⟩
    obtain⟨a0,a1⟩:=q2d (n / 208) lp
    obtain⟨d,hd,hdm⟩:=q5s (xs:=x.cps.toList) a0 (by rw [Array.length_toList]; exact a1)
    have ml:=x7q "a" (n / 208 % (x.length:Int))
    have ml2:=x7q "a" ((x.length:Int) - 1 - n / 208 % (x.length:Int))
    have one:("a" : Str).length=1:=by decide +kernel
    rw [one] at ml ml2
    have s1:(⟨#[d]⟩:Str).length=1:=rfl
    refine⟨_,rfl,_,_,rfl,rfl,(by rw [one]; decide),(by omega),(by omega),_,rfl,_,rfl,_,_,d,rfl,rfl,lx,hd,_,_,rfl,rfl,(by rw [s1,sizeLine_eq]; omega),_,rfl,x,rfl,lx,_,_,rfl,rfl,_,rfl,_,_,rfl,rfl,_,_,rfl,rfl,(by rw [one]; decide),(by omega),(by omega),_,_,rfl,rfl,?_,?_⟩
    ·rw [q3t,s1,sizeLine_eq]; omega
    ·refine q _ H (z1s ?_ ?_ ?_) (q1b.refl _)
     ·rw [q3t,q3t,s1]; omega
     ·rw [q3t,q3t,s1]; omega
     ·rw [z2d,z2d,j0r,j0r]
      show (true && (q3n d && true) && true)=true
      rw [List.all_eq_true.mp hlow d hdm]
      rfl
end
end K1
namespace Kz
open PySem L2 Kp K1
noncomputable def S6 (i:Int):Prop:=i.natAbs < 10 ^ 60
theorem S6.low {i:Int} (h0 : -100000 < i) (h1:i < 100000):S6 i:=Nat.lt_of_lt_of_le (show i.natAbs < 100000 by omega) (by decide)
theorem S6.neg {i:Int} (h:S6 i):S6 (-i):=by unfold S6; rw [Int.natAbs_neg]; exact h
theorem S6.cap {i:Int} (h:S6 i):S6 (if i > 1 then i else 1):=by
 split
 ·exact h
 ·exact S6.low (by decide) (by decide)
noncomputable def G6 (d:D):Prop:=q2a 60 d=true∧z6n d=true
noncomputable def GL6 (ds:List D):Prop:=smallL 60 ds=true∧noLL ds=true
theorem G6.int {i:Int} (h:S6 i):G6 (.int i):=⟨decide_eq_true h,rfl⟩
theorem G6.str (x:Str):G6 (.str x):=⟨rfl,rfl⟩
theorem G6.bl (b:Bool):G6 (.bl b):=⟨rfl,rfl⟩
theorem G6.non:G6 .non:=⟨rfl,rfl⟩
theorem G6.tup {ds:List D} (h:GL6 ds):G6 (.tup ds):=h
theorem GL6.nil:GL6 []:=⟨rfl,rfl⟩
theorem GL6.cons {d:D} {ds:List D} (h:G6 d) (t:GL6 ds):GL6 (d::ds):=⟨by rw [smallL,h.1,t.1]; rfl,by rw [noLL,h.2,t.2]; rfl⟩
theorem GL6.ints:∀ {ns:List Int},(∀ n∈ns,S6 n)→GL6 (ns.map D.int)
 | [],_=>.nil
 | _::_,h=>.cons (.int (h _ List.mem_cons_self)) (GL6.ints fun n hn=>h n (List.mem_cons_of_mem _ hn))
noncomputable def ThP (pr:D→Bool) (H:Hp) (v:V):Prop:=∃ d,Is 200 H v d∧pr d=true∧G6 d
theorem ThP.sameT {pr:D→Bool} {H H':Hp} {v:V} (h:ThP pr H v) (s:q9e H H'):ThP pr H' v:=by
 obtain⟨d,I,p,g⟩:=h
 exact⟨d,I.sameT s g.2,p,g⟩
theorem ThP.monoT {pr:D→Bool} (H H':Hp) (v:V) (s:q9e H H') (h:ThP pr H v):ThP pr H' v:=h.sameT s
theorem ThP.same {pr:D→Bool} {H H':Hp} {v:V} (h:ThP pr H v) (s:q1b H H'):ThP pr H' v:=h.sameT (j4w s)
theorem ThP.tup {pr:D→Bool} {H:Hp} {a:Addr} {vs:List V} {ds:List D} (e:H a=some (.tup vs)) (l:vs.length≤200) (r:IsL 200 H vs ds) (p:pr (.tup ds)=true) (g:GL6 ds):ThP pr H (.ref a):=⟨_,.tup e l r,p,g⟩
theorem z3l {H:Hp}:∀ {ns:List Int},IsL 200 H (ns.map V.int) (ns.map D.int)
 | []=>.nil
 | _::_=>.cons (.int _) z3l
theorem z9t {pr:D→Bool} {H:Hp}:∀ {vs:List V},(∀ u∈vs,ThP pr H u)→∃ ds,IsL 200 H vs ds∧ds.all pr=true∧GL6 ds
 | [],_=>⟨[],.nil,rfl,.nil⟩
 | v::vs,h=>by
  obtain⟨d,I,p,g⟩:=h v List.mem_cons_self
  obtain⟨ds,r,ps,gs⟩:=z9t fun u hu=>h u (List.mem_cons_of_mem _ hu)
  exact⟨d::ds,.cons I r,by rw [List.all_cons,p,ps]; rfl,.cons g gs⟩
theorem z2n:∀ {ns:List Int},ns.Pairwise (· < ·)→q8n ns=true
 | [],_=>rfl
 | [_],_=>rfl
 | a::b::r,h=>by
  rw [q8n,z2n (List.pairwise_cons.mp h).2,decide_eq_true ((List.pairwise_cons.mp h).1 b List.mem_cons_self)]
  rfl
theorem x6j:∀ ns:List Int,q3w (ns.map D.int)=ns
 | []=>rfl
 | n::ns=>by
  show n::q3w (ns.map D.int)=_
  rw [x6j ns]
theorem j3i {ns:List Int} (h1:1≤ns.length) (h9:ns.length≤9) (hk:∀ n∈ns,0≤n∧n≤8) (hr:ns.Pairwise (· < ·)):q2z (.tup (ns.map D.int))=true:=by
 show ((ns.map D.int).all q0k && ((decide (1≤(ns.map D.int).length) && decide ((ns.map D.int).length≤9)) && q8n (q3w (ns.map D.int))))=true
 rw [x6j,z2n hr,List.length_map,decide_eq_true h1,decide_eq_true h9]
 have:(ns.map D.int).all q0k=true:=List.all_eq_true.mpr fun d hd=>by
  obtain⟨n,hn,rfl⟩:=List.mem_map.mp hd
  show (decide (0≤n) && decide (n≤8))=true
  rw [decide_eq_true (hk n hn).1,decide_eq_true (hk n hn).2]
  rfl
 rw [this]
 rfl
theorem w0a {N:Int} (h1:1≤N) (h2:N≤511):∃ i,i < 9∧N / z9s.getD i 1 % 2=1:=by
 by_cases c:N % 2=1
 ·exact⟨0,by decide,by show N / 1 % 2=1; omega⟩
 by_cases c1:N / 2 % 2=1
 ·exact⟨1,by decide,c1⟩
 by_cases c2:N / 4 % 2=1
 ·exact⟨2,by decide,c2⟩
 by_cases c3:N / 8 % 2=1
 ·exact⟨3,by decide,c3⟩
 by_cases c4:N / 16 % 2=1
 ·exact⟨4,by decide,c4⟩
 by_cases c5:N / 32 % 2=1
 ·exact⟨5,by decide,c5⟩
 by_cases c6:N / 64 % 2=1
 ·exact⟨6,by decide,c6⟩
 by_cases c7:N / 128 % 2=1
 ·exact⟨7,by decide,c7⟩
 exact⟨8,by decide,by show N / 256 % 2=1; omega⟩
theorem w4w {l x:Int} (h2:0≤l) (h3:l≤1):l≤l+x % (10 ^ (60:Int).toNat - l)∧S6 (l+x % (10 ^ (60:Int).toNat - l)):=by
 have e60:(10:Int) ^ (60:Int).toNat=1000000000000000000000000000000000000000000000000000000000000:=by decide +kernel
 have e70:(10:Nat) ^ 60=1000000000000000000000000000000000000000000000000000000000000:=by decide +kernel
 unfold S6
 rw [e60,e70]
 obtain⟨a,b⟩:=q2d x (m:=1000000000000000000000000000000000000000000000000000000000000 - l) (by omega)
 omega
theorem q5m {l i:Int} (h:l≤i):geD l (.int i)=true:=decide_eq_true h
theorem q6q {x:Str} (h:q2n (.str x)=true):x.length≤200:=by
 have:=(Bool.and_eq_true _ _ |>.mp (Bool.and_eq_true _ _ |>.mp (show ((decide (1≤x.length) && decide (x.length≤8)) && x.cps.toList.all q3n)=true from h)).1).2
 have:=of_decide_eq_true this
 omega
section
variable {P:Program} {w:World} {K:Frag} {mg:Str→Option Value} {base:Heap}
noncomputable def x7t:Sp:=fun vs H Q _=>∃ n,vs=[.int n]∧0≤n∧∀ v H',ThP q2z H' v→q1b H H'→Q v H'
theorem w3k:FnScope ["_law_number", "_law_powers"] ["_law_number"] (q0e x3j):=fSc
theorem z1k {f:Addr} {fd:FuncData} (F:Fun K "_law_seats_by" "_law_seats_by" x3j f fd) (T:Txt mg):FnOk P w K mg base CX0 1 f fd ["_law_number"] x7t:=by
 refine F.ok w3k (fun vs H Q E ⟨_,e,_⟩=>by subst e; rfl) (fun _ A _ s H vs Q E hr h=>?_)
 obtain⟨n,rfl,h0,q⟩:=h
 refine⟨_,q1e (q0z (i:=0) w3k.nd rfl (Or.inr rfl) (q0i q1n q0a (q0i q1k (pv 0) q0a)))
  (q1e (q0z (i:=1) w3k.nd rfl (Or.inr rfl) (x0h (q0c q0a (q0c q0a (q0c q0a (q0c q0a (q0c q0a (q0c q0a (q0c q0a (q0c q0a (q0c q0a q0b)))))))))))
  (q0p (q0l (q4f q3y rfl T.tuple q2m (q0c (q3u (NB:=["_law_k", "_law_number", "_law_powers"]) (n:=1) (fr:=[0,1]) (x2t (outer:=q0e x3j) (x := "_law_number") (y := "_law_powers") rfl (by decide +kernel) rfl rfl rfl rfl rfl rfl rfl) rfl
   (x1w rfl T.range (q0c q0a q0b)) (fun _ _ _ _ _=>q1i (i:=0) (show (["_law_k", "_law_number", "_law_powers"]:List Str).Nodup by decide +kernel) rfl (Or.inl rfl))
   (fun _ _ _ _ _=>x3h (q0t q1w (q0i q1k (q0i q1u (pv 1) (q0u (j3o (K:=K) rfl) (pv 2) (pv 0) (fun _ _=>rfl))) q0a) q0a (q0r _))) (fun _ _ _ _ _=>pv 0)) q0b))))),?_⟩
 refine⟨_,rfl,_,_,rfl,rfl,(by show (0:Int) < 511; decide),_,_,rfl,rfl,(by rw [sizeLine_eq]; decide),fun l hl=>?_⟩
 have sl:q1b H (upd H l (.lst (z9s.map V.int))):=q0g hl
 refine⟨9,rfl,by decide,by decide,q2w (J:=Itr 0 9) (k:=1) (n:=9) (fun i=>decide (V.int ((1+n % 511) / z9s.getD i 1 % 2)=V.int 1)) (fun i=>.int (0+(i:Int))) (by rw [sizeLine_eq]; decide) (fun i H2 hi _=>hi) (fun H2 _=>Nat.le_refl _) ?_ ?_⟩
 ·intro i H2 t v H3 R hi s1 ht y hR
  obtain⟨rfl,rfl⟩:=y
  have ht':∃ t0,t=[t0]:=by
   match t,ht with
   | [t0],_=>exact⟨t0,rfl⟩
  obtain⟨t0,rfl⟩:=ht'
  have hi':i < z9s.length:=hi
  have hat:atI (z9s.map V.int) (0+(i:Int))=some (.int (z9s.getD i 1)):=by
   rw [Int.zero_add]
   exact q0m (by rw [List.getElem?_map,List.getElem?_eq_getElem hi',List.getD_eq_getElem?_getD,List.getElem?_eq_getElem hi']; rfl)
  have hpos:=j4o (z9s.getD i 1) (by rw [List.getD_eq_getElem?_getD,List.getElem?_eq_getElem hi']; exact List.getElem_mem hi')
  refine⟨_,rfl,_,rfl,_,rfl,l,_,_,_,rfl,rfl,SqL.of (s1 _ _ q0f),hat,_,_,rfl,rfl,hpos,_,_,rfl,rfl,(by show (0:Int) < 2; decide),rfl,_,rfl,?_⟩
  have hR':=hR [some (.int (0+(i:Int)))] H3 rfl (q1b.refl _)
  show if decide (V.int ((1+n % 511) / z9s.getD i 1 % 2)=V.int 1)=true then _ else _
  cases e:decide (V.int ((1+n % 511) / z9s.getD i 1 % 2)=V.int 1) with
  | true=>rw [e] at hR'; exact q1m ⟨_,rfl,hR'⟩
  | false=>rw [e] at hR'; exact q1c hR'
 ·intro D H' s1 hD hd
  refine⟨D,_,rfl,.inl ⟨SqL.of hd,fun l2 hl2=>?_⟩⟩
  obtain⟨ls,els⟩:∃ ls,ls=((List.range 9).filter (fun i=>decide (V.int ((1+n % 511) / z9s.getD i 1 % 2)=V.int 1))):=⟨_,rfl⟩
  have hmem:∀ m∈ls.map fun i:Nat=>(0:Int)+(i:Int),0≤m∧m≤8:=fun m hm=>by
   obtain⟨i,hi,rfl⟩:=List.mem_map.mp hm
   rw [els] at hi
   have:=List.mem_range.mp (List.mem_filter.mp hi).1
   omega
  have hlen:ls.length≤9:=by rw [els]; exact Nat.le_trans (List.length_filter_le _ _) (by simp)
  have hpos:1≤ls.length:=by
   have en:=q2d n (m:=511) (by decide)
   obtain⟨i,hi,e⟩:=w0a (N:=1+n % 511) (by omega) (by omega)
   rw [els]
   exact List.length_pos_of_mem (List.mem_filter.mpr ⟨List.mem_range.mpr hi,decide_eq_true (by rw [e])⟩)
  have hrise:(ls.map fun i:Nat=>(0:Int)+(i:Int)).Pairwise (· < ·):=by
   rw [els,List.pairwise_map]
   exact (List.pairwise_lt_range.filter _).imp fun h=>by omega
  refine q _ _ (ThP.tup (ds:=(ls.map fun i:Nat=>(0:Int)+(i:Int)).map Kp.D.int) q0f ?_ ?_ (j3i (by rw [List.length_map]; exact hpos) (by rw [List.length_map]; exact hlen) hmem hrise) (GL6.ints fun m hm=>S6.low (by have:=hmem m hm; omega) (by have:=hmem m hm; omega))) ((sl.trans s1).trans (q0g hl2))
  ·rw [List.length_map,← els]; omega
  ·rw [← els]
   have:=z3l (H:=upd H' l2 (.tup (ls.map fun i:Nat=>V.int (0+(i:Int))))) (ns:=ls.map fun i:Nat=>(0:Int)+(i:Int))
   rw [List.map_map] at this
   exact this
noncomputable def x3a:Sp:=fun vs H Q _=>∃ n l,vs=[.int n,.int l]∧0≤n∧n < 2147483629∧0≤l∧l≤1∧∀ z,l≤z→S6 z→Q (.int z) H
theorem w7e:FnScope ["_law_number", "_law_least"] ["_law_number", "_law_least"] (q0e q5p):=fSc
theorem x9d {f:Addr} {fd:FuncData} (F:Fun K "_law_number_by" "_law_number_by" q5p f fd):FnOk P w K mg base CX0 1 f fd ["_law_number", "_law_least"] x3a:=by
 refine F.ok w7e (fun vs H Q E ⟨_,_,e,_⟩=>by subst e; rfl) (fun _ A _ s H vs Q E hr h=>?_)
 obtain⟨n,l,rfl,h0,h1,h2,h3,q⟩:=h
 refine⟨_,q1e (q1r (q0t q1w (q0i q1k (pv 0) q0a) q0a (q0r _)) (q0p (q0l (q0i q1n (pv 1) (q0i q1k (q0i j5w (pv 0) q0a) (q0i x6h (q0i j5w q0a q0a) (pv 1)))))) q0s)
  (q1e (q1r (q0t q1w (q0i q1k (pv 0) q0a) q0a (q0r _)) (q0p (q0l (q0i q1n (pv 1) (q0i q1k (q0i q1u (pv 0) q0a) q0a)))) q0s)
  (q0p (q0l (q0i q1n (pv 1) (q0i q1k (q0i q1u (pv 0) q0a) q0a))))),?_⟩
 refine⟨_,rfl,_,_,rfl,rfl,(by show (0:Int) < 5; decide),rfl,_,rfl,x5d (fun _=>?_) (fun _=>?_)⟩
 ·refine⟨_,rfl,_,rfl,_,_,rfl,rfl,⟨by decide,by decide,by omega⟩,_,_,rfl,rfl,⟨by decide,by decide,by decide⟩,_,rfl,_,_,rfl,rfl,_,_,rfl,rfl,?_,_,_,rfl,rfl,q _ (w4w h2 h3).1 (w4w h2 h3).2⟩
  have:(1000:Int)≤10 ^ (60:Int).toNat:=by decide
  omega
 ·refine⟨_,rfl,_,_,rfl,rfl,(by show (0:Int) < 5; decide),rfl,_,rfl,x5d (fun _=>?_) (fun _=>?_)⟩
  ·exact⟨_,rfl,_,rfl,_,_,rfl,rfl,⟨by decide,by decide⟩,_,_,rfl,rfl,(by show (0:Int) < 3; decide),_,_,rfl,rfl,q _ (by have:=q2d (n / 5) (m:=3) (by decide); omega) (by have:=q2d (n / 5) (m:=3) (by decide); exact S6.low (by omega) (by omega))⟩
  ·exact⟨_,rfl,_,rfl,_,_,rfl,rfl,⟨by decide,by decide⟩,_,_,rfl,rfl,(by show (0:Int) < 400; decide),_,_,rfl,rfl,q _ (by have:=q2d (n / 5) (m:=400) (by decide); omega) (by have:=q2d (n / 5) (m:=400) (by decide); exact S6.low (by omega) (by omega))⟩
noncomputable def z3x:Sp:=fun vs H Q _=>∃ n,vs=[.int n]∧0≤n∧n < 2147483629∧∀ z,S6 z→Q (.int z) H
theorem w4r:FnScope ["_law_number", "_law_found"] ["_law_number"] (q0e q6g):=fSc
theorem z1p {f:Addr} {fd:FuncData} (F:Fun K "_law_value_by" "_law_value_by" q6g f fd) (CN:Cal P w K mg base "_law_number_by" 1 ["_law_number", "_law_least"] x3a):FnOk P w K mg base CX0 2 f fd ["_law_number"] z3x:=by
 refine F.ok w4r (fun vs H Q E ⟨_,e,_⟩=>by subst e; rfl) (fun _ A _ s H vs Q E hr h=>?_)
 obtain⟨n,rfl,h0,h1,q⟩:=h
 refine⟨_,q1e (q0z (i:=1) w4r.nd rfl (Or.inl rfl) (q0h CN hr (q0c (q0i q1u (pv 0) q0a) (q0c q0a q0b))))
  (q1e (q1r (q0t q1w (q0i q1k (pv 0) q0a) q0a (q0r _)) (q0p (q0l (j0j x9o (pv 1)))) q0s)
  (q0p (q0l (pv 1)))),?_⟩
 refine⟨_,rfl,_,_,rfl,rfl,⟨by decide,by decide⟩,n / 3,0,rfl,by omega,by omega,by decide,by decide,fun z _ hz=>?_⟩
 refine⟨_,rfl,_,_,rfl,rfl,(by show (0:Int) < 3; decide),rfl,_,rfl,x5d (fun _=>?_) (fun _=>?_)⟩
 ·exact⟨_,rfl,_,rfl,q _ hz.neg⟩
 ·exact⟨_,rfl,q _ hz⟩
theorem w2p:FnScope ["_law_script", "_law_at", "_law_number", "_law_name_here"] ["_law_script", "_law_at"] (q0e q6v):=fSc
theorem z5h {f:Addr} {fd:FuncData} (F:Fun K "_law_deed_by" "_law_deed_by" q6v f fd) (CM:Cal P w K mg base "_law_mixed" 2 ["_law_script", "_law_k"] (q6w K)) (CN:Cal P w K mg base "_law_name_by" 1 ["_law_number"] q9i)
  (CV:Cal P w K mg base "_law_value_by" 2 ["_law_number"] z3x):FnOk P w K mg base CX0 3 f fd ["_law_script", "_law_at"] (z0j K 900 (ThP q6j)):=by
 refine F.ok w2p q7z (fun _ A _ s H vs Q E hr h=>?_)
 obtain⟨a,ns,k,rfl,hS,h0,h1,q⟩:=h
 have r1:=hr.mono (show 1≤2 by decide)
 refine⟨_,q1e (q0z (i:=2) w2p.nd rfl (Or.inl rfl) (q0h CM hr (q1g (pv 0) (q1g (pv 1) q0b))))
  (q1e (q0z (i:=3) w2p.nd rfl (Or.inl rfl) (q0h CN r1 (q7n (q0h CM hr (q1g (pv 0) (q7o (q0i q1n (pv 1) q0a) q0b))) q0b)))
  (q1e (q1r (q0t q1w (q0i q1k (pv 2) q0a) q0a (q0r _)) (q0p (q0l (QE.h (q6s (q1q (j9g (pv 3) q4g)))))) q0s)
  (q0p (q0l (QE.h (q6s (w2b (QE.h (w0h q5i (x4t (q1q (q1q q4g))) (q0i x6h (q0i q1k (pv 2) q0a) q0a) z5d)) (j9g (pv 3) (j7v (q0h CV hr (q7n (q0h CM hr (q1g (pv 0) (q7o (q0i q1n (pv 1) q0a) q0b))) q0b)) q4g))))))))),?_⟩
 refine⟨_,rfl,_,rfl,a,ns,k,rfl,hS,h0,by omega,fun n n0 n1=>?_⟩
 refine⟨_,rfl,_,rfl,_,_,rfl,rfl,a,ns,k+1,rfl,hS,by omega,by omega,fun n2 n20 n21=>⟨n2,rfl,n20,fun x H1 hx s1=>?_⟩⟩
 have hS1:=SqL.same hS s1
 refine⟨_,rfl,_,_,rfl,rfl,(by show (0:Int) < 3; decide),rfl,_,rfl,x5d (fun _=>?_) (fun hne=>?_)⟩
 ·refine⟨_,rfl,q4a (by show 2≤1000; decide),fun p hp=>q _ _ (ThP.tup (ds:=[.str "get",.str x]) q0f (by show 2≤200; decide) (.cons (.str _ (by decide +kernel)) (.cons (.str _ (q6q hx)) .nil)) (by show (q2n (.str x) && true)=true; rw [hx]; rfl) (.cons (.str _) (.cons (.str _) .nil))) (s1.trans (q0g hp))⟩
 ·have hne':¬ n % 3=0:=fun z=>hne (decide_eq_true (show V.int (n % 3)=V.int 0 by rw [z]))
  refine⟨q4a (by show 2≤1000; decide),fun p hp=>?_⟩
  have s2:=q0g (o:=HO.lst [V.str "set",V.str "add"]) hp
  have e0:0≤n % 3 - 1:=by omega
  obtain⟨wd,hw,hm⟩:=q5s (xs:=[V.str "set",V.str "add"]) (i:=n % 3 - 1) e0 (by show n % 3 - 1 < ((2:Nat):Int); omega)
  have hx':∃ y:Str,wd=.str y∧y.length≤200∧∀ z:Int,q6j (.tup [.str y,.str x,.int z])=true:=by
   simp only [List.mem_cons,List.not_mem_nil,or_false] at hm
   rcases hm with rfl | rfl <;> exact⟨_,rfl,by decide +kernel,fun z=>by show (q2n (.str x) && true)=true; rw [hx]; rfl⟩
  obtain⟨y,rfl,hy,hdp⟩:=hx'
  refine⟨_,rfl,_,_,rfl,rfl,(by show (0:Int) < 3; decide),_,_,rfl,rfl,p,_,_,_,rfl,rfl,SqL.of q0f,hw,_,rfl,?_⟩
  refine⟨_,rfl,_,rfl,_,_,rfl,rfl,a,ns,k+2,rfl,SqL.same hS1 s2,by omega,by omega,fun n3 n30 n31=>⟨n3,rfl,n30,n31,fun z hz=>?_⟩⟩
  exact⟨q4a (by show 3≤1000; decide),fun p2 hp2=>q _ _ (ThP.tup (ds:=[.str y,.str x,.int z]) q0f (by show 3≤200; decide) (.cons (.str _ hy) (.cons (.str _ (q6q hx)) (.cons (.int _) .nil))) (hdp z) (.cons (.str _) (.cons (.str _) (.cons (.int hz) .nil)))) ((s1.trans s2).trans (q0g hp2))⟩
theorem w3f:FnScope ["_law_script", "_law_at", "_law_number", "_law_caller"] ["_law_script", "_law_at"] (q0e q6z):=fSc
theorem z5l {f:Addr} {fd:FuncData} (F:Fun K "_law_what_by" "_law_what_by" q6z f fd) (CM:Cal P w K mg base "_law_mixed" 2 ["_law_script", "_law_k"] (q6w K)) (CN:Cal P w K mg base "_law_name_by" 1 ["_law_number"] q9i)
  (CS:Cal P w K mg base "_law_seats_by" 1 ["_law_number"] x7t) (CU:Cal P w K mg base "_law_number_by" 1 ["_law_number", "_law_least"] x3a) (CD:Cal P w K mg base "_law_deed_by" 3 ["_law_script", "_law_at"] (z0j K 900 (ThP q6j))) :
  FnOk P w K mg base CX0 4 f fd ["_law_script", "_law_at"] (z0j K 890 (ThP x2a)):=by
 refine F.ok w3f q7z (fun _ A _ s H vs Q E hr h=>?_)
 obtain⟨a,ns,k,rfl,hS,h0,h1,q⟩:=h
 have r1:=hr.mono (show 1≤3 by decide)
 have r2:=hr.mono (show 2≤3 by decide)
 refine⟨_,q1e (q0z (i:=2) w3f.nd rfl (Or.inl rfl) (q0h CM r2 (q1g (pv 0) (q1g (pv 1) q0b))))
  (q1e (q1r (q0t q1w (q0i q1k (pv 2) q0a) q0a (q0r _)) (q0p (q0l (QE.h (q6s (q1q q4g))))) q0s)
  (q1e (q1r (q0t q1w (q0i q1k (pv 2) q0a) q0a (q0r _)) (q0p (q0l (QE.h (q6s (q1q (j7v (q0h CS r1 (q7o (q0i q1u (pv 2) q0a) q0b)) q4g)))))) q0s)
  (q1e (q0z (i:=3) w3f.nd rfl (Or.inl rfl) (q0h CN r1 (q7n (q0h CM r2 (q1g (pv 0) (q7o (q0i q1n (pv 1) q0a) q0b))) q0b)))
  (q0p (q0l (QE.h (q6s (q1q (j9g (pv 3) (j7v (q0h CU r1 (q7n (q0h CM r2 (q1g (pv 0) (q7o (q0i q1n (pv 1) q0a) q0b))) (q5x q0a q0b)))
   (j7v (q0h CD hr (q1g (pv 0) (q7o (q0i q1n (pv 1) q0a) q0b))) q4g)))))))))))  ,?_⟩
 refine⟨_,rfl,_,rfl,a,ns,k,rfl,hS,h0,by omega,fun n n0 n1=>?_⟩
 refine⟨_,rfl,_,_,rfl,rfl,(by show (0:Int) < 4; decide),rfl,_,rfl,x5d (fun _=>?_) (fun _=>?_)⟩
 ·exact⟨q4a (by show 1≤1000; decide),fun p hp=>q _ _ (ThP.tup (ds:=[.str "open"]) q0f (by show 1≤200; decide) (.cons (.str _ (by decide +kernel)) .nil) (by rfl) (.cons (.str _) .nil)) (q0g hp)⟩
 refine⟨_,rfl,_,_,rfl,rfl,(by show (0:Int) < 4; decide),rfl,_,rfl,x5d (fun _=>?_) (fun _=>?_)⟩
 ·refine⟨_,rfl,_,_,rfl,rfl,⟨by decide,by decide⟩,n / 4,rfl,Int.ediv_nonneg n0 (by decide),fun v1 H1 t1 s1=>⟨q4a (by show 2≤1000; decide),fun p hp=>?_⟩⟩
  have s2:=q0g (o:=HO.tup [V.str "seats",v1]) hp
  obtain⟨d1,I1,p1,g1⟩:=t1.same s2
  exact q _ _ (ThP.tup (ds:=[.str "seats",d1]) q0f (by show 2≤200; decide) (.cons (.str _ (by decide +kernel)) (.cons I1 .nil)) (by show (q2z d1 && true)=true; rw [p1]; rfl) (.cons (.str _) (.cons g1 .nil))) (s1.trans s2)
 refine⟨_,rfl,_,rfl,_,_,rfl,rfl,a,ns,k+1,rfl,hS,by omega,by omega,fun n2 n20 n21=>⟨n2,rfl,n20,fun x H1 hx s1=>?_⟩⟩
 have hS1:=SqL.same hS s1
 refine⟨_,rfl,_,rfl,_,rfl,_,_,rfl,rfl,a,ns,k+2,rfl,hS1,by omega,by omega,fun n3 n30 n31=>⟨n3,1,rfl,n30,n31,by decide,by decide,fun z hz1 hz=>?_⟩⟩
 refine⟨_,rfl,_,rfl,_,_,rfl,rfl,a,ns,k+3,rfl,hS1,by omega,by omega,fun v H2 tv s2=>⟨q4a (by show 4≤1000; decide),fun p hp=>?_⟩⟩
 have s3:=q0g (o:=HO.tup [V.str "wish",V.str x,V.int z,v]) hp
 obtain⟨d1,I1,p1,g1⟩:=tv.same s3
 exact q _ _ (ThP.tup (ds:=[.str "wish",.str x,.int z,d1]) q0f (by show 4≤200; decide) (.cons (.str _ (by decide +kernel)) (.cons (.str _ (q6q hx)) (.cons (.int _) (.cons I1 .nil)))) (by show (q2n (.str x) && (geD 1 (.int z) && (q6j d1 && true)))=true; rw [hx,p1,q5m hz1]; rfl) (.cons (.str _) (.cons (.str _) (.cons (.int hz) (.cons g1 .nil))))) ((s1.trans s2).trans s3)
theorem w6n:FnScope ["_law_script", "_law_at"] ["_law_script", "_law_at"] (q0e q6d):=fSc
theorem z2a {f:Addr} {fd:FuncData} (F:Fun K "_law_entry_by" "_law_entry_by" q6d f fd) (CM:Cal P w K mg base "_law_mixed" 2 ["_law_script", "_law_k"] (q6w K))
  (CU:Cal P w K mg base "_law_number_by" 1 ["_law_number", "_law_least"] x3a) (CW:Cal P w K mg base "_law_what_by" 4 ["_law_script", "_law_at"] (z0j K 890 (ThP x2a))) :
  FnOk P w K mg base CX0 5 f fd ["_law_script", "_law_at"] (z0j K 880 (ThP q3r)):=by
 refine F.ok w6n q7z (fun _ A _ s H vs Q E hr h=>?_)
 obtain⟨a,ns,k,rfl,hS,h0,h1,q⟩:=h
 have r1:=hr.mono (show 1≤4 by decide)
 have r2:=hr.mono (show 2≤4 by decide)
 refine⟨_,q0p (q0l (QE.h (q6s (j7v (q0h CU r1 (q7n (q0h CM r2 (q1g (pv 0) (q1g (pv 1) q0b))) (q5x q0a q0b)))
   (j7v (q0h CW hr (q1g (pv 0) (q7o (q0i q1n (pv 1) q0a) q0b))) q4g))))),?_⟩
 refine⟨_,rfl,_,rfl,a,ns,k,rfl,hS,by omega,by omega,fun n3 n30 n31=>⟨n3,1,rfl,n30,n31,by decide,by decide,fun z hz1 hz=>?_⟩⟩
 refine⟨_,rfl,_,rfl,_,_,rfl,rfl,a,ns,k+1,rfl,hS,by omega,by omega,fun v H2 tv s2=>⟨q4a (by show 2≤1000; decide),fun p hp=>?_⟩⟩
 have s3:=q0g (o:=HO.tup [V.int z,v]) hp
 obtain⟨d1,I1,p1,g1⟩:=tv.same s3
 exact q _ _ (ThP.tup (ds:=[.int z,d1]) q0f (by show 2≤200; decide) (.cons (.int _) (.cons I1 .nil)) (by show (geD 1 (.int z) && (x2a d1 && true))=true; rw [p1,q5m hz1]; rfl) (.cons (.int hz) (.cons g1 .nil))) (s2.trans s3)
end
end Kz
namespace Kp
open PySem L2 PySem.Spec PyProof.Rows
theorem x9y (x:Str):∀ l:List Str,countIn (PyData.str x) (l.map PyData.str)=(List.count x l:Int)
 | []=>rfl
 | a::l=>by
  rw [countIn_strs_sum,List.map_cons,List.sum_cons,← countIn_strs_sum,x9y x l,List.count_cons]
  split <;> simp <;> omega
theorem x6i:∀ {r:List Str} {x:Str},risingS x r=true→(∀ y∈r,x.cps.toList≤y.cps.toList)∧r.Pairwise fun a b:Str=>a.cps.toList≤b.cps.toList
 | [],_,_=>⟨fun _ h=>(List.not_mem_nil h).elim,.nil⟩
 | y::r,x,h=>by
  rw [risingS,Bool.and_eq_true,Bool.not_eq_true',ltCps_eq,decide_eq_false_iff_not] at h
  obtain⟨h1,h2⟩:=h
  obtain⟨g1,g2⟩:=x6i h2
  have hxy:x.cps.toList≤y.cps.toList:=List.not_lt.mp h1
  refine⟨fun z hz=>?_,List.pairwise_cons.mpr ⟨g1,g2⟩⟩
  rcases List.mem_cons.mp hz with rfl | hz
  ·exact hxy
  ·exact List.le_trans hxy (g1 z hz)
theorem x8y:∀ {l:List Str},sortedS l=true→l.Pairwise fun a b:Str=>a.cps.toList≤b.cps.toList
 | [],_=>.nil
 | _::_,h=>let ⟨g1,g2⟩:=x6i h; List.pairwise_cons.mpr ⟨g1,g2⟩
theorem z0q {a b:Str} (h:a.cps.toList≤b.cps.toList) (hn:a≠b):a.cps.toList < b.cps.toList:=by
 by_cases hl:a.cps.toList < b.cps.toList
 ·exact hl
 ·exact (hn (q9q (List.le_antisymm h (List.not_lt.mp hl)))).elim
theorem x7p:∀ {l:List Str},(l.Pairwise fun a b:Str=>a.cps.toList < b.cps.toList)→q8s l=true
 | [],_=>rfl
 | [_],_=>rfl
 | a::b::r,h=>by
  rw [q8s,x7p (List.pairwise_cons.mp h).2]
  show (decide (a.cps.toList < b.cps.toList) && true)=true
  rw [decide_eq_true ((List.pairwise_cons.mp h).1 b List.mem_cons_self)]
  rfl
theorem z7u {ys ws:List Str} (hp:ys.Perm ws) (hs:ys.Pairwise fun a b:Str=>a.cps.toList≤b.cps.toList):q8s (ys.filter fun x=>decide (V.int (List.count x ws:Int)=V.int 1))=true:=by
 apply x7p
 have hnd:(ys.filter fun x=>decide (V.int (List.count x ws:Int)=V.int 1)).Nodup:=by
  rw [List.nodup_iff_count]
  intro a
  by_cases ha:a∈ys.filter fun x=>decide (V.int (List.count x ws:Int)=V.int 1)
  ·have h1:=of_decide_eq_true (List.mem_filter.mp ha).2
   have h2:(List.count a ws:Int)=1:=V.int.inj h1
   have h3:List.count a (ys.filter fun x=>decide (V.int (List.count x ws:Int)=V.int 1))≤List.count a ys:=List.filter_sublist.count_le a
   rw [hp.count_eq a] at h3
   omega
  ·rw [List.count_eq_zero_of_not_mem ha]
   decide
 exact ((hs.filter _).and hnd).imp fun h=>z0q h.1 h.2
theorem j7e (l:List Str) (q:Str→Bool):(((List.range l.length).filter fun i=>q (l.getD i "")).map fun i=>V.str (l.getD i ""))=(l.filter q).map V.str:=by
 have e:l=(List.range l.length).map fun i=>l.getD i "" := by
  apply List.ext_getElem?
  intro i
  by_cases hi:i < l.length
  ·simp [hi]
  ·rw [List.getElem?_eq_none (by omega),List.getElem?_eq_none (by simp; omega)]
 have e2:(l.filter q).map V.str=((((List.range l.length).map fun i=>l.getD i "").filter q).map V.str):=by rw [← e]
 rw [e2,List.filter_map,List.map_map]
 rfl
section
variable {X:Cx}
theorem z0g:x4v X (.builtin "sorted") (fun xs H Q=>∃ (p:Addr) (ys:List Str),xs=[.ref p]∧SqL X.K H p (ys.map V.str)∧ys.length < 64∧∀ l (ys':List Str),H l=none→ys'.Perm ys→(ys'.Pairwise fun a b:Str=>a.cps.toList≤b.cps.toList)→Q (.ref l) (upd H l (.lst (ys'.map V.str)))):=by
 intro pins s σ H xs us Q I r h
 obtain⟨p,ys,rfl,hq,h64,q⟩:=h
 obtain⟨u,rfl,rx⟩:=x1d r
 cases rx
 obtain⟨its,rv,pl,hz⟩:=I.list hq
 have hlen:its.length=ys.length:=by rw [← rv.length,List.length_map]
 refine sorted_strs pl.isList (x7g rv) (by omega) fun out ys' h1 h2 h3=>?_
 obtain⟨e,he⟩:=sortedAll_at s.heap its out
 have hl:ys'.length=ys.length:=h2.length_eq
 have fr:H (s.heap.objs.size+1)=none:=I.hok.fresh (Nat.le_add_right s.heap.objs.size 1)
 refine⟨.ref _,_,I.laid (t':=s.toks) (o:=.lst (ys'.map V.str)) (fun b o=>sortedAll_old) (Nat.le_add_right s.heap.objs.size 1) ⟨?_,out.toList,e,x8x h1,by simpa using he⟩,rfl,q _ ys' fr h2 (x8y h3)⟩
 rw [List.length_map,sizeLine_eq]; omega
theorem z6y {K:Frag} (hK:X.K=K):MtR X "list.count" (fun x xs H Q=>∃ (p:Addr) (ys:List Str) (z:Str),x=.ref p∧xs=[.str z]∧SqL K H p (ys.map V.str)∧Q (.int (List.count z ys:Int)) H):=by
 subst hK
 intro pins s σ H x xs v us Q I rx rv h
 obtain⟨p,ys,z,rfl,rfl,hq,q⟩:=h
 cases rx
 obtain⟨u,rfl,t',rfl⟩:=x1d rv
 obtain⟨its,r1,pl,hz⟩:=I.list hq
 refine count_list_strs pl.isList (x7g r1) ?_
 rw [x9y]
 exact⟨.int _,H,I.tok _,⟨_,rfl⟩,q⟩
end
end Kp
namespace Kz
open PySem L2 Kp K1
noncomputable def j9h (i:Nat):Str:=⟨#[97+i / 26,97+i % 26]⟩
theorem j7i {i j:Nat} (h:i < j):(j9h i).cps.toList < (j9h j).cps.toList:=by
 show [97+i / 26,97+i % 26] < [97+j / 26,97+j % 26]
 by_cases e:i / 26 < j / 26
 ·exact List.Lex.rel (by omega)
 ·have e2:i / 26=j / 26:=by omega
  rw [e2]
  exact List.Lex.cons (List.Lex.rel (by omega))
theorem j1k {i:Nat} (h:i < 676):q2n (.str (j9h i))=true:=by
 refine z1s (by show 1≤2; decide) (by show 2≤8; decide) ?_
 show (q3n (97+i / 26) && (q3n (97+i % 26) && true))=true
 unfold q3n
 rw [decide_eq_true (show 97≤97+i / 26 by omega),decide_eq_true (show 97+i / 26≤122 by omega),decide_eq_true (show 97≤97+i % 26 by omega),decide_eq_true (show 97+i % 26≤122 by omega)]
 rfl
theorem z6z {j:Nat} (h:j < 26):atI ("abcdefghijklmnopqrstuvwxyz" : Str).cps.toList ((j:Nat):Int)=some (97+j):=by
 refine q0m ?_
 rw [Array.getElem?_toList]
 exact z7c j h
section
variable {P:Program} {w:World} {K:Frag} {mg:Str→Option Value} {base:Heap}
noncomputable def j5h (H:Hp) (v:V):Prop:=∃ (p:Addr) (ws:List Str),v=.ref p∧H p=some (.lst (ws.map V.str))∧ws.length≤160∧(∀ x∈ws,q2n (.str x)=true)∧q8s ws=true
noncomputable def w0q (_:Hp) (v:V):Prop:=∃ x:Str,v=.str x∧q2n (.str x)=true
theorem w0q.list {H:Hp}:∀ {ys:List V},(∀ v∈ys,w0q H v)→∃ ws:List Str,ys=ws.map V.str∧∀ x∈ws,q2n (.str x)=true
 | [],_=>⟨[],rfl,fun x hx=>(List.not_mem_nil hx).elim⟩
 | y::ys,h=>by
  obtain⟨x,rfl,hx⟩:=h y List.mem_cons_self
  obtain⟨ws,rfl,hw⟩:=w0q.list (H:=H) (fun v hv=>h v (List.mem_cons_of_mem _ hv))
  exact⟨x::ws,rfl,fun z hz=>by
   rcases List.mem_cons.mp hz with rfl | hz
   ·exact hx
   ·exact hw z hz⟩
theorem j9k:FnScope ["_law_script", "_law_at", "_law_number", "_law_many", "_law_letters", "_law_names"] ["_law_script", "_law_at"] (q0e q3b):=fSc
theorem z1r {f:Addr} {fd:FuncData} (F:Fun K "_law_names_by" "_law_names_by" q3b f fd) (T:Txt mg) (hso:mg "sorted" = none) (CM:Cal P w K mg base "_law_mixed" 2 ["_law_script", "_law_k"] (q6w K)) (CN:Cal P w K mg base "_law_name_by" 1 ["_law_number"] q9i) :
  FnOk P w K mg base CX0 3 f fd ["_law_script", "_law_at"] (z0j K 9000 j5h):=by
 refine F.ok j9k q7z (fun _ A _ s H vs Q E hr h=>?_)
 obtain⟨a,ns,k,rfl,hS,h0,h1,q⟩:=h
 have r1:=hr.mono (show 1≤2 by decide)
 refine⟨_,@q0x _ _ _ _ _ (q0z (i:=2) j9k.nd (by rfl) (by exact Or.inl rfl) (q0h CM hr (q1g (pv 0) (q1g (pv 1) q0b))))
  (@q0x _ _ _ _ _ (q0z (i:=3) j9k.nd (by rfl) (by exact Or.inl rfl) (q0i q1k (pv 2) q0a))
  (@q0x _ _ _ _ _ (PS.weakM (t':=w2k) (q1r (q0t q1w (q0i q1k (q0i q1u (pv 2) q0a) q0a) q0a (q0r _)) (q0p (q0z (i:=3) j9k.nd (by rfl) (by exact Or.inl rfl) (q0i q1n q0a (q0i q1k (q0i q1u (pv 2) q0a) q0a)))) q0s) ?w1)
  (@q0x _ _ _ _ _ (q1r (q0t q1w (q0i q1k (q0i q1u (pv 2) q0a) q0a) q0a (q0r _)) (q1e (q0z (i:=4) j9k.nd (by rfl) (by exact Or.inr rfl) q0n)
   (q0p (q0l (q3u (NB:=["_law_k", "_law_letters"]) (n:=1) (fr:=[4]) (x6q (outer:=q0e q3b) (x := "_law_letters") (by rfl) (by decide +kernel) (by rfl) (by rfl) (by rfl) (by rfl)) (by rfl)
    (x1w (by rfl) T.range (q7o (q0i q1n q0a (q0i q1k (q0i q1u (pv 2) q0a) q0a)) q0b)) (fun _ _ _ _ _=>q1i (i:=0) (show (["_law_k", "_law_letters"]:List Str).Nodup by decide +kernel) (by rfl) (by exact Or.inl rfl)) (fun _ _ _ _ _=>q2u)
    (fun _ _ _ _ _=>q0i q0j (q0u x2e (pv 1) (q0i q1u (pv 0) q0a) z5d) (q0u x2e (pv 1) (q0i q1k (pv 0) q0a) z5d)))))) q0s)
  (@q0x _ _ _ _ _ (q0z (i:=5) j9k.nd (by rfl) (by exact Or.inr rfl) (q3u (NB:=["_law_k", "_law_script", "_law_at"]) (n:=1) (fr:=[0,1]) (x2t (outer:=q0e q3b) (x := "_law_script") (y := "_law_at") (by rfl) (by decide +kernel) (by rfl) (by rfl) (by rfl) (by rfl) (by rfl) (by rfl) (by rfl)) (by rfl)
    (x1w (by rfl) T.range (q1g (pv 3) q0b)) (fun _ _ _ _ _=>q1i (i:=0) (show (["_law_k", "_law_script", "_law_at"]:List Str).Nodup by decide +kernel) (by rfl) (by exact Or.inl rfl)) (fun _ _ _ _ _=>q2u)
    (fun _ _ _ _ _=>q0h CN r1 (q7n (q0h CM hr (q1g (pv 1) (q7o (q0i q1n (q0i q1n (pv 2) q0a) (q0i q7h q0a (pv 0))) q0b))) q0b))))
  (@q1h _ _ _ (q0l (q3u (NB:=["_law_name_here", "_law_names"]) (n:=1) (fr:=[5]) (x6q (outer:=q0e q3b) (x := "_law_names") (by rfl) (by decide +kernel) (by rfl) (by rfl) (by rfl) (by rfl)) (by rfl)
    (j8l (q0q z0g (by rfl) hso PyProof.Rows.boot_sorted (q1g (pv 5) q0b))) (fun _ _ _ _ _=>q1i (i:=0) (show (["_law_name_here", "_law_names"]:List Str).Nodup by decide +kernel) (by rfl) (by exact Or.inl rfl))
    (fun _ _ _ _ _=>x3h (q0t q1w (j5t (K:=K) (by rfl) PySem.F.plainAttrs_list PySem.F.slot_list_count PySem.F.type_list_count (z6y (K:=K) (by rfl)) (pv 1) (q1g (pv 0) q0b)) q0a (q0r _))) (fun _ _ _ _ _=>pv 0)))))))),?_⟩
 case w1 =>
  rintro D σ H ⟨a,at',n,m,x4,x5,rfl,hn,hm0,hm3,q⟩
  refine⟨_,rfl,_,_,rfl,rfl,⟨by decide,by decide⟩,_,_,rfl,rfl,(by show (0:Int) < 16; decide),rfl,_,rfl,x5d (fun _=>?_) (fun _=>?_)⟩
  ·refine⟨_,rfl,_,_,rfl,rfl,⟨by decide,by decide⟩,_,_,rfl,rfl,(by show (0:Int) < 30; decide),_,_,rfl,rfl,?_⟩
   obtain⟨e0,e1⟩:=q2d (n / 64) (m:=30) (by decide)
   exact q (10+n / 64 % 30) (by omega) (by omega)
  ·exact q m hm0 (by omega)
 refine⟨_,rfl,_,rfl,a,ns,k,rfl,hS,h0,by omega,fun n n0 n1=>?_⟩
 obtain⟨e0,e1⟩:=q2d n (m:=4) (by decide)
 refine⟨_,rfl,_,_,rfl,rfl,(by show (0:Int) < 4; decide),a,k,n,n % 4,none,none,rfl,n0,e0,by omega,fun m m0 m39=>?_⟩
 refine⟨_,rfl,_,_,rfl,rfl,⟨by decide,by decide⟩,_,_,rfl,rfl,(by show (0:Int) < 64; decide),rfl,_,rfl,x5d (fun _=>?_) (fun _=>?_)⟩
 ·
  obtain⟨g0,g1⟩:=q2d (n / 256) (m:=120) (by decide)
  have la:("abcdefghijklmnopqrstuvwxyz" : Str).length=26:=by decide +kernel
  have lb:(("abcdefghijklmnopqrstuvwxyz" : Str).cps.toList).length=26:=by rw [Array.length_toList]; exact la
  refine⟨_,rfl,_,_,rfl,rfl,⟨by decide,by decide⟩,_,_,rfl,rfl,(by show (0:Int) < 120; decide),_,_,rfl,rfl,_,rfl,?_,?_,q2w (n:=(41+n / 256 % 120).toNat) (k:=1) (fun _=>true) (fun i=>.str (j9h i)) (by rw [sizeLine_eq]; omega) (fun i H2 hi _=>hi) (fun H2 _=>Nat.le_refl _) ?_ ?_⟩
  ·omega
  ·omega
  ·intro i H2 t v H3 S hi s1 ht y hR
   obtain⟨rfl,rfl⟩:=y
   obtain⟨t0,rfl⟩:=q5c ht
   have hi2:i < 676:=by omega
   have hc:=z6z (j:=i / 26) (by omega)
   have hd:=z6z (j:=i % 26) (by omega)
   rw [show (((i / 26:Nat)):Int)=(0+(i:Int)) / 26 by omega] at hc
   rw [show (((i % 26:Nat)):Int)=(0+(i:Int)) % 26 by omega] at hd
   refine⟨_,rfl,_,rfl,_,_,rfl,rfl,⟨by decide,by decide⟩,_,_,_,rfl,rfl,(by rw [la,sizeLine_eq]; decide),hc,_,rfl,_,rfl,_,_,rfl,rfl,(by show (0:Int) < 26; decide),_,_,_,rfl,rfl,(by rw [la,sizeLine_eq]; decide),hd,_,_,rfl,rfl,(by show 2≤sizeLine; rw [sizeLine_eq]; decide),?_⟩
   exact hR [some (.int (0+(i:Int)))] H3 rfl (q1b.refl _)
  ·intro D H' s1 hD hd
   have el:(((List.range (41+n / 256 % 120).toNat).filter fun _=>true).map fun i=>V.str (j9h i))=((List.range (41+n / 256 % 120).toNat).map j9h).map V.str:=by
    rw [List.filter_eq_self.mpr (fun _ _=>rfl),List.map_map]
    rfl
   rw [el] at hd
   refine q _ _ ⟨D,_,rfl,hd,by rw [List.length_map,List.length_range]; omega,fun x hx=>?_,x7p ?_⟩ s1
   ·obtain⟨i,hi,rfl⟩:=List.mem_map.mp hx
    have:=List.mem_range.mp hi
    exact j1k (by omega)
   ·rw [List.pairwise_map]
    exact List.pairwise_lt_range.imp fun h=>j7i h
 ·
  refine⟨_,rfl,m,rfl,by omega,by omega,z8s (n:=m.toNat) (k:=1) w0q (fun _ _ _ _ r=>r) (by rw [sizeLine_eq]; omega) (fun i H2 hi _=>hi) (fun H2 _=>Nat.le_refl _) ?_ ?_⟩
  ·intro i H2 t v H3 S hi s1 ht y hR _
   obtain⟨rfl,rfl⟩:=y
   obtain⟨t0,rfl⟩:=q5c ht
   refine⟨_,rfl,_,rfl,_,_,rfl,rfl,_,rfl,_,_,rfl,rfl,.inl ⟨by decide,by decide⟩,_,_,rfl,rfl,a,ns,_,rfl,SqL.same hS s1,?_,?_,fun z z0 z1=>⟨z,rfl,z0,fun x H4 hx s4=>?_⟩⟩
   ·omega
   ·omega
   ·exact hR [some (.int (0+(i:Int)))] H4 _ rfl s4 ⟨x,rfl,hx⟩
  ·intro D H1 ys s1 hD hd hl hR
   obtain⟨ws,rfl,hw⟩:=w0q.list hR
   rw [List.length_map] at hl
   refine⟨_,rfl,D,ws,rfl,SqL.of hd,by omega,fun l ys' hl' hperm hsort=>?_⟩
   have s2:=q0g (o:=HO.lst (ys'.map V.str)) hl'
   have lp:ys'.length=ws.length:=hperm.length_eq
   refine⟨l,rfl,⟨_,SqL.of q0f⟩,q2w (J:=Itl K l) (n:=ys'.length) (k:=1) (fun i=>decide (V.int (List.count (ys'.getD i "") ws:Int)=V.int 1)) (fun i=>.str (ys'.getD i "")) (by rw [sizeLine_eq]; omega) (fun i H2 hi s3=>⟨_,.str ys'[i],SqL.of (s3 _ _ q0f),by simp [hi]⟩) (fun H2 s3=>⟨_,SqL.of (s3 _ _ q0f),by simp⟩) ?_ ?_⟩
   ·intro i H2 t v H3 S hi s3 ht y hR1
    obtain⟨rfl,hy⟩:=y
    obtain⟨t0,rfl⟩:=q5c ht
    have ev:=hy _ (SqL.of (s3 _ _ q0f))
    have eg:ys'.getD i "" = ys'[i]:=by rw [List.getD_eq_getElem?_getD,List.getElem?_eq_getElem hi]; rfl
    rw [List.getElem?_map,List.getElem?_eq_getElem hi] at ev
    cases ev
    rw [eg] at hR1
    have hR:=hR1 [some (.str ys'[i])] H3 rfl (q1b.refl _)
    refine⟨_,rfl,.inl ⟨rfl,_,SqL.of (s3 _ _ (s2 _ _ hd))⟩,_,rfl,D,ws,_,rfl,rfl,SqL.of (s3 _ _ (s2 _ _ hd)),rfl,_,rfl,?_⟩
    show if decide (V.int (List.count ys'[i] ws:Int)=V.int 1)=true then _ else _
    cases e:decide (V.int (List.count ys'[i] ws:Int)=V.int 1) with
    | true=>rw [e] at hR; exact q1m ⟨_,rfl,hR⟩
    | false=>rw [e] at hR; exact q1c hR
   ·intro D2 H' s3 hD2 hd2
    rw [j7e ys' fun x=>decide (V.int (List.count x ws:Int)=V.int 1)] at hd2
    refine q _ _ ⟨D2,_,rfl,hd2,Nat.le_trans (List.length_filter_le _ _) (by omega),fun x hx=>hw x (hperm.mem_iff.mp (List.mem_filter.mp hx).1),z7u hperm hsort⟩ ((s1.trans s2).trans s3)
end
end Kz
namespace Kp
open PySem L2
section
variable {X:Cx} {S:St→Hp→Prop} {es l:List Expr} {n m:Nat} {p p':Pos} {j:Nat}
end
end Kp
namespace Kz
open PySem L2 Kp K1
theorem x5j {pr:D→Bool} {H:Hp}:∀ {ys:List V} {ws:List Str},ys.length=ws.length→(∀ (i:Nat) v,ys[i]? = some v→ThP (fun d=>pr d && decide (q1l d=ws.getD i "")) H v)→∃ ds,IsL 200 H ys ds∧ds.all pr=true∧ds.map q1l=ws∧GL6 ds
 | [],[],_,_=>⟨[],.nil,rfl,rfl,.nil⟩
 | [],_::_,h,_=>by cases h
 | _::_,[],h,_=>by cases h
 | v::vs,x::ws,hl,h=>by
  obtain⟨d,I,p,g⟩:=h 0 v rfl
  obtain⟨ds,r,ps,hw,gs⟩:=x5j (ys:=vs) (ws:=ws) (Nat.succ.inj hl) fun i u hu=>h (i+1) u hu
  obtain⟨p1,p2⟩:=Bool.and_eq_true _ _ |>.mp p
  refine⟨d::ds,.cons I r,by rw [List.all_cons,p1,ps]; rfl,?_,.cons g gs⟩
  rw [List.map_cons,hw,show q1l d=x from of_decide_eq_true p2]
noncomputable def St6 (i j:Int):Prop:=i=0∧j=0∨1≤i∧1≤j
theorem j0n {i j:Int} (h:St6 i j) (r:List D):z0k (.tup (.int i::.int j::r))=true:=by
 show decide (decide (i=0)=decide (j=0))=true
 rcases h with ⟨rfl,rfl⟩ | ⟨h1,h2⟩
 ·rfl
 ·rw [decide_eq_false (show ¬ i=0 by omega),decide_eq_false (show ¬ j=0 by omega)]
  rfl
theorem St6.ge {i j:Int} (h:St6 i j):geD 0 (.int i)=true∧geD 0 (.int j)=true:=by
 rcases h with ⟨rfl,rfl⟩ | ⟨h1,h2⟩
 ·exact⟨rfl,rfl⟩
 ·exact⟨q5m (by omega),q5m (by omega)⟩
theorem x2s {a:Int} (h:0≤a∧a < 9):q0k (.int a)=true:=by
 show (decide (0≤a) && decide (a≤8))=true
 rw [decide_eq_true h.1,decide_eq_true (show a≤8 by omega)]
 rfl
theorem j6h {a b t p l:Int} (ha:0≤a∧a < 9) (hb:0≤b∧b < 9) (hab:a≠b) (ht:1≤t) (hs:St6 p l):q2o (.tup [.str "ask",.int a,.int b,.int t,.int p,.int l])=true:=by
 show ((q0k (.int a) && (q0k (.int b) && (geD 1 (.int t) && (geD 0 (.int p) && (geD 0 (.int l) && true))))) && (!decide (a=b) && (if ("ask" : Str) = "ask" ∨ ("ask" : Str) = "hand" then z0k (.tup [.int p,.int l]) else true)))=true
 rw [x2s ha,x2s hb,q5m ht,hs.ge.1,hs.ge.2,decide_eq_false hab,if_pos (.inl rfl),j0n hs]
 rfl
theorem j2o {a b t p l m:Int} {e:D} (ha:0≤a∧a < 9) (hb:0≤b∧b < 9) (hab:a≠b) (ht:1≤t) (hs:St6 p l) (he:q2l e=true) (hm:0≤m):q2o (.tup [.str "hand",.int a,.int b,.int t,.int p,.int l,e,.int m])=true:=by
 show ((q0k (.int a) && (q0k (.int b) && (geD 1 (.int t) && (geD 0 (.int p) && (geD 0 (.int l) && (q2l e && (geD 0 (.int m) && true))))))) && (!decide (a=b) && (if ("hand" : Str) = "ask" ∨ ("hand" : Str) = "hand" then z0k (.tup [.int p,.int l,e,.int m]) else true)))=true
 rw [x2s ha,x2s hb,q5m ht,hs.ge.1,hs.ge.2,decide_eq_false hab,if_pos (.inr rfl),j0n hs,he,q5m hm]
 rfl
theorem j1j {a b t:Int} (c:Bool) (ha:0≤a∧a < 9) (hb:0≤b∧b < 9) (hab:a≠b) (ht:1≤t):q2o (.tup [.str "voice",.int a,.int b,.int t,.bl c])=true:=by
 show ((q0k (.int a) && (q0k (.int b) && (geD 1 (.int t) && (true && true)))) && (!decide (a=b) && true))=true
 rw [x2s ha,x2s hb,q5m ht,decide_eq_false hab]
 rfl
theorem j2q {a b t m:Int} (c:Bool) (ha:0≤a∧a < 9) (hb:0≤b∧b < 9) (hab:a≠b) (ht:1≤t) (hm:0≤m):q2o (.tup [.str "held",.int a,.int b,.int t,.bl c,.int m])=true:=by
 show ((q0k (.int a) && (q0k (.int b) && (geD 1 (.int t) && (true && (geD 0 (.int m) && true))))) && (!decide (a=b) && (if ("held" : Str) = "ask" ∨ ("held" : Str) = "hand" then z0k (.tup [.bl c,.int m]) else true)))=true
 rw [x2s ha,x2s hb,q5m ht,decide_eq_false hab,q5m hm,if_neg (by decide +kernel)]
 rfl
theorem j3n {a b t i j:Int} {s st:D} (ha:0≤a∧a < 9) (hb:0≤b∧b < 9) (hab:a≠b) (ht:1≤t) (hi:1≤i) (hj:1≤j) (hs:q2z s=true) (hst:q3v st=true):q2o (.tup [.str "pack",.int a,.int b,.int t,.tup [.int i,.int j,s,st]])=true:=by
 show ((q0k (.int a) && (q0k (.int b) && (geD 1 (.int t) && ((((geD 0 (.int i) && (geD 0 (.int j) && (q2z s && (q3v st && true)))) && z0k (.tup [.int i,.int j,s,st])) && decide (1≤i)) && true)))) && (!decide (a=b) && true))=true
 rw [x2s ha,x2s hb,q5m ht,decide_eq_false hab,q5m (show 0≤i by omega),q5m (show 0≤j by omega),hs,hst,j0n (.inr ⟨hi,hj⟩),decide_eq_true hi]
 rfl
theorem j4l {k c:Int} {x:Str} {d:D} (hx:q2n (.str x)=true) (hk:0≤k∧k < 9) (hc:1≤c) (hd:q6j d=true):q2o (.tup [.str "wish",.str x,.int k,.int c,d])=true:=by
 show ((q2n (.str x) && (q0k (.int k) && (geD 1 (.int c) && (q6j d && true)))) && (true && true))=true
 rw [hx,x2s hk,q5m hc,hd]
 rfl
theorem j3r {k c:Int} {x:Str} (v:Int) (hx:q2n (.str x)=true) (hk:0≤k∧k < 9) (hc:1≤c):q2o (.tup [.str "told",.int k,.str x,.int c,.int v])=true:=by
 show ((q0k (.int k) && (q2n (.str x) && (geD 1 (.int c) && (true && true)))) && (true && true))=true
 rw [hx,x2s hk,q5m hc]
 rfl
theorem j4g {k c:Int} {x:Str} {d:D} (hx:q2n (.str x)=true) (hk:0≤k∧k < 9) (hc:1≤c) (hd:q8m d=true):q2o (.tup [.str "away",.int k,.str x,.int c,d])=true:=by
 show ((q0k (.int k) && (q2n (.str x) && (geD 1 (.int c) && (q8m d && true)))) && (true && true))=true
 rw [hx,x2s hk,q5m hc,hd]
 rfl
section
variable {P:Program} {w:World} {K:Frag} {mg:Str→Option Value} {base:Heap}
theorem j6x:FnScope ["_law_script", "_law_at", "_law_names", "_law_callers"] ["_law_script", "_law_at"] (q0e q3s):=fSc
theorem nd4:(["_law_k", "_law_name_here", "_law_script", "_law_at"]:List Str).Nodup:=by decide +kernel
theorem z0x {f:Addr} {fd:FuncData} (F:Fun K "_law_store_by" "_law_store_by" q3s f fd) (T:Txt mg) (hen:mg "enumerate" = none) (CM:Cal P w K mg base "_law_mixed" 2 ["_law_script", "_law_k"] (q6w K)) (CNm:Cal P w K mg base "_law_names_by" 3 ["_law_script", "_law_at"] (z0j K 9000 j5h))
  (CV:Cal P w K mg base "_law_value_by" 2 ["_law_number"] z3x) (CU:Cal P w K mg base "_law_number_by" 1 ["_law_number", "_law_least"] x3a):FnOk P w K mg base CX0 4 f fd ["_law_script", "_law_at"] (z0j K 8000 (ThP q3v)):=by
 refine F.ok j6x q7z (fun _ A _ s H vs Q E hr h=>?_)
 obtain⟨a,ns,k,rfl,hS,h0,h1,q⟩:=h
 have r1:=hr.mono (show 1≤3 by decide)
 have r2:=hr.mono (show 2≤3 by decide)
 refine⟨_,@q0x _ _ _ _ _ (z0s (i:=2) j6x.nd (by rfl) (by exact Or.inl rfl) (NB:=["_law_k", "_law_name_here", "_law_script", "_law_at"]) (n:=2) (fr:=[0,1]) (x2t (outer:=q0e q3s) (x := "_law_script") (y := "_law_at") (by rfl) (by decide +kernel) (by rfl) (by rfl) (by rfl) (by rfl) (by rfl) (by rfl) (by rfl)) (by rfl)
   (z6x (by rfl) hen (q7n (q0h CNm hr (q1g (pv 0) (q1g (pv 1) q0b))) q0b))
   (fun _ _ _ _ _=>x4z (K:=K) (n:=2) (by rfl) (by rfl) (q1x (q1i (i:=0) nd4 (by rfl) (by exact Or.inl rfl)) (q1x (q1i (i:=1) nd4 (by rfl) (by exact Or.inl rfl)) q6b))) (fun _ _ _ _ _=>q2u)
   (fun _ _ _ _ _=>q2x (q1g (pv 1) (q7n (q0h CV r2 (q7n (q0h CM r2 (q1g (pv 2) (q7o (q0i q1n (q0i q1n (pv 3) q0a) (q0i q7h q0a (pv 0))) q0b))) q0b)) q0b))))
  (@q0x _ _ _ _ _ (z0s (i:=3) j6x.nd (by rfl) (by exact Or.inl rfl) (NB:=["_law_k", "_law_name_here", "_law_script", "_law_at"]) (n:=2) (fr:=[0,1]) (x2t (outer:=q0e q3s) (x := "_law_script") (y := "_law_at") (by rfl) (by decide +kernel) (by rfl) (by rfl) (by rfl) (by rfl) (by rfl) (by rfl) (by rfl)) (by rfl)
   (z6x (by rfl) hen (q7n (q0h CNm hr (q1g (pv 0) (q7o (q0i q1n (pv 1) q0a) q0b))) q0b))
   (fun _ _ _ _ _=>x4z (K:=K) (n:=2) (by rfl) (by rfl) (q1x (q1i (i:=0) nd4 (by rfl) (by exact Or.inl rfl)) (q1x (q1i (i:=1) nd4 (by rfl) (by exact Or.inl rfl)) q6b))) (fun _ _ _ _ _=>q2u)
   (fun _ _ _ _ _=>q2x (q1g (pv 1) (q7n (q0h CU r1 (q7n (q0h CM r2 (q1g (pv 2) (q7o (q0i q1n (q0i q1n (pv 3) q0a) (q0i q7h q0a (pv 0))) q0b))) (q5x q0a q0b)))
    (q7n (q0h CV r2 (q7n (q0h CM r2 (q1g (pv 2) (q7o (q0i q1n (q0i q1n (pv 3) q0a) (q0i q7h q0a (pv 0))) q0b))) q0b)) q0b)))))
  (@q1h _ _ _ (q0l (q2x (q7n (q4f q3y (by rfl) T.tuple q2m (q1g (pv 2) q0b)) (q7n (q4f q3y (by rfl) T.tuple q2m (q1g (pv 3) q0b)) q0b)))))),?_⟩
 refine⟨_,rfl,_,rfl,a,ns,k,rfl,hS,h0,by omega,fun v1 H1 t1 s1=>?_⟩
 obtain⟨p1,ws1,rfl,hp1,l1,w1,o1⟩:=t1
 refine⟨p1,_,rfl,hp1,z3i (J:=Ite p1) (n:=ws1.length) (k:=2) (fun i H v=>ThP (fun d=>x0n d && decide (q1l d=ws1.getD i "")) H v) (fun _=>ThP.monoT) (by rw [sizeLine_eq]; omega) (fun i H2 hi s2=>⟨_,.str ws1[i],s2 _ _ hp1,by simp [hi]⟩) (fun H2 s2=>⟨_,s2 _ _ hp1,by simp⟩) ?_ ?_⟩
 ·intro i H2 t v H3 S hi s2 ht y hR
  have eg:ws1.getD i "" = ws1[i]:=by rw [List.getD_eq_getElem?_getD,List.getElem?_eq_getElem hi]; rfl
  rw [eg] at hR
  have nm:=w1 _ (List.getElem_mem hi)
  obtain⟨p,x,rfl,hp,rfl,ex⟩:=y
  have ex':=ex _ (s2 _ _ hp1)
  rw [List.getElem?_map,List.getElem?_eq_getElem hi] at ex'
  cases ex'
  obtain⟨t0,t1,rfl⟩:=x8r ht
  have s3:=q0g (o:=HO.tup [V.int (i:Int),V.str ws1[i]]) hp
  refine⟨p,_,rfl,SqT.of q0f,rfl,_,_,rfl,_,_,rfl,rfl,?_⟩
  refine⟨_,rfl,_,rfl,_,rfl,_,_,rfl,rfl,_,rfl,_,_,rfl,rfl,.inl ⟨by decide,by decide⟩,_,_,rfl,rfl,a,ns,_,rfl,SqL.same hS ((s1.trans s2).trans s3),?_,?_,fun z z0 z1=>⟨z,rfl,z0,z1,fun y hy=>⟨q4a (by show 2≤1000; decide),fun p2 hp2=>?_⟩⟩⟩
  ·omega
  ·omega
  ·exact hR [some (.int (i:Int)),some (.str ws1[i])] _ _ rfl (s3.trans (q0g hp2)) (ThP.tup (ds:=[.str ws1[i],.int y]) q0f (by show 2≤200; decide) (.cons (.str _ (q6q nm)) (.cons (.int _) .nil)) (by show ((q2n (.str ws1[i]) && true) && decide (ws1[i]=ws1[i]))=true; rw [nm,decide_eq_true rfl]; rfl) (.cons (.str _) (.cons (.int hy) .nil)))
 ·intro D1 H2 ys1 s2 hD1 hd1 hl1 hr1
  have hS2:=SqL.same hS (s1.trans s2)
  refine⟨_,rfl,_,rfl,_,_,rfl,rfl,a,ns,k+6,rfl,hS2,by omega,by omega,fun v3 H3 t3 s3=>?_⟩
  obtain⟨p3,ws3,rfl,hp3,l3,w3,o3⟩:=t3
  have hd3:=s3 _ _ hd1
  refine⟨p3,_,rfl,hp3,z3i (J:=Ite p3) (n:=ws3.length) (k:=2) (fun i H v=>ThP (fun d=>q4c d && decide (q1l d=ws3.getD i "")) H v) (fun _=>ThP.monoT) (by rw [sizeLine_eq]; omega) (fun i H4 hi s4=>⟨_,.str ws3[i],s4 _ _ hp3,by simp [hi]⟩) (fun H4 s4=>⟨_,s4 _ _ hp3,by simp⟩) ?_ ?_⟩
  ·intro i H4 t v H5 S hi s4 ht y hR
   have eg:ws3.getD i "" = ws3[i]:=by rw [List.getD_eq_getElem?_getD,List.getElem?_eq_getElem hi]; rfl
   rw [eg] at hR
   have nm:=w3 _ (List.getElem_mem hi)
   obtain⟨p,x,rfl,hp,rfl,ex⟩:=y
   have ex':=ex _ (s4 _ _ hp3)
   rw [List.getElem?_map,List.getElem?_eq_getElem hi] at ex'
   cases ex'
   obtain⟨t0,t1,rfl⟩:=x8r ht
   have s5:=q0g (o:=HO.tup [V.int (i:Int),V.str ws3[i]]) hp
   have hS5:=SqL.same hS2 ((s3.trans s4).trans s5)
   refine⟨p,_,rfl,SqT.of q0f,rfl,_,_,rfl,_,_,rfl,rfl,?_⟩
   refine⟨_,rfl,_,rfl,_,rfl,_,_,rfl,rfl,_,rfl,_,_,rfl,rfl,.inl ⟨by decide,by decide⟩,_,_,rfl,rfl,a,ns,_,rfl,hS5,?_,?_,fun z z0 z1=>⟨z,1,rfl,z0,z1,by decide,by decide,fun y hy1 hy=>?_⟩⟩
   ·omega
   ·omega
   refine⟨_,rfl,_,rfl,_,_,rfl,rfl,_,rfl,_,_,rfl,rfl,.inl ⟨by decide,by decide⟩,_,_,rfl,rfl,a,ns,_,rfl,hS5,?_,?_,fun z z0 z1=>⟨z,rfl,z0,z1,fun y2 hy2=>⟨q4a (by show 3≤1000; decide),fun p2 hp2=>?_⟩⟩⟩
   ·omega
   ·omega
   exact hR [some (.int (i:Int)),some (.str ws3[i])] _ _ rfl (s5.trans (q0g hp2)) (ThP.tup (ds:=[.str ws3[i],.int y,.int y2]) q0f (by show 3≤200; decide) (.cons (.str _ (q6q nm)) (.cons (.int _) (.cons (.int _) .nil))) (by show ((q2n (.str ws3[i]) && (geD 1 (.int y) && true)) && decide (ws3[i]=ws3[i]))=true; rw [nm,q5m hy1,decide_eq_true rfl]; rfl) (.cons (.str _) (.cons (.int hy) (.cons (.int hy2) .nil))))
  ·intro D2 H4 ys2 s4 hD2 hd2 hl2 hr2
   refine⟨_,rfl,D1,ys1,rfl,.inl ⟨SqL.of (s4 _ _ hd3),fun t1 ht1=>?_⟩⟩
   have s5:=q0g (o:=HO.tup ys1) ht1
   refine⟨_,rfl,D2,ys2,rfl,.inl ⟨SqL.of (s5 _ _ hd2),fun t2 ht2=>⟨q4a (by show 2≤1000; decide),fun p hp=>?_⟩⟩⟩
   have s6:=q0g (o:=HO.tup ys2) ht2
   have s7:=q0g (o:=HO.tup [V.ref t1,V.ref t2]) hp
   have sA:=s3.trans (s4.trans (s5.trans (s6.trans s7)))
   have sB:=s5.trans (s6.trans s7)
   obtain⟨ds1,r1',a1,n1,g1⟩:=x5j (pr:=x0n) (ws:=ws1) hl1 fun i v hv=>(hr1 i v hv).same sA
   obtain⟨ds2,r2',a2,n2,g2⟩:=x5j (pr:=q4c) (ws:=ws3) hl2 fun i v hv=>(hr2 i v hv).same sB
   exact q _ _ (ThP.tup (ds:=[.tup ds1,.tup ds2]) q0f (by show 2≤200; decide) (.cons (.tup (s7 _ _ (s6 _ _ q0f)) (by omega) r1') (.cons (.tup (s7 _ _ q0f) (by omega) r2') .nil)) (by show ((ds1.all x0n && q8s (ds1.map q1l)) && ((ds2.all q4c && q8s (ds2.map q1l)) && true))=true; rw [a1,n1,o1,a2,n2,o3]; rfl) (.cons (.tup g1) (.cons (.tup g2) .nil))) ((s1.trans s2).trans ((s3.trans s4).trans (s5.trans (s6.trans s7))))
noncomputable def w1g (H:Hp) (v:V):Prop:=∃ (p:Addr) (i j:Int),v=.ref p∧H p=some (.tup [.int i,.int j])∧St6 i j∧S6 i∧S6 j
noncomputable def x7y:Sp:=fun vs H Q _=>∃ n,vs=[.int n]∧0≤n∧n < 2147483629∧∀ v H',w1g H' v→q1b H H'→Q v H'
theorem w5l:FnScope ["_law_number"] ["_law_number"] (q0e q6k):=fSc
theorem z1q {f:Addr} {fd:FuncData} (F:Fun K "_law_stand_by" "_law_stand_by" q6k f fd) (CU:Cal P w K mg base "_law_number_by" 1 ["_law_number", "_law_least"] x3a):FnOk P w K mg base CX0 2 f fd ["_law_number"] x7y:=by
 refine F.ok w5l (fun vs H Q E ⟨_,e,_⟩=>by subst e; rfl) (fun _ A _ s H vs Q E hr h=>?_)
 obtain⟨n,rfl,h0,h1,q⟩:=h
 refine⟨_,q1e (q1r (q0t q1w (q0i q1k (pv 0) q0a) q0a (q0r _)) (q0p (q0l (q2x (q5x q0a (q5x q0a q0b))))) q0s)
  (q0p (q0l (q2x (q7n (q0h CU hr (q7o (q0i q1u (pv 0) q0a) (q5x q0a q0b))) (q7n (q0h CU hr (q7o (q0i q1k (q0i q7h (q0i q1u (pv 0) q0a) q0a) q0a) (q5x q0a q0b))) q0b))))),?_⟩
 refine⟨_,rfl,_,_,rfl,rfl,(by show (0:Int) < 6; decide),rfl,_,rfl,x5d (fun _=>?_) (fun _=>?_)⟩
 ·exact⟨q4a (by show 2≤1000; decide),fun p hp=>q _ _ ⟨p,0,0,rfl,q0f,.inl ⟨rfl,rfl⟩,S6.low (by decide) (by decide),S6.low (by decide) (by decide)⟩ (q0g hp)⟩
 ·obtain⟨e0,e1⟩:=q2d (n / 7*48271) (m:=1000003) (by decide)
  refine⟨_,rfl,_,_,rfl,rfl,⟨by decide,by decide⟩,n / 6,1,rfl,by omega,by omega,by decide,by decide,fun z hz1 hz=>?_⟩
  refine⟨_,rfl,_,_,rfl,rfl,⟨by decide,by decide⟩,_,_,rfl,rfl,.inr ⟨by decide,by decide⟩,_,_,rfl,rfl,(by show (0:Int) < 1000003; decide),n / 7*48271 % 1000003,1,rfl,e0,by omega,by decide,by decide,fun y hy1 hy=>⟨q4a (by show 2≤1000; decide),fun p hp=>q _ _ ⟨p,z,y,rfl,q0f,.inr ⟨hz1,hy1⟩,hz,hy⟩ (q0g hp)⟩⟩
noncomputable def j5v (H:Hp) (v:V):Prop:=∃ (p:Addr) (i j:Int) (sv st:V),v=.ref p∧H p=some (.tup [.int i,.int j,sv,st])∧S6 i∧S6 j∧ThP q2z H sv∧ThP q3v H st
theorem w2i:FnScope ["_law_script", "_law_at", "_law_place", "_law_last"] ["_law_script", "_law_at"] (q0e q7d):=fSc
theorem z5g {f:Addr} {fd:FuncData} (F:Fun K "_law_pack_by" "_law_pack_by" q7d f fd) (CM:Cal P w K mg base "_law_mixed" 2 ["_law_script", "_law_k"] (q6w K)) (CD:Cal P w K mg base "_law_stand_by" 2 ["_law_number"] x7y) (CS:Cal P w K mg base "_law_seats_by" 1 ["_law_number"] x7t)
  (CT:Cal P w K mg base "_law_store_by" 4 ["_law_script", "_law_at"] (z0j K 8000 (ThP q3v))):FnOk P w K mg base CX0 5 f fd ["_law_script", "_law_at"] (z0j K 7000 j5v):=by
 refine F.ok w2i q7z (fun _ A _ s H vs Q E hr h=>?_)
 obtain⟨a,ns,k,rfl,hS,h0,h1,q⟩:=h
 have r1:=hr.mono (show 1≤4 by decide)
 have r2:=hr.mono (show 2≤4 by decide)
 refine⟨_,q1e (z2w (q0h CD r2 (q7n (q0h CM r2 (q1g (pv 0) (q1g (pv 1) q0b))) q0b)) (x5h (n:=2) rfl (q1x (q1i (i:=2) w2i.nd rfl (Or.inl rfl)) (q1x (q1i (i:=3) w2i.nd rfl (Or.inl rfl)) q6b))))
  (q0p (q0l (q2x (q1g (pv 2) (q1g (pv 3) (q7n (q0h CS r1 (q7n (q0h CM r2 (q1g (pv 0) (q7o (q0i q1n (pv 1) q0a) q0b))) q0b)) (q7n (q0h CT hr (q1g (pv 0) (q7o (q0i q1n (pv 1) q0a) q0b))) q0b))))))),?_⟩
 refine⟨_,rfl,_,rfl,a,ns,k,rfl,hS,h0,by omega,fun z z0 z1=>⟨z,rfl,z0,z1,fun v1 H1 t1 s1=>?_⟩⟩
 obtain⟨p1,i,j,rfl,hp1,hij,hi,hj⟩:=t1
 have hS1:=SqL.same hS s1
 refine⟨p1,_,rfl,SqT.of hp1,rfl,_,_,rfl,_,_,rfl,rfl,?_⟩
 refine⟨_,rfl,_,rfl,_,rfl,_,rfl,_,_,rfl,rfl,a,ns,k+1,rfl,hS1,by omega,by omega,fun y y0 y1=>⟨y,rfl,y0,fun v2 H2 t2 s2=>?_⟩⟩
 have hS2:=SqL.same hS1 s2
 refine⟨_,rfl,_,rfl,_,_,rfl,rfl,a,ns,k+2,rfl,hS2,by omega,by omega,fun v3 H3 t3 s3=>⟨q4a (by show 4≤1000; decide),fun p hp=>?_⟩⟩
 have s4:=q0g (o:=HO.tup [V.int i,V.int j,v2,v3]) hp
 exact q _ _ ⟨p,i,j,v2,v3,rfl,q0f,hi,hj,t2.same (s3.trans s4),t3.same s4⟩ ((s1.trans s2).trans (s3.trans s4))
theorem z3w:bootBuiltins "max" = some (.builtin "max"):=by decide +kernel
noncomputable def j6f (K:Frag):Sp:=fun vs H Q _=>∃ (x:Str) (a:Addr) (ns:List Int) (k:Int),vs=[.str x,.ref a,.int k]∧(x = "ask" ∨ x = "voice" ∨ x = "held" ∨ x = "pack" ∨ x = "hand")∧SqL K H a (ns.map V.int)∧0≤k∧k≤810∧∀ v H',ThP q2o H' v→q1b H H'→Q v H'
theorem j1l:FnScope ["_law_kind_here", "_law_script", "_law_at", "_law_number", "_law_one", "_law_other", "_law_head", "_law_place", "_law_last", "_law_more", "_law_pack_here", "_law_entries"] ["_law_kind_here", "_law_script", "_law_at"] (q0e q3x):=fSc
theorem x7d {f:Addr} {fd:FuncData} (F:Fun K "_law_between_by" "_law_between_by" q3x f fd) (T:Txt mg) (hmx:mg "max" = none) (CM:Cal P w K mg base "_law_mixed" 2 ["_law_script", "_law_k"] (q6w K)) (CU:Cal P w K mg base "_law_number_by" 1 ["_law_number", "_law_least"] x3a)
  (CD:Cal P w K mg base "_law_stand_by" 2 ["_law_number"] x7y) (CP:Cal P w K mg base "_law_pack_by" 5 ["_law_script", "_law_at"] (z0j K 7000 j5v)) (CE:Cal P w K mg base "_law_entry_by" 5 ["_law_script", "_law_at"] (z0j K 880 (ThP q3r))):FnOk P w K mg base CX0 6 f fd ["_law_kind_here", "_law_script", "_law_at"] (j6f K):=by
 refine F.ok j1l (fun vs H Q E ⟨_,_,_,_,e,_⟩=>by subst e; rfl) (fun _ A _ s H vs Q E hr h=>?_)
 obtain⟨x,a,ns,k,rfl,hx,hS,h0,h1,q⟩:=h
 have r1:=hr.mono (show 1≤5 by decide)
 have r2:=hr.mono (show 2≤5 by decide)
 refine⟨_,@q0x _ _ _ _ _ (q0z (i:=3) j1l.nd (by rfl) (by exact Or.inl rfl) (q0h CM r2 (q1g (pv 1) (q1g (pv 2) q0b))))
  (@q0x _ _ _ _ _ (q0z (i:=4) j1l.nd (by rfl) (by exact Or.inl rfl) (q0i q1k (pv 3) q0a))
  (@q0x _ _ _ _ _ (q0z (i:=5) j1l.nd (by rfl) (by exact Or.inl rfl) (q0i q1k (q0i q1n (q0i q1n (pv 4) q0a) (q0i q1k (q0i q1u (pv 3) q0a) q0a)) q0a))
  (@q0x _ _ _ _ _ (q0z (i:=6) j1l.nd (by rfl) (by exact Or.inl rfl) (q2x (q1g (pv 0) (q1g (pv 4) (q1g (pv 5) (q7n (q0h CU r1 (q7n (q0h CM r2 (q1g (pv 1) (q7o (q0i q1n (pv 2) q0a) q0b))) (q5x q0a q0b))) q0b))))))
  (@q0x _ _ _ _ _ (z2w (q0h CD r2 (q7n (q0h CM r2 (q1g (pv 1) (q7o (q0i q1n (pv 2) q0a) q0b))) q0b)) (x5h (n:=2) (by rfl) (q1x (q1i (i:=7) j1l.nd (by rfl) (by exact Or.inl rfl)) (q1x (q1i (i:=8) j1l.nd (by rfl) (by exact Or.inl rfl)) q6b))))
  (@q0x _ _ _ _ _ (q0z (i:=9) j1l.nd (by rfl) (by exact Or.inl rfl) (q0h CM r2 (q1g (pv 1) (q7o (q0i q1n (pv 2) q0a) q0b))))
  (@q0x _ _ _ _ _ (q1r (q0t q1w (pv 0) q0n (q0r _)) (q0p (q0l (q0i q9p (pv 6) (q2x (q1g (pv 7) (q1g (pv 8) q0b)))))) (q0s))
  (@q0x _ _ _ _ _ (q1r (q0t q1w (pv 0) q0n (q0r _)) (q0p (q0l (q0i q9p (pv 6) (q2x (w5a (q1v q1w (q0i q1k (pv 9) q0a) q0a (q0r _)) q0b))))) (q0s))
  (@q0x _ _ _ _ _ (q1r (q0t q1w (pv 0) q0n (q0r _)) (q0p (q0l (q0i q9p (pv 6) (q2x (w5a (q1v q1w (q0i q1k (pv 9) q0a) q0a (q0r _)) (q7n (q0h CU r1 (q7o (q0i q1u (pv 9) q0a) (q5x q0a q0b))) q0b)))))) (q0s))
  (@q0x _ _ _ _ _ (q1r (q0t q1w (pv 0) q0n (q0r _)) (q1e (q0z (i:=10) j1l.nd (by rfl) (by exact Or.inl rfl) (q0h CP hr (q1g (pv 1) (q7o (q0i q1n (pv 2) q0a) q0b)))) (q0p (q0l (q0i q9p (pv 6) (q2x (j9j (q2x (q7n (q0q (x9b (by rfl)) (by rfl) hmx z3w (q5x q0a (q4p (q0u q0o (pv 10) q0a q2q) q0b))) (q7n (q0q (x9b (by rfl)) (by rfl) hmx z3w (q5x q0a (q4p (q0u q0o (pv 10) q0a q2q) q0b))) (q4p (q0u q0o (pv 10) q0a q2q) (q4p (q0u q0o (pv 10) q0a q2q) q0b))))) q0b)))))) (q0s))
  (@q0x _ _ _ _ _ (q0z (i:=11) j1l.nd (by rfl) (by exact Or.inl rfl) (q4f q3y (by rfl) T.tuple q2m (q0c (q3u (NB:=["_law_k", "_law_script", "_law_at"]) (n:=1) (fr:=[1,2]) (x2t (outer:=q0e q3x) (x := "_law_script") (y := "_law_at") (by rfl) (by decide +kernel) (by rfl) (by rfl) (by rfl) (by rfl) (by rfl) (by rfl) (by rfl)) (by rfl)
    (x1w (by rfl) T.range (q7o (q0i q1k (pv 9) q0a) q0b)) (fun _ _ _ _ _=>q1i (i:=0) (show (["_law_k", "_law_script", "_law_at"]:List Str).Nodup by decide +kernel) (by rfl) (by exact Or.inl rfl)) (fun _ _ _ _ _=>q2u)
    (fun _ _ _ _ _=>q0h CE hr (q1g (pv 1) (q7o (q0i q1n (q0i q1n (pv 2) q0a) (q0i q7h q0a (pv 0))) q0b)))) q0b)))
  (@q1h _ _ _ (q0l (q0i q9p (pv 6) (q2x (q1g (pv 7) (q1g (pv 8) (q1g (pv 11) (q7n (q0h CU r1 (q7o (q0i q1u (pv 9) q0a) (q5x q0a q0b))) q0b)))))))))))))))))),?_⟩
 obtain⟨a0,a1⟩:=q2d k (m:=9) (by decide)
 refine⟨_,rfl,_,rfl,a,ns,k,rfl,hS,h0,by omega,fun n n0 n1=>?_⟩
 refine⟨_,rfl,_,_,rfl,rfl,(by show (0:Int) < 9; decide),?_⟩
 refine⟨_,rfl,_,_,rfl,rfl,_,rfl,_,_,rfl,rfl,⟨by decide,by decide⟩,_,_,rfl,rfl,(by show (0:Int) < 8; decide),_,_,rfl,rfl,_,_,rfl,rfl,(by show (0:Int) < 9; decide),?_⟩
 obtain⟨o1,ho1⟩:∃ o1,o1=n % 9:=⟨_,rfl⟩
 obtain⟨o2,ho2⟩:∃ o2,o2=(o1+1+n / 9 % 8) % 9:=⟨_,rfl⟩
 show z9c 5 (V.int ((n % 9+1+n / 9 % 8) % 9)) ([some (V.str x),some (V.ref a),some (V.int k),some (V.int n),some (V.int (n % 9))]++[none,none,none,none,none,none,none]) H _
 rw [← ho1,← ho2]
 have k1:0≤o1∧o1 < 9:=by have:=q2d n (m:=9) (by decide); omega
 have k2:0≤o2∧o2 < 9:=by have:=q2d (o1+1+n / 9 % 8) (m:=9) (by decide); omega
 have k12:o1≠o2:=by omega
 refine⟨_,rfl,_,rfl,_,rfl,_,rfl,_,rfl,_,_,rfl,rfl,a,ns,k+1,rfl,hS,by omega,by omega,fun n2 n20 n21=>⟨n2,1,rfl,n20,n21,by decide,by decide,fun z hz1 hz=>⟨q4a (by show 4≤1000; decide),fun p hp=>?_⟩⟩⟩
 have s1:=q0g (o:=HO.tup [V.str x,V.int o1,V.int o2,V.int z]) hp
 have hS1:=SqL.same hS s1
 refine⟨_,rfl,_,rfl,_,_,rfl,rfl,a,ns,k+2,rfl,hS1,by omega,by omega,fun n3 n30 n31=>⟨n3,rfl,n30,n31,fun v3 H3 t3 s3=>?_⟩⟩
 obtain⟨p3,i3,j3,rfl,hp3,hij3,hi3,hj3⟩:=t3
 refine⟨p3,_,rfl,SqT.of hp3,rfl,_,_,rfl,_,_,rfl,rfl,?_⟩
 have hS3:=SqL.same hS1 s3
 refine⟨_,rfl,_,rfl,_,_,rfl,rfl,a,ns,k+3,rfl,hS3,by omega,by omega,fun m m0 m1=>?_⟩
 have hd3:H3 p=some (.tup [V.str x,V.int o1,V.int o2,V.int z]):=s3 _ _ q0f
 have s03:=s1.trans s3
 generalize hHe:upd H p (HO.tup [V.str x,V.int o1,V.int o2,V.int z])=He at *
 have xl:x.length≤200:=by rcases hx with rfl | rfl | rfl | rfl | rfl <;> decide +kernel
 have fin:∀ (ys:List V) (ds:List D) (H4:Hp),ys.length≤12→IsL 200 H4 ys ds→GL6 ds→q2o (.tup (.str x::.int o1::.int o2::.int z::ds))=true→q1b H3 H4→∀ p5,H4 p5=none→j9x (.ref p) (.ref p5) (upd H4 p5 (.tup ys)) Q:=by
  intro ys ds H4 hl ty g hp4 s4 p5 h5
  have s5:=q0g (o:=HO.tup ys) h5
  refine⟨p,p5,_,ys,rfl,rfl,s5 _ _ (s4 _ _ hd3),q0f,q4a (by show 4+ys.length≤1000; omega),fun p6 H6 e6 s6=>?_⟩
  exact q _ _ (ThP.tup (ds:=.str x::.int o1::.int o2::.int z::ds) e6 (by rw [List.length_append]; show 4+ys.length≤200; omega) (.cons (.str _ xl) (.cons (.int _) (.cons (.int _) (.cons (.int _) (ty.same (s5.trans s6)))))) hp4 (.cons (.str _) (.cons (.int (S6.low (by omega) (by omega))) (.cons (.int (S6.low (by omega) (by omega))) (.cons (.int hz) g))))) ((s03.trans s4).trans (s5.trans s6))
 have go:∀ {y:Str} {A B:Prop},(x=y→A)→(x≠y→B)→if decide (V.str x=V.str y)=true then A else B:=fun {y A B} f g=>by
  by_cases e:x=y
  ·rw [if_pos (decide_eq_true (by rw [e]))]; exact f e
  ·rw [if_neg (fun z=>e (V.str.inj (of_decide_eq_true z)))]; exact g e
 refine⟨_,rfl,rfl,_,rfl,go (fun e0=>?_) (fun e0=>?_)⟩
 ·subst e0
  exact⟨_,rfl,_,rfl,_,rfl,q4a (by show 2≤1000; decide),fun p5 h5=>fin _ [.int i3,.int j3] _ (by show 2≤12; decide) (.cons (.int _) (.cons (.int _) .nil)) (.cons (.int hi3) (.cons (.int hj3) .nil)) (j6h k1 k2 k12 hz1 hij3) (q1b.refl _) p5 h5⟩
 refine⟨_,rfl,rfl,_,rfl,go (fun e1=>?_) (fun e1=>?_)⟩
 ·subst e1
  exact⟨_,rfl,_,rfl,_,_,rfl,rfl,(by show (0:Int) < 2; decide),rfl,q4a (by show 1≤1000; decide),fun p5 h5=>fin _ [.bl _] _ (by show 1≤12; decide) (.cons (.bl _) .nil) (.cons (.bl _) .nil) (j1j _ k1 k2 k12 hz1) (q1b.refl _) p5 h5⟩
 refine⟨_,rfl,rfl,_,rfl,go (fun e2=>?_) (fun e2=>?_)⟩
 ·subst e2
  exact⟨_,rfl,_,rfl,_,_,rfl,rfl,(by show (0:Int) < 2; decide),rfl,_,rfl,_,_,rfl,rfl,⟨by decide,by decide⟩,m / 2,0,rfl,Int.ediv_nonneg m0 (by decide),by omega,by decide,by decide,fun z2 hz21 hz2=>⟨q4a (by show 2≤1000; decide),fun p5 h5=>fin _ [.bl _,.int z2] _ (by show 2≤12; decide) (.cons (.bl _) (.cons (.int _) .nil)) (.cons (.bl _) (.cons (.int hz2) .nil)) (j2q _ k1 k2 k12 hz1 hz21) (q1b.refl _) p5 h5⟩⟩
 refine⟨_,rfl,rfl,_,rfl,go (fun e3=>?_) (fun e3=>?_)⟩
 ·subst e3
  refine⟨_,rfl,_,rfl,_,_,rfl,rfl,a,ns,k+4,rfl,hS3,by omega,by omega,fun v4 H4 t4 s4=>?_⟩
  obtain⟨q4,i4,j4,sv,st,rfl,hq4,hi4,hj4,ts4,tt4⟩:=t4
  refine⟨_,rfl,_,rfl,q4,_,0,_,rfl,rfl,SqT.of hq4,q0m (j:=0) rfl,_,_,rfl,_,rfl,q4,_,1,_,rfl,rfl,SqT.of hq4,q0m (j:=1) rfl,_,_,rfl,_,rfl,q4,_,2,_,rfl,rfl,SqT.of hq4,q0m (j:=2) rfl,_,rfl,q4,_,3,_,rfl,rfl,SqT.of hq4,q0m (j:=3) rfl,q4a (by show 4≤1000; decide),fun p4 h4=>?_⟩
  refine⟨q4a (by show 1≤1000; decide),fun p5 h5=>?_⟩
  have s5:=q0g (H:=H4) (p:=p4) (o:=HO.tup [V.int (if i4 > 1 then i4 else 1),V.int (if j4 > 1 then j4 else 1),sv,st]) h4
  obtain⟨dA,IA,pA,gA⟩:=ts4.same s5
  obtain⟨dB,IB,pB,gB⟩:=tt4.same s5
  exact fin _ [.tup [.int (if i4 > 1 then i4 else 1),.int (if j4 > 1 then j4 else 1),dA,dB]] _ (by show 1≤12; decide) (.cons (.tup q0f (by show 4≤200; decide) (.cons (.int _) (.cons (.int _) (.cons IA (.cons IB .nil))))) .nil) (.cons (.tup (.cons (.int hi4.cap) (.cons (.int hj4.cap) (.cons gA (.cons gB .nil))))) .nil) (j3n k1 k2 k12 hz1 (by split <;> omega) (by split <;> omega) pA pB) (s4.trans s5) p5 h5
 obtain rfl:x = "hand" := by
  rcases hx with h | h | h | h | h
  ·exact (e0 h).elim
  ·exact (e1 h).elim
  ·exact (e2 h).elim
  ·exact (e3 h).elim
  ·exact h
 obtain⟨g0,g1⟩:=q2d m (m:=6) (by decide)
 refine⟨_,rfl,_,_,rfl,rfl,(by show (0:Int) < 6; decide),_,rfl,?_,?_,z8s (n:=(m % 6).toNat) (k:=1) (ThP q3r) ThP.monoT (by rw [sizeLine_eq]; omega) (fun i H2 hi _=>hi) (fun H2 _=>Nat.le_refl _) ?_ ?_⟩
 ·omega
 ·omega
 ·intro i H4 t v H5 S hi s4 ht y hR _
  obtain⟨rfl,rfl⟩:=y
  obtain⟨t0,rfl⟩:=q5c ht
  refine⟨_,rfl,_,rfl,_,_,rfl,rfl,_,rfl,_,_,rfl,rfl,.inl ⟨by decide,by decide⟩,_,_,rfl,rfl,a,ns,_,rfl,SqL.same hS3 s4,?_,?_,fun v6 H6 t6 s6=>?_⟩
  ·omega
  ·omega
  ·exact hR [some (.int (0+(i:Int)))] H6 _ rfl s6 t6
 ·intro D1 H4 ys s4 hD hd hl hR
  refine⟨D1,ys,rfl,.inl ⟨SqL.of hd,fun p5 h5=>?_⟩⟩
  have s5:=q0g (o:=HO.tup ys) h5
  refine⟨_,rfl,_,rfl,_,rfl,_,rfl,_,rfl,_,_,rfl,rfl,⟨by decide,by decide⟩,m / 6,0,rfl,Int.ediv_nonneg m0 (by decide),by omega,by decide,by decide,fun z2 hz21 hz2=>⟨q4a (by show 4≤1000; decide),fun p6 h6=>?_⟩⟩
  obtain⟨ds,r5,a5,g5⟩:=z9t fun u hu=>(hR u hu).same s5
  have hl5:ds.length≤5:=by have:=r5.length; omega
  exact fin _ [.int i3,.int j3,.tup ds,.int z2] _ (by show 4≤12; decide) (.cons (.int _) (.cons (.int _) (.cons (.tup q0f (by omega) r5) (.cons (.int _) .nil)))) (.cons (.int hi3) (.cons (.int hj3) (.cons (.tup g5) (.cons (.int hz2) .nil)))) (j2o k1 k2 k12 hz1 hij3 (by show (ds.all q3r && decide (ds.length≤5))=true; rw [a5,decide_eq_true hl5]; rfl) hz21) (s4.trans s5) p6 h6
theorem j9l:FnScope ["_law_script", "_law_at", "_law_kinds", "_law_number", "_law_kind_here", "_law_caller", "_law_count"] ["_law_script", "_law_at"] (q0e q5w):=fSc
theorem x9k {f:Addr} {fd:FuncData} (F:Fun K "_law_letter_by" "_law_letter_by" q5w f fd) (CM:Cal P w K mg base "_law_mixed" 2 ["_law_script", "_law_k"] (q6w K)) (CU:Cal P w K mg base "_law_number_by" 1 ["_law_number", "_law_least"] x3a)
  (CN:Cal P w K mg base "_law_name_by" 1 ["_law_number"] q9i) (CV:Cal P w K mg base "_law_value_by" 2 ["_law_number"] z3x) (CD:Cal P w K mg base "_law_deed_by" 3 ["_law_script", "_law_at"] (z0j K 900 (ThP q6j))) (CB:Cal P w K mg base "_law_between_by" 6 ["_law_kind_here", "_law_script", "_law_at"] (j6f K)):FnOk P w K mg base CX0 7 f fd ["_law_script", "_law_at"] (z0j K 800 (ThP q2o)):=by
 refine F.ok j9l q7z (fun _ A _ s H vs Q E hr h=>?_)
 obtain⟨a,ns,k,rfl,hS,h0,h1,q⟩:=h
 obtain⟨gU,dU,GU,mU,kU,bU⟩:=CU.ex
 have r1:=hr.mono (show 1≤6 by decide)
 have r2:=hr.mono (show 2≤6 by decide)
 have r3:=hr.mono (show 3≤6 by decide)
 refine⟨_,@j8h _ _ _ _ _ (j0v (i:=2) j9l.nd (by rfl) (by exact Or.inl rfl) (x4t (q1q (q1q (q1q (q1q (q1q (q1q (q1q (q1q q4g))))))))) w4e)
  (@q0x _ _ _ _ _ (q0z (i:=3) j9l.nd (by rfl) (by exact Or.inl rfl) (q0h CM r2 (q1g (pv 0) (q1g (pv 1) q0b))))
  (@q0x _ _ _ _ _ (q0z (i:=4) j9l.nd (by rfl) (by exact Or.inl rfl) (q0u q5i (pv 2) (q0i q1k (pv 3) q0a) z5d))
  (@q0x _ _ _ _ _ (q1r (q0t x5p (q0i q1k (pv 3) q0a) q0a (q0r _)) (q0p (q0l (q0h CB hr (q1g (pv 4) (q1g (pv 0) (q7o (q0i q1n (pv 1) q0a) q0b)))))) (q0s))
  (@q0x _ _ _ _ _ (q0z (i:=5) j9l.nd (by rfl) (by exact Or.inl rfl) (q0h CN r1 (q7n (q0h CM r2 (q1g (pv 0) (q7o (q0i q1n (pv 1) q0a) q0b))) q0b)))
  (@q0x _ _ _ _ _ (q0z (i:=6) j9l.nd (by rfl) (by exact Or.inl rfl) (q0h CU r1 (q7n (q0h CM r2 (q1g (pv 0) (q7o (q0i q1n (pv 1) q0a) q0b))) (q5x q0a q0b))))
  (@q0x _ _ _ _ _ (q1r (q0t q1w (pv 4) q0n (q0r _)) (q0p (q0l (q2x (q1g (pv 4) (q1g (pv 5) (q7o (q0i q1k (q0i q1u (pv 3) q0a) q0a) (q1g (pv 6) (q7n (q0h CD r3 (q1g (pv 0) (q7o (q0i q1n (pv 1) q0a) q0b))) q0b)))))))) (q0s))
  (@q0x _ _ _ _ _ (q1r (q0t q1w (pv 4) q0n (q0r _)) (q0p (q0l (q2x (q1g (pv 4) (q7o (q0i q1k (q0i q1u (pv 3) q0a) q0a) (q1g (pv 5) (q1g (pv 6) (q7n (q0h CV r2 (q7n (q0h CM r2 (q1g (pv 0) (q7o (q0i q1n (pv 1) q0a) q0b))) q0b)) q0b)))))))) (q0s))
  (@q1h _ _ _ (j9d (q6s (j9g (pv 4) (j1n (q0i q1k (q0i q1u (pv 3) q0a) q0a) (j9g (pv 5) (j9g (pv 6) (w2y (w0h q5i (x4t (w1d (x2c (x2c (x2c (x2c (x2c (x2c (x2c (x2c (x2c q4g))))))))))) (q0i q1k (q0i q1u (pv 3) q0a) q0a) z5d) q4g))))))))))))))),?_⟩
 refine⟨q4a (by show 8≤1000; decide),fun p hp=>?_⟩
 have s1:=q0g (o:=HO.lst [V.str "ask",V.str "voice",V.str "hand",V.str "pack",V.str "held",V.str "wish",V.str "told",V.str "away"]) hp
 have hS1:=SqL.same hS s1
 refine⟨_,rfl,_,rfl,a,ns,k,rfl,hS1,h0,by omega,fun n n0 n1=>?_⟩
 obtain⟨e0,e1⟩:=q2d n (m:=8) (by decide)
 obtain⟨wd,hw,hm⟩:=q5s (xs:=[V.str "ask",V.str "voice",V.str "hand",V.str "pack",V.str "held",V.str "wish",V.str "told",V.str "away"]) (i:=n % 8) e0 (by show n % 8 < ((8:Nat):Int); omega)
 obtain⟨x,rfl,hx,hx5,hx8⟩:∃ y:Str,wd=.str y∧y.length≤200∧(n % 8 < 5→y = "ask" ∨ y = "voice" ∨ y = "held" ∨ y = "pack" ∨ y = "hand")∧(¬ n % 8 < 5→y = "wish" ∨ y = "told" ∨ y = "away"):=by
  have e8:n % 8=0∨n % 8=1∨n % 8=2∨n % 8=3∨n % 8=4∨n % 8=5∨n % 8=6∨n % 8=7:=by omega
  rcases e8 with e | e | e | e | e | e | e | e
  all_goals rw [e] at hw
  ·cases hw; exact⟨"ask",rfl,by decide +kernel,fun _=>.inl rfl,fun h=>absurd e (by omega)⟩
  ·cases hw; exact⟨"voice",rfl,by decide +kernel,fun _=>.inr (.inl rfl),fun h=>absurd e (by omega)⟩
  ·cases hw; exact⟨"hand",rfl,by decide +kernel,fun _=>.inr (.inr (.inr (.inr rfl))),fun h=>absurd e (by omega)⟩
  ·cases hw; exact⟨"pack",rfl,by decide +kernel,fun _=>.inr (.inr (.inr (.inl rfl))),fun h=>absurd e (by omega)⟩
  ·cases hw; exact⟨"held",rfl,by decide +kernel,fun _=>.inr (.inr (.inl rfl)),fun h=>absurd e (by omega)⟩
  ·cases hw; exact⟨"wish",rfl,by decide +kernel,fun h=>absurd e (by omega),fun _=>.inl rfl⟩
  ·cases hw; exact⟨"told",rfl,by decide +kernel,fun h=>absurd e (by omega),fun _=>.inr (.inl rfl)⟩
  ·cases hw; exact⟨"away",rfl,by decide +kernel,fun h=>absurd e (by omega),fun _=>.inr (.inr rfl)⟩
 refine⟨_,rfl,_,rfl,_,_,rfl,rfl,(by show (0:Int) < 8; decide),p,_,_,_,rfl,rfl,SqL.of q0f,hw,?_⟩
 generalize hHe:upd H p (HO.lst [V.str "ask",V.str "voice",V.str "hand",V.str "pack",V.str "held",V.str "wish",V.str "told",V.str "away"])=He at *
 refine⟨_,rfl,_,_,rfl,rfl,(by show (0:Int) < 8; decide),_,_,rfl,rfl,_,rfl,x5d (fun h5=>?_) (fun h5=>?_)⟩
 ·exact⟨_,rfl,_,rfl,_,rfl,_,_,rfl,rfl,x,a,ns,k+1,rfl,hx5 (of_decide_eq_true h5),hS1,by omega,by omega,fun v' H' t' s'=>q v' H' t' (s1.trans s')⟩
 refine⟨_,rfl,_,rfl,_,_,rfl,rfl,a,ns,k+1,rfl,hS1,by omega,by omega,fun n2 n20 n21=>⟨n2,rfl,n20,fun y H3 hy s3=>?_⟩⟩
 have hS3:=SqL.same hS1 s3
 refine⟨_,rfl,_,rfl,_,_,rfl,rfl,a,ns,k+2,rfl,hS3,by omega,by omega,fun n4 n40 n41=>⟨n4,1,rfl,n40,n41,by decide,by decide,fun z hz1 hz=>?_⟩⟩
 have k9:0≤n / 8 % 9∧n / 8 % 9 < 9:=q2d (n / 8) (m:=9) (by decide)
 have m9:S6 (n / 8 % 9):=S6.low (by omega) (by omega)
 have hx3:=hx8 fun h=>h5 (decide_eq_true h)
 have go:∀ {y:Str} {A B:Prop},(x=y→A)→(x≠y→B)→if decide (V.str x=V.str y)=true then A else B:=fun {y A B} f g=>by
  by_cases e:x=y
  ·rw [if_pos (decide_eq_true (by rw [e]))]; exact f e
  ·rw [if_neg (fun z=>e (V.str.inj (of_decide_eq_true z)))]; exact g e
 have fin:∀ (ys:List V) (ds:List D) (H4:Hp),ys.length=5→IsL 200 H4 ys ds→GL6 ds→q2o (.tup ds)=true→q1b H3 H4→ys.length≤sizeLine∧∀ p5,H4 p5=none→Q (.ref p5) (upd H4 p5 (.tup ys)):=fun ys ds H4 hl ty g hp4 s4=>⟨q4a (by omega),fun p5 h5 =>
  q _ _ (ThP.tup q0f (by omega) (ty.same (q0g h5)) hp4 g) ((s1.trans s3).trans (s4.trans (q0g h5)))⟩
 refine⟨_,rfl,rfl,_,rfl,go (fun e0=>?_) (fun e0=>?_)⟩
 ·refine⟨_,rfl,_,rfl,_,rfl,_,_,rfl,rfl,⟨by decide,by decide⟩,_,_,rfl,rfl,(by show (0:Int) < 9; decide),_,rfl,_,rfl,_,rfl,_,_,rfl,rfl,a,ns,k+3,rfl,hS3,by omega,by omega,fun v4 H4 t4 s4=>?_⟩
  subst e0
  obtain⟨dA,IA,pA,gA⟩:=t4
  exact fin _ [.str "wish",.str y,.int (n / 8 % 9),.int z,dA] _ rfl (.cons (.str _ hx) (.cons (.str _ (q6q hy)) (.cons (.int _) (.cons (.int _) (.cons IA .nil))))) (.cons (.str _) (.cons (.str _) (.cons (.int m9) (.cons (.int hz) (.cons gA .nil))))) (j4l hy k9 hz1 pA) s4
 refine⟨_,rfl,rfl,_,rfl,go (fun e1=>?_) (fun e1=>?_)⟩
 ·refine⟨_,rfl,_,rfl,_,_,rfl,rfl,⟨by decide,by decide⟩,_,_,rfl,rfl,(by show (0:Int) < 9; decide),_,rfl,_,rfl,_,rfl,_,rfl,_,_,rfl,rfl,a,ns,k+3,rfl,hS3,by omega,by omega,fun n5 n50 n51=>⟨n5,rfl,n50,n51,fun z5 hz5=>?_⟩⟩
  subst e1
  exact fin _ [.str "told",.int (n / 8 % 9),.str y,.int z,.int z5] _ rfl (.cons (.str _ hx) (.cons (.int _) (.cons (.str _ (q6q hy)) (.cons (.int _) (.cons (.int _) .nil))))) (.cons (.str _) (.cons (.int m9) (.cons (.str _) (.cons (.int hz) (.cons (.int hz5) .nil))))) (j3r _ hy k9 hz1) (q1b.refl _)
 refine⟨_,rfl,_,rfl,_,_,rfl,rfl,⟨by decide,by decide⟩,_,_,rfl,rfl,(by show (0:Int) < 9; decide),_,rfl,_,rfl,?_⟩
 refine⟨q4a (by show 10≤1000; decide),fun p6 h6=>?_⟩
 have s6:=q0g (o:=HO.lst [V.non,V.int 0,V.int 1,V.int 2,V.int 3,V.int 4,V.int 5,V.int 6,V.int 7,V.int 8]) h6
 obtain⟨f0,f1⟩:=q2d (n / 72) (m:=10) (by decide)
 obtain⟨u,eu,hu⟩:=q5s (xs:=[V.non,V.int 0,V.int 1,V.int 2,V.int 3,V.int 4,V.int 5,V.int 6,V.int 7,V.int 8]) (i:=n / 72 % 10) f0 (by show n / 72 % 10 < ((10:Nat):Int); omega)
 obtain⟨dU,IU,pU,gU⟩:∃ d,(∀ H,Is 200 H u d)∧q8m d=true∧G6 d:=by
  simp only [List.mem_cons,List.not_mem_nil,or_false] at hu
  rcases hu with rfl | rfl | rfl | rfl | rfl | rfl | rfl | rfl | rfl | rfl
  ·exact⟨.non,fun _=>.non,rfl,.non⟩
  all_goals exact⟨.int _,fun _=>.int _,rfl,.int (S6.low (by decide) (by decide))⟩
 refine⟨_,rfl,_,_,rfl,rfl,⟨by decide,by decide⟩,_,_,rfl,rfl,(by show (0:Int) < 10; decide),p6,_,_,u,rfl,rfl,SqL.of q0f,eu,?_⟩
 obtain rfl:x = "away" := by
  rcases hx3 with h | h | h
  ·exact (e0 h).elim
  ·exact (e1 h).elim
  ·exact h
 exact fin _ [.str "away",.int (n / 8 % 9),.str y,.int z,dU] _ rfl (.cons (.str _ hx) (.cons (.int _) (.cons (.str _ (q6q hy)) (.cons (.int _) (.cons (IU _) .nil))))) (.cons (.str _) (.cons (.int m9) (.cons (.str _) (.cons (.int hz) (.cons gU .nil))))) (j4g hy k9 hz1 pU) s6
end
end Kz
namespace K1
open PySem L2 Kp
section
variable {P:Program} {w:World} {K:Frag} {mg:Str→Option Value} {base:Heap}
noncomputable def j1g:Sp:=fun vs H Q _=>∃ n,vs=[.int n]∧0≤n∧∀ x:Str,x.length=1→Q (.str x) H
theorem j7l:FnScope ["_law_number", "_law_some"] ["_law_number"] (q0e q7b):=fSc
theorem z5q {f:Addr} {fd:FuncData} (F:Fun K "_law_sign_by" "_law_sign_by" q7b f fd):FnOk P w K mg base CX0 1 f fd ["_law_number"] j1g:=by
 refine F.ok j7l (fun vs H Q E ⟨_,e,_⟩=>by subst e; rfl) (fun _ A _ s H vs Q E hr h=>?_)
 obtain⟨n,rfl,h0,q⟩:=h
 refine⟨_,@q0x _ _ _ _ _ (q1r (q0t q1w (q0i q1k (pv 0) q0a) q0a (q0r _)) (@q1h _ _ _ (q0l (q0u x2e q0n (q0i q1k (q0i q1u (pv 0) q0a) q0a) z5d))) q0s)
  (@q0x _ _ _ _ _ (q0z (i:=1) j7l.nd (by rfl) (by exact Or.inl rfl) q0n)
  (@q0x _ _ _ _ _ (q0z (i:=1) j7l.nd (by rfl) (by exact Or.inl rfl) (q0i q0j (pv 1) q0n))
  (@q1h _ _ _ (q0l (q0u x2e (pv 1) (q0i q1k (q0i q1u (pv 0) q0a) q0a) z5d))))),?_⟩
 have one:∀ c:Nat,(⟨#[c]⟩:Str).length=1:=fun _=>rfl
 refine⟨_,rfl,_,_,rfl,rfl,(by show (0:Int) < 2; decide),rfl,_,rfl,x5d (fun _=>?_) (fun _=>?_)⟩
 ·obtain⟨a0,a1⟩:=q2d (n / 2) (m:=12) (by decide)
  have l12:("0123456789 -" : Str).length=12:=by decide +kernel
  obtain⟨c,hc,_⟩:=q5s (xs:=("0123456789 -" : Str).cps.toList) a0 (by rw [Array.length_toList]; exact Int.lt_of_lt_of_le a1 (by show (12:Int)≤(("0123456789 -" : Str).length:Int); rw [l12]; decide))
  exact⟨_,rfl,_,_,rfl,rfl,⟨by decide,by decide⟩,_,_,rfl,rfl,(by show (0:Int) < 12; decide),_,_,c,rfl,rfl,(by rw [l12,sizeLine_eq]; decide),hc,q _ (one c)⟩
 ·obtain⟨y1,e1⟩:∃ y:Str,y = " !\"#$&'()*+,-./0123456789:;<=>?@ABCDEFGHIJKLMNOPQRSTUVWXYZ[\\]^_`" := ⟨_,rfl⟩
  obtain⟨y2,e2⟩:∃ y:Str,y = "abcdefghijklmnopqrstuvwxyz{|}~\n\t" := ⟨_,rfl⟩
  have l1:y1.length+y2.length=96:=by rw [e1,e2]; decide +kernel
  have lapp:(y1++y2).length=96:=by rw [q3t]; exact l1
  obtain⟨a0,a1⟩:=q2d (n / 2) (m:=96) (by decide)
  obtain⟨c,hc,_⟩:=q5s (xs:=(y1++y2).cps.toList) a0 (by rw [Array.length_toList]; exact Int.lt_of_lt_of_le a1 (by show (96:Int)≤((y1++y2).length:Int); rw [lapp]; decide))
  refine⟨_,rfl,_,_,rfl,rfl,(by rw [← e1,← e2,l1,sizeLine_eq]; decide),?_⟩
  rw [← e1,← e2]
  exact⟨_,rfl,_,rfl,_,_,rfl,rfl,⟨by decide,by decide⟩,_,_,rfl,rfl,(by show (0:Int) < 96; decide),_,_,c,rfl,rfl,(by rw [lapp,sizeLine_eq]; decide),hc,q _ (one c)⟩
end
end K1
namespace L2
open PySem PySem.Spec PyProof.Rows
end L2
namespace K1
open PySem L2 Kp
noncomputable abbrev Lg:=List (V × Int)
section
variable {E O M:Lg} {hb rb b p n:Nat}
end
end K1
namespace L2
open PySem PySem.Spec PyProof.Rows
theorem x7r {X:Cx}:OpR X (binaryOp .Mult) (fun x y H Q=>∃ z n,x=.str z∧y=.int n∧z.length≤100∧n≤10000 ∧ -1000≤n∧Q (.str (Txt.mul z n)) H):=by
 intro pins s σ H x y v u Q I rx ry h
 obtain⟨z,n,rfl,rfl,hz,hn,hn2,q⟩:=h
 obtain⟨t,rfl⟩:=rx
 obtain⟨t',rfl⟩:=ry
 refine SB.mul ⟨?_,fun h1 _=>?_,fun h1 _=>?_⟩ fun t' k=>⟨.str _,H,I.tok _,⟨_,rfl⟩,q⟩
 ·rw [decide_eq_false (by omega),decide_eq_false (by omega)]; rfl
 ·have h2:(1000000:Int)≤(2 ^ 63 - 1) / n:=by
   rw [Int.le_ediv_iff_mul_le (by omega)]
   omega
  omega
 ·unfold Builtin.Str.tooLong
  have:z.length*n.toNat≤100*10000:=Nat.mul_le_mul hz (by omega)
  have e:=sizeLine_eq
  rw [decide_eq_false_iff_not]
  omega
end L2
namespace K1
open PySem L2 Kp
section
variable {P:Program} {w:World} {K:Frag} {mg:Str→Option Value} {base:Heap}
noncomputable def z3p:Sp:=fun vs H Q _=>∃ (x:Str) (n:Int),vs=[.str x,.int n]∧0≤n∧x.length≤90000∧∀ (y:Str) H',y.length≤x.length+3000→q1b H H'→Q (.str y) H'
theorem j9s:FnScope ["_law_word", "_law_number", "_law_words"] ["_law_word", "_law_number"] (q0e q5h):=fSc
theorem x7u {f:Addr} {fd:FuncData} (F:Fun K "_law_other_word" "_law_other_word" q5h f fd):FnOk P w K mg base CX0 1 f fd ["_law_word", "_law_number"] z3p:=by
 refine F.ok j9s (fun vs H Q E ⟨_,_,e,_⟩=>by subst e; rfl) (fun _ A _ s H vs Q E hr h=>?_)
 obtain⟨x,n,rfl,h0,hx,q⟩:=h
 refine⟨_,@j8h _ _ _ _ _ (j0v (i:=2) j9s.nd (by rfl) (by exact Or.inl rfl) (x4t (q1q (q1q (q1q (q1q (q1q (q1q (q1q (q1q (q1q (q1q (q1q (q1q (q1q (q1q (q1q (q1q q4g))))))))))))))))) w4e)
  (@q1h _ _ _ (q0l (q0u q5i (q0i x4k (pv 2) (QE.h (x4t (j1n (q0i x7r q0n q0a) (j1n (q0i x7r q0n q0a) (j1n (q0i q0j q0n (pv 0)) (j1n (q0i q0j (pv 0) q0n) (j1n (q0i x7r q0n q0a) q4g)))))))) (q0i q1k (pv 1) q0a) z5d))),?_⟩
 refine⟨q4a (by show 16≤1000; decide),fun p hp=>?_⟩
 have s1:=q0g (o:=HO.lst [V.str "",V.str "0",V.str "00",V.str "01",V.str "-0",V.str "-1",V.str "+1",V.str "none",V.str "yes",V.str "no",V.str "True",V.str "get",V.str "set",V.str "open",V.str "seats",V.str "wish"]) hp
 have nine:∀ k:Int,(Txt.mul "9" k).length≤k.toNat:=fun k=>by
  have:=x7q "9" k
  rw [show ("9" : Str).length=1 from by decide +kernel,Nat.one_mul] at this
  exact this
 have l0:("0" : Str).length=1:=by decide +kernel
 refine⟨_,rfl,_,_,rfl,rfl,by decide,by decide,by decide,_,_,rfl,rfl,by decide,by decide,by decide,_,rfl,_,_,rfl,rfl,(by rw [l0,sizeLine_eq]; omega),_,rfl,_,_,rfl,rfl,(by rw [l0,sizeLine_eq]; omega),_,_,rfl,rfl,by decide,by decide,by decide,q4a (by show 5≤1000; decide),fun p2 hp2=>?_⟩
 have s2:=q0g (o:=HO.lst [V.str (Txt.mul "9" 60),V.str (Txt.mul "9" 61),V.str ("0" ++ x),V.str (x ++ "0"),V.str (Txt.mul "9" 3000)]) hp2
 refine⟨p,p2,_,_,rfl,rfl,s2 _ _ q0f,q0f,q4a (by show 21≤1000; decide),fun p3 hp3=>?_⟩
 obtain⟨a0,a1⟩:=q2d n (m:=21) (by decide)
 obtain⟨u,eu,hu⟩:=q5s (xs:=[V.str "",V.str "0",V.str "00",V.str "01",V.str "-0",V.str "-1",V.str "+1",V.str "none",V.str "yes",V.str "no",V.str "True",V.str "get",V.str "set",V.str "open",V.str "seats",V.str "wish",V.str (Txt.mul "9" 60),V.str (Txt.mul "9" 61),V.str ("0" ++ x),V.str (x ++ "0"),V.str (Txt.mul "9" 3000)]) (i:=n % 21) a0 (by show n % 21 < ((21:Nat):Int); omega)
 have hy:∃ y:Str,u=.str y∧y.length≤x.length+3000:=by
  rcases List.mem_append.mp (show u∈([V.str "",V.str "0",V.str "00",V.str "01",V.str "-0",V.str "-1",V.str "+1",V.str "none",V.str "yes",V.str "no",V.str "True",V.str "get",V.str "set",V.str "open",V.str "seats",V.str "wish"]:List V)++[V.str (Txt.mul "9" 60),V.str (Txt.mul "9" 61),V.str ("0" ++ x),V.str (x ++ "0"),V.str (Txt.mul "9" 3000)] from hu) with hm | hm
  ·have hs:∃ y:Str,u=.str y∧y.length≤10:=by
    simp only [List.mem_cons,List.not_mem_nil,or_false] at hm
    rcases hm with rfl | rfl | rfl | rfl | rfl | rfl | rfl | rfl | rfl | rfl | rfl | rfl | rfl | rfl | rfl | rfl <;> exact⟨_,rfl,by decide +kernel⟩
   obtain⟨y,e,hl⟩:=hs
   exact⟨y,e,by omega⟩
  ·simp only [List.mem_cons,List.not_mem_nil,or_false] at hm
   rcases hm with rfl | rfl | rfl | rfl | rfl
   ·exact⟨_,rfl,Nat.le_trans (nine 60) (by show 60≤_; omega)⟩
   ·exact⟨_,rfl,Nat.le_trans (nine 61) (by show 61≤_; omega)⟩
   ·exact⟨_,rfl,by rw [q3t,l0]; omega⟩
   ·exact⟨_,rfl,by rw [q3t,l0]; omega⟩
   ·exact⟨_,rfl,Nat.le_trans (nine 3000) (by show 3000≤_; omega)⟩
 obtain⟨y,rfl,hl⟩:=hy
 exact⟨_,rfl,_,_,rfl,rfl,(by show (0:Int) < 21; decide),p3,_,_,_,rfl,rfl,SqL.of q0f,eu,q y _ hl ((s1.trans s2).trans (q0g hp3))⟩
end
end K1
namespace Kp
open PySem PySem.Builtin PySem.Builtin.Str L2
theorem x6t {x y:Str} {c:Nat} (hy:y.cps=#[c]):Txt.startswith x y=decide ((cL x).head? = some c):=by
 obtain⟨⟨l⟩⟩:=x
 have h1:y.length=1:=by show y.cps.size=1; rw [hy]; rfl
 unfold Txt.startswith subAt
 rw [h1,hy]
 show (decide (0+1≤l.length) && ((⟨l⟩:Array Nat).extract 0 (0+1)==#[c]))=decide (l.head? = some c)
 cases l with
 | nil=>simp
 | cons a r =>
  have e:((⟨a::r⟩:Array Nat).extract 0 (0+1))=#[a]:=Array.ext' (by simp [List.extract])
  rw [e,Bool.eq_iff_iff]
  simp
theorem z5t {x:Str} (h:1≤x.length):cL (Txt.slice x (some 1) none)=(cL x).tail:=by
 have e:strSliceIndices (some 1) none 1 x.length=strSliceIndices (some ((1:Nat):Int)) (some ((x.length:Nat):Int)) 1 x.length:=by
  have e1:Max.max 0 (Min.min (if (x.length:Int) < 0 then (x.length:Int)+(x.length:Int) else (x.length:Int)) (x.length:Int))=(x.length:Int):=by rw [if_neg (by omega)]; omega
  unfold strSliceIndices sliceRange
  simp [e1]
 have hp:=StrLaws.sliced_plain x h (Nat.le_refl _)
 have hl:(strSliceIndices (some 1) none 1 x.length).length=x.length - 1:=by
  rw [e,StrLaws.strSliceIndices_plain h (Nat.le_refl _)]
  simp
 unfold Txt.slice
 rw [hl,if_neg (by simp; omega),e,hp]
 show (x.cps.toList.drop 1).take (x.length - 1)=x.cps.toList.tail
 rw [List.drop_one,List.take_of_length_le (by rw [List.length_tail,Array.length_toList]; exact Nat.le_refl _)]
end Kp
namespace Kp
open PySem L2 PySem.Spec PyProof.Rows PySem.NumText
noncomputable def J (ws:List Str):Str:=Str.join " " ws
theorem j4r:(" " : Str)=⟨#[32]⟩:=by decide +kernel
theorem x2n (x:Str):J [x]=x:=rfl
theorem x1p (x y:Str) (r:List Str):J (x::y::r)=x ++ " " ++ J (y::r):=rfl
theorem x2h (a b c:Str):a++b++c=a++(b++c):=by
 refine q9q ?_
 show cL (a++b++c)=cL (a++(b++c))
 rw [x1k,x1k,x1k,x1k,List.append_assoc]
theorem w0j (x:Str) {r:List Str} (h:r≠[]):J (x::r)=x ++ " " ++ J r:=by
 cases r with
 | nil=>exact absurd rfl h
 | cons y r=>rfl
theorem x2d:∀ {a b:List Str},a≠[]→b≠[]→J (a++b)=J a ++ " " ++ J b
 | [],_,h,_=>absurd rfl h
 | [x],b,_,hb=>w0j x hb
 | x::y::r,b,_,hb=>by
  have ih:=x2d (a:=y::r) (b:=b) (by simp) hb
  rw [List.cons_append,List.cons_append,x1p,x1p]
  rw [List.cons_append] at ih
  rw [ih]
  simp only [x2h]
theorem q0d (a b:Str):(a++b).length=a.length+b.length:=by
 show (a++b).cps.size=a.cps.size+b.cps.size
 rw [show (a++b).cps=a.cps++b.cps from rfl,Array.size_append]
theorem x5l {L:Nat}:∀ {ws:List Str},(∀ w∈ws,w.length≤L)→(J ws).length≤ws.length*(L+1)
 | [],_=>Nat.zero_le _
 | [x],h=>by
  have:=h x (by simp)
  rw [x2n,List.length_singleton]
  omega
 | x::y::r,h=>by
  have h1:=h x (by simp)
  have ih:=x5l (ws:=y::r) fun w hw=>h w (List.mem_cons_of_mem _ hw)
  rw [x1p,q0d,q0d]
  have e:(" " : Str).length=1:=rfl
  simp only [List.length_cons,Nat.add_mul,Nat.succ_mul] at ih ⊢
  omega
theorem POk.text {n:Nat} {ds:List D} {ws:List Str} (h:POk n ds ws) (hs:smallL 60 ds=true):(J ws).length≤n*62:=by
 have:=x5l (h.len 60 (by decide) hs)
 exact Nat.le_trans this (Nat.mul_le_mul_right _ h.few)
theorem POk.split {n:Nat} {ds:List D} {ws:List Str} (h:POk n ds ws) (hne:ws≠[]):Txt.split (J ws) " " = ws:=by
 unfold J
 rw [j4r]
 exact z4e hne h.free
end Kp
namespace Kp
open PySem PySem.Builtin PySem.Builtin.Str L2
theorem x4f {x:Str} {lo hi:Option Int} {a b:Nat} (e:strSliceIndices lo hi 1 x.length=strSliceIndices (some ((a:Nat):Int)) (some ((b:Nat):Int)) 1 x.length) (hab:a≤b) (hb:b≤x.length):cL (Txt.slice x lo hi)=((cL x).drop a).take (b - a):=by
 have hp:=StrLaws.sliced_plain x hab hb
 have hl:(strSliceIndices lo hi 1 x.length).length=b - a:=by
  rw [e,StrLaws.strSliceIndices_plain hab hb]
  simp
 have hx:(cL x).length=x.length:=Array.length_toList
 unfold Txt.slice
 rw [hl]
 by_cases hw:b - a=x.length
 ·have ha:a=0:=by omega
  have hbl:b=x.length:=by omega
  subst ha
  rw [if_pos (by simp [hw]),List.drop_zero,List.take_of_length_le (by omega)]
 ·rw [if_neg (by simp; omega),e,hp]
  rfl
theorem j3v {x:Str} {n:Nat} (h:n≤x.length):cL (Txt.slice x none (some (n:Int)))=(cL x).take n:=by
 have e:strSliceIndices none (some (n:Int)) 1 x.length=strSliceIndices (some ((0:Nat):Int)) (some ((n:Nat):Int)) 1 x.length:=by
  have e0:Max.max 0 (Min.min (0:Int) (x.length:Int))=0:=by omega
  unfold strSliceIndices sliceRange
  simp [e0]
 rw [x4f e (Nat.zero_le _) h]
 simp
theorem z6b {x:Str} {n:Nat} (h:n≤x.length):cL (Txt.slice x (some (n:Int)) none)=(cL x).drop n:=by
 have e:strSliceIndices (some (n:Int)) none 1 x.length=strSliceIndices (some ((n:Nat):Int)) (some ((x.length:Nat):Int)) 1 x.length:=by
  have e1:Max.max 0 (Min.min (if (x.length:Int) < 0 then (x.length:Int)+(x.length:Int) else (x.length:Int)) (x.length:Int))=(x.length:Int):=by rw [if_neg (by omega)]; omega
  unfold strSliceIndices sliceRange
  simp [e1]
 have hx:(cL x).length=x.length:=Array.length_toList
 rw [x4f e h (Nat.le_refl _),List.take_of_length_le (by rw [List.length_drop]; omega)]
end Kp
namespace Kp
open PySem PySem.Builtin PySem.Builtin.Str L2
theorem x9g {x:Str} {n:Nat} (h:n≤x.length):(Txt.slice x none (some (n:Int))).length=n:=by
 have e:=congrArg List.length (j3v h)
 have hx:(cL x).length=x.length:=Array.length_toList
 have hy:(cL (Txt.slice x none (some (n:Int)))).length=(Txt.slice x none (some (n:Int))).length:=Array.length_toList
 rw [List.length_take,hx,hy] at e
 omega
theorem x0j {x:Str} {n:Nat}:(Txt.slice x (some (n:Int)) none).length≤x.length - n:=by
 have hx:(cL x).length=x.length:=Array.length_toList
 have hy:(cL (Txt.slice x (some (n:Int)) none)).length=(Txt.slice x (some (n:Int)) none).length:=Array.length_toList
 by_cases h:n≤x.length
 ·have e:=congrArg List.length (z6b h)
  rw [List.length_drop,hx,hy] at e
  omega
 ·have e:strSliceIndices (some (n:Int)) none 1 x.length=strSliceIndices (some ((x.length:Nat):Int)) (some ((x.length:Nat):Int)) 1 x.length:=by
   have e1:Max.max 0 (Min.min (if (n:Int) < 0 then (n:Int)+(x.length:Int) else (n:Int)) (x.length:Int))=(x.length:Int):=by rw [if_neg (by omega)]; omega
   have e2:Max.max 0 (Min.min (if (x.length:Int) < 0 then (x.length:Int)+(x.length:Int) else (x.length:Int)) (x.length:Int))=(x.length:Int):=by rw [if_neg (by omega)]; omega
   unfold strSliceIndices sliceRange
   simp [e1,e2]
  have e3:=congrArg List.length (x4f e (Nat.le_refl _) (Nat.le_refl _))
  rw [hy,Nat.sub_self,List.take_zero] at e3
  simp only [List.length_nil] at e3
  omega
theorem j5z (xs:List V) (n:Nat):x3n xs none (some (n:Int))=xs.take n:=by
 unfold x3n
 rw [HT.sIx_none,HT.sIx_nat,List.drop_zero,Nat.sub_zero]
 by_cases h:n≤xs.length
 ·rw [Nat.min_eq_left h]
 ·rw [Nat.min_eq_right (by omega),List.take_of_length_le (Nat.le_refl _),List.take_of_length_le (by omega)]
theorem z2u (xs:List V) (n:Nat):x3n xs (some (n:Int)) none=xs.drop n:=by
 unfold x3n
 rw [HT.sIx_none,HT.sIx_nat]
 by_cases h:n≤xs.length
 ·rw [Nat.min_eq_left h,List.take_of_length_le (by rw [List.length_drop]; omega)]
 ·rw [Nat.min_eq_right (by omega),Nat.sub_self,List.take_zero,List.drop_of_length_le (by omega)]
theorem z4y {L:Nat} {a b:List Str} {o:Str} (ha:∀ w∈a,w.length≤L) (hb:∀ w∈b,w.length≤L):(J (a++[o]++b)).length≤(a.length+b.length)*(L+1)+o.length+2:=by
 have h1:=x5l ha
 have h2:=x5l hb
 have e:(" " : Str).length=1:=rfl
 have h3:(J ([o]++b)).length≤o.length+1+b.length*(L+1):=by
  by_cases z:b=[]
  ·subst z; rw [List.append_nil,x2n]; omega
  ·rw [x2d (by simp) z,x2n,q0d,q0d,e]; omega
 rw [List.append_assoc]
 by_cases z:a=[]
 ·subst z; rw [List.nil_append,Nat.add_mul]; omega
 ·rw [x2d z (by simp),q0d,q0d,e,Nat.add_mul]; omega
theorem w4l:∀ ws:List Str,ws.length≤(J ws).length+1
 | []=>Nat.zero_le _
 | [x]=>by rw [List.length_singleton]; omega
 | x::y::r=>by
  have ih:=w4l (y::r)
  have e:(" " : Str).length=1:=rfl
  rw [x1p,q0d,q0d,e]
  simp only [List.length_cons] at ih ⊢
  omega
end Kp
namespace Kp
open PySem L2
theorem IsL.un {B:Nat} {H:Hp} {vs:List V} {d:D} {ds:List D} (h:IsL B H vs (d::ds)):∃ v us,vs=v::us∧Is B H v d∧IsL B H us ds:=by
 cases h with | cons a b=>exact⟨_,_,rfl,a,b⟩
theorem IsL.un0 {B:Nat} {H:Hp} {vs:List V} (h:IsL B H vs []):vs=[]:=by cases h; rfl
theorem Is.vint {B:Nat} {H:Hp} {v:V} {i:Int} (h:Is B H v (.int i)):v=.int i:=by cases h; rfl
theorem Is.vbl {B:Nat} {H:Hp} {v:V} {i:Bool} (h:Is B H v (.bl i)):v=.bl i:=by cases h; rfl
theorem Is.vstr {B:Nat} {H:Hp} {v:V} {i:Str} (h:Is B H v (.str i)):v=.str i:=by cases h; rfl
theorem Is.vtup {B:Nat} {H:Hp} {v:V} {ds:List D} (h:Is B H v (.tup ds)):∃ a vs,v=.ref a∧H a=some (.tup vs)∧vs.length≤B∧IsL B H vs ds:=by cases h with | tup e l r=>exact⟨_,_,rfl,e,l,r⟩
end Kp
namespace L2
open PySem PySem.Spec PyProof.Rows
noncomputable def CXe (P:Program) (w:World):CXT:=fun outer H s E e s'=>∃ (a:Addr) (cls a0:Value) (B:Heap) (H1:Hp),e=.ref a∧s'.os=s.os∧AllBare s'.gens∧Heap.FlyingW B outer a cls a0 s'.heap ∧
 Un (frs outer) [] H H1 s.heap s'.heap∧(∀ b o,s.heap.get? b=some o→H b=none→b∉frs outer→B.get? b=some o)∧(∀ b o,s.heap.get? b=some o→b∉frs outer→∃ o',B.get? b=some o')∧HOk P w H1 B∧H1 a=none∧E cls none H1
theorem q5d.there {P:Program} {w:World} {H:Hp} {h:Heap} {a:Addr} {o:HO} (x:q5d P w H h a o):∃ u,h.get? a=some u:=by
 cases o with
 | lst xs=>obtain⟨_,_,_,_,e⟩:=x; exact⟨_,e⟩
 | tup xs=>obtain⟨_,_,_,o,e,_⟩:=x; exact⟨_,e⟩
 | dK kvs=>obtain⟨_,_,_,_,o,_,_,e,_⟩:=x; exact⟨_,e⟩
 | dT kvs=>obtain⟨_,_,_,_,o,_,_,e,_⟩:=x; exact⟨_,e⟩
 | set S n=>obtain⟨o,_,_,_,e,_⟩:=x; exact⟨_,e⟩
 | ins C dx fs=>obtain⟨_,_,_,e,_⟩:=x; exact⟨_,e⟩
 | own y=>exact x
 | xd fs=>obtain⟨_,⟨_,_,_,e,_⟩,_⟩:=x; exact⟨_,e⟩
 | rng lo hi=>obtain⟨_,_,_,e⟩:=x; exact⟨_,e⟩
 | frz ob u=>obtain⟨e,_⟩:=x; exact⟨_,e⟩
 | tbl ps=>exact⟨_,x⟩
 | met f y=>exact⟨_,x⟩
 | ext φ=>obtain⟨_,e,_⟩:=x; exact e
theorem x3i {env:Env} {outer:List Env} {L:Addr} (hf:env.frame=some L):frs (env::outer)=L::frs outer:=by
 unfold frs; rw [List.filterMap_cons,hf]
section
variable {P:Program} {w:World} {K:Frag} {mg:Str→Option Value} {base:Heap} {N:List Str} {qual:Str} {scope:Scope} {f:Addr} {cd:Value} {A:Around} {outer:List Env} {s:Shared} {H:Hp} {E:XK}
theorem q6u:q8j (CXe P w) (z5u (CXe P w) P w K mg base N qual scope f cd A outer s H E) E:=by
 intro pins σ H2 s2 e s' I h
 obtain⟨a,cls,a0,B,H1,rfl,os,bare,fl,un,cov,cov2,hok,ha,q⟩:=h
 have hf:(envOfC qual scope s.heap.objs.size f cd).frame=some s.heap.objs.size:=rfl
 have hfr:frs ((envOfC qual scope s.heap.objs.size f cd)::outer)=s.heap.objs.size::frs outer:=x3i hf
 have un':Un (frs ((envOfC qual scope s.heap.objs.size f cd)::outer)) [] H2 H1 s2.heap s'.heap:=un
 have cov':∀ b o,s2.heap.get? b=some o→H2 b=none→b∉frs ((envOfC qual scope s.heap.objs.size f cd)::outer)→B.get? b=some o:=cov
 have cov2':∀ b o,s2.heap.get? b=some o→b∉frs ((envOfC qual scope s.heap.objs.size f cd)::outer)→∃ o',B.get? b=some o':=cov2
 have fl':Heap.FlyingW B ((envOfC qual scope s.heap.objs.size f cd)::outer) a cls a0 s'.heap:=fl
 have bs:Un (frs outer) [] H H2 s.heap s2.heap:=I.base
 have ne:∀ {b:Addr} {o:Obj},s.heap.get? b=some o→b∉frs outer→b∉frs ((envOfC qual scope s.heap.objs.size f cd)::outer):=fun {b o} e hb z=>by
  rw [hfr] at z
  rcases List.mem_cons.mp z with z | z
  ·exact absurd (Heap.lt_size e) (by rw [z]; exact Nat.lt_irrefl _)
  ·exact hb z
 have inn:∀ {b:Addr},b∈frs outer→b∈frs ((envOfC qual scope s.heap.objs.size f cd)::outer):=fun {b} hb=>by rw [hfr]; exact List.mem_cons_of_mem _ hb
 have nx:∀ b:Addr,b∉([]:List Addr):=fun b z=>absurd z (by simp)
 show wpAny (model P w) (A.deeper (envOfC qual scope s.heap.objs.size f cd)) (leaving (envOfC qual scope s.heap.objs.size f cd) (.ref a)) _ _ s'
 refine wpAny_leaves_onW (I.ok.frames) hf fl' fun h' fl2 ups=>?_
 have fmem:=fl'.2.2.1
 have covS:∀ b o,s.heap.get? b=some o→H b=none→b∉frs outer→B.get? b=some o:=fun b o e n hb=>cov' b o (bs.keep b o e n hb (nx b)) (bs.free b o e n (nx b)) (ne e hb)
 have cov2S:∀ b o,s.heap.get? b=some o→b∉frs outer→∃ o',B.get? b=some o':=fun b o e hb=>by
  obtain⟨o1,e1⟩:=bs.there b o e (nx b)
  exact cov2' b o1 e1 (ne e hb)
 refine⟨a,cls,a0,B,H1,rfl,os.trans I.os,bare,fl2,⟨fun b o e n hb _=>fl2.1 _ _ (covS b o e n hb),fun b o e n hb _=>?_,fun b o e n _=>?_,fun b o e _=>?_,fun b xs q=>un'.tups b xs (bs.tups b xs q),fun b o u q=>un'.frzs b o u (bs.frzs b o u q),fun b ps q=>?_⟩,covS,cov2S,hok,ha,q⟩
 ·obtain⟨sl1,e1⟩:=bs.slot b o e n hb (nx b)
  obtain⟨sl2,e2⟩:=un'.slot b _ e1 (bs.free b o e n (nx b)) (inn hb) (nx b)
  obtain⟨_,o3,e3,nf⟩:=fmem.mem (inn hb)
  rw [e2] at e3
  cases e3
  obtain⟨sl4,e4⟩:=ups b _ e2 nf
  exact⟨sl4,e4⟩
 ·obtain⟨o1,e1⟩:=bs.there b o e (nx b)
  exact un'.free b o1 e1 (bs.free b o e n (nx b)) (nx b)
 ·by_cases hb:b∈frs outer
  ·obtain⟨_,o3,e3,nf⟩:=fmem.mem (inn hb)
   obtain⟨sl4,e4⟩:=ups b _ e3 nf
   exact⟨_,e4⟩
  ·obtain⟨o',e'⟩:=cov2S b o e hb
   exact⟨o',fl2.1 _ _ e'⟩
 ·obtain⟨m1,q1⟩:=bs.tbls b ps q
  obtain⟨m2,q2⟩:=un'.tbls b _ q1
  exact⟨m1++m2,by rw [q2,Array.append_assoc]⟩
theorem w0y {pins:List (Addr × Obj)} {σ:St} {H1:Hp} {s1:Shared} {h2:Heap} {a:Addr} {cls:Value} {args:List Value}
  (I:Inv (z5u (CXe P w) P w K mg base N qual scope f cd A outer s H E) pins σ H1 s1) (hx:Heap.MadeExcOf s1.heap h2 a cls args) (q:E cls none H1) :
  (z5u (CXe P w) P w K mg base N qual scope f cd A outer s H E).xe (.ref a) { s1 with heap:=h2 }:=by
 have hf:(envOfC qual scope s.heap.objs.size f cd).frame=some s.heap.objs.size:=rfl
 have hfr:frs ((envOfC qual scope s.heap.objs.size f cd)::outer)=s.heap.objs.size::frs outer:=x3i hf
 have bs:Un (frs outer) [] H H1 s.heap s1.heap:=I.base
 have stk:s1.heap.FunFrames base ((envOfC qual scope s.heap.objs.size f cd)::outer):=I.stack
 have fre:∀ b∈frs ((envOfC qual scope s.heap.objs.size f cd)::outer),H1 b=none:=I.stkFree
 have ne:∀ {b:Addr} {o:Obj},s.heap.get? b=some o→b∉frs outer→b∉frs ((envOfC qual scope s.heap.objs.size f cd)::outer):=fun {b o} e hb z=>by
  rw [hfr] at z
  rcases List.mem_cons.mp z with z | z
  ·exact absurd (Heap.lt_size e) (by rw [z]; exact Nat.lt_irrefl _)
  ·exact hb z
 have inn:∀ {b:Addr},b∈frs outer→b∈frs ((envOfC qual scope s.heap.objs.size f cd)::outer):=fun {b} hb=>by rw [hfr]; exact List.mem_cons_of_mem _ hb
 have nx:∀ b:Addr,b∉([]:List Addr):=fun b z=>absurd z (by simp)
 have hin:∀ env∈((envOfC qual scope s.heap.objs.size f cd)::outer),∀ b,env.frame=some b→b∈frs ((envOfC qual scope s.heap.objs.size f cd)::outer):=fun env he b hb=>List.mem_filterMap.mpr ⟨env,he,hb⟩
 show wpAny (model P w) (A.deeper (envOfC qual scope s.heap.objs.size f cd)) (leaving (envOfC qual scope s.heap.objs.size f cd) (.ref a)) _ _ { s1 with heap:=h2 }
 refine wpAny_leaves_madeW (base:=hideAll s1.heap (frs ((envOfC qual scope s.heap.objs.size f cd)::outer))) (h:=s1.heap) I.ok.frames hf (fun b o e=>PySem.W.of_hideAll _ e) (PySem.W.funFrames_hide stk hin) hx fun h' t fl _ _ ups=>?_
 have ups1:s1.heap.UpToSlots h':=(Heap.UpToSlots.of_keeps hx.keeps).trans ups
 have covS:∀ b o,s.heap.get? b=some o→H b=none→b∉frs outer→(hideAll s1.heap (frs ((envOfC qual scope s.heap.objs.size f cd)::outer))).get? b=some o:=fun b o e n hb=>PySem.W.hideAll_get _ (bs.keep b o e n hb (nx b)) (ne e hb)
 have cov2S:∀ b o,s.heap.get? b=some o→b∉frs outer→∃ o',(hideAll s1.heap (frs ((envOfC qual scope s.heap.objs.size f cd)::outer))).get? b=some o':=fun b o e hb=>by
  obtain⟨o1,e1⟩:=bs.there b o e (nx b)
  exact⟨o1,PySem.W.hideAll_get _ e1 (ne e hb)⟩
 have tr:∀ b o,H1 b=some o→b∉frs ((envOfC qual scope s.heap.objs.size f cd)::outer):=fun b o e z=>by rw [fre b z] at e; cases e
 have hok:HOk P w H1 (hideAll s1.heap (frs ((envOfC qual scope s.heap.objs.size f cd)::outer))):=fun b o e=>by
  refine (I.hok b o e).stay (fun c u hc g=>PySem.W.hideAll_get _ g ?_) (fun _ q=>q) fun _ _ q=>q
  rcases hc with rfl | hc
  ·exact tr _ _ e
  ·exact tr _ _ hc
 have ha:H1 a=none:=by
  cases e:H1 a with
  | none=>rfl
  | some o =>
   obtain⟨u,hu⟩:=(I.hok a o e).there
   rw [hx.new] at hu
   cases hu
 refine⟨a,cls,.ref t,_,H1,rfl,I.os,I.bare,fl,⟨fun b o e n hb _=>fl.1 _ _ (covS b o e n hb),fun b o e n hb _=>?_,bs.free,fun b o e _=>?_,bs.tups,bs.frzs,bs.tbls⟩,covS,cov2S,hok,ha,q⟩
 ·obtain⟨sl1,e1⟩:=bs.slot b o e n hb (nx b)
  obtain⟨_,o3,e3,nf⟩:=stk.mem (inn hb)
  rw [e1] at e3
  cases e3
  obtain⟨sl4,e4⟩:=ups1 b _ e1 nf
  exact⟨sl4,e4⟩
 ·by_cases hb:b∈frs outer
  ·obtain⟨_,o3,e3,nf⟩:=stk.mem (inn hb)
   obtain⟨sl4,e4⟩:=ups1 b _ e3 nf
   exact⟨_,e4⟩
  ·obtain⟨o',e'⟩:=cov2S b o e hb
   exact⟨o',fl.1 _ _ e'⟩
end
theorem w1b {K:Frag} {h₀:Heap} {mg:Str→Option Value} {x:Str} {C:Addr} {bmB:List Value} {newId:String} (X:K.In h₀) (hm:mg x=some (.ref C)) (q:PySem.W.excIn K C bmB newId=true):OwnCls x C bmB newId mg h₀:=by
 refine⟨hm,?_⟩
 unfold PySem.W.excIn at q
 split at q
 ·rename_i dd cd sl ho
  split at q
  ·rename_i C' bm k0 k1 k2 k3 n k5 hm hs
   simp only [Bool.and_eq_true,beq_iff_eq,Bool.not_eq_true'] at q
   obtain⟨⟨⟨⟨⟨rfl,rfl⟩,hdel⟩,ht⟩,hok⟩,hni⟩:=q
   obtain⟨nm,bs,mro,ns,qn,hd,sn,sub,ab,col,del⟩:=cd
   dsimp only at hm hdel hok hni
   subst hm hdel
   have hsl:sl=#[k0,k1,k2,k3,some (.builtin n),k5]:=by
    obtain⟨l⟩:=sl
    simp only at hs
    rw [hs]
   subst hsl
   exact⟨bm,ns,nm,qn,bs,hd,sn,sub,ab,col,dd,k0,k1,k2,k3,k5,_,X _ _ ho,.of_isNs (PySem.W.isNs_of_in X hok),PySem.W.nsMap_none_of_in X hok hni,PySem.W.tail_of_in X ht⟩
  ·cases q
 ·cases q
abbrev w3i:List Value:=[.type "ValueError",.type "Exception",.type "BaseException",.type "object"]
noncomputable def j5i (X:Cx) (E:XK):Prop:=∀ (pins:List (Addr × Obj)) (σ:St) (H:Hp) (s:Shared) (h':Heap) (a:Addr) (cls:Value) (args:List Value),Inv X pins σ H s→Heap.MadeExcOf s.heap h' a cls args→E cls none H→X.xe (.ref a) { s with heap:=h' }
theorem q6l {P:Program} {w:World} {K:Frag} {mg:Str→Option Value} {base:Heap} {N:List Str} {qual:Str} {scope:Scope} {f:Addr} {cd:Value} {A:Around} {outer:List Env} {s:Shared} {H:Hp} {E:XK} :
  j5i (z5u (CXe P w) P w K mg base N qual scope f cd A outer s H E) E:=fun _ _ _ _ _ _ _ _ I hx q=>w0y I hx q
noncomputable def w1q (C:Addr) (E:XK) (ta:TA):TS:=fun _ σ H=>ta σ H fun vs H1=>vs.length≤1000∧E (.ref C) none H1
theorem q7v {X:Cx} {E:XK} {x:Str} {C:Addr} {np cpos pos:Pos} {e₀:Expr} {x0x:List Expr} {ta:TA} (R:j5i X E) (hc:X.calm=true) (hg:Gl X x) (hm:X.mg x=some (.ref C)) (q:PySem.W.excIn X.K C w3i "ValueError.__new__" = true) (ha:PA X (e₀::x0x) ta)
  (he:starEach (e₀::x0x) X.env=(false,eval e₀ X.env)::starEach x0x X.env:=by rfl) (hplain:(backTo cpos (starEach x0x X.env)).any (·.1)=false:=by rfl) (hd:(x==("__debug__" : Str))=false:=by decide) :
  PS X (.Raise (some (.Call (.Name x np) (e₀::x0x) [] cpos)) none pos) (w1q C E ta):=by
 intro pins s σ H D I h
 obtain⟨tl,N,nm,qn,bs,hdct,sn,sub,ab,col,dd,k0,k1,k2,k3,k5,mN,hC,hN,hni,T⟩:=(w1b (x:=x) I.ok.mod.kin hm q).obj
 refine wpAny_Raise_call_subT (C:=C) (nm:=nm) (q:=qn) (N:=N) (bs:=bs) (bm:=tl) (hdct:=hdct) (sn:=sn) (sub:=sub) (ab:=ab) (col:=col) (dd:=dd) (k0:=k0) (k1:=k1) (k2:=k2) (k3:=k3) (k5:=k5)
  PySem.F.excBase_ValueError (mN:=mN) (T.hasType PySem.F.excBase_ValueError.hasBase) (I.ok.hd hc) (by rw [he]; show (false || (backTo cpos (starEach x0x X.env)).any (·.1))=false; rw [hplain]; rfl) hni (x2y I hg hm ⟨rfl,?_⟩ hd)
 have h':=ha cpos pins s σ H _ I h
 rw [he] at h' ⊢
 refine Calls.evalArgs_plain (wpAny_mono h' (fun us s₂ ⟨vs,H1,I1,r,hl,qe⟩=>?_) fun _ _ y=>y)
 refine⟨rfl,?_,I1.bk _ _ hC,hN.keeps I1.bk,T.keeps I1.bk,fun h2 a hx=>R pins σ H1 s₂ h2 a (.ref C) us I1 hx qe⟩
 rw [← r.length]
 have:(1000:Nat)≤sizeLine:=by rw [sizeLine_eq]; decide
 exact Nat.le_trans hl this
theorem _root_.L2.Fun.okE {P:Program} {w:World} {K:Frag} {mg:Str→Option Value} {base:Heap} {x qual:Str} {st:Stmt} {f:Addr} {fd:FuncData} {N ps:List Str} {k:Nat} {sp:Sp} (F:Fun K x qual st f fd) (S:FnScope N ps (q0e st)) (len:∀ vs H Q E,sp vs H Q E→vs.length=ps.length)
  (hbody:∀ (cdv:Value) (A:Around) (outer:List Env) (s:Shared) (H:Hp) (vs:List V) (Q:VK) (E:XK),Room k (A.deeper (envOfC qual (q0e st) s.heap.objs.size f cdv))→sp vs H Q E →
   ∃ t,PSs (z5u (CXe P w) P w K mg base N qual (q0e st) f cdv A outer s H E) (q6x st) t∧t { nx:=fun _ H'=>Q .non H',rt:=Q } (x8b N vs) H):FnOk P w K mg base (CXe P w) (k+1) f fd ps sp:=by
 obtain⟨oc,od,kV,doc,pm,an,cdv,ct,osl,rfl,lk,hcd⟩:=F.ex
 exact w1u lk hcd S len fun A outer s H vs Q E hr hsp=>hbody cdv A outer s H vs Q E hr hsp
noncomputable def w1p (a:Addr) (cls:Value):HO:=.ext fun h=>∃ o,h.get? a=some o∧o.cls=cls
section
variable {X:Cx} {pins:List (Addr × Obj)} {σ:St} {H:Hp} {s:Shared}
theorem w6r {E:XK} {e:Value} {s':Shared} (I:Inv X pins σ H s) (h:CXe X.prog X.w X.stack H s E e s') :
  ∃ a cls a0 B H1,e=.ref a∧Heap.FlyingW B X.stack a cls a0 s'.heap∧H1 a=none∧E cls none H1 ∧
   ∀ h',Heap.FlyingW B X.stack a cls a0 h'→s'.heap.UpToSlots h'→Inv X pins σ (upd H1 a (w1p a cls)) { s' with heap:=h' }:=by
 obtain⟨a,cls,a0,B,H1,rfl,os,bare,fl,un,cov,cov2,hok,ha,q⟩:=h
 refine⟨a,cls,a0,B,H1,rfl,fl,ha,q,fun h' fl2 ups=>?_⟩
 have nx:∀ b:Addr,b∉([]:List Addr):=fun b z=>absurd z (by simp)
 have fmem:=fl.2.2.1
 have ne:∀ {b:Addr} {o:HO},H1 b=some o→b≠a:=fun {b o} e z=>by rw [z,ha] at e; cases e
 obtain⟨oe,vs,hoe,hoec,hoed,_⟩:=fl2.first
 have notF:a∉frs X.stack:=fun z=>by
  obtain⟨_,o3,e3,nf⟩:=fl2.2.2.1.mem z
  rw [hoe] at e3
  cases e3
  exact nf vs hoed
 have hok1:HOk X.prog X.w H1 h':=fun b o e=>(hok b o e).stay (fun c u _ g=>fl2.1 _ _ g) (fun _ q=>q) fun _ _ q=>q
 refine I.call' (s':={ s' with heap:=h' }) (ch:=[]) os ⟨fun b o e n hb _=>fl2.1 _ _ (cov b o e n hb),fun b o e n hb _=>?_,fun b o e n _=>?_,fun b o e _=>?_,fun b xs q=>?_,fun b o u q=>?_,fun b ps q=>?_⟩ (fun b o e=>?_) bare fun b z=>absurd z (nx b)
 ·obtain⟨sl2,e2⟩:=un.slot b o e n hb (nx b)
  obtain⟨_,o3,e3,nf⟩:=fmem.mem hb
  rw [e2] at e3
  cases e3
  obtain⟨sl4,e4⟩:=ups b _ e2 nf
  exact⟨sl4,e4⟩
 ·by_cases z:b=a
  ·subst z
   have:=cov b o e n notF
   rw [fl2.2.1] at this
   cases this
  ·rw [q1a z]
   exact un.free b o e n (nx b)
 ·by_cases hb:b∈frs X.stack
  ·obtain⟨_,o3,e3,nf⟩:=fmem.mem hb
   obtain⟨sl4,e4⟩:=ups b _ e3 nf
   exact⟨_,e4⟩
  ·obtain⟨o',e'⟩:=cov2 b o e hb
   exact⟨o',fl2.1 _ _ e'⟩
 ·have:=un.tups b xs q
  rw [q1a (ne this)]; exact this
 ·have:=un.frzs b o u q
  rw [q1a (ne this)]; exact this
 ·obtain⟨m,h2⟩:=un.tbls b ps q
  exact⟨m,by rw [q1a (ne h2)]; exact h2⟩
 ·by_cases z:b=a
  ·subst z
   rw [q0f] at e
   cases e
   refine⟨⟨oe,hoe,hoec⟩,⟨oe,hoe⟩,fun h1 h2 ⟨o,e1,e2⟩ k=>⟨o,k o e1,e2⟩⟩
  ·rw [q1a z] at e
   exact (hok1 b o e).stay (fun c u _ g=>g) (fun c q=>by rw [q1a (ne q)]; exact q) fun c xs q=>by rw [q1a (ne q)]; exact q
noncomputable abbrev Cx.suite (X:Cx) (a:Addr):Cx:={ X with A:=X.A.mark (some (.ref a)),calm:=false,xe:=fun _ _=>False }
theorem Cx.Ok.suite {X:Cx} (ok:X.Ok) (a:Addr):(X.suite a).Ok :=
 ⟨ok.mod,ok.kind,ok.glob,ok.blt,ok.above,ok.inj,ok.has,ok.cab,(fun z=>by cases z),ok.frames,ok.stk,ok.exf,ok.bs,ok.bsz,ok.noex,ok.exfs,ok.funs,ok.frf⟩
theorem Inv.suite (I:Inv X pins σ H s) (a:Addr):Inv (X.suite a) pins σ H s:=⟨I.ok.suite a,I.os,I.bare,I.base,I.loc,I.cell,I.free,I.freeC,I.pin,I.hok,I.len⟩
theorem Inv.unsuite {a:Addr} (ok:X.Ok) (I:Inv (X.suite a) pins σ H s):Inv X pins σ H s:=⟨ok,I.os,I.bare,I.base,I.loc,I.cell,I.free,I.freeC,I.pin,I.hok,I.len⟩
theorem SP.unsuite {a:Addr} (ok:X.Ok) {D:Ends} {f:Flow} {s':Shared} (h:SP (X.suite a) pins D f s'):SP X pins D f s':=by
 cases f with
 | next=>obtain⟨σ',H',I,q⟩:=h; exact⟨σ',H',I.unsuite ok,q⟩
 | brk=>obtain⟨σ',H',I,q⟩:=h; exact⟨σ',H',I.unsuite ok,q⟩
 | cont=>obtain⟨σ',H',I,q⟩:=h; exact⟨σ',H',I.unsuite ok,q⟩
 | ret u=>obtain⟨v,σ',H',I,r,q⟩:=h; exact⟨v,σ',H',I.unsuite ok,r,q⟩
noncomputable def w4q (K:Frag) (C:Addr) (R:Addr→Hp→Prop):XK:=fun cls _ H=>PySem.W.exmOne K cls (.ref C)=some true∧∀ a,H a=none→R a (upd H a (w1p a cls))
theorem j9z {x:Str} {C:Addr} {np hp:Pos} {b₀:Stmt} {suite:List Stmt} {x0x:List ExceptHandler} {ts:TS} {D:Ends} {e:Value} {s':Shared} (hst:X.stack=X.env::X.outer) (hf:X.env.frame=some X.env.locals) (hg:Gl X x) (hm:X.mg x=some (.ref C)) (hs:∀ a,PSs (X.suite a) (b₀::suite) ts)
  (I:Inv X pins σ H s) (h:CXe X.prog X.w X.stack H s (w4q X.K C fun _ H2=>ts D σ H2) e s') (hd:(x==("__debug__" : Str))=false:=by decide) :
  wpAny (model X.prog X.w) X.A (noteFrame e X.env) (fun _ s₂=>wpAny (model X.prog X.w) X.A (setFlight e none) (fun _ s₃ =>
   wpAny (model X.prog X.w) X.A (handleBy e X.env (.ExceptHandler (some (.Name x np)) none (b₀::suite) hp::x0x)) (SP X pins D) X.xe s₃) X.xe s₂) X.xe s':=by
 obtain⟨a,cls,a0,B,H1,rfl,fl,ha,⟨hx,q⟩,inv⟩:=w6r I h
 rw [hst] at fl inv
 have hfr:X.A.frames=some (X.env::X.outer):=by rw [← hst]; exact I.ok.frames
 refine wpAny_looks_onW hfr hf fl fun h₄ held u4=>?_
 refine wpAny_landsW held fun h₅ fl5 u5=>?_
 have J:=(inv h₅ fl5 (u4.trans u5)).suite a
 refine wpAny_handleBy_cons (codeAny_handlers_test (x2y (X:=X.suite a) J hg hm ?_ hd)) (by intro q; cases q)
 obtain⟨ob,hob,hobc⟩:=fl5.there
 refine PySem.W.exm_one (M:=model X.prog X.w) J.kIn (hobc▸(PySem.W.Looks.ld hob).andThen .now) hx _ _ _ _ (fun _ _ e=>e) (codeAny_handlers_suite ?_)
 refine lands_againW fl5 fun h₆ fl6 u6=>?_
 have J6:=(inv h₆ fl6 ((u4.trans u5).trans u6)).suite a
 exact wpAny_mono (hs a pins _ σ _ D J6 (q a ha)) (fun f s2 h2=>h2.unsuite I.ok) fun _ _ z=>False.elim z
theorem j3t {k:Nat} {f:Addr} {fd:FuncData} {ps:List Str} {sp:Sp} {E:XK} {W:Value→Shared→Prop} {x:Str} {p pos:Pos} {e:Expr} {es:List Expr} {t:TA} {Q:VK} (F:FnOk X.prog X.w X.K X.mg X.base (CXe X.prog X.w) k f fd ps sp) (hr:Room k X.A) (hg:Gl X x) (hm:X.mg x=some (.ref f)) (hk:keepIn X.K (.ref f)=true) (hb:q3p X.K fd ps [])
  (ha:PA (X.wish W) (e::es) t) (he:starEach (e::es) X.env=(false,eval e X.env)::starEach es X.env) (hpl:(backTo pos (starEach es X.env)).any (·.1)=false) (hdb:(x==("__debug__" : Str))=false)
  (I:Inv X pins σ H s) (h:t σ H fun vs H1=>sp (vs++[]) H1 Q E) (hW:∀ H1 s1 e s',Inv X pins σ H1 s1→CXe X.prog X.w X.stack H1 s1 E e s'→W e s') :
  wpAny (model X.prog X.w) X.A (eval (.Call (.Name x p) (e::es) [] pos) X.env) (EP X pins σ Q) W s:=by
 refine wpAny_Call_Name_kw (x2y I hg hm ?_ hdb)
 refine PySem.W.callWith_K (h₀:=X.base) I.ok.mod.kin hk (thn (ha pos pins s σ H _ (I.wish W) h) fun us s1 ⟨vs,H1,I1,r,q⟩=>⟨I1.kIn,?_⟩) he hpl
 have I1':Inv X pins σ H1 s1:=I1.unwish
 have r2:q4l (vs++[]) (us++[]):=r.append .nil
 have hl:(us++[]).length=ps.length:=by rw [← r2.length]; exact F.len _ _ _ _ q
 refine wpAny_call (codeAny_mono (F.run X.A X.stack s1 H1 ⟨us,[]⟩ (us++[]) (vs++[]) Q E hr I1'.env0 (hb s1 us I1'.kIn hl) r2 q) fun r s' hq=>?_)
 cases r with
 | error e=>exact hW H1 s1 e s' I1' hq
 | ok fl =>
  cases fl with
  | ret u=>exact I1'.after hq
  | next=>exact False.elim hq
  | brk=>exact False.elim hq
  | cont=>exact False.elim hq
end
section
variable {X:Cx} {k:Nat} {f C:Addr} {fd:FuncData} {ps:List Str} {sp:Sp} {x y n:Str} {i j:Nat} {p pos rp tp np hp py:Pos} {e:Expr} {es:List Expr} {t:TA} {b₀:Stmt} {suite:List Stmt} {ts:TS}
noncomputable def j8i (K:Frag) (C:Addr) (i:Nat) (sp:Sp) (t:TA) (ts:TS):TS:=fun D σ H=>t σ H fun vs H1=>sp (vs++[]) H1 (fun v H2=>D.nx (σ.set i (some v)) H2) (w4q K C fun _ H2=>ts D σ H2)
theorem z8k (hst:X.stack=X.env::X.outer) (hf:X.env.frame=some X.env.locals) (F:FnOk X.prog X.w X.K X.mg X.base (CXe X.prog X.w) k f fd ps sp) (hr:Room k X.A) (hg:Gl X x) (hm:X.mg x=some (.ref f)) (hk:keepIn X.K (.ref f)=true) (hb:q3p X.K fd ps []) (ha:∀ W,PA (X.wish W) (e::es) t)
  (hN:X.N.Nodup) (hi:X.N[i]? = some n) (hx:Loc X.env.scope n) (hgC:Gl X y) (hmC:X.mg y=some (.ref C)) (hs:∀ a,PSs (X.suite a) (b₀::suite) ts) (hfn:X.fn n=true∨X.env.scope.names.lookup n=some .local:=by first | exact .inl rfl | exact .inr rfl | assumption)
  (he:starEach (e::es) X.env=(false,eval e X.env)::starEach es X.env:=by rfl) (hpl:(backTo pos (starEach es X.env)).any (·.1)=false:=by rfl) (hdb:(x==("__debug__" : Str))=false:=by decide) (hdc:(y==("__debug__" : Str))=false:=by decide) :
  PS X (.Try [.Assign [.Name n py] (.Call (.Name x p) (e::es) [] pos) rp] [.ExceptHandler (some (.Name y np)) none (b₀::suite) hp] [] [] tp) (j8i X.K C i sp t ts):=by
 intro pins s σ H D I h
 refine wpAny_Try_except (wpAny_execs_cons (wpAny_Assign_Name (thn (j3t (Q:=fun v H2=>D.nx (σ.set i (some v)) H2) F hr hg hm hk hb (ha _) he hpl hdb I h fun H1 s1 e1 s' I1 h1=>j9z hst hf hgC hmC hs I1 h1 hdc) fun v s1 ⟨z,H1,I1,r1,q1⟩=>?_)))
 refine x7l I1 hN hi hx r1 (fun s2 I2=>?_) hfn
 exact wpAny_execs_nil (wpAny_execs_nil ⟨_,H1,I2,q1⟩)
end
end L2
namespace L2
open PySem PySem.Spec PyProof.Rows PySem.W PySem.Builtin PySem.Builtin.ObjectAttr PySem.Builtin.Getset_descriptor
section
variable {prog:Program} {w:World} {A:Around} {E:Value→Shared→Prop} {s:Shared} {K:Frag} {x C:Addr} {R:Result→Shared→Prop} {h:Heap} {g:Array GenState} {d:Drawn} {t:Nat} {os:OsState} {o:Obj} {name:Str}
end
end L2
namespace L2
open PySem PySem.Spec PyProof.Rows
section
variable {P:Program} {w:World} {K:Frag} {mg:Str→Option Value} {base:Heap}
end
section
variable {X:Cx} {k:Nat} {f:Addr} {fd:FuncData} {ps:List Str} {sp:Sp} {x:Str} {p pos:Pos} {e:Expr} {es:List Expr} {t:TA}
end
end L2
namespace Kp
open PySem L2
structure CalE (P:Program) (w:World) (K:Frag) (mg:Str→Option Value) (base:Heap) (name:Str) (k:Nat) (ps:List Str) (sp:Sp):Prop where
 ex:∃ f fd,FnOk P w K mg base (CXe P w) k f fd ps sp∧mg name=some (.ref f)∧keepIn K (.ref f)=true∧q3p K fd ps []
end Kp
namespace K1
open PySem L2 Kp
end K1
namespace Kp
open PySem L2
end Kp
namespace K1
open PySem L2 Kp
noncomputable def w0p:Sp:=fun vs H Q _=>∃ n:Int,vs=[.int n]∧0≤n∧n.natAbs < 10 ^ 60∧Q (.str (q1j n)) H
noncomputable def z2h:Sp:=fun vs H Q _=>∃ n:Int,vs=[.int n]∧n.natAbs < 10 ^ 60∧Q (.str (q1j n)) H
theorem q4z {X:Cx} {x:Str} {k:Nat} {ps:List Str} {sp:Sp} {e:Expr} {es:List Expr} {t:TA} {p pos:Pos} {E:XK} (C:CalE X.prog X.w X.K X.mg X.base x k ps sp) (hr:Room k X.A) (hx:q8j (CXe X.prog X.w) X E) (ha:PA X (e::es) t) (hg:Gl X x:=by rfl) (hdb:(x==("__debug__" : Str))=false:=by decide) (he:starEach (e::es) X.env=(false,eval e X.env)::starEach es X.env:=by rfl) (hpl:(backTo pos (starEach es X.env)).any (·.1)=false:=by rfl) :
  PE X (.Call (.Name x p) (e::es) [] pos) (j3y sp [] E t):=let ⟨_,_,F,hm,hk,hb⟩:=C.ex; x0w F hr hg hm hk hb .nil hx ha hdb he hpl
theorem j5y:∀ m:Nat,m < 10→("0123456789" : Str).cps.toList[m]? = some (48+m):=by decide +kernel
theorem z9y:("0123456789" : Str).length=10:=by decide +kernel
theorem j9v {n:Nat} {x:Str} (h:x1o n=cL x):q1j (n:Int)=x:=q9q ((q7u n).trans h)
section
variable {P:Program} {w:World} {K:Frag} {mg:Str→Option Value} {base:Heap}
theorem j9m:FnScope ["_law_number", "_law_found"] ["_law_number"] (q0e q4h):=fSc
theorem z8c {f:Addr} {fd:FuncData} (F:Fun K "_law_figures" "_law_figures" q4h f fd):FnOk P w K mg base CX0 1 f fd ["_law_number"] w0p:=by
 refine F.ok j9m (fun vs H Q E ⟨_,e,_⟩=>by subst e; rfl) (fun _ A _ s H vs Q E hr h=>?_)
 obtain⟨n,rfl,h0,hb,q⟩:=h
 obtain⟨n,rfl⟩:=Int.eq_ofNat_of_zero_le h0
 refine⟨_,@q0x _ _ _ _ _ (q1r (q0t x5p (pv 0) q0a (q0r _)) q6f q0s)
  (@q0x _ _ _ _ _ (q0z (i:=1) j9m.nd (by rfl) (by exact Or.inl rfl) q0n)
  (@q0x _ _ _ _ _ (z3y PassesOwn.never (q0t z1y (pv 0) q0a (q0r _)) (@q0x _ _ _ _ _ (q0z (i:=1) j9m.nd (by rfl) (by exact Or.inl rfl) (q0i q0j (q0u x2e q0n (q0i q1k (pv 0) q0a) z5d) (pv 1)))
   (@q1h _ _ _ (q0z (i:=0) j9m.nd (by rfl) (by exact Or.inl rfl) (q0i q1u (pv 0) q0a)))))
  (@q1h _ _ _ (q0l (q0i q0j (q0u x2e q0n (pv 0) w5b) (pv 1)))))),?_⟩
 have hn:(x1o n).length≤60:=(x0c n (by decide)).mpr (by simpa using hb)
 refine⟨_,rfl,_,_,rfl,rfl,_,rfl,?_⟩
 rw [show decide ((n:Int) < 0)=false from decide_eq_false (by omega)]
 refine q1c ⟨fun k σ H'=>∃ (m:Nat) (x:Str),σ=[some (.int (m:Int)),some (.str x)]∧H=H'∧x1o n=x1o m++cL x∧k=m,⟨n,n, "",rfl,rfl,by rw [show cL ("" : Str)=[] from rfl,List.append_nil],rfl⟩,?_⟩
 rintro k σ H' ⟨m,x,rfl,rfl,hd,rfl⟩
 have hxl:x.length≤60:=by
  have:=congrArg List.length hd
  rw [List.length_append] at this
  have e:(cL x).length=x.length:=Array.length_toList
  omega
 refine⟨_,rfl,_,_,rfl,rfl,_,rfl,x5d (fun hlt=>?_) (fun hge=>?_)⟩
 ·have hm:10≤k:=by have:=of_decide_eq_true hlt; omega
  have e10:((k:Int) % 10)=((k % 10:Nat):Int):=by omega
  refine⟨fun σ' H'=>∃ (m:Nat) (x:Str),σ'=[some (.int (m:Int)),some (.str x)]∧H=H'∧x1o n=x1o m++cL x∧m < k,fun σ' H' ⟨m,x,a,b,c,d⟩=>⟨m,d,m,x,a,b,c,rfl⟩,?_⟩
  refine⟨_,rfl,_,_,rfl,rfl,(by show (0:Int) < 10; decide),_,_,48+k % 10,rfl,rfl,(by rw [z9y,sizeLine_eq]; decide),?_,_,rfl,_,_,rfl,rfl,?_,?_⟩
  ·rw [e10]; exact q0m (j5y _ (Nat.mod_lt _ (by decide)))
  ·show 1+x.length≤_
   rw [sizeLine_eq]; omega
  ·refine⟨_,rfl,_,_,rfl,rfl,⟨by decide,by decide⟩,k / 10,(⟨#[48+k % 10]⟩:Str)++x,by show [some (V.int ((k:Int) / 10)),_]=_; rw [show ((k:Int) / 10)=((k / 10:Nat):Int) by omega],rfl,?_,by omega⟩
   rw [hd,x8u hm,x1k,List.append_assoc]
   rfl
 ·have hm:k < 10:=by have:=w6l hge; omega
  refine⟨_,rfl,_,_,48+k,rfl,rfl,(by rw [z9y,sizeLine_eq]; decide),q0m (j5y k hm),_,rfl,_,_,rfl,rfl,?_,?_⟩
  ·show 1+x.length≤_
   rw [sizeLine_eq]; omega
  ·have:q1j (n:Int)=(⟨#[48+k]⟩:Str)++x:=j9v (by rw [hd,x3l hm,x1k]; rfl)
   rw [← this]
   exact q
noncomputable def w0d:Sp:=fun vs H Q _=>∃ n:Int,vs=[.int n]∧n < 0∧n.natAbs < 10 ^ 60∧Q (.str (q1j n)) H
theorem j8u {f:Addr} {fd:FuncData} (F:Fun K "_law_figures" "_law_figures" q4h f fd) (hm:mg "_law_figures" = some (.ref f)) (hk:keepIn K (.ref f)=true) (hbi:q3p K fd ["_law_number"] []):FnOk P w K mg base CX0 2 f fd ["_law_number"] w0d:=by
 have G:=z8c (P:=P) (w:=w) (mg:=mg) (base:=base) F
 refine F.ok j9m (fun vs H Q E ⟨_,e,_⟩=>by subst e; rfl) (fun _ A _ s H vs Q E hr h=>?_)
 obtain⟨n,rfl,hn,hb,q⟩:=h
 refine⟨_,@q0x _ _ _ _ _ (q1r (q0t x5p (pv 0) q0a (q0r _)) (@q1h _ _ _ (q0l (q0i q0j q0n (x0w G hr (by rfl) hm hk hbi .nil x4e (q0c (j0j x9o (pv 0)) q0b))))) q0s) (@q6f _ _),?_⟩
 refine⟨_,rfl,_,_,rfl,rfl,_,rfl,?_⟩
 rw [show decide (n < 0)=true from decide_eq_true hn]
 have hl:=q1d (n := -n) (k:=60) (by decide) (by rw [Int.natAbs_neg]; exact hb)
 refine q1m ⟨_,rfl,_,rfl,-n,rfl,by omega,by rw [Int.natAbs_neg]; exact hb,_,_,rfl,rfl,?_,?_⟩
 ·show 1+(q1j (-n)).length≤_
  rw [sizeLine_eq]; omega
 ·have e:q1j n=("-" : Str)++q1j (-n):=by
   refine q9q ?_
   show z8g n=cL (("-" : Str)++q1j (-n))
   have e2:(-n)=((n.natAbs:Nat):Int):=by omega
   rw [x0e hn,x1k,e2]
   show _=cL ("-" : Str)++z8g ((n.natAbs:Nat):Int)
   rw [q7u]
   rfl
  rw [← e]
  exact q
theorem w0l {f:Addr} {fd:FuncData} (F:Fun K "_law_figures" "_law_figures" q4h f fd) (hm:mg "_law_figures" = some (.ref f)) (hk:keepIn K (.ref f)=true) (hbi:q3p K fd ["_law_number"] []):FnOk P w K mg base CX0 2 f fd ["_law_number"] z2h:=by
 have F1:=(z8c (P:=P) (w:=w) (mg:=mg) (base:=base) F).mono (show 1≤2 by decide)
 have F2:=j8u (P:=P) (w:=w) (base:=base) F hm hk hbi
 refine⟨fun vs H Q E ⟨_,e,_⟩=>by subst e; rfl,fun A outer s H args us vs Q E hr he hb hv hs=>?_⟩
 obtain⟨n,e,hn,q⟩:=hs
 by_cases h:n < 0
 ·exact F2.run A outer s H args us vs Q E hr he hb hv ⟨n,e,h,hn,q⟩
 ·exact F1.run A outer s H args us vs Q E hr he hb hv ⟨n,e,by omega,hn,q⟩
end
theorem q1f:∀ {ps:List (D→Bool)} {ds:List D},q0w ps ds=true→ds.length=ps.length:=fun {ps ds} h=>by
 by_cases e:ds.length=ps.length
 ·exact e
 ·rw [x5a e] at h; cases h
noncomputable def spT (p:D→Bool) (f:D→List Str):Sp:=fun vs H Q _=>∃ (B:Nat) (v:V) (d:D),B≤36000∧vs=[v]∧Is B H v d∧p d=true∧q2a 60 d=true∧∀ H',q1b H H'→Q (.str (J (f d))) H'
theorem x2k {p:D→Bool} {f:D→List Str} {px:Str}:∀ vs H Q E,spT p f vs H Q E→vs.length=[px].length:=fun vs H Q E ⟨_,_,_,_,e,_⟩=>by subst e; rfl
theorem j4p {d:D} (h:q6j d=true):(∃ x,d=.tup [.str "get",.str x]∧x3g x=true)∨∃ (y x:Str) (i:Int),(y = "set" ∨ y = "add")∧d=.tup [.str y,.str x,.int i]∧x3g x=true:=by
 obtain⟨x,r,ps,rfl,e,hf⟩:=q3l h
 unfold j0z at e
 rw [List.lookup_cons] at e
 by_cases h1:x = "set"
 ·subst h1
  cases e
  match r,q1f hf with
  | [a,b],_ =>
   simp only [q0w,Bool.and_true,Bool.and_eq_true] at hf
   obtain⟨y,rfl,hy⟩:=q2y hf.1
   obtain⟨i,rfl⟩:=q0v hf.2
   exact .inr ⟨_,y,i,.inl rfl,rfl,hy⟩
 ·rw [show (x == "set")=false from by rw [beq_eq_false_iff_ne]; exact h1,List.lookup_cons] at e
  by_cases h2:x = "add"
  ·subst h2
   cases e
   match r,q1f hf with
   | [a,b],_ =>
    simp only [q0w,Bool.and_true,Bool.and_eq_true] at hf
    obtain⟨y,rfl,hy⟩:=q2y hf.1
    obtain⟨i,rfl⟩:=q0v hf.2
    exact .inr ⟨_,y,i,.inr rfl,rfl,hy⟩
  ·rw [show (x == "add")=false from by rw [beq_eq_false_iff_ne]; exact h2,List.lookup_cons] at e
   by_cases h3:x = "get"
   ·subst h3
    cases e
    match r,q1f hf with
    | [a],_ =>
     simp only [q0w,Bool.and_true] at hf
     obtain⟨y,rfl,hy⟩:=q2y hf
     exact .inl ⟨y,rfl,hy⟩
   ·rw [show (x == "get")=false from by rw [beq_eq_false_iff_ne]; exact h3] at e
    cases e
section
variable {P:Program} {w:World} {K:Frag} {mg:Str→Option Value} {base:Heap}
theorem w3h:FnScope ["_law_deed_here"] ["_law_deed_here"] (q0e q5j):=fSc
theorem x9p {f:Addr} {fd:FuncData} (F:Fun K "_law_deed_words" "_law_deed_words" q5j f fd) (T:Txt mg) (CF:Cal P w K mg base "_law_figures" 2 ["_law_number"] z2h):FnOk P w K mg base CX0 3 f fd ["_law_deed_here"] (spT q6j q6n):=by
 refine F.ok w3h x2k (fun _ A _ s H vs Q E hr h=>?_)
 obtain⟨B,v,d,hB,rfl,I,hp,hs,q⟩:=h
 refine⟨_,@q0x _ _ _ _ _ (q1r (q0t q1w (q0q q0y (by rfl) T.len PySem.boot_len (q1g (pv 0) q0b)) q0a (q0r _)) (@q1h _ _ _ (q0l (q0i q0j q0n (q0u q0o (pv 0) q0a q2q)))) q0s)
  (@q1h _ _ _ (q0l (q0i q0j (q0i q0j (q0i q0j (q0i q0j (q0u q0o (pv 0) q0a q2q) q0n) (q0u q0o (pv 0) q0a q2q)) q0n) (q0h CF hr (q0c (q0u q0o (pv 0) q0a q2q) q0b))))),?_⟩
 rcases j4p hp with ⟨x,rfl,hx⟩ | ⟨y,x,i,hy,rfl,hx⟩
 ·cases I with
  | @tup a xs _ ea l r =>
  obtain⟨w0,_,rfl,z0,rr0⟩:=IsL.un r
  obtain rfl:=Is.vstr z0
  obtain⟨w1,_,rfl,z1,rr1⟩:=IsL.un rr0
  obtain rfl:=Is.vstr z1
  obtain rfl:=IsL.un0 rr1
  have hl:=q6e hx
  refine⟨_,rfl,a,_,rfl,.inr (SqT.of ea),rfl,_,rfl,?_⟩
  refine q1m ⟨_,rfl,a,_,_,.str x,rfl,rfl,SqT.of ea,q0m (j:=1) rfl,_,_,rfl,rfl,?_,?_⟩
  ·show 4+x.length≤_
   rw [sizeLine_eq]; omega
  ·exact q H (q1b.refl _)
 ·cases I with
  | @tup a xs _ ea l r =>
  obtain⟨w0,_,rfl,z0,rr0⟩:=IsL.un r
  obtain rfl:=Is.vstr z0
  obtain⟨w1,_,rfl,z1,rr1⟩:=IsL.un rr0
  obtain rfl:=Is.vstr z1
  obtain⟨w2,_,rfl,z2,rr2⟩:=IsL.un rr1
  obtain rfl:=Is.vint z2
  obtain rfl:=IsL.un0 rr2
  have hl:=q6e hx
  have hi:i.natAbs < 10 ^ 60:=by
   simp only [q2a,smallL,Bool.true_and,Bool.and_true,decide_eq_true_eq] at hs
   exact hs
  have hfl:=q1d (n:=i) (k:=60) (by decide) hi
  have hyl:y.length=3:=by rcases hy with rfl | rfl <;> rfl
  refine⟨_,rfl,a,_,rfl,.inr (SqT.of ea),rfl,_,rfl,?_⟩
  refine q1c ⟨_,rfl,a,_,_,.str y,rfl,rfl,SqT.of ea,q0m (j:=0) rfl,_,_,rfl,rfl,?_,_,rfl,a,_,_,.str x,rfl,rfl,SqT.of ea,q0m (j:=1) rfl,_,_,rfl,rfl,?_,_,_,rfl,rfl,?_,_,rfl,a,_,_,.int i,rfl,rfl,SqT.of ea,q0m (j:=2) rfl,i,rfl,hi,_,_,rfl,rfl,?_,?_⟩
  ·show y.length+1≤_
   rw [sizeLine_eq]; omega
  ·rw [q0d,sizeLine_eq]
   show y.length+1+x.length≤_
   omega
  ·rw [q0d,q0d,sizeLine_eq]
   show y.length+1+x.length+1≤_
   omega
  ·rw [q0d,q0d,q0d,sizeLine_eq]
   show y.length+1+x.length+1+(q1j i).length≤_
   omega
  ·have e:q6n (.tup [.str y,.str x,.int i])=[y,x,q1j i]:=by rcases hy with rfl | rfl <;> rfl
   have q':=q H (q1b.refl _)
   rw [e,x1p,x1p,x2n] at q'
   simp only [x2h] at q' ⊢
   exact q'
end
theorem z2m:∀ {ds:List D},ds.all whole=true→∃ ns:List Int,ds=ns.map D.int
 | [],_=>⟨[],rfl⟩
 | d::ds,h=>by
  rw [List.all_cons,Bool.and_eq_true] at h
  obtain⟨i,rfl⟩:=q0v h.1
  obtain⟨ns,rfl⟩:=z2m h.2
  exact⟨i::ns,rfl⟩
theorem x4m:∀ {d:D},q2z d=true→∃ ns:List Int,d=.tup (ns.map D.int)∧ns.length≤9
 | .tup ds,h=>by
  have h':(ds.all q0k && ((decide (1≤ds.length) && decide (ds.length≤9)) && q8n (q3w ds)))=true:=h
  rw [Bool.and_eq_true,Bool.and_eq_true,Bool.and_eq_true,decide_eq_true_eq,decide_eq_true_eq] at h'
  obtain⟨ns,rfl⟩:=z2m (List.all_eq_true.mpr fun d hd=>q1p (List.all_eq_true.mp h'.1 d hd))
  exact⟨ns,rfl,by simpa using h'.2.1.2⟩
theorem z4r {k:Nat} {ns:List Int} (h:smallL k (ns.map D.int)=true):∀ n∈ns,n.natAbs < 10 ^ k:=fun n hn=>of_decide_eq_true (q2k.mp h _ (List.mem_map_of_mem hn))
theorem z3d:∀ ns:List Int,(ns.map D.int).flatMap q1y=ns.map q1j
 | []=>rfl
 | n::ns=>by
  have:=z3d ns
  rw [List.map_cons,List.flatMap_cons,this]
  rfl
theorem q9u {L n:Nat} {ws:List Str} (h:∀ x∈ws,x.length≤L) (hl:ws.length≤n) (hn:n*(L+1)≤16777216):JoinOk " " ws=true:=by
 unfold JoinOk
 rw [StrLaws.joinFits (B:=L) h (by
  have e1:(" " : Str).length=1:=rfl
  rw [e1,← Nat.mul_add]
  exact Nat.le_trans (Nat.mul_le_mul_right _ hl) hn)]
 rfl
section
variable {P:Program} {w:World} {K:Frag} {mg:Str→Option Value} {base:Heap}
theorem w3a:FnScope ["_law_seats_here"] ["_law_seats_here"] (q0e q3o):=fSc
theorem x7i {f:Addr} {fd:FuncData} (F:Fun K "_law_seats_words" "_law_seats_words" q3o f fd) (T:Txt mg) (CF:Cal P w K mg base "_law_figures" 2 ["_law_number"] z2h):FnOk P w K mg base CX0 3 f fd ["_law_seats_here"] (spT q2z q4m):=by
 refine F.ok w3a x2k (fun _ A _ s H vs Q E hr h=>?_)
 obtain⟨B,v,d,hB,rfl,I,hp,hs,q⟩:=h
 refine⟨_,@q1h _ _ _ (q0l (q9m PySem.F.plainAttrs_str PySem.F.slot_str_join PySem.F.type_str_join q9j q0n (q0c (q3u (NB:=["_law_number"]) (n:=1) (fr:=[]) (q5v (outer:=q0e q3o) (by rfl) (by decide +kernel) (by rfl)) (by rfl)
   (q8h (q0i q9p (q2x (q0c (q0q q0y (by rfl) T.len PySem.boot_len (q1g (pv 0) q0b)) q0b)) (pv 0)))
   (fun _ _ _ _ _=>q1i (i:=0) (show (["_law_number"]:List Str).Nodup by decide +kernel) (by rfl) (by exact Or.inl rfl)) (fun _ _ _ _ _=>q2u) (fun _ _ _ _ _=>q0h CF hr (q1g (pv 0) q0b))) q0b))),?_⟩
 have hw:=(I.mono hB (q1b.refl _)).wid
 obtain⟨ns,rfl,hn⟩:=x4m hp
 cases I with
 | @tup a xs _ ea l r =>
 have hxs:=x7h r
 subst hxs
 have hsm:=z4r (k:=60) hs
 refine⟨rfl,_,rfl,a,_,rfl,.inr (SqT.of ea),q4a (by show 1≤1000; decide),fun t ht=>?_⟩
 have s1:=q0g (o:=HO.tup [V.int ((ns.map V.int).length:Nat)]) ht
 refine⟨_,rfl,t,a,_,_,rfl,rfl,q0f,s1 _ _ ea,?_,fun p H2 hp2 s2=>?_⟩
 ·rw [List.length_singleton,List.length_map,sizeLine_eq]; omega
 have hT:SqT K H2 p (((ns.length:Int)::ns).map V.int):=SqT.of (by rw [hp2,List.length_map]; rfl)
 refine⟨p,rfl,⟨_,hT⟩,x7o (K:=K) (ms:=(ns.length:Int)::ns) hT (by rw [List.length_cons]; omega) (fun _=>true) (fun n=>V.str (q1j n)) ?_ ?_⟩
 ·intro i hi t' H3 R s3 ht' hR
  obtain⟨t0,rfl⟩:=q5c ht'
  have hb:(((ns.length:Int)::ns)[i]).natAbs < 10 ^ 60:=by
   have hm:=List.getElem_mem hi
   rcases List.mem_cons.mp hm with e | hm
   ·rw [e]
    have:(10:Nat) ^ 1≤10 ^ 60:=Nat.pow_le_pow_right (by decide) (by decide)
    simp only [Int.natAbs_natCast]
    omega
   ·exact hsm _ hm
  exact⟨_,rfl,_,rfl,hb,hR [some _] H3 rfl (q1b.refl _)⟩
 ·intro D1 H3 s3 hD hd
  have hws:q4m (.tup (ns.map D.int))=((ns.length:Int)::ns).map q1j:=by
   show q1j ((ns.map D.int).length:Int)::(ns.map D.int).flatMap q1y=_
   rw [z3d,List.length_map]
   rfl
  refine⟨" ",D1,q4m (.tup (ns.map D.int)),rfl,rfl,SqL.of ?_,?_,q H3 ((s1.trans s2).trans s3)⟩
  ·rw [hd,hws,List.filter_eq_self.mpr (fun _ _=>rfl),List.map_map]; rfl
  ·refine q9u (L:=61) (n:=10) ?_ ?_ (by decide)
   ·exact (q9f (B:=36000) (.tup (ns.map D.int)) hp hw).len 60 (by decide) (by rw [smallL,hs]; rfl)
   ·rw [hws,List.length_map,List.length_cons]; omega
noncomputable def j5c:Sp:=fun vs H Q _=>∃ (x:Str) (n:Int),vs=[.str x,.int n]∧0≤n∧x.length≤66402∧(Txt.split x " ").length≤1071∧(∀ w∈Txt.split x " ",w.length≤61)∧∀ (y:Str) H',y.length≤70000→q1b H H'→Q (.str y) H'
theorem j0o:FnScope ["_law_text", "_law_number", "_law_at", "_law_sign", "_law_words"] ["_law_text", "_law_number"] (q0e q7e):=fSc
theorem j5f (ws:List Str) (k:Nat):(ws.map V.str).take k=(ws.take k).map V.str:=(List.map_take ..).symm
theorem j6b (ws:List Str) (k:Nat):(ws.map V.str).drop k=(ws.drop k).map V.str:=(List.map_drop ..).symm
theorem z4h {f:Addr} {fd:FuncData} (F:Fun K "_law_changed" "_law_changed" q7e f fd) (T:Txt mg) (CS:Cal P w K mg base "_law_sign_by" 1 ["_law_number"] j1g) (CO:Cal P w K mg base "_law_other_word" 1 ["_law_word", "_law_number"] z3p):FnOk P w K mg base CX0 2 f fd ["_law_text", "_law_number"] j5c:=by
 refine F.ok j0o (fun vs H Q E ⟨_,_,e,_⟩=>by subst e; rfl) (fun _ A _ s H vs Q E hr h=>?_)
 obtain⟨x,n,rfl,h0,hx,hfew,hsh,q⟩:=h
 have hne:Txt.split x " " ≠ []:=z3m _ _
 refine⟨_,@q0x _ _ _ _ _ (q0z (i:=2) j0o.nd (by rfl) (by exact Or.inl rfl) (q0i q1k (q0i q1u (pv 1) q0a) (q0i q1n (q0q q2v (by rfl) T.len PySem.boot_len (q1g (pv 0) q0b)) q0a)))
  (@q0x _ _ _ _ _ (q0z (i:=3) j0o.nd (by rfl) (by exact Or.inl rfl) (q0h CS hr (q7o (q0i q1u (q0i q1u (pv 1) q0a) (q0i q1n (q0q q2v (by rfl) T.len PySem.boot_len (q1g (pv 0) q0b)) q0a)) q0b)))
  (@q0x _ _ _ _ _ (q1r (q0t x5p (q0i q1k (pv 1) q0a) q0a (q0r _)) (@q1h _ _ _ (q0l (q0u q5i (QE.h (x4t (j1n (q0i q0j (q2r x3q (pv 0) q3m (q3e (pv 2))) (q2r x3q (pv 0) (q3e (q0i q1n (pv 2) q0a)) q3m)) (j1n (q0i q0j (q0i q0j (q2r x3q (pv 0) q3m (q3e (pv 2))) (pv 3)) (q2r x3q (pv 0) (q3e (pv 2)) q3m)) (j1n (q0i q0j (q0i q0j (q2r x3q (pv 0) q3m (q3e (pv 2))) (pv 3)) (q2r x3q (pv 0) (q3e (q0i q1n (pv 2) q0a)) q3m)) q4g))))) (q0i q1k (pv 1) q0a) z5d))) q0s)
  (@q0x _ _ _ _ _ (q0z (i:=4) j0o.nd (by rfl) (by exact Or.inl rfl) (q9m PySem.F.plainAttrs_str PySem.F.slot_str_split PySem.F.type_str_split z3o (pv 0) (q5x q0n q0b)))
  (@q0x _ _ _ _ _ (q0z (i:=2) j0o.nd (by rfl) (by exact Or.inl rfl) (q0i q1k (q0i q1u (pv 1) q0a) (q0q q0y (by rfl) T.len PySem.boot_len (q1g (pv 4) q0b))))
  (@q0x _ _ _ _ _ (q1r (q0t q1w (q0i q1k (pv 1) q0a) q0a (q0r _)) (@q1h _ _ _ (q0l (q9m PySem.F.plainAttrs_str PySem.F.slot_str_join PySem.F.type_str_join q9j q0n (q7o (q0i x4k (q2r q8w (pv 4) q3m (q3e (pv 2))) (q2r q8w (pv 4) (q3e (q0i q1n (pv 2) q0a)) q3m)) q0b)))) q0s)
  (@q0x _ _ _ _ _ (q1r (q0t q1w (q0i q1k (pv 1) q0a) q0a (q0r _)) (@q1h _ _ _ (q0l (q9m PySem.F.plainAttrs_str PySem.F.slot_str_join PySem.F.type_str_join q9j q0n (q7o (q0i x4k (q2r q8w (pv 4) q3m (q3e (q0i q1n (pv 2) q0a))) (q2r q8w (pv 4) (q3e (pv 2)) q3m)) q0b)))) q0s)
  (@q0x _ _ _ _ _ (q1r (q0t q1w (q0i q1k (pv 1) q0a) q0a (q0r _)) (@q1h _ _ _ (q0l (q9m PySem.F.plainAttrs_str PySem.F.slot_str_join PySem.F.type_str_join q9j q0n (q7o (q0i x4k (q0i x4k (q2r q8w (pv 4) q3m (q3e (pv 2))) (x0h (q7n (q0h CO hr (q4p (q0u q5i (pv 4) (pv 2) w5b) (q7o (q0i q1u (q0i q1u (pv 1) q0a) (q0q q0y (by rfl) T.len PySem.boot_len (q1g (pv 4) q0b))) q0b))) q0b))) (q2r q8w (pv 4) (q3e (q0i q1n (pv 2) q0a)) q3m)) q0b)))) q0s)
  (@q1h _ _ _ (q0l (q9m PySem.F.plainAttrs_str PySem.F.slot_str_join PySem.F.type_str_join q9j q0n (q4p (q2r q8w (pv 4) q3m (q3e (pv 2))) q0b))))))))))),?_⟩
 have hsz:x.length≤sizeLine:=by rw [sizeLine_eq]; omega
 have hp1:(0:Int) < (x.length:Int)+1:=by omega
 refine⟨_,rfl,_,_,rfl,rfl,⟨by decide,by decide⟩,_,rfl,x,rfl,hsz,_,_,rfl,rfl,_,_,rfl,rfl,hp1,?_⟩
 obtain⟨a0,a1⟩:=q2d (n / 10) hp1
 obtain⟨a,ea⟩:=Int.eq_ofNat_of_zero_le a0
 have ha:a≤x.length:=by omega
 have hd0:0≤n / 10 / ((x.length:Int)+1):=Int.ediv_nonneg (Int.ediv_nonneg h0 (by decide)) (by omega)
 refine⟨_,rfl,_,_,rfl,rfl,⟨by decide,by decide⟩,_,rfl,x,rfl,hsz,_,_,rfl,rfl,_,_,rfl,rfl,⟨hp1,by omega⟩,_,rfl,hd0,fun sg hsg=>?_⟩
 refine⟨_,rfl,_,_,rfl,rfl,(by show (0:Int) < 10; decide),_,_,rfl,rfl,_,rfl,x5d (fun h6=>?_) (fun h6=>?_)⟩
 ·have ea1:(a:Int)+1=((a+1:Nat):Int):=by omega
  have lf:∀ y,y=Txt.slice x (some (n / 10 % ((x.length:Int)+1)+1)) none→y.length≤x.length - a:=fun y e=>by
   rw [ea,ea1] at e
   subst e
   exact Nat.le_trans x0j (by omega)
  have lf0:∀ y,y=Txt.slice x (some (n / 10 % ((x.length:Int)+1))) none→y.length≤x.length - a:=fun y e=>by
   rw [ea] at e
   subst e
   exact x0j
  have lt0:∀ y,y=Txt.slice x none (some (n / 10 % ((x.length:Int)+1)))→y.length=a:=fun y e=>by
   rw [ea] at e
   subst e
   exact x9g ha
  refine⟨_,rfl,_,rfl,_,rfl,x,rfl,hsz,fun y1 _ e1=>⟨_,rfl,_,rfl,_,_,rfl,rfl,_,rfl,x,rfl,hsz,fun y2 _ e2=>?_⟩⟩
  have g1:=lt0 _ e1
  have g2:=lf _ e2
  refine⟨_,_,rfl,rfl,(by rw [sizeLine_eq]; omega),_,rfl,_,rfl,_,rfl,x,rfl,hsz,fun y3 _ e3=>⟨_,rfl,_,_,rfl,rfl,?_⟩⟩
  have g3:=lt0 _ e3
  refine⟨(by rw [sizeLine_eq]; omega),_,rfl,_,rfl,_,rfl,x,rfl,hsz,fun y4 _ e4=>?_⟩
  have g4:=lf0 _ e4
  refine⟨_,_,rfl,rfl,(by rw [sizeLine_eq,q3t]; omega),_,rfl,_,rfl,_,rfl,x,rfl,hsz,fun y5 _ e5=>⟨_,rfl,_,_,rfl,rfl,?_⟩⟩
  have g5:=lt0 _ e5
  refine⟨(by rw [sizeLine_eq]; omega),_,rfl,_,rfl,_,_,rfl,rfl,_,rfl,x,rfl,hsz,fun y6 _ e6=>?_⟩
  have g6:=lf _ e6
  refine⟨_,_,rfl,rfl,(by rw [sizeLine_eq,q3t]; omega),q4a (by show 3≤1000; decide),fun p hp=>?_⟩
  obtain⟨b0,b1⟩:=q2d n (m:=3) (by decide)
  obtain⟨u,eu,hu⟩:=q5s (xs:=[V.str (y1++y2),V.str (y3++sg++y4),V.str (y5++sg++y6)]) (i:=n % 3) b0 (by show n % 3 < ((3:Nat):Int); omega)
  have hy:∃ y:Str,u=.str y∧y.length≤70000:=by
   simp only [List.mem_cons,List.not_mem_nil,or_false] at hu
   rcases hu with rfl | rfl | rfl
   ·exact⟨_,rfl,by rw [q3t]; omega⟩
   ·exact⟨_,rfl,by rw [q3t,q3t]; omega⟩
   ·exact⟨_,rfl,by rw [q3t,q3t]; omega⟩
  obtain⟨y,rfl,hl⟩:=hy
  exact⟨_,rfl,_,_,rfl,rfl,(by show (0:Int) < 3; decide),p,_,_,_,rfl,rfl,SqL.of q0f,eu,q y _ hl (q0g hp)⟩
 ·refine⟨_,rfl,rfl,x, " ",rfl,rfl,by decide,by rw [sizeLine_eq]; omega,fun l hl=>?_⟩
  generalize Txt.split x " " = ws at hfew hsh hne ⊢
  have s1:=q0g (o:=HO.lst (ws.map V.str)) hl
  generalize eH1:upd H l (.lst (ws.map V.str))=H1 at s1 ⊢
  have hl1:H1 l=some (.lst (ws.map V.str)):=by rw [← eH1]; exact q0f
  have hwp:(0:Int) < (ws.length:Int):=by
   have:=List.length_pos_iff.mpr hne
   omega
  have lm:((ws.map V.str).length:Int)=(ws.length:Int):=by rw [List.length_map]
  refine⟨_,rfl,_,_,rfl,rfl,⟨by decide,by decide⟩,_,rfl,l,_,rfl,.inl (SqL.of hl1),?_⟩
  rw [lm]
  refine⟨_,_,rfl,rfl,hwp,?_⟩
  obtain⟨c0,c1⟩:=q2d (n / 10) hwp
  obtain⟨b,eb⟩:=Int.eq_ofNat_of_zero_le c0
  have cT:x3n (ws.map V.str) none (some (n / 10 % (ws.length:Int)))=(ws.take b).map V.str:=by rw [eb,j5z,j5f]
  have cT1:x3n (ws.map V.str) none (some (n / 10 % (ws.length:Int)+1))=(ws.take (b+1)).map V.str:=by rw [eb,show (b:Int)+1=((b+1:Nat):Int) by omega,j5z,j5f]
  have cD:x3n (ws.map V.str) (some (n / 10 % (ws.length:Int))) none=(ws.drop b).map V.str:=by rw [eb,z2u,j6b]
  have cD1:x3n (ws.map V.str) (some (n / 10 % (ws.length:Int)+1)) none=(ws.drop (b+1)).map V.str:=by rw [eb,show (b:Int)+1=((b+1:Nat):Int) by omega,z2u,j6b]
  have hb:b < ws.length:=by omega
  have ht:∀ k,∀ w∈ws.take k,w.length≤61:=fun k w hw=>hsh w (List.mem_of_mem_take hw)
  have hd:∀ k,∀ w∈ws.drop k,w.length≤61:=fun k w hw=>hsh w (List.mem_of_mem_drop hw)
  have fin:∀ (us:List Str) H2 (Q2:VK),(∀ w∈us,w.length≤61)→us.length≤1072→q1b H H2→(∀ y,y.length≤70000→q1b H H2→Q2 (.str y) H2)→JoinOk " " us=true∧Q2 (.str (Str.join " " us)) H2:=fun us H2 Q2 h1 h2 h3 h4=>⟨q9u (L:=61) (n:=1072) h1 h2 (by decide),h4 _ (Nat.le_trans (x5l h1) (Nat.le_trans (Nat.mul_le_mul_right _ h2) (by decide))) h3⟩
  refine⟨_,rfl,_,_,rfl,rfl,(by show (0:Int) < 10; decide),rfl,_,rfl,x5d (fun _=>?_) (fun _=>?_)⟩
  ·refine⟨rfl,_,rfl,_,rfl,_,rfl,l,_,rfl,SqL.of hl1,fun p1 hp1'=>?_⟩
   rw [cT]
   have s2:=q0g (o:=HO.lst ((ws.take b).map V.str)) hp1'
   refine⟨_,rfl,_,rfl,_,_,rfl,rfl,_,rfl,l,_,rfl,SqL.of (s2 _ _ hl1),fun p2 hp2=>?_⟩
   rw [cD1]
   have s3:=q0g (o:=HO.lst ((ws.drop (b+1)).map V.str)) hp2
   refine⟨p1,p2,_,_,rfl,rfl,s3 _ _ q0f,q0f,?_,fun p3 hp3=>?_⟩
   ·rw [List.length_map,List.length_map,List.length_take,List.length_drop,sizeLine_eq]; omega
   have s4:=q0g (o:=HO.lst ((ws.take b).map V.str++(ws.drop (b+1)).map V.str)) hp3
   refine⟨" ",p3,ws.take b++ws.drop (b+1),rfl,rfl,?_,fin _ _ _ ?_ ?_ (((s1.trans s2).trans s3).trans s4) fun y hy sy=>q y _ hy sy⟩
   ·rw [List.map_append]; exact SqL.of q0f
   ·exact fun w hw=>(List.mem_append.mp hw).elim (ht _ w) (hd _ w)
   ·rw [List.length_append,List.length_take,List.length_drop]; omega
  refine⟨_,rfl,_,_,rfl,rfl,(by show (0:Int) < 10; decide),rfl,_,rfl,x5d (fun _=>?_) (fun _=>?_)⟩
  ·refine⟨rfl,_,rfl,_,rfl,_,_,rfl,rfl,_,rfl,l,_,rfl,SqL.of hl1,fun p1 hp1'=>?_⟩
   rw [cT1]
   have s2:=q0g (o:=HO.lst ((ws.take (b+1)).map V.str)) hp1'
   refine⟨_,rfl,_,rfl,_,rfl,l,_,rfl,SqL.of (s2 _ _ hl1),fun p2 hp2=>?_⟩
   rw [cD]
   have s3:=q0g (o:=HO.lst ((ws.drop b).map V.str)) hp2
   refine⟨p1,p2,_,_,rfl,rfl,s3 _ _ q0f,q0f,?_,fun p3 hp3=>?_⟩
   ·rw [List.length_map,List.length_map,List.length_take,List.length_drop,sizeLine_eq]; omega
   have s4:=q0g (o:=HO.lst ((ws.take (b+1)).map V.str++(ws.drop b).map V.str)) hp3
   refine⟨" ",p3,ws.take (b+1)++ws.drop b,rfl,rfl,?_,fin _ _ _ ?_ ?_ (((s1.trans s2).trans s3).trans s4) fun y hy sy=>q y _ hy sy⟩
   ·rw [List.map_append]; exact SqL.of q0f
   ·exact fun w hw=>(List.mem_append.mp hw).elim (ht _ w) (hd _ w)
   ·rw [List.length_append,List.length_take,List.length_drop]; omega
  refine⟨_,rfl,_,_,rfl,rfl,(by show (0:Int) < 10; decide),rfl,_,rfl,x5d (fun _=>?_) (fun _=>?_)⟩
  ·refine⟨rfl,_,rfl,_,rfl,_,rfl,l,_,rfl,SqL.of hl1,fun p1 hp1'=>?_⟩
   rw [cT]
   have s2:=q0g (o:=HO.lst ((ws.take b).map V.str)) hp1'
   have hdv:0≤n / 10 / (ws.length:Int):=Int.ediv_nonneg (Int.ediv_nonneg h0 (by decide)) (by omega)
   have hat:atI (ws.map V.str) (n / 10 % (ws.length:Int))=some (V.str ws[b]):=by
    rw [eb]
    exact q0m (by rw [List.getElem?_map,List.getElem?_eq_getElem hb]; rfl)
   have hwb:=hsh ws[b] (List.getElem_mem hb)
   refine⟨_,rfl,_,rfl,l,_,_,_,rfl,rfl,SqL.of (s2 _ _ hl1),hat,_,rfl,_,_,rfl,rfl,⟨by decide,by decide⟩,_,rfl,l,_,rfl,.inl (SqL.of (s2 _ _ hl1)),?_⟩
   rw [lm]
   refine⟨_,_,rfl,rfl,⟨hwp,by omega⟩,_,_,rfl,hdv,by omega,fun o H3 ho s3=>?_⟩
   refine⟨q4a (by show 1≤1000; decide),fun p2 hp2=>?_⟩
   have s4:=q0g (o:=HO.lst [V.str o]) hp2
   refine⟨p1,p2,_,_,rfl,rfl,s4 _ _ (s3 _ _ q0f),q0f,?_,fun p3 hp3=>?_⟩
   ·rw [List.length_map,List.length_take,sizeLine_eq]; show _+1≤_; omega
   have s5:=q0g (o:=HO.lst ((ws.take b).map V.str++[V.str o])) hp3
   have sA:=((s2.trans s3).trans s4).trans s5
   refine⟨_,rfl,_,rfl,_,_,rfl,rfl,_,rfl,l,_,rfl,SqL.of (sA _ _ hl1),fun p4 hp4=>?_⟩
   rw [cD1]
   have s6:=q0g (o:=HO.lst ((ws.drop (b+1)).map V.str)) hp4
   refine⟨p3,p4,_,_,rfl,rfl,s6 _ _ q0f,q0f,?_,fun p5 hp5=>?_⟩
   ·rw [List.length_append,List.length_map,List.length_map,List.length_take,List.length_drop,sizeLine_eq]; show _+1+_≤_; omega
   have s7:=q0g (o:=HO.lst (((ws.take b).map V.str++[V.str o])++(ws.drop (b+1)).map V.str)) hp5
   refine⟨" ",p5,ws.take b++[o]++ws.drop (b+1),rfl,rfl,?_,q9u (L:=3061) (n:=1072) ?_ ?_ (by decide),q _ _ (Nat.le_trans (z4y (L:=61) (ht b) (hd (b+1))) ?_) (((s1.trans sA).trans s6).trans s7)⟩
   ·rw [List.map_append,List.map_append]; exact SqL.of q0f
   ·intro w hw
    rcases List.mem_append.mp hw with hw | hw
    ·rcases List.mem_append.mp hw with hw | hw
     ·exact Nat.le_trans (ht _ w hw) (by decide)
     ·cases List.mem_singleton.mp hw; omega
    ·exact Nat.le_trans (hd _ w hw) (by decide)
   ·rw [List.length_append,List.length_append,List.length_take,List.length_drop,List.length_singleton]; omega
   ·rw [List.length_take,List.length_drop]; omega
  ·refine⟨rfl,_,rfl,_,rfl,_,rfl,l,_,rfl,SqL.of hl1,fun p1 hp1'=>?_⟩
   rw [cT]
   have s2:=q0g (o:=HO.lst ((ws.take b).map V.str)) hp1'
   exact⟨" ",p1,ws.take b,rfl,rfl,SqL.of q0f,fin _ _ _ (ht b) (by rw [List.length_take]; omega) (s1.trans s2) fun y hy sy=>q y _ hy sy⟩
end
end K1
namespace Kp
open PySem L2
mutual
noncomputable def z6p (B:Nat):D→Bool
 | .str x=>decide (x.length≤B)
 | .tup ds=>decide (ds.length≤B) && fitBL B ds
 | .lst ds=>decide (ds.length≤B) && fitBL B ds
 | _=>true
noncomputable def fitBL (B:Nat):List D→Bool
 | []=>true
 | d::ds=>z6p B d && fitBL B ds
end
mutual
theorem Is.fit {B C:Nat} {H:Hp}:∀ {v:V} {d:D},Is B H v d→z6p C d=true→Is C H v d
 | _,_,.non,_=>.non
 | _,_,.bl b,_=>.bl b
 | _,_,.int i,_=>.int i
 | _,_,.str x _,h=>.str x (of_decide_eq_true h)
 | _,_,.tup e l r,h=>by
  rw [z6p,Bool.and_eq_true,decide_eq_true_eq,← r.length] at h
  exact .tup e h.1 (r.fit h.2)
 | _,_,.lst e l r,h=>by
  rw [z6p,Bool.and_eq_true,decide_eq_true_eq,← r.length] at h
  exact .lst e h.1 (r.fit h.2)
theorem IsL.fit {B C:Nat} {H:Hp}:∀ {vs:List V} {ds:List D},IsL B H vs ds→fitBL C ds=true→IsL C H vs ds
 | _,_,.nil,_=>.nil
 | _,_,.cons h t,hf=>by
  rw [fitBL,Bool.and_eq_true] at hf
  exact .cons (h.fit hf.1) (t.fit hf.2)
end
noncomputable def FW (B:Nat) (p:D→Bool) (f:D→List Str):Prop:=∀ d,p d=true→(f d).length≤2*B→z6p B d=true
inductive FWL (B:Nat):List (D→Bool)→List (D→List Str)→Prop
 | nil:FWL B [] []
 | cons {p:D→Bool} {f:D→List Str} {ps:List (D→Bool)} {fs:List (D→List Str)} (h:FW B p f) (t:FWL B ps fs):FWL B (p::ps) (f::fs)
theorem FWL.p {B:Nat}:∀ {ps:List (D→Bool)} {fs:List (D→List Str)} {ds:List D},FWL B ps fs→q0w ps ds=true→(q2f fs ds).length≤2*B→fitBL B ds=true∧ds.length=ps.length
 | _,_,[],.nil,_,_=>⟨rfl,rfl⟩
 | _,_,_::_,.nil,h,_=>by cases h
 | _,_,[],.cons _ _,h,_=>by cases h
 | _,_,d::ds,.cons (f:=f) (fs:=fs) h t,hf,hw=>by
  rw [q0w,Bool.and_eq_true] at hf
  rw [show q2f (f::fs) (d::ds)=f d++q2f fs ds from rfl,List.length_append] at hw
  obtain⟨h1,h2⟩:=t.p hf.2 (by omega)
  exact⟨by rw [fitBL,h d hf.1 (by omega),h1]; rfl,by rw [List.length_cons,List.length_cons,h2]⟩
theorem x8v {B:Nat} {ps:List (D→Bool)} {fs:List (D→List Str)} (t:FWL B ps fs) (hl:ps.length≤B):FW B (x0g ps) (z3f fs):=fun d hd hw=>by
 obtain⟨ds,rfl,h⟩:=q4w hd
 obtain⟨h1,h2⟩:=t.p h hw
 rw [z6p,h1,h2,decide_eq_true hl]
 rfl
theorem z2c {B:Nat} {p:D→Bool} {f:D→List Str} (h:FW B p f):∀ {ds:List D},ds.all p=true→(ds.flatMap f).length≤2*B→fitBL B ds=true
 | [],_,_=>rfl
 | d::ds,ha,hw=>by
  rw [List.all_cons,Bool.and_eq_true] at ha
  rw [List.flatMap_cons,List.length_append] at hw
  rw [fitBL,h d ha.1 (by omega),z2c h ha.2 (by omega)]
  rfl
theorem z2r {p:D→Bool} {f:D→List Str} (h:∀ d,p d=true→2≤(f d).length):∀ {ds:List D},ds.all p=true→2*ds.length≤(ds.flatMap f).length
 | [],_=>Nat.zero_le _
 | d::ds,ha=>by
  rw [List.all_cons,Bool.and_eq_true] at ha
  have h1:=h d ha.1
  have h2:=z2r h ha.2
  rw [List.flatMap_cons,List.length_append,List.length_cons]
  omega
theorem z2l {B:Nat} {p:D→Bool} {f:D→List Str} (h:FW B p f) (h2:∀ d,p d=true→2≤(f d).length):FW B (x4r p) (q4d f):=fun d hd hw=>by
 cases d with
 | tup ds =>
  have ha:=(Bool.and_eq_true _ _ |>.mp (show (ds.all p && q8s (ds.map q1l))=true from hd)).1
  rw [show q4d f (.tup ds)=q1j (ds.length:Int)::ds.flatMap f from rfl,List.length_cons] at hw
  have:=z2r h2 ha
  rw [z6p,z2c h ha (by omega),decide_eq_true (by omega)]
  rfl
 | _=>cases hd
theorem j5a {B n:Nat} {p:D→Bool} {f:D→List Str} (h:FW B p f) (hn:n≤B) {ds:List D} (ha:ds.all p=true) (hl:ds.length≤n) (hw:(q4d f (.tup ds)).length≤2*B):z6p B (.tup ds)=true:=by
 rw [show q4d f (.tup ds)=q1j (ds.length:Int)::ds.flatMap f from rfl,List.length_cons] at hw
 rw [z6p,z2c h ha (by omega),decide_eq_true (by omega)]
 rfl
inductive TFW (B:Nat):List (Str × List (D→Bool))→List (Str × List (D→List Str))→Prop
 | nil:TFW B [] []
 | cons {x:Str} {ps:List (D→Bool)} {fs:List (D→List Str)} {t:List (Str × List (D→Bool))} {u:List (Str × List (D→List Str))} (hx:x3g x=true) (hl:ps.length < 9) (h:FWL B ps fs) (r:TFW B t u):TFW B ((x,ps)::t) ((x,fs)::u)
theorem TFW.at {B:Nat} {x:Str}:∀ {t:List (Str × List (D→Bool))} {u:List (Str × List (D→List Str))} {ps:List (D→Bool)},TFW B t u→t.lookup x=some ps→∃ fs,u.lookup x=some fs∧FWL B ps fs∧x3g x=true∧ps.length < 9
 | _,_,_,.nil,e=>by cases e
 | _,_,ps',.cons (x:=y) hx hl h r,e=>by
  rw [List.lookup_cons] at e
  by_cases hy:x=y
  ·subst hy
   rw [show (x==x)=true from by simp] at e
   cases e
   exact⟨_,by rw [List.lookup_cons,show (x==x)=true from by simp],h,hx,hl⟩
  ·have hb:(x==y)=false:=by rw [beq_eq_false_iff_ne]; exact hy
   rw [hb] at e
   obtain⟨fs,a,b⟩:=r.at e
   exact⟨fs,by rw [List.lookup_cons,hb]; exact a,b⟩
theorem z1z {B:Nat} (h9:9≤B) {x:Str} {r:List D} {ps:List (D→Bool)} {fs:List (D→List Str)} (hx:x3g x=true) (hl:ps.length < 9) (h:FWL B ps fs) (hf:q0w ps r=true) (hw:(q2f fs r).length≤2*B):z6p B (.tup (.str x::r))=true:=by
 obtain⟨h1,h2⟩:=h.p hf hw
 have h8:=q6e hx
 rw [z6p,fitBL,h1,z6p,decide_eq_true (show x.length≤B by omega),List.length_cons,h2,decide_eq_true (show ps.length+1≤B by omega)]
 rfl
theorem j9p {B:Nat} (h9:9≤B) {t:List (Str × List (D→Bool))} {u:List (Str × List (D→List Str))} (T:TFW B t u):FW B (q2t t) (byW u):=fun d hd hw=>by
 obtain⟨x,r,ps,rfl,e,hf⟩:=q3l hd
 obtain⟨fs,e2,h,hx,hl⟩:=T.at e
 have ew:byW u (.tup (.str x::r))=x::q2f fs r:=by
  show x::q2f ((u.lookup x).getD []) r=_
  rw [e2]; rfl
 rw [ew,List.length_cons] at hw
 exact z1z h9 hx hl h hf (by omega)
section
variable {B:Nat} (h9:9≤B)
include h9
theorem x1u:FW B q2n z0l:=fun d h _=>by
 obtain⟨x,rfl,hx⟩:=q2y h
 have:=q6e hx
 exact decide_eq_true (show x.length≤B by omega)
theorem z2v:FW B q2z q4m:=fun d hd hw=>by
 cases d with
 | tup ds =>
  have hd':(ds.all q0k && ((decide (1≤ds.length) && decide (ds.length≤9)) && q8n (q3w ds)))=true:=hd
  rw [Bool.and_eq_true,Bool.and_eq_true,Bool.and_eq_true,decide_eq_true_eq,decide_eq_true_eq] at hd'
  exact j5a (n:=9) (p:=q0k) (f:=q1y) (fun d h _=>by cases d <;> first | rfl | cases h) h9 hd'.1 hd'.2.1.2 hw
 | _=>cases hd
end
theorem x1n {B:Nat}:FW B whole q1y:=fun d h _=>by cases d <;> first | rfl | cases h
theorem q3d {B:Nat}:FW B q0k q1y:=fun d h _=>by cases d <;> first | rfl | cases h
theorem q8g {B:Nat} {l:Int}:FW B (geD l) q1y:=fun d h _=>by cases d <;> first | rfl | cases h
theorem j5d {B:Nat}:FW B q4n j5x:=fun d h _=>by cases d <;> first | rfl | cases h
theorem w0g {B:Nat}:FW B q8m j6v:=fun d h _=>by cases d <;> first | rfl | cases h
section
variable {B:Nat} (h9:9≤B)
include h9
theorem j0c:FW B q6j q6n:=j9p h9 (.cons (by decide +kernel) (by decide) (.cons (x1u h9) (.cons x1n .nil)) (.cons (by decide +kernel) (by decide) (.cons (x1u h9) (.cons x1n .nil)) (.cons (by decide +kernel) (by decide) (.cons (x1u h9) .nil) .nil)))
theorem j6y:FW B x2a j2a:=j9p h9 (.cons (by decide +kernel) (by decide) .nil (.cons (by decide +kernel) (by decide) (.cons (x1u h9) (.cons q8g (.cons (j0c h9) .nil))) (.cons (by decide +kernel) (by decide) (.cons (z2v h9) .nil) .nil)))
theorem j3z:FW B q3r q3z:=x8v (.cons q8g (.cons (j6y h9) .nil)) (by show 2≤B; omega)
theorem z5i:FW B q2l q4k:=fun d hd hw=>by
 have hd':=Bool.and_eq_true _ _ |>.mp (show (w1v q3r d && decide (z5k d≤5))=true from hd)
 cases d with
 | tup ds=>exact j5a (n:=5) (j3z h9) (by omega) hd'.1 (of_decide_eq_true hd'.2) hw
 | _=>cases hd'.1
theorem j2z (d:D) (h:x0n d=true):2≤(q8o d).length:=by
 obtain⟨ds,rfl,hf⟩:=q4w h
 match ds,hf with
 | [a,b],hf =>
  simp only [q0w,Bool.and_eq_true] at hf
  obtain⟨x,rfl,_⟩:=q2y hf.1
  cases b <;> first | exact Nat.le_refl 2 | cases hf.2.1
 | [_],hf=>simp [q0w] at hf
 | [],hf=>simp [q0w] at hf
 | _::_::_::_,hf=>simp [q0w] at hf
theorem z5z (d:D) (h:q4c d=true):2≤(q6h d).length:=by
 obtain⟨ds,rfl,hf⟩:=q4w h
 match ds,hf with
 | [a,b,c],hf =>
  simp only [q0w,Bool.and_eq_true] at hf
  obtain⟨x,rfl,_⟩:=q2y hf.1
  cases b <;> first | exact Nat.le_add_left 2 _ | cases hf.2.1
 | [_],hf=>simp [q0w] at hf
 | [_,_],hf=>simp [q0w] at hf
 | [],hf=>simp [q0w] at hf
 | _::_::_::_::_,hf=>simp [q0w] at hf
theorem j4f:FW B q3v q9k:=x8v (.cons (z2l (x8v (.cons (x1u h9) (.cons x1n .nil)) (by show 2≤B; omega)) (j2z h9)) (.cons (z2l (x8v (.cons (x1u h9) (.cons q8g (.cons x1n .nil))) (by show 3≤B; omega)) (z5z h9)) .nil)) (by show 2≤B; omega)
theorem j7d:FW B x0r z5v:=fun d hd hw=>by
 have h1:=(Bool.and_eq_true _ _ |>.mp (Bool.and_eq_true _ _ |>.mp (show ((x0g [geD 0,geD 0,q2z,q3v] d && z0k d) && j5l d)=true from hd)).1).1
 exact x8v (.cons q8g (.cons q8g (.cons (z2v h9) (.cons (j4f h9) .nil)))) (by show 4≤B; omega) d h1 hw
theorem z6i:TFW B (x2g++x2f) (x0d++x0b) :=
 .cons (by decide +kernel) (by decide) (.cons q3d (.cons q3d (.cons q8g (.cons q8g (.cons q8g .nil)))))
 (.cons (by decide +kernel) (by decide) (.cons q3d (.cons q3d (.cons q8g (.cons j5d .nil))))
 (.cons (by decide +kernel) (by decide) (.cons q3d (.cons q3d (.cons q8g (.cons (j7d h9) .nil))))
 (.cons (by decide +kernel) (by decide) (.cons q3d (.cons q3d (.cons q8g (.cons j5d (.cons q8g .nil)))))
 (.cons (by decide +kernel) (by decide) (.cons (x1u h9) (.cons q3d (.cons q8g (.cons (j0c h9) .nil))))
 (.cons (by decide +kernel) (by decide) (.cons q3d (.cons (x1u h9) (.cons q8g (.cons x1n .nil))))
 (.cons (by decide +kernel) (by decide) (.cons q3d (.cons (x1u h9) (.cons q8g (.cons w0g .nil)))) .nil))))))
theorem z9q:FW B (q2t q3c) q2i:=fun d hd hw=>by
 obtain⟨x,r,ps,rfl,e,hf⟩:=q3l hd
 by_cases hx:x = "hand"
 ·subst hx
  have e2:ps=[q0k,q0k,geD 1,geD 0,geD 0,q2l,geD 0]:=(Option.some.inj e).symm
  subst e2
  obtain⟨a,b,c,p,l,es,m,rfl,h1,h2,h3,h4,h5,h6,h7⟩:=z3h hf
  rw [show q2i (.tup (.str "hand" :: [a,b,c,p,l,es,m]))=("hand" : Str)::(q1y a++(q1y b++(q1y c++(q1y p++(q1y l++(q1y m++(q4k es++[]))))))) from rfl] at hw
  simp only [List.length_cons,List.length_append,List.length_nil] at hw
  refine z1z h9 (by decide +kernel) (by decide) (fs:=[q1y,q1y,q1y,q1y,q1y,q4k,q1y]) (.cons q3d (.cons q3d (.cons q8g (.cons q8g (.cons q8g (.cons (z5i h9) (.cons q8g .nil))))))) hf ?_
  show (q1y a++(q1y b++(q1y c++(q1y p++(q1y l++(q4k es++(q1y m++[]))))))).length≤2*B
  simp only [List.length_append,List.length_nil]
  omega
 ·have e1:(x2g++x2f).lookup x=some ps:=by rw [← q7j (y := "hand") hx]; exact e
  have e2:q6r.lookup x=(x0d++x0b).lookup x:=by rw [← q7j (y := "hand") (a:=[q1y,q1y,q1y,q1y,q1y,q1y,q4k]) hx]; rfl
  obtain⟨fs,e3,h,hx',hl⟩:=(z6i h9).at e1
  have ew:q2i (.tup (.str x::r))=x::q2f fs r:=by
   show x::q2f ((q6r.lookup x).getD []) (if x = "hand" then j1a r else r)=_
   rw [if_neg hx,e2,e3]; rfl
  rw [ew,List.length_cons] at hw
  exact z1z h9 hx' hl h hf (by omega)
end
noncomputable def z1l (c:Nat):Bool:=decide (48≤c) && decide (c≤57)
noncomputable def q3k (x:Str):Str:=if Txt.startswith x "-" = true then Txt.slice x (some 1) none else x
noncomputable def w1e (x:Str):Bool:=(decide (1≤(q3k x).length) && decide ((q3k x).length≤60)) && ((q3k x).cps.toList.all z1l && (decide (x = "0") || !Txt.startswith (q3k x) "0"))
theorem z9u:("-" : Str).cps=#[45]:=by decide +kernel
theorem x6g:("0" : Str).cps=#[48]:=by decide +kernel
end Kp
namespace K1
open PySem L2 Kp
theorem z8j (c:Nat):(!decide ((⟨#[c]⟩:Str).cps.toList < ("0" : Str).cps.toList))=decide (48≤c):=by
 have e:("0" : Str).cps.toList=[48]:=by decide +kernel
 rw [e]
 show (!decide ([c] < [48]))=_
 have:([c] < [48])↔c < 48:=by
  constructor
  ·intro h
   cases h with
   | rel h=>exact h
   | cons h=>cases h
  ·intro h; exact List.Lex.rel h
 rw [Bool.eq_iff_iff]
 simp only [Bool.not_eq_true',decide_eq_false_iff_not,decide_eq_true_eq,this]
 omega
theorem j8t (c:Nat):(!decide (("9" : Str).cps.toList < (⟨#[c]⟩:Str).cps.toList))=decide (c≤57):=by
 have e:("9" : Str).cps.toList=[57]:=by decide +kernel
 rw [e]
 show (!decide ([57] < [c]))=_
 have:([57] < [c])↔57 < c:=by
  constructor
  ·intro h
   cases h with
   | rel h=>exact h
   | cons h=>cases h
  ·intro h; exact List.Lex.rel h
 rw [Bool.eq_iff_iff]
 simp only [Bool.not_eq_true',decide_eq_false_iff_not,decide_eq_true_eq,this]
 omega
section
variable {P:Program} {w:World} {K:Frag} {mg:Str→Option Value} {base:Heap}
noncomputable def z2z:Sp:=fun vs H Q _=>∃ x:Str,vs=[.str x]∧x.length≤100000∧∀ H',q1b H H'→Q (.bl (w1e x)) H'
noncomputable def w3o:TS:=fun D σ H=>∃ x:Str,σ=[some (.str x),none]∧x.length≤100000∧((q3k x).length≤x.length→D.nx [some (.str x),some (.str (q3k x))] H)
theorem PS.weak6 {X:Cx} {st:Stmt} {t t':TS} (h:PS X st t) (w:∀ D σ H,t' D σ H→t D σ H):PS X st t':=fun pins s σ H D I q=>h pins s σ H D I (w D σ H q)
theorem w1a:FnScope ["word", "figures"] ["word"] (q0e q4j):=fSc
theorem z1f {f:Addr} {fd:FuncData} (F:Fun K "is_number_word" "is_number_word" q4j f fd) (T:Txt mg):FnOk P w K mg base CX0 1 f fd ["word"] z2z:=by
 refine F.ok w1a (fun vs H Q E ⟨_,e,_⟩=>by subst e; rfl) (fun _ A _ s H vs Q E hr h=>?_)
 obtain⟨x,rfl,hx,q⟩:=h
 refine⟨_,@q0x _ _ _ _ _ (PS.weak6 (t':=w3o) (q0z (i:=1) w1a.nd (by rfl) (by exact Or.inl rfl) (z2o (q2s (q9m PySem.F.plainAttrs_str PySem.F.slot_str_startswith PySem.F.type_str_startswith x9t (pv 0) (q5x q0n q0b))) (q2r x3q (pv 0) (q3e q0a) q3m) (pv 0))) ?w1)
  (@q0x _ _ _ _ _ (q1r (q3a (j2k x7v x7v q0a (q0q q2v (by rfl) T.len PySem.boot_len (q1g (pv 1) q0b)) q0a)) (@q1h _ _ _ (q0l x0q)) q0s)
  (@q0x _ _ _ _ _ (q1r (q3a (q2s (q0q (x0f (by rfl)) (by rfl) T.all q7m (q0c (q3u (NB:=["sign"]) (n:=1) (fr:=[]) (q5v (outer:=q0e q4j) (by rfl) (by decide +kernel) (by rfl)) (by rfl) (z9j (pv 1))
   (fun _ _ _ _ _=>q1i (i:=0) (show (["sign"]:List Str).Nodup by decide +kernel) (by rfl) (by exact Or.inl rfl)) (fun _ _ _ _ _=>q2u) (fun _ _ _ _ _=>x1x q9d q9d q0n (pv 0) q0n)) q0b)))) (@q1h _ _ _ (q0l x0q)) q0s)
  (@q1h _ _ _ (q0l (z9e (q1v q1w (pv 0) q0n (q0r _)) (q2j (z3g (q9m PySem.F.plainAttrs_str PySem.F.slot_str_startswith PySem.F.type_str_startswith x9t (pv 1) (q5x q0n q0b))))))))),?_⟩
 case w1 =>
  rintro D σ H ⟨x,rfl,hx,q⟩
  refine⟨_,rfl,rfl,x, "-",rfl,rfl,_,rfl,?_⟩
  cases hs:Txt.startswith x "-" with
  | true =>
   refine q1m ⟨_,rfl,1,rfl,x,rfl,by rw [sizeLine_eq]; omega,fun y hy e=>?_⟩
   have e2:q3k x=y:=by unfold q3k; rw [hs,if_pos rfl,e]
   rw [e2] at q
   exact q hy
  | false =>
   have e2:q3k x=x:=by unfold q3k; rw [hs,if_neg Bool.false_ne_true]
   rw [e2] at q
   exact q1c ⟨_,rfl,q (Nat.le_refl _)⟩
 refine⟨x,rfl,hx,fun hfl=>?_⟩
 have q0:∀ H',q1b H H'→Q (.bl ((decide (1≤(q3k x).length) && decide ((q3k x).length≤60)) && ((q3k x).cps.toList.all z1l && (decide (x = "0") || !Txt.startswith (q3k x) "0")))) H':=q
 generalize q3k x=y at hfl q0 ⊢
 refine⟨_,rfl,y,rfl,by rw [sizeLine_eq]; omega,1,_,rfl,rfl,_,rfl,?_⟩
 by_cases h1:1≤y.length
 ·rw [decide_eq_true (show (1:Int)≤(y.length:Int) by omega)]
  refine q1m ⟨_,60,rfl,rfl,_,rfl,?_⟩
  by_cases h60:y.length≤60
  ·rw [decide_eq_true (show (y.length:Int)≤60 by omega)]
   refine q1c ⟨_,rfl,y,rfl,q2w (J:=Its y) (k:=1) (fun _=>true) (fun i=>.bl (z1l (y.cps.getD i 0))) (show y.cps.size < sizeLine by rw [sizeLine_eq]; have:y.cps.size=y.length:=rfl; omega) (fun i H hi _=>hi) (fun H _=>rfl) ?_ ?_⟩
   ·intro i H2 t v H3 R hi s1 ht z hR
    obtain⟨rfl,c,hc,rfl⟩:=z
    obtain⟨t0,rfl⟩:∃ t0,t=[t0]:=by
     match t,ht with
     | [t0],_=>exact⟨t0,rfl⟩
    have ec:y.cps.getD i 0=c:=by rw [Array.getD_eq_getD_getElem?,hc]; rfl
    have hR':=hR [some (.str ⟨#[c]⟩)] H3 rfl (q1b.refl _)
    rw [ec] at hR'
    refine⟨_,rfl,_,_,rfl,rfl,_,rfl,?_⟩
    rw [z8j]
    unfold z1l at hR'
    by_cases h48:48≤c
    ·rw [decide_eq_true h48] at hR' ⊢
     refine q1m ⟨_,_,rfl,rfl,?_⟩
     rw [j8t]
     exact hR'
    ·rw [decide_eq_false h48] at hR' ⊢
     exact q1c hR'
   ·intro D H' s1 hD hd
    refine⟨D,(List.range y.cps.size).map fun i=>z1l (y.cps.getD i 0),rfl,SqL.of ?_,?_⟩
    ·rw [hd,List.filter_eq_self.mpr (fun _ _=>rfl),List.map_map]
     rfl
    have k2:=q0 H' s1
    rw [decide_eq_true h1,decide_eq_true h60] at k2
    rw [x9e (α:=Nat)]
    refine⟨_,rfl,?_⟩
    cases hall:y.cps.toList.all z1l with
    | false =>
     rw [hall] at k2
     exact q1m k2
    | true =>
     rw [hall] at k2
     refine q1c ⟨_,rfl,rfl,_,rfl,?_⟩
     by_cases hx0:x = "0"
     ·rw [decide_eq_true (show V.str x=V.str "0" by rw [hx0])]
      rw [decide_eq_true hx0] at k2
      exact q1m k2
     ·rw [decide_eq_false (fun z=>hx0 (V.str.inj z))]
      rw [decide_eq_false hx0] at k2
      exact q1c ⟨_,rfl,rfl,y, "0",rfl,rfl,_,rfl,k2⟩
  ·rw [decide_eq_false (show ¬ (y.length:Int)≤60 by omega)]
   have k2:=q0 H (q1b.refl _)
   rw [decide_eq_true h1,decide_eq_false h60] at k2
   exact q1m k2
 ·rw [decide_eq_false (show ¬ (1:Int)≤(y.length:Int) by omega)]
  have k2:=q0 H (q1b.refl _)
  rw [decide_eq_false h1] at k2
  exact q1c ⟨_,rfl,q1m k2⟩
end
structure WoC (K:Frag) (C:Addr):Prop where
 cl:Cls K C
 a_words:x3c K C "words"
 a_passed:x3c K C "passed"
theorem lkW {v u:V}:([("words",v),("passed",u)]:List (Str × V)).lookup ("words" : Str)=some v:=by simp [List.lookup]
theorem lkP {v u:V}:([("words",v),("passed",u)]:List (Str × V)).lookup ("passed" : Str)=some u:=by
 have:(("passed" : Str) == "words")=false:=by decide +kernel
 simp [List.lookup,this]
theorem lkA {v u:V}:([("words",v),("passed",u)]:List (Str × V)).lookup ("all_passed" : Str)=none:=by
 have h1:(("all_passed" : Str) == "words")=false:=by decide +kernel
 have h2:(("all_passed" : Str) == "passed")=false:=by decide +kernel
 simp [List.lookup,h1,h2]
noncomputable def Wd (C a l:Addr) (ws:List Str) (p:Nat) (H:Hp):Prop:=(∃ dx,H a=some (.ins C dx [("words",.ref l),("passed",.int (p:Int))]))∧H l=some (.lst (ws.map V.str))
theorem Wd.ne {C a l:Addr} {ws:List Str} {p:Nat} {H:Hp} (h:Wd C a l ws p H):l≠a:=fun z=>by
 obtain⟨⟨dx,e⟩,e2⟩:=h
 rw [z,e] at e2
 cases e2
section
variable {P:Program} {w:World} {K:Frag} {mg:Str→Option Value} {base:Heap}
noncomputable def z8v (C:Addr):Sp:=fun vs H Q _=>∃ (x dx:Addr) (y:Str),vs=[.ref x,.str y]∧H x=some (.ins C dx [])∧y.length+1≤sizeLine∧∀ l H',H l=none→Wd C x l (Txt.split y " ") 0 H'→q3f x H H'→Q .non H'
noncomputable def z7m (C:Addr):Sp:=fun vs H Q _=>∃ (a l:Addr) (ws:List Str) (p:Nat),vs=[.ref a]∧Wd C a l ws p H∧Q (.bl (decide (p=ws.length))) H
theorem w6g:FnScope ["self", "line"] ["self", "line"] (q0e q5r):=fSc
theorem j3f {f:Addr} {fd:FuncData} {C:Addr} (Y:WoC K C) (F:Fun K "__init__" "Words.__init__" q5r f fd):FnOk P w K mg base CX0 1 f fd ["self", "line"] (z8v C):=by
 refine F.ok w6g (fun vs H Q E ⟨_,_,_,e,_⟩=>by subst e; rfl) (fun _ A _ s H vs Q E hr h=>?_)
 obtain⟨x,dx,y,rfl,hx,hy,q⟩:=h
 refine⟨_,@q0x _ _ _ _ _ (z8w (pv 0) (q9m PySem.F.plainAttrs_str PySem.F.slot_str_split PySem.F.type_str_split z3o (pv 1) (q5x q0n q0b)) (by rfl))
  (@q1h _ _ _ (z8w (pv 0) q0a (by rfl))),?_⟩
 refine⟨_,rfl,rfl,y, " ",rfl,rfl,by decide +kernel,hy,fun l hl=>?_⟩
 have nx:x≠l:=fun z=>by rw [z,hl] at hx; cases hx
 refine⟨_,rfl,x,C,dx,[],rfl,(by rw [q1a nx]; exact hx),Y.cl,Y.a_words,by decide,?_⟩
 refine⟨_,rfl,x,C,dx,_,rfl,q0f,Y.cl,Y.a_passed,(by show 1 < 1000; decide),?_⟩
 refine q l _ hl ⟨⟨dx,q0f⟩,?_⟩ (fun b o hb e=>?_)
 ·rw [q1a nx.symm,q1a nx.symm]
  exact q0f
 ·rw [q1a hb,q1a hb,q1a (fun z=>by rw [z,hl] at e; cases e)]
  exact e
theorem w5m:FnScope ["self"] ["self"] (q0e q4y):=fSc
theorem j7h {f:Addr} {fd:FuncData} {C:Addr} (Y:WoC K C) (F:Fun K "all_passed" "Words.all_passed" q4y f fd) (T:Txt mg):FnOk P w K mg base CX0 1 f fd ["self"] (z7m C):=by
 refine F.ok w5m (fun vs H Q E ⟨_,_,_,_,e,_⟩=>by subst e; rfl) (fun _ A _ s H vs Q E hr h=>?_)
 obtain⟨a,l,ws,p,rfl,⟨⟨dx,ha⟩,hl⟩,q⟩:=h
 refine⟨_,@q1h _ _ _ (q0l (q1v q1w (x9u (pv 0) (by rfl)) (q0q q0y (by rfl) T.len PySem.boot_len (q0c (x9u (pv 0) (by rfl)) q0b)) (q0r _))),?_⟩
 refine⟨_,rfl,a,C,dx,_,_,rfl,ha,Y.cl,Y.a_passed,lkP,_,rfl,a,C,dx,_,_,rfl,ha,Y.cl,Y.a_words,lkW,l,_,rfl,.inl (SqL.of hl),rfl,?_⟩
 have e:decide (V.int (p:Int)=V.int ((ws.map V.str).length:Int))=decide (p=ws.length):=by
  rw [List.length_map,Bool.eq_iff_iff,decide_eq_true_eq,decide_eq_true_eq]
  constructor
  ·intro z; have:=V.int.inj z; omega
  ·intro z; rw [z]
 rw [e]
 exact q
end
end K1
namespace Kp
open PySem L2
theorem z9d:∀ (k:Nat) (l:List Nat),l.length=k+1→l.all z1l=true→(l=[48]∨l.head? ≠ some 48)→∃ m,x1o m=l
 | 0,l,hl,ha,_=>by
  obtain⟨c,rfl⟩:=List.length_eq_one_iff.mp hl
  have hc:(decide (48≤c) && decide (c≤57))=true:=List.all_eq_true.mp ha c (by simp)
  simp only [Bool.and_eq_true,decide_eq_true_eq] at hc
  exact⟨c - 48,by rw [x3l (by omega)]; congr 1; omega⟩
 | k+1,l,hl,ha,hz=>by
  have hne:l≠[]:=fun z=>by rw [z] at hl; cases hl
  obtain⟨l',c,rfl⟩:∃ l' c,l=l'++[c]:=⟨l.dropLast,l.getLast hne,(List.dropLast_concat_getLast hne).symm⟩
  have hl':l'.length=k+1:=by rw [List.length_append] at hl; simp at hl; omega
  have hne':l'≠[]:=fun z=>by rw [z] at hl'; cases hl'
  rw [List.all_append,Bool.and_eq_true] at ha
  have hc:(decide (48≤c) && decide (c≤57))=true:=List.all_eq_true.mp ha.2 c (by simp)
  simp only [Bool.and_eq_true,decide_eq_true_eq] at hc
  have hh:l'.head? ≠ some 48:=by
   rcases hz with z | z
   ·have:=congrArg List.length z
    rw [List.length_append,hl'] at this
    simp at this
   ·rw [List.head?_append] at z
    cases hd:l'.head? with
    | none=>exact absurd (List.head?_eq_none_iff.mp hd) hne'
    | some x=>rw [hd] at z; exact z
  obtain⟨m,hm⟩:=z9d k l' hl' ha.1 (.inr hh)
  have h0:m≠0:=fun z=>by
   rw [z,x3l (by decide)] at hm
   rw [← hm] at hh
   exact hh rfl
  refine⟨10*m+(c - 48),?_⟩
  rw [x8u (by omega),show (10*m+(c - 48)) / 10=m by omega,show (10*m+(c - 48)) % 10=c - 48 by omega,hm]
  congr 2
  omega
theorem z2s {x:Str} (h:w1e x=true):∃ n:Int,x=q1j n∧n.natAbs < 10 ^ 60:=by
 unfold w1e at h
 simp only [Bool.and_eq_true,Bool.or_eq_true,decide_eq_true_eq,Bool.not_eq_true'] at h
 obtain⟨⟨h1,h60⟩,ha,hz⟩:=h
 have hlen:(cL (q3k x)).length=(q3k x).length:=Array.length_toList
 obtain⟨k,hk⟩:∃ k,(cL (q3k x)).length=k+1:=⟨(cL (q3k x)).length - 1,by omega⟩
 by_cases hm:Txt.startswith x "-" = true
 ·have hf:q3k x=Txt.slice x (some 1) none:=by unfold q3k; rw [if_pos hm]
  have hx0:(cL x).head? = some 45:=by
   rw [x6t z9u] at hm
   exact of_decide_eq_true hm
  have hxl:1≤x.length:=by
   have:(cL x).length=x.length:=Array.length_toList
   rw [← this]
   cases hc:cL x with
   | nil=>rw [hc] at hx0; cases hx0
   | cons a r=>simp
  have ht:cL (q3k x)=(cL x).tail:=by rw [hf]; exact z5t hxl
  have hn0:¬ x = "0" := fun z=>by
   rw [z] at hx0
   exact absurd hx0 (by decide +kernel)
  have hs0:(cL (q3k x)).head? ≠ some 48:=by
   rcases hz with z | z
   ·exact absurd z hn0
   ·rw [x6t x6g] at z
    exact of_decide_eq_false z
  obtain⟨m,e⟩:=z9d k _ hk ha (.inr hs0)
  have hm0:m≠0:=fun z=>by
   rw [z,x3l (by decide)] at e
   rw [← e] at hs0
   exact hs0 rfl
  have hlt:m < 10 ^ 60:=(x0c m (k:=60) (by decide)).mp (by rw [e,hlen]; exact h60)
  refine⟨-(m:Int),?_,by omega⟩
  apply q9q
  show cL x=z8g (-(m:Int))
  rw [x0e (by omega),show (-(m:Int)).natAbs=m by omega,e,ht]
  cases hc:cL x with
  | nil=>rw [hc] at hx0; cases hx0
  | cons a r =>
   rw [hc] at hx0
   cases hx0
   rfl
 ·have hf:q3k x=x:=by unfold q3k; rw [if_neg hm]
  rw [hf] at hk ha hz hlen h60
  have hs:cL x=[48]∨(cL x).head? ≠ some 48:=by
   rcases hz with z | z
   ·left
    rw [z]
    decide +kernel
   ·right
    rw [x6t x6g] at z
    exact of_decide_eq_false z
  obtain⟨m,e⟩:=z9d k _ hk ha hs
  have hlt:m < 10 ^ 60:=(x0c m (k:=60) (by decide)).mp (by rw [e,hlen]; exact h60)
  refine⟨(m:Int),?_,by simpa using hlt⟩
  apply q9q
  show cL x=z8g (m:Int)
  rw [q7u,e]
end Kp
namespace K1
open PySem L2 Kp
structure NoL7 (K:Frag) (mg:Str→Option Value) (cN:Addr):Prop where
 m:mg "NoLetter" = some (.ref cN)
 x:PySem.W.excIn K cN w3i "ValueError.__new__" = true
theorem z1t {v u:V}:([("words",v),("passed",u)]:List (Str × V)).lookup ("word" : Str)=none:=by
 have h1:(("word" : Str) == "words")=false:=by decide +kernel
 have h2:(("word" : Str) == "passed")=false:=by decide +kernel
 simp [List.lookup,h1,h2]
theorem Wd.same7 {C a l:Addr} {ws:List Str} {p:Nat} {H H':Hp} (h:Wd C a l ws p H) (s:q1b H H'):Wd C a l ws p H':=let ⟨⟨dx,e⟩,e2⟩:=h; ⟨⟨dx,s _ _ e⟩,s _ _ e2⟩
theorem drop_one {ws:List Str} {p:Nat} {x:Str} (h:ws[p]? = some x):ws.drop p=x::ws.drop (p+1):=by
 obtain⟨hp,rfl⟩:=List.getElem?_eq_some_iff.mp h
 exact List.drop_eq_getElem_cons hp
section
variable {P:Program} {w:World} {K:Frag} {mg:Str→Option Value} {base:Heap}
noncomputable def q9z (C cN:Addr):Sp:=fun vs H Q E=>∃ (a l:Addr) (ws:List Str) (p:Nat),vs=[.ref a]∧Wd C a l ws p H∧p≤ws.length∧ws.length≤100000∧(∀ x H',ws[p]? = some x→Wd C a l ws (p+1) H'→q3f a H H'→Q (.str x) H')∧∀ H',E (.ref cN) none H'
theorem w2q:FnScope ["self"] ["self"] (q0e q8v):=fSc
theorem j0y {f fA:Addr} {fd dA:FuncData} {C cN:Addr} (Z:NoL7 K mg cN) (Y:WoC K C) (F:Fun K "word" "Words.word" q8v f fd) (MA:Meth K C "all_passed" fA) (FA:FnOk P w K mg base CX0 1 fA dA ["self"] (z7m C)) (bA:q3p K dA ["self"] []):FnOk P w K mg base (CXe P w) 2 f fd ["self"] (q9z C cN):=by
 refine F.okE w2q (fun vs H Q E ⟨_,_,_,_,e,_⟩=>by subst e; rfl) (fun _ A _ s H vs Q E hr h=>?_)
 obtain⟨a,l,ws,p,rfl,W,hpl,hws,q,qe⟩:=h
 obtain⟨⟨dx,ha⟩,hl⟩:=id W
 refine⟨_,@q0x _ _ _ _ _ (q1r (q2s (q5y (pv 0) Y.cl MA FA hr bA .nil x4e)) (@q1h _ _ _ (q7v q6l (by rfl) (by rfl) Z.m Z.x (q5x q0n q0b))) q0s)
  (@q0x _ _ _ _ _ (z8w (pv 0) (q0i q1n (x9u (pv 0) (by rfl)) q0a) (by rfl))
  (@q1h _ _ _ (q0l (q0u q5i (x9u (pv 0) (by rfl)) (q0i x6h (x9u (pv 0) (by rfl)) q0a) z5d)))),?_⟩
 refine⟨_,rfl,a,dx,_,rfl,ha,lkA,a,l,ws,p,rfl,W,_,rfl,?_⟩
 by_cases hp:p=ws.length
 ·rw [decide_eq_true hp]
  exact q1m ⟨by decide,qe _⟩
 ·rw [decide_eq_false hp]
  have hlt:p < ws.length:=by omega
  have hx:ws[p]? = some ws[p]:=List.getElem?_eq_getElem hlt
  refine q1c ⟨_,rfl,a,C,dx,_,_,rfl,ha,Y.cl,Y.a_passed,lkP,_,_,rfl,rfl,_,rfl,a,C,dx,_,rfl,ha,Y.cl,Y.a_passed,(by show 2 < 1000; decide),?_⟩
  have nl:=W.ne
  have W':Wd C a l ws (p+1) (upd H a (.ins C dx [("words",.ref l),("passed",.int ((p:Int)+1))])):=⟨⟨dx,q0f.trans (by rw [show ((p:Int)+1)=((p+1:Nat):Int) by omega])⟩,by rw [q1a nl]; exact hl⟩
  obtain⟨⟨dx',ha'⟩,hl'⟩:=id W'
  have hat:atI (ws.map V.str) (((p+1:Nat):Int) - 1)=some (.str ws[p]):=by
   rw [show (((p+1:Nat):Int) - 1)=(p:Int) by omega]
   exact q0m (by rw [List.getElem?_map,hx]; rfl)
  exact⟨_,rfl,a,C,dx',_,_,rfl,ha',Y.cl,Y.a_words,lkW,_,rfl,a,C,dx',_,_,rfl,ha',Y.cl,Y.a_passed,lkP,_,_,rfl,rfl,l,_,_,_,rfl,rfl,SqL.of hl',hat,q _ _ hx W' q3f.upd⟩
noncomputable def q5o (C cN:Addr) (f:D→List Str):Sp:=fun vs H Q E=>∃ (a l:Addr) (ws:List Str) (p:Nat),vs=[.ref a]∧Wd C a l ws p H∧p≤ws.length∧ws.length≤100000∧(∀ x∈ws,x.length≤100000) ∧
 (∀ v H' d p',Is 100000 H' v d→z6n d=true→q2a 60 d=true→p < p'→p'≤ws.length→ws.drop p=f d++ws.drop p'→Wd C a l ws p' H'→q3f a H H'→Q v H')∧∀ H',E (.ref cN) none H'
theorem q3h {C cN:Addr} {f:D→List Str} {px:Str}:∀ vs H Q E,q5o C cN f vs H Q E→vs.length=[px].length:=fun vs H Q E ⟨_,_,_,_,e,_⟩=>by subst e; rfl
theorem w1s:FnScope ["words", "word"] ["words"] (q0e q8a):=fSc
theorem x5b {f fW:Addr} {fd dW:FuncData} {C cN:Addr} (Z:NoL7 K mg cN) (Y:WoC K C) (F:Fun K "read_number" "read_number" q8a f fd) (T:Txt mg) (MW:Meth K C "word" fW) (FW:FnOk P w K mg base (CXe P w) 2 fW dW ["self"] (q9z C cN)) (bW:q3p K dW ["self"] []) (CI:Cal P w K mg base "is_number_word" 1 ["word"] z2z) :
  FnOk P w K mg base (CXe P w) 3 f fd ["words"] (q5o C cN q1y):=by
 refine F.okE w1s q3h (fun _ A _ s H vs Q E hr h=>?_)
 obtain⟨a,l,ws,p,rfl,W,hpl,hl,hx,q,qe⟩:=h
 have r1:=hr.mono (show 1≤2 by decide)
 refine⟨_,@q0x _ _ _ _ _ (q0z (i:=1) w1s.nd (by rfl) (by exact Or.inl rfl) (q5y (pv 0) Y.cl MW FW hr bW .nil q6u))
  (@q0x _ _ _ _ _ (q1r (q3a (q2s (q0h CI r1 (q1g (pv 1) q0b)))) (@q1h _ _ _ (q7v q6l (by rfl) (by rfl) Z.m Z.x (q5x q0n q0b))) q0s)
  (@q1h _ _ _ (q0l (q4f x9v (by rfl) T.int q8c (q1g (pv 1) q0b))))),?_⟩
 obtain⟨⟨dx,ha⟩,_⟩:=id W
 refine⟨_,rfl,a,dx,_,rfl,ha,z1t,a,l,ws,p,rfl,W,hpl,hl,fun x H1 hat W1 s1=>?_,qe⟩
 have hlt:=(List.getElem?_eq_some_iff.mp hat).1
 refine⟨_,rfl,x,rfl,hx x (List.mem_of_getElem? hat),fun H2 s2=>⟨_,rfl,?_⟩⟩
 cases hb:w1e x with
 | false=>exact q1m ⟨by decide,qe _⟩
 | true =>
  obtain⟨n,rfl,hn⟩:=z2s hb
  have hlen:=q1d (n:=n) (k:=60) (by decide) hn
  refine q1c ⟨_,rfl,q1j n,n,rfl,z0h (Nat.lt_of_lt_of_le hn (Nat.pow_le_pow_right (by decide) (by decide))),by omega,?_⟩
  exact q _ _ (.int n) (p+1) (.int n) rfl (decide_eq_true hn) (by omega) (by omega) (drop_one hat) (W1.same7 s2) (s1.trans (q3f.of s2))
theorem w4a:FnScope ["words"] ["words"] (q0e x0z):=fSc
theorem x7k {f fW:Addr} {fd dW:FuncData} {C cN:Addr} (Y:WoC K C) (F:Fun K "read_name" "read_name" x0z f fd) (MW:Meth K C "word" fW) (FW:FnOk P w K mg base (CXe P w) 2 fW dW ["self"] (q9z C cN)) (bW:q3p K dW ["self"] []):FnOk P w K mg base (CXe P w) 3 f fd ["words"] (q5o C cN z0l):=by
 refine F.okE w4a q3h (fun _ A _ s H vs Q E hr h=>?_)
 obtain⟨a,l,ws,p,rfl,W,hpl,hl,hx,q,qe⟩:=h
 refine⟨_,@q1h _ _ _ (q0l (q5y (pv 0) Y.cl MW FW hr bW .nil q6u)),?_⟩
 obtain⟨⟨dx,ha⟩,_⟩:=id W
 refine⟨_,rfl,a,dx,_,rfl,ha,z1t,a,l,ws,p,rfl,W,hpl,hl,fun x H1 hat W1 s1=>?_,qe⟩
 have hlt:=(List.getElem?_eq_some_iff.mp hat).1
 exact q _ _ (.str x) (p+1) (.str x (hx x (List.mem_of_getElem? hat))) rfl rfl (by omega) (by omega) (drop_one hat) W1 s1
theorem w1n:FnScope ["words", "word"] ["words"] (q0e q8z):=fSc
theorem z3r (x:Str):∀ l:List Str,inV (V.str x) (l.map V.str)=decide (x∈l)
 | []=>rfl
 | y::l=>by
  show (decide ((y:Str)=x) || inV (V.str x) (l.map V.str))=_
  rw [z3r x l,Bool.eq_iff_iff]
  simp only [Bool.or_eq_true,decide_eq_true_eq,List.mem_cons]
  exact⟨fun h=>h.imp Eq.symm id,fun h=>h.imp Eq.symm id⟩
theorem x5u {f fW:Addr} {fd dW:FuncData} {C cN:Addr} (Z:NoL7 K mg cN) (Y:WoC K C) (F:Fun K "read_truth" "read_truth" q8z f fd) (MW:Meth K C "word" fW) (FW:FnOk P w K mg base (CXe P w) 2 fW dW ["self"] (q9z C cN)) (bW:q3p K dW ["self"] []):FnOk P w K mg base (CXe P w) 3 f fd ["words"] (q5o C cN j5x):=by
 refine F.okE w1n q3h (fun _ A _ s H vs Q E hr h=>?_)
 obtain⟨a,l,ws,p,rfl,W,hpl,hl,hx,q,qe⟩:=h
 refine⟨_,@q0x _ _ _ _ _ (q0z (i:=1) w1n.nd (by rfl) (by exact Or.inl rfl) (q5y (pv 0) Y.cl MW FW hr bW .nil q6u))
  (@q0x _ _ _ _ _ (q1r (q0t q6t (pv 1) (QE.h (q6s (q1q (q1q q4g)))) rfl) (@q1h _ _ _ (q7v q6l (by rfl) (by rfl) Z.m Z.x (q5x q0n q0b))) q0s)
  (@q1h _ _ _ (q0l (q1v q1w (pv 1) q0n (q0r _))))),?_⟩
 obtain⟨⟨dx,ha⟩,_⟩:=id W
 refine⟨_,rfl,a,dx,_,rfl,ha,z1t,a,l,ws,p,rfl,W,hpl,hl,fun x H1 hat W1 s1=>?_,qe⟩
 have hlt:=(List.getElem?_eq_some_iff.mp hat).1
 refine⟨_,rfl,q4a (by show 2≤1000; decide),fun p2 hp2=>⟨p2,_,rfl,.inr (SqT.of q0f),rfl,rfl,_,rfl,?_⟩⟩
 have s2:=q0g (o:=HO.tup ((["yes", "no"]:List Str).map V.str)) hp2
 show if (!inV (V.str x) ((["yes", "no"]:List Str).map V.str))=true then _ else _
 rw [z3r]
 by_cases hm:x∈(["yes", "no"]:List Str)
 ·rw [decide_eq_true hm]
  obtain⟨b,rfl⟩:∃ b:Bool,x=(if b=true then ("yes" : Str) else ("no" : Str)):=by
   simp only [List.mem_cons,List.not_mem_nil,or_false] at hm
   rcases hm with rfl | rfl
   ·exact⟨true,rfl⟩
   ·exact⟨false,rfl⟩
  refine q1c ⟨_,rfl,rfl,?_⟩
  rw [show decide (V.str (if b=true then ("yes" : Str) else ("no" : Str))=V.str ("yes" : Str))=b by cases b <;> decide +kernel]
  exact q _ _ (.bl b) (p+1) (.bl b) rfl rfl (by omega) (by omega) (drop_one hat) (W1.same7 s2) (s1.trans (q3f.of s2))
 ·rw [decide_eq_false hm]
  exact q1m ⟨by decide,qe _⟩
theorem j9y:FnScope ["words", "word"] ["words"] (q0e x1c):=fSc
theorem x8d {f fW:Addr} {fd dW:FuncData} {C cN:Addr} (Z:NoL7 K mg cN) (Y:WoC K C) (F:Fun K "read_head" "read_head" x1c f fd) (T:Txt mg) (MW:Meth K C "word" fW) (FW:FnOk P w K mg base (CXe P w) 2 fW dW ["self"] (q9z C cN)) (bW:q3p K dW ["self"] []) (CI:Cal P w K mg base "is_number_word" 1 ["word"] z2z) :
  FnOk P w K mg base (CXe P w) 3 f fd ["words"] (q5o C cN j6v):=by
 refine F.okE j9y q3h (fun _ A _ s H vs Q E hr h=>?_)
 obtain⟨a,l,ws,p,rfl,W,hpl,hl,hx,q,qe⟩:=h
 have r1:=hr.mono (show 1≤2 by decide)
 refine⟨_,@q0x _ _ _ _ _ (q0z (i:=1) j9y.nd (by rfl) (by exact Or.inl rfl) (q5y (pv 0) Y.cl MW FW hr bW .nil q6u))
  (@q0x _ _ _ _ _ (q1r (q0t q1w (pv 1) q0n (q0r _)) (@q1h _ _ _ (q0l x4n)) q0s)
  (@q0x _ _ _ _ _ (q1r (q3a (q2s (q0h CI r1 (q1g (pv 1) q0b)))) (@q1h _ _ _ (q7v q6l (by rfl) (by rfl) Z.m Z.x (q5x q0n q0b))) q0s)
  (@q1h _ _ _ (q0l (q4f x9v (by rfl) T.int q8c (q1g (pv 1) q0b)))))),?_⟩
 obtain⟨⟨dx,ha⟩,_⟩:=id W
 refine⟨_,rfl,a,dx,_,rfl,ha,z1t,a,l,ws,p,rfl,W,hpl,hl,fun x H1 hat W1 s1=>?_,qe⟩
 have hlt:=(List.getElem?_eq_some_iff.mp hat).1
 refine⟨_,rfl,rfl,_,rfl,?_⟩
 by_cases hno:x = "none"
 ·rw [decide_eq_true (show V.str x=V.str "none" by rw [hno])]
  subst hno
  exact q1m (q _ _ .non (p+1) .non rfl rfl (by omega) (by omega) (drop_one hat) W1 s1)
 ·rw [decide_eq_false (fun z=>hno (V.str.inj z))]
  refine q1c ⟨_,rfl,x,rfl,hx x (List.mem_of_getElem? hat),fun H2 s2=>⟨_,rfl,?_⟩⟩
  cases hb:w1e x with
  | false=>exact q1m ⟨by decide,qe _⟩
  | true =>
   obtain⟨n,rfl,hn⟩:=z2s hb
   have hlen:=q1d (n:=n) (k:=60) (by decide) hn
   refine q1c ⟨_,rfl,q1j n,n,rfl,z0h (Nat.lt_of_lt_of_le hn (Nat.pow_le_pow_right (by decide) (by decide))),by omega,?_⟩
   exact q _ _ (.int n) (p+1) (.int n) rfl (decide_eq_true hn) (by omega) (by omega) (drop_one hat) (W1.same7 s2) (s1.trans (q3f.of s2))
end
end K1
namespace L2
open PySem PySem.Spec PyProof.Rows
theorem z9n {f:Obj→Obj} (hf:∀ o,f (f o)=f o) (h:Heap) (T:Addr):(h.update T f).update T f=h.update T f:=by
 obtain⟨objs,l⟩:=h
 show Heap.mk ((objs.modify T f).modify T f) l=Heap.mk (objs.modify T f) l
 congr 1
 apply Array.ext
 ·simp
 ·intro i h1 h2
  simp only [Array.getElem_modify]
  split
  ·exact hf _
  ·rfl
theorem z7l (x:Value) (o:Obj):Obj.mapFields (fun vs=>vs.setIfInBounds 3 x) (Obj.mapFields (fun vs=>vs.setIfInBounds 3 x) o)=Obj.mapFields (fun vs=>vs.setIfInBounds 3 x) o:=by
 obtain⟨c,d,data,sl⟩:=o
 cases data <;> first | rfl | simp [Obj.mapFields]
theorem z1j {M:Model} {A:Around} {E:Value→Shared→Prop} {s:Shared} {env:Env} {L e T:Addr} {oe oT:Obj} {vs ts:Array Value} {fl:Value} {Q:Unit→Shared→Prop} (hf:env.frame=some L) (he:s.heap.get? e=some oe) (hd:oe.data=.fields vs) (h1:vs[1]? = some (.ref T))
  (hT:s.heap.get? T=some oT) (hTd:oT.data=.fields ts) (h3:ts[3]? = some fl) (hne:(fl==rawInt (L:Int))=false) (hTe:T≠e)
  (he':(s.heap.update T (Obj.mapFields fun x=>x.setIfInBounds 3 Value.none)).get? e=some oe) (hT':∃ oT' ts',(s.heap.update T (Obj.mapFields fun x=>x.setIfInBounds 3 Value.none)).get? T=some oT'∧oT'.data=.fields ts'∧ts'[3]? = some Value.none)
  (h:wpAny M A (noteFrame (.ref e) env) Q E { s with heap:=s.heap.update T (Obj.mapFields fun x=>x.setIfInBounds 3 Value.none) }):wpAny M A (noteFrame (.ref e) env) Q E s:=by
 intro Γ p hΓ
 have w:=h Γ p hΓ
 obtain⟨oT',ts',eT',dT',z3⟩:=hT'
 unfold noteFrame at w ⊢
 rw [hf] at w ⊢
 have wpB:∀ {α β:Type} (m:Sem α) (f:α→Sem β) (Q:β→Pos→Shared→Prop) (E:Value→Pos→Shared→Prop) (p:Pos) (s:Shared),Sem.wp M Γ (m >>= f) Q E p s=Sem.wp M Γ m (fun a p' s'=>Sem.wp M Γ (f a) Q E p' s') E p s:=fun m f Q E p s=>Sem.wp_bind M Γ m f Q E p s
 dsimp only at w ⊢
 rw [wpB,wp_field_iff] at w ⊢
 obtain⟨a,o,vs2,x,ea,eo,ed,ex,w⟩:=w
 cases ea
 have eo':=he'.symm.trans eo
 cases eo'
 rw [hd] at ed
 cases ed
 rw [h1] at ex
 cases ex
 refine⟨e,oe,vs,.ref T,rfl,he,hd,h1,?_⟩
 have hn:(Value.ref T != Value.none)=true:=rfl
 rw [if_pos hn] at w ⊢
 rw [wpB,wp_field_iff] at w ⊢
 obtain⟨a,o,vs3,x,ea,eo,ed,ex,w⟩:=w
 cases ea
 have eo':=eT'.symm.trans eo
 cases eo'
 rw [dT'] at ed
 cases ed
 rw [z3] at ex
 cases ex
 refine⟨T,oT,ts,fl,rfl,hT,hTd,h3,?_⟩
 rw [if_neg (by rw [hne]; decide)]
 rw [if_neg (show ¬ (Value.none==rawInt (L:Int))=true by rw [show (Value.none==rawInt (L:Int))=false from rfl]; decide)] at w
 rw [wpB,wp_setField_iff] at w ⊢
 obtain⟨a,o,vs4,ea,eo,ed,hi,w⟩:=w
 cases ea
 refine⟨T,oT,ts,rfl,hT,hTd,(Array.getElem?_eq_some_iff.mp h3).1,?_⟩
 rw [z9n (z7l Value.none)] at w
 exact w
theorem j0s {M:Model} {A:Around} {E:Value→Shared→Prop} {s:Shared} {env:Env} {L e T:Addr} {oe oT:Obj} {vs ts:Array Value} {fl:Value} {Q:Unit→Shared→Prop} (hf:env.frame=some L) (he:s.heap.get? e=some oe) (hd:oe.data=.fields vs) (h1:vs[1]? = some (.ref T))
  (hT:s.heap.get? T=some oT) (hTd:oT.data=.fields ts) (h3:ts[3]? = some fl) (hne:(fl==rawInt (L:Int))=true) (q:Q () s):wpAny M A (noteFrame (.ref e) env) Q E s:=by
 intro Γ p hΓ
 have wpB:∀ {α β:Type} (m:Sem α) (f:α→Sem β) (Q:β→Pos→Shared→Prop) (E:Value→Pos→Shared→Prop) (p:Pos) (s:Shared),Sem.wp M Γ (m >>= f) Q E p s=Sem.wp M Γ m (fun a p' s'=>Sem.wp M Γ (f a) Q E p' s') E p s:=fun m f Q E p s=>Sem.wp_bind M Γ m f Q E p s
 unfold noteFrame
 rw [hf]
 dsimp only
 rw [wpB,wp_field_iff]
 refine⟨e,oe,vs,.ref T,rfl,he,hd,h1,?_⟩
 rw [if_pos (show (Value.ref T != Value.none)=true from rfl),wpB,wp_field_iff]
 refine⟨T,oT,ts,fl,rfl,hT,hTd,h3,?_⟩
 rw [if_pos hne]
 exact (Sem.wp_pure M Γ () _ _ p s).symm▸q
theorem j6a {h:Heap} {T:Addr} {o:Obj} {vs:Array Value} (g:Array Value→Array Value) (e:h.get? T=some o) (hd:o.data=.fields vs):(h.update T (Obj.mapFields g)).get? T=some (Obj.mapFields g o):=by
 obtain⟨objs,l⟩:=h
 obtain⟨c,d,data,sl⟩:=o
 cases hd
 have e1:objs[T]? = some ⟨c,d,.fields vs,sl⟩:=by
  unfold Heap.get? at e
  dsimp only at e
  split at e
  ·cases e
  ·exact e
 unfold Heap.get? Heap.update
 dsimp only
 rw [Array.getElem?_modify,if_pos rfl,e1]
 rfl
theorem z6t {h h' B:Heap} {T:Addr} {o:Obj} {vs:Array Value} (e:h.get? T=some o) (hd:o.data=.fields vs) (k:∀ b,b≠T→h'.get? b=h.get? b):∀ {l:List Env},h.FunFrames B l→h'.FunFrames B l
 | [],_=>by rw [Heap.FunFrames]; trivial
 | env::x0x,f=>by
  rw [Heap.FunFrames] at f ⊢
  obtain⟨f1,⟨L,oL,f2,f3,f4,f5⟩,f6⟩:=f
  refine⟨f1,⟨L,oL,f2,f3,?_,f5⟩,z6t e hd k f6⟩
  rw [k L fun z=>by rw [z,e] at f4; cases f4; exact f5 _ hd]
  exact f4
theorem z0u {M:Model} {A:Around} {E:Value→Shared→Prop} {s:Shared} {B:Heap} {env:Env} {outer:List Env} {L e:Addr} {cls a0 fl:Value} {Q:Unit→Shared→Prop} (ha:A.frames=some (env::outer)) (hf:env.frame=some L) (st:B.StaysIn s.heap) (hB:B.get? e=none) (ff:s.heap.FunFrames B (env::outer)) (tr:s.heap.TracedAtW B e cls a0 fl)
  (q:∀ h',B.FlyingW outer e cls a0 h'→s.heap.UpToSlots h'→Q () { s with heap:=h' }):wpAny M A (leaving env (.ref e)) Q E s:=by
 have tr0:=tr
 obtain⟨oe,vs,T,oT,ts,he,hc,hd,h1,hBT,hTe,hT,hTd,h3⟩:=tr
 have fin:∀ (h1:Heap) (fl':Value),B.StaysIn h1→h1.FunFrames B (env::outer)→h1.TracedAtW B e cls a0 fl'→s.heap.UpToSlots h1→wpAny M A (setFlight (.ref e) none) Q E { s with heap:=h1 }:=fun h1 fl' z1 z2 z3 z4=>by
  refine wpAny_setFlight_noneW (s:={ s with heap:=h1 }) z1 z2 z3 fun h' y1 y2 y3 y4=>?_
  refine q h' ⟨y1,hB,?_,y3⟩ (z4.trans fun b o e1 hn=>⟨o.slots,y4 b o e1 hn⟩)
  rw [Heap.FunFrames] at y2
  exact y2.2.2
 unfold leaving
 refine wpAny_bind ?_
 cases hz:(fl==rawInt (L:Int)) with
 | true=>exact j0s hf he hd h1 hT hTd h3 hz (fin s.heap fl st ff tr0 (.of_keeps fun _ _ e=>e))
 | false =>
  have kk:∀ b,b≠T→(s.heap.update T (Obj.mapFields fun x=>x.setIfInBounds 3 Value.none)).get? b=s.heap.get? b:=fun b hb=>Heap.get?_update_ne _ _ _ _ hb
  have eT':=j6a (fun x=>x.setIfInBounds 3 Value.none) hT hTd
  have dT':(Obj.mapFields (fun x=>x.setIfInBounds 3 Value.none) oT).data=.fields (ts.setIfInBounds 3 Value.none):=by
   obtain⟨c,d,data,sl⟩:=oT
   cases hTd
   rfl
  have z3:(ts.setIfInBounds 3 Value.none)[3]? = some Value.none:=by
   have:=(Array.getElem?_eq_some_iff.mp h3).1
   simp [this]
  have he':(s.heap.update T (Obj.mapFields fun x=>x.setIfInBounds 3 Value.none)).get? e=some oe:=by rw [kk e (Ne.symm hTe)]; exact he
  have st':B.StaysIn (s.heap.update T (Obj.mapFields fun x=>x.setIfInBounds 3 Value.none)):=fun b o eb=>by
   rw [kk b fun z=>by rw [z,hBT] at eb; cases eb]
   exact st b o eb
  have up:s.heap.UpToSlots (s.heap.update T (Obj.mapFields fun x=>x.setIfInBounds 3 Value.none)):=fun b o eb hn=>⟨o.slots,by
   rw [kk b fun z=>by rw [z,hT] at eb; cases eb; exact hn _ hTd]
   exact eb⟩
  refine z1j hf he hd h1 hT hTd h3 hz hTe he' ⟨_,_,eT',dT',z3⟩ ?_
  refine wpAny_noteFrame_onW (s:={ s with heap:=s.heap.update T (Obj.mapFields fun x=>x.setIfInBounds 3 Value.none) }) ha (z6t hT hTd kk ff) hf ⟨oe,vs,T,_,_,he',hc,hd,h1,hBT,hTe,eT',dT',z3⟩ st' hB fun h' nt=>?_
  exact fin h' _ nt.1 nt.2.1 nt.2.2.1 (up.trans nt.2.2.2)
noncomputable def XEb (E:XK) (X:Cx) (NB:List Str) (scope:Scope) (cl:List (Str × Addr)) (C:Addr) (fp:List Addr) (s2:Shared) (H2:Hp):Value→Shared→Prop:=fun e s'=>∃ pins σ H s,Inv (cxB X NB scope cl C fp s2 H2) pins σ H s∧CXe X.prog X.w X.stack H s E e s'
noncomputable def z7x (E:XK) (X:Cx) (NB:List Str) (scope:Scope) (cl:List (Str × Addr)) (C:Addr) (fp:List Addr) (s:Shared) (H:Hp):Cx:={ cxB X NB scope cl C fp s H with xe:=XEb E X NB scope cl C fp s H }
section
variable {E:XK} {X:Cx} {NB:List Str} {scope:Scope} {cl:List (Str × Addr)} {C:Addr} {fp:List Addr} {s2:Shared} {H2:Hp}
theorem w5z (ok:(cxB X NB scope cl C fp s2 H2).Ok):(z7x E X NB scope cl C fp s2 H2).Ok:=⟨ok.mod,ok.kind,ok.glob,ok.blt,ok.above,ok.inj,ok.has,ok.cab,ok.hd,ok.frames,ok.stk,ok.exf,ok.bs,ok.bsz,ok.noex,ok.exfs,ok.funs,ok.frf⟩
theorem okB (ok:(z7x E X NB scope cl C fp s2 H2).Ok):(cxB X NB scope cl C fp s2 H2).Ok:=⟨ok.mod,ok.kind,ok.glob,ok.blt,ok.above,ok.inj,ok.has,ok.cab,ok.hd,ok.frames,ok.stk,ok.exf,ok.bs,ok.bsz,ok.noex,ok.exfs,ok.funs,ok.frf⟩
theorem Inv.toB {pins:List (Addr × Obj)} {σ:St} {H:Hp} {s:Shared} (I:Inv (z7x E X NB scope cl C fp s2 H2) pins σ H s):Inv (cxB X NB scope cl C fp s2 H2) pins σ H s:=⟨okB I.ok,I.os,I.bare,I.base,I.loc,I.cell,I.free,I.freeC,I.pin,I.hok,I.len⟩
theorem w0m:q8j (CXe X.prog X.w) (z7x E X NB scope cl C fp s2 H2) E:=fun pins σ H s e s' I h=>⟨pins,σ,H,s,I.toB,h⟩
end
noncomputable def w2o (E:XK) (X:Cx) (NB:List Str) (scope:Scope):Prop:=∀ (pins:List (Addr × Obj)) (σ:St) (H2:Hp) (s2:Shared) (fp:List Addr) (C:Addr) (e:Value) (s':Shared),Inv X pins σ H2 s2→(∀ b∈fp,z6o X pins H2 b)→s2.heap.objs.size≤C→XEb E X NB scope (clo X.env.cells scope.names []) C fp s2 H2 e s' →
 ∀ (use:Option (Value→Sem Unit)) (QQ:Value→Shared→Prop) (acc:Value),notedBy (model X.prog X.w) X.A (compEnvC scope (clo X.env.cells scope.names []) C X.env) (fun e s''=>compPost (model X.prog X.w) X.A X.xe use QQ acc C (.error e) s'') e s'
section
variable {prog:Program} {w:World} {A:Around} {R:Result→Shared→Prop} {s:Shared}
theorem z4x {elt target iter:Expr} {ifs:List Expr} {scope:Scope} {pos:Pos} {it acc:Value} {env:Env} (I:Nat→Shared→Prop) (XE:Value→Shared→Prop) (hx:∀ e s',XE e s'→notedBy (model prog w) A env (fun e s''=>R (.error e) s'') e s')
  (turn:∀ n s,I n s→wpAny (model prog w) A (pyNext it) (fun r s1=>(r=none∧R (.ok .next) s1)∨∃ v,r=some v ∧
   wpAny (model prog w) A (letOwnedTupleGo target it v) (fun _ s2=>wpAny (model prog w) A (assign target env v) (fun _ s3 =>
    wpAny (model prog w) A (forIn ifs true fun c r=>if r=true then do let ok←isTrue c env (eval c env); pure (ForInStep.yield ok) else pure (ForInStep.yield r)) (fun ok s4 =>
     if ok=true then wpAny (model prog w) A (eval elt env) (fun x s5=>wpAny (model prog w) A (call (.builtin "list.append") [acc,x]) (fun _ s6=>∃ m,m < n∧I m s6) XE s5) XE s4
     else ∃ m,m < n∧I m s4) XE s3) XE s2) XE s1) XE s)
  (n:Nat) (h:I n s):codeAny (model prog w) A (.compLoop (.ListComp elt [⟨target,iter,ifs,0⟩] scope pos) 0 it acc env) R s:=by
 refine codeAny_loop rfl I (fun k s0 hk=>?_) n h
 show wpAny _ A (Sem.onRaise (compTurn (.ListComp elt [⟨target,iter,ifs,0⟩] scope pos) 0 it acc env) (fun x=>do noteFrame x env; theTreesLotGoes x)) _ _ s0
 refine wpAny_noted ?_
 rw [compTurn_list]
 refine wpAny_bind (wpAny_standAt (wpAny_bind (wpAny_mono (turn k s0 hk) (fun r s1 h1=>?_) hx)))
 rcases h1 with ⟨rfl,h1⟩ | ⟨v,rfl,h1⟩
 ·exact wpAny_pure h1
 ·refine wpAny_bind (wpAny_mono h1 (fun _ s2 h2=>wpAny_bind (wpAny_mono h2 (fun _ s3 h3=>wpAny_bind (wpAny_mono h3 (fun ok s4 h4=>?_) hx)) hx)) hx)
  cases ok with
  | false=>exact wpAny_pure ⟨rfl,h4⟩
  | true=>exact wpAny_bind (wpAny_bind (wpAny_mono h4 (fun x s5 h5=>wpAny_bind (wpAny_mono h5 (fun _ s6 h6=>wpAny_pure (wpAny_pure ⟨rfl,h6⟩)) hx)) hx))
end
section
variable {E:XK} {X:Cx} {elt tg iter:Expr} {ifs:List Expr} {scope:Scope} {pos:Pos} {NB:List Str} {n:Nat} {fr:List Nat} {wi:TI} {g:TG} {tt:TT} {te:TE}
theorem z6c {use:Option (Value→Sem Unit)} {QQ:Value→Shared→Prop} {pins:List (Addr × Obj)} {s:Shared} {σ:St} {H:Hp} {Q:VK} {pos2:Pos} (O:CompOk X scope NB n fr) (hc:X.calm=true) (hi:PI X tg iter wi)
  (hg:∀ cl C fp s H,PG (z7x E X NB scope cl C fp s H) tg g) (ht:∀ cl C fp s H,j4d (z7x E X NB scope cl C fp s H) ifs tt) (he:∀ cl C fp s H,PE (z7x E X NB scope cl C fp s H) elt te)
  (hs:∀ x,foldedSetIterable iter X.env x=pure x) (hE:w2o E X NB scope) (I:Inv X pins σ H s) (h:z8t n fr wi g tt te σ H Q)
  (fin0:∀ (D C:Addr) (H':Hp) (s':Shared) (m:Str→Option Value),s'.heap.Ns C m→Inv X pins σ H' s'→X.s₀.heap.objs.size≤C→H' C=none→C≠X.env.locals→(∀ x c,X.env.cells.lookup x=some c→c≠C)→(∀ p∈X.pn++pins,p.1≠C)→Q (.ref D) H' →
   compPost (model X.prog X.w) X.A X.xe use QQ (.ref D) C (.ok .next) s') :
  wpAny (model X.prog X.w) X.A (comprehension (.ListComp elt [⟨tg,iter,ifs,0⟩] scope pos) scope X.env pos2 (newList []) false (eval iter X.env) use) QQ X.xe s:=by
 have hcl:closureFor scope X.env=pure (clo X.env.cells scope.names []):=z7v fun p hp hk=>I.ok.has p.1 (O.free p hp hk)
 refine wpAny_comprehension_free (use:=use) rfl hs hcl O.kind O.names (thn (hi pins s σ H _ I h) fun v s1 h1=>thn h1 fun itv s2 h2=>?_)
 obtain⟨it,fp,tn,J,H2,e,I2,T,st2,f2,R⟩:=h2
 subst e
 have fpl:∀ b∈fp,b < s2.heap.objs.size:=fun b hb=>by
  obtain⟨o,ho,_⟩:=T.obj 0 _ st2 b hb
  exact Heap.lt_size ho
 refine wpAny_newObj_type (wpAny_newFunctionEnv O.nocell (fun y hy=>absurd hy (by simp)) (fun h1 ns1 sb1=>?_) O.kind)
 dsimp only at ns1 sb1 ⊢
 generalize hD2:s2.heap.push { cls:=.type "list",dict:=none,data:=.seq ([]:List Value).toArray }=hp2 at ns1 sb1 ⊢
 have zC:hp2.objs.size=s2.heap.objs.size+1:=by rw [← hD2,Heap.size_push]
 have kept:∀ b o,s2.heap.get? b=some o→h1.get? b=some o:=fun b o q=>by
  have lt:=Heap.lt_size q
  refine sb1.extBut b o (by rw [zC]; exact Nat.ne_of_lt (Nat.lt_succ_of_lt lt)) (Heap.get?_push_of_some _ ?_)
  rw [← hD2]
  exact Heap.get?_push_of_some _ q
 have gD:h1.get? s2.heap.objs.size=some { cls:=.type "list",data:=.seq ([]:List Value).toArray 0 }:=by
  refine sb1.extBut _ _ (by rw [zC]; exact Nat.ne_of_lt (Nat.lt_succ_self _)) (Heap.get?_push_of_some _ ?_)
  rw [← hD2]
  exact Heap.get?_push_size _ rfl
 generalize hD:s2.heap.objs.size=D at *
 have fD:H2 D=none:=I2.hok.fresh (Nat.le_of_eq hD)
 have fC:H2 hp2.objs.size=none:=I2.hok.fresh (by rw [hD,zC]; exact Nat.le_succ _)
 have nCD:hp2.objs.size≠D:=by rw [zC]; exact Nat.succ_ne_self _
 have hCle:s2.heap.objs.size≤hp2.objs.size:=by rw [hD,zC]; exact Nat.le_succ _
 have ok:=w5z (E:=E) (j5e (C:=hp2.objs.size) O I2 f2 (fun b hb=>by rw [hD]; exact fpl b hb) hCle)
 obtain⟨W,⟨m0,w0⟩,turn⟩:=R D fD
 generalize hY:z7x E X NB scope (clo X.env.cells scope.names []) hp2.objs.size fp s2 H2=Y at ok
 have eY:Y.env=compEnvC scope (clo X.env.cells scope.names []) hp2.objs.size X.env:=by rw [← hY]; rfl
 have I0:Inv Y [] (List.replicate n none++fr.map fun k=>(σ[k]?).join) (upd H2 D (.lst [])) { s2 with heap:=h1,toks:=s2.toks+([]:List (Str × Value)).length }:=by
  subst hY
  refine⟨ok,rfl,I2.bare,Un.laid kept (Nat.le_of_eq hD) fD,⟨_,ns1,fun i x v e1 e2 e3=>?_⟩,fun x c h=>?_,?_,fun x c h=>?_,fun p hp=>absurd (show p∈([]:List (Addr × Obj)) from hp) (by simp),?_,?_⟩
  ·have hin:n≤i:=by
    refine Nat.le_of_not_lt fun z=>?_
    rw [List.getElem?_append_left (by simpa using z),List.getElem?_replicate] at e2
    split at e2 <;> cases e2
   obtain⟨j,rfl⟩:=Nat.exists_eq_add_of_le hin
   rw [List.getElem?_append_right (by simp)] at e2
   simp only [List.length_replicate,Nat.add_sub_cancel_left,List.getElem?_map] at e2
   cases hk:fr[j]? with
   | none=>rw [hk] at e2; cases e2
   | some k =>
    rw [hk] at e2
    obtain⟨x',n1,n2,n3⟩:=O.own j k hk
    have e1':NB[n+j]? = some x:=e1
    rw [n1] at e1'
    cases e1'
    have e4:(σ[k]?).join=some v:=Option.some.inj e2
    have e5:σ[k]? = some (some v):=by
     cases q:σ[k]? with
     | none=>rw [q] at e4; cases e4
     | some z=>rw [q] at e4; exact congrArg some e4
    have hm:=q5z n3
    have kd:=O.free _ hm rfl
    obtain⟨m,hn,hl⟩:=I2.loc
    obtain⟨u,ru,lk⟩:=hl k x v n2 e5 (by rcases kd with z | z; exact .inr (.inl z); exact .inr (.inr z))
    refine⟨u,ru,.inr ⟨?_,?_⟩⟩
    ·show (relabel scope X.env).names.lookup x=some .cell∨(relabel scope X.env).names.lookup x=some .free
     rcases @j7c X.env x scope.names with r | r
     ·exact .inr (Eq.trans r n3)
     ·exact .inl r.2
    ·rcases lk with ⟨z,_⟩ | ⟨_,c,hc1,hc2⟩
     ·rcases kd with q | q <;> (rw [z] at q; cases q)
     ·refine⟨c,z1w hc1 scope.names [] (.inl hm),?_⟩
      obtain⟨o,ho,hd⟩:=hc2
      exact⟨o,kept c o ho,hd⟩
  ·have e1:=(x0u scope.names [] (show (clo X.env.cells scope.names []).lookup x=some c from h)).resolve_right (by intro z; cases z)
   obtain⟨v,o,ho,hd⟩:=I2.cell x c e1
   exact⟨v,o,kept c o ho,hd⟩
  ·show upd H2 D (.lst []) hp2.objs.size=none
   rw [q1a nCD]; exact fC
  ·have e1:=(x0u scope.names [] (show (clo X.env.cells scope.names []).lookup x=some c from h)).resolve_right (by intro z; cases z)
   obtain⟨v,o,ho,hd⟩:=I2.cell x c e1
   rw [q1a (by rw [← hD]; exact Nat.ne_of_lt (Heap.lt_size ho))]
   exact I2.freeC x c e1
  ·exact I2.hok.laid kept (Nat.le_of_eq hD) ⟨by simp,[],0,.nil,gD⟩
  ·show _=NB.length
   rw [O.len]; simp
 have fY:∀ {H':Hp},(∀ b∈fp,H' b=none)→∀ b∈fp,z6o Y [] H' b:=fun {H'} hn b hb=>by
  subst hY
  refine⟨hn b hb,(ok.exf b hb).1,ok.exfs b hb,.inl hb,fun x c z=>(ok.exf b hb).2 x c z,fun p hp=>absurd (show p∈([]:List (Addr × Obj)) from hp) (by simp)⟩
 have pY:Y.prog=X.prog∧Y.w=X.w∧Y.K=X.K∧Y.A=X.A∧Y.calm=true:=by subst hY; exact⟨rfl,rfl,rfl,rfl,hc⟩
 obtain⟨p1,p2,p3,p4,p5⟩:=pY
 have fin:∀ {σ':St} {H':Hp} {s':Shared},Inv Y [] σ' H' s'→Q (.ref D) H'→compPost (model X.prog X.w) X.A X.xe use QQ (.ref D) hp2.objs.size (.ok .next) s':=fun {σ' H' s'} J' q=>by
  subst hY
  obtain⟨m,hn,_⟩:=J'.loc
  have fr':H' hp2.objs.size=none:=J'.free
  have neC:∀ b o,s2.heap.get? b=some o→b≠hp2.objs.size:=fun b o e=>Nat.ne_of_lt (Nat.lt_of_lt_of_le (Heap.lt_size e) hCle)
  have J:Inv X pins σ H' s':=I2.call' (s':=s') J'.os J'.base J'.hok J'.bare fun b hb=>by
   obtain⟨_,a2,_,a4,a5,a6⟩:=f2 b hb
   exact⟨a4,a2,a5,a6⟩
  refine fin0 D _ H' s' m hn J (Nat.le_trans I2.sz hCle) fr' (Ne.symm (Nat.ne_of_lt (Nat.lt_of_lt_of_le I2.lt hCle))) (fun x c e=>?_) (fun p hp=>?_) q
  ·obtain⟨v,o,ho,_⟩:=I2.cell x c e
   exact neC c o ho
  ·exact neC _ _ (I2.pin p hp).1
 have herr:∀ e s',Y.xe e s'→notedBy (model X.prog X.w) X.A (compEnvC scope (clo X.env.cells scope.names []) hp2.objs.size X.env) (fun e s''=>compPost (model X.prog X.w) X.A X.xe use QQ (.ref D) hp2.objs.size (.error e) s'') e s':=fun e s' z=>by
  subst hY
  exact hE pins σ H2 s2 fp hp2.objs.size _ _ I2 f2 hCle z use QQ (.ref D)
 have st0:tn 0 h1:=T.keep 0 _ _ st2 fun b hb o q=>kept b o q
 have fp0:∀ b∈fp,upd H2 D (.lst []) b=none:=fun b hb=>by
  rw [q1a (Nat.ne_of_lt (fpl b hb))]; exact (f2 b hb).1
 have loop:∀ s3:Shared,s3={ s2 with heap:=h1,toks:=s2.toks+([]:List (Str × Value)).length } →
   codeAny (model X.prog X.w) X.A (.compLoop (.ListComp elt [⟨tg,iter,ifs,0⟩] scope pos) 0 (.ref it) (.ref D) (compEnvC scope (clo X.env.cells scope.names []) hp2.objs.size X.env))
    (compPost (model X.prog X.w) X.A X.xe use QQ (.ref D) hp2.objs.size) s3:=by
  rintro s3 rfl
  refine z4x (XE:=Y.xe) (fun k s'=>∃ i ys σ' H',Inv Y [] σ' H' s'∧tn i s'.heap∧(∀ b∈fp,H' b=none)∧H' D=some (.lst ys)∧W i k ys σ' H') herr ?_ m0 ⟨0,[],_,_,I0,st0,fp0,q0f,w0⟩
  rintro k s4 ⟨i,ys,σ4,H4,I4,t4,fr4,d4,w4⟩
  have hgY:PG Y tg g:=by subst hY; exact hg _ _ _ _ _
  have htY:j4d Y ifs tt:=by subst hY; exact ht _ _ _ _ _
  have heY:PE Y elt te:=by subst hY; exact he _ _ _ _ _
  rcases turn i k ys σ4 H4 w4 d4 with ⟨stop,q⟩ | ⟨go,hlen,step⟩
  ·have z:=T.done Y p1 p2 p3 p5 i [] s4 σ4 H4 Y.xe I4 (fY fr4) t4 stop
   rw [p4] at z
   exact thn z fun r s5 ⟨hr,I5⟩=>.inl ⟨hr,fin I5 q⟩
  ·have z:=T.item Y p1 p2 p3 p5 i [] s4 σ4 H4 Y.xe I4 (fY fr4) t4 go
   rw [p4] at z
   refine thn z fun r s5 ⟨u,hr,h5⟩=>.inr ⟨u,hr,thn h5 fun _ s6 ⟨x,H6,I6,r6,y6,t6,fr6⟩=>?_⟩
   have I6':=I6.pinned (fY fr6) (T.obj _ _ t6)
   have back:∀ {σ7:St} {H7:Hp} {s7:Shared},Inv Y ([]++x6a fp s6.heap) σ7 H7 s7→Inv Y [] σ7 H7 s7∧tn (i+1) s7.heap∧∀ b∈fp,H7 b=none:=fun {σ7 H7 s7} I7=>by
    refine⟨I7.unpinned,T.keep _ _ _ t6 fun b hb o e=>(I7.pin (b,o) (List.mem_append_right _ (List.mem_append_right _ (q6a hb e)))).1,fun b hb=>?_⟩
    obtain⟨o,e,_⟩:=T.obj _ _ t6 b hb
    exact (I7.pin (b,o) (List.mem_append_right _ (List.mem_append_right _ (q6a hb e)))).2.1
   have a7:=hgY _ s6 σ4 H6 x u _ I6' r6 (step x H6 y6)
   rw [p1,p2,p4,eY] at a7
   refine thn a7 fun _ s7 ⟨σ7,H7,I7,q7⟩=>?_
   have a8:=htY _ s7 σ7 H7 _ I7 q7
   rw [p1,p2,p4,eY] at a8
   refine thn a8 fun b s8 ⟨H8,I8,q8⟩=>?_
   cases b with
   | false =>
    obtain⟨d8,m',hm,w8⟩:=q8
    rw [if_neg Bool.false_ne_true]
    obtain⟨b1,b2,b3⟩:=back I8
    exact⟨m',hm,i+1,ys,σ7,H8,b1,b2,b3,d8,w8⟩
   | true =>
    rw [if_pos rfl]
    have a9:=heY _ s8 σ7 H8 _ I8 q8
    rw [p1,p2,p4,eY] at a9
    refine thn a9 fun uv s9 ⟨v,H9,I9,r9,d9,m',hm,w9⟩=>?_
    have a10:=q7k (X:=Y) _ s9 σ7 H9 (.ref D) [v] (.ref D) [uv] (fun x H'=>H'=upd H9 D (.lst (ys++[v]))) I9 rfl (.cons r9 .nil) ⟨D,ys,v,rfl,rfl,d9,hlen,rfl⟩
    rw [p1,p2,p4] at a10
    refine thn a10 fun _ s10 ⟨_,H10,I10,_,e10⟩=>?_
    subst e10
    obtain⟨b1,b2,b3⟩:=back I10
    exact⟨m',hm,i+1,_,σ7,_,b1,b2,b3,q0f,w9⟩
 refine codeAny_compStart_list (loop _ rfl) ?_
 exact T.self _ 0 _ _ _ st0 (loop _ rfl)
theorem z4c (O:CompOk X scope NB n fr) (hE:w2o E X NB scope) (hc:X.calm=true) (hi:PI X tg iter wi)
  (hg:∀ cl C fp s H,PG (z7x E X NB scope cl C fp s H) tg g) (ht:∀ cl C fp s H,j4d (z7x E X NB scope cl C fp s H) ifs tt) (he:∀ cl C fp s H,PE (z7x E X NB scope cl C fp s H) elt te)
  (hs:∀ x,foldedSetIterable iter X.env x=pure x:=by intro _; rfl):PE X (.ListComp elt [⟨tg,iter,ifs,0⟩] scope pos) (z8t n fr wi g tt te):=by
 intro pins s σ H Q I h
 rw [eval_ListComp]
 exact z6c (E:=E) (QQ:=EP X pins σ Q) O hc hi hg ht he hs hE I h fun D C H' s' m hn J h1 h2 h3 h4 h5 q=>⟨m,hn,fun h' sb=>⟨.ref D,H',J.but h1 h2 h3 h4 h5 sb,rfl,q⟩⟩
end
section
variable {P:Program} {w:World} {K:Frag} {mg:Str→Option Value} {base:Heap} {N:List Str} {qual:Str} {scp:Scope} {f:Addr} {cd:Value} {A:Around} {outer:List Env} {s:Shared} {H:Hp} {E:XK}
theorem w4v {NB:List Str} {scope:Scope}:w2o E (z5u (CXe P w) P w K mg base N qual scp f cd A outer s H E) NB scope:=by
 intro pins σ H2 s2 fp C e s' I2 f2 hC h use QQ acc
 obtain⟨pins',σ',Hc,sc,I,h⟩:=h
 obtain⟨a,cls,a0,B,H1,rfl,os,bare,fl,un,cov,cov2,hok,ha,q⟩:=h
 have hf:(envOfC qual scp s.heap.objs.size f cd).frame=some s.heap.objs.size:=rfl
 have hfr:frs ((envOfC qual scp s.heap.objs.size f cd)::outer)=s.heap.objs.size::frs outer:=x3i hf
 have u1:Un (frs ((envOfC qual scp s.heap.objs.size f cd)::outer)) fp H2 Hc s2.heap sc.heap:=I.base
 have un':Un (frs ((envOfC qual scp s.heap.objs.size f cd)::outer)) [] Hc H1 sc.heap s'.heap:=un
 have cov':∀ b o,sc.heap.get? b=some o→Hc b=none→b∉frs ((envOfC qual scp s.heap.objs.size f cd)::outer)→B.get? b=some o:=cov
 have cov2':∀ b o,sc.heap.get? b=some o→b∉frs ((envOfC qual scp s.heap.objs.size f cd)::outer)→∃ o',B.get? b=some o':=cov2
 have fl0:Heap.FlyingW B ((envOfC qual scp s.heap.objs.size f cd)::outer) a cls a0 s'.heap:=fl
 have bs:Un (frs outer) [] H H2 s.heap s2.heap:=I2.base
 have stk:s2.heap.FunFrames base ((envOfC qual scp s.heap.objs.size f cd)::outer):=I2.stack
 have nx:∀ b:Addr,b∉([]:List Addr):=fun b z=>absurd z (by simp)
 have sz:s.heap.objs.size≤s2.heap.objs.size:=I2.sz
 obtain⟨m,⟨oC,es,ep,eC,dC,sk,nf⟩,_⟩:=I.loc
 have eC:sc.heap.get? C=some oC:=eC
 have freeC:Hc C=none:=I.free
 have nC:C∉frs ((envOfC qual scp s.heap.objs.size f cd)::outer):=fun z=>by
  obtain⟨_,o,ho,_⟩:=stk.mem z
  exact absurd (Nat.lt_of_lt_of_le (Heap.lt_size ho) hC) (Nat.lt_irrefl _)
 have eC1:B.get? C=some oC:=cov' C oC eC freeC nC
 have C1:H1 C=none:=un'.free C oC eC freeC (nx C)
 have fl':Heap.FlyingW (hideAll B [C]) ((envOfC qual scp s.heap.objs.size f cd)::outer) a cls a0 s'.heap:=PySem.W.flyingW_base (fun b o e=>PySem.W.of_hideAll _ e) fl0
 have fmem:=fl0.2.2.1
 have ne:∀ {b:Addr} {o:Obj},s.heap.get? b=some o→b∉frs outer→b∉frs ((envOfC qual scp s.heap.objs.size f cd)::outer):=fun {b o} e hb z=>by
  rw [hfr] at z
  rcases List.mem_cons.mp z with z | z
  ·exact absurd (Heap.lt_size e) (by rw [z]; exact Nat.lt_irrefl _)
  ·exact hb z
 have inn:∀ {b:Addr},b∈frs outer→b∈frs ((envOfC qual scp s.heap.objs.size f cd)::outer):=fun {b} hb=>by rw [hfr]; exact List.mem_cons_of_mem _ hb
 have nfp:∀ {b:Addr} {o:Obj},s.heap.get? b=some o→b∉fp:=fun {b o} e hb=>by
  rcases (f2 b hb).2.2.2.1 with z | z
  ·exact absurd z (nx b)
  ·exact absurd (Nat.lt_of_lt_of_le (Heap.lt_size e) z) (Nat.lt_irrefl _)
 have nbC:∀ {b:Addr} {o:Obj},s.heap.get? b=some o→b∉[C]:=fun {b o} e hb=>by
  have hb:b=C:=by simpa using hb
  exact absurd (Nat.lt_of_lt_of_le (Heap.lt_size e) (Nat.le_trans sz hC)) (by rw [hb]; exact Nat.lt_irrefl _)
 have u2:Un (frs ((envOfC qual scp s.heap.objs.size f cd)::outer)) fp H2 H1 s2.heap s'.heap:=u1.trans ⟨fun b o e n hb _=>un'.keep b o e n hb (nx b),fun b o e n hb _=>un'.slot b o e n hb (nx b),fun b o e n _=>un'.free b o e n (nx b),fun b o e _=>un'.there b o e (nx b),un'.tups,un'.frzs,un'.tbls⟩
 have hokS:HOk P w H1 s'.heap:=fun b o e=>(hok b o e).stay (fun c u hc g=>fl0.1 _ _ g) (fun _ q=>q) fun _ _ q=>q
 have J1:Inv (z5u (CXe P w) P w K mg base N qual scp f cd A outer s H E) pins σ H1 s':=I2.call' (s':=s') (os.trans I.os) u2 hokS bare fun b hb=>by
  obtain⟨_,a2,_,a4,a5,a6⟩:=f2 b hb
  exact⟨a4,a2,a5,a6⟩
 have js:Un (frs outer) [] H H1 s.heap s'.heap:=J1.base
 have covS:∀ b o,s.heap.get? b=some o→H b=none→b∉frs outer→(hideAll B [C]).get? b=some o:=fun b o e n hb=>by
  have e2:=bs.keep b o e n hb (nx b)
  have n2:=bs.free b o e n (nx b)
  have e3:=u1.keep b o e2 n2 (ne e hb) (nfp e)
  exact PySem.W.hideAll_get _ (cov' b o e3 (u1.free b o e2 n2 (nfp e)) (ne e hb)) (nbC e)
 have cov2S:∀ b o,s.heap.get? b=some o→b∉frs outer→∃ o',(hideAll B [C]).get? b=some o':=fun b o e hb=>by
  obtain⟨o1,e1⟩:=bs.there b o e (nx b)
  obtain⟨o2,e2⟩:=u1.there b o1 e1 (nfp e)
  obtain⟨o3,e3⟩:=cov2' b o2 e2 (ne e hb)
  exact⟨o3,PySem.W.hideAll_get _ e3 (nbC e)⟩
 show wpAny (model P w) (A.deeper (envOfC qual scp s.heap.objs.size f cd)) (noteFrame (.ref a) (envOfC qual scp s.heap.objs.size f cd)) _ _ s'
 refine wpAny_looks_onW I2.ok.frames hf fl' fun h1 held ups=>?_
 have eC':s'.heap.get? C=some oC:=fl0.1 C oC eC1
 obtain⟨slC,eC2⟩:=ups C oC eC' (by intro vs z; rw [dC] at z; cases z)
 refine⟨m,⟨_,es,ep,eC2,dC,sk,nf⟩,fun h2 sb cenv' _=>?_⟩
 obtain⟨st1,hB,ff1,oe,vs,T,oT,ts,he,hcl,hd,hv1,hBT,hTe,hT,hTd,h3⟩:=held
 have naC:a≠C:=fun z=>by
  rw [z,eC2] at he
  cases he
  rw [dC] at hd
  cases hd
 have nTC:T≠C:=fun z=>by
  rw [z,eC2] at hT
  cases hT
  rw [dC] at hTd
  cases hTd
 have k2:∀ b,b≠C→h2.get? b=h1.get? b:=sb.2
 have he2:h2.get? a=some oe:=by rw [k2 a naC]; exact he
 have hT2:h2.get? T=some oT:=by rw [k2 T nTC]; exact hT
 have hi3:3 < ts.size:=(Array.getElem?_eq_some_iff.mp h3).1
 obtain⟨fl3,efl3⟩:∃ v,v=cenv'.frame.elim Value.none fun f=>rawInt (f:Int):=⟨_,rfl⟩
 unfold PySem.passOn
 refine wpAny_bind (wpAny_field (s:={ s' with heap:=h2 }) he2 hd hv1 ?_)
 show wpAny _ _ (if (Value.ref T==Value.none)=true then _ else _) _ _ _
 rw [if_neg (show ¬ (Value.ref T==Value.none)=true by rw [show (Value.ref T==Value.none)=false from rfl]; decide)]
 refine wpAny_bind ?_
 unfold setFlight
 refine wpAny_bind (wpAny_field (s:={ s' with heap:=h2 }) he2 hd hv1 ?_)
 show wpAny _ _ (if (Value.ref T != Value.none)=true then _ else _) _ _ _
 rw [if_pos (show (Value.ref T != Value.none)=true from rfl),← efl3]
 refine wpAny_setField (s:={ s' with heap:=h2 }) hT2 hTd hi3 (wpAny_throw ?_)
 have k3:∀ b,b≠T→(h2.update T (Obj.mapFields fun x=>x.setIfInBounds 3 fl3)).get? b=h2.get? b:=fun b hb=>Heap.get?_update_ne _ _ _ _ hb
 have eT3:=j6a (fun x=>x.setIfInBounds 3 fl3) hT2 hTd
 have dT3:(Obj.mapFields (fun x=>x.setIfInBounds 3 fl3) oT).data=.fields (ts.setIfInBounds 3 fl3):=by
  obtain⟨c,d,data,sl⟩:=oT
  cases hTd
  rfl
 have z3:(ts.setIfInBounds 3 fl3)[3]? = some fl3:=by simp [hi3]
 have hBC:(hideAll B [C]).get? C=none:=PySem.W.hideAll_none _ (by simp)
 have st3:(hideAll B [C]).StaysIn (h2.update T (Obj.mapFields fun x=>x.setIfInBounds 3 fl3)):=fun b o eb=>by
  rw [k3 b (fun z=>by rw [z,hBT] at eb; cases eb),k2 b (fun z=>by rw [z,hBC] at eb; cases eb)]
  exact st1 b o eb
 have ffC:∀ {l:List Env},(∀ b∈frs l,b≠C)→h1.FunFrames (hideAll B [C]) l→h2.FunFrames (hideAll B [C]) l:=by
  intro l
  induction l with
  | nil=>intro _ _; rw [Heap.FunFrames]; trivial
  | cons env x0x ih =>
   intro hn ff
   rw [Heap.FunFrames] at ff ⊢
   obtain⟨f1,⟨L,oL,f2',f3,f4,f5⟩,f6⟩:=ff
   have hfr':frs (env::x0x)=L::frs x0x:=x3i f2'
   refine⟨f1,⟨L,oL,f2',f3,?_,f5⟩,ih (fun b hb=>hn b (by rw [hfr']; exact List.mem_cons_of_mem _ hb)) f6⟩
   rw [k2 L (hn L (by rw [hfr']; exact List.mem_cons_self))]
   exact f4
 have ff2:=ffC (fun b hb z=>nC (by rw [← z]; exact hb)) ff1
 have ff3:=z6t hT2 hTd k3 ff2
 have he3:(h2.update T (Obj.mapFields fun x=>x.setIfInBounds 3 fl3)).get? a=some oe:=by rw [k3 a (Ne.symm hTe)]; exact he2
 show wpAny (model P w) (A.deeper (envOfC qual scp s.heap.objs.size f cd)) (leaving (envOfC qual scp s.heap.objs.size f cd) (.ref a)) _ _ { s' with heap:=h2.update T (Obj.mapFields fun x=>x.setIfInBounds 3 fl3) }
 refine z0u (s:={ s' with heap:=h2.update T (Obj.mapFields fun x=>x.setIfInBounds 3 fl3) }) I2.ok.frames hf st3 hB ff3 ⟨oe,vs,T,_,_,he3,hcl,hd,hv1,hBT,hTe,eT3,dT3,z3⟩ fun h4 fl4 ups4=>?_
 have up:∀ b o,b≠C→s'.heap.get? b=some o→(∀ vs:Array Value,o.data≠.fields vs)→∃ sl,h4.get? b=some { o with slots:=sl }:=fun b o hbC e hn=>by
  obtain⟨sl1,e1⟩:=ups b o e hn
  have e2:h2.get? b=some { o with slots:=sl1 }:=by rw [k2 b hbC]; exact e1
  have e3:(h2.update T (Obj.mapFields fun x=>x.setIfInBounds 3 fl3)).get? b=some { o with slots:=sl1 }:=by
   rw [k3 b fun z=>by rw [z,hT2] at e2; cases e2; exact hn _ hTd]
   exact e2
  obtain⟨sl4,e4⟩:=ups4 b _ e3 hn
  exact⟨sl4,e4⟩
 have inC:∀ {b:Addr},b∈frs outer→b≠C:=fun {b} hb z=>nC (by rw [← z]; exact inn hb)
 refine⟨a,cls,a0,hideAll B [C],H1,rfl,(os.trans I.os).trans I2.os,bare,fl4,⟨fun b o e n hb _=>fl4.1 _ _ (covS b o e n hb),fun b o e n hb _=>?_,js.free,fun b o e _=>?_,js.tups,js.frzs,js.tbls⟩,covS,cov2S,HOk.but hok C1 (fun b o hb e=>PySem.W.hideAll_get _ e (by simpa using hb)),ha,q⟩
 ·obtain⟨sl1,e1⟩:=js.slot b o e n hb (nx b)
  obtain⟨_,o3,e3,nf3⟩:=fmem.mem (inn hb)
  rw [e1] at e3
  cases e3
  obtain⟨sl4,e4⟩:=up b _ (inC hb) e1 nf3
  exact⟨sl4,e4⟩
 ·by_cases hb:b∈frs outer
  ·obtain⟨_,o3,e3,nf3⟩:=fmem.mem (inn hb)
   obtain⟨sl4,e4⟩:=up b o3 (inC hb) e3 nf3
   exact⟨_,e4⟩
  ·obtain⟨o',e'⟩:=cov2S b o e hb
   exact⟨o',fl4.1 _ _ e'⟩
end
end L2
namespace Kp
open PySem L2
theorem z8b {J:It} {H1:Hp} {a:Addr} {n k:Nat} {frs:St} {g:TG} {tt:TT} {te:TE} {Q:VK} (W:Nat→List V→Hp→Prop) (hn:∀ i ys H,W i ys H→i < sizeLine) (ha:∃ o,H1 a=some o)
  (w0:∀ D,H1 D=none→W 0 [] (upd H1 D (.lst []))) (wst:∀ i ys H D zs us,H1 D=none→D≠a→H D=some (.lst zs)→W i ys H→W i ys (upd H D (.lst us)))
  (go:∀ i ys H,i < n→W i ys H→J.go i H) (stop:∀ ys H,W n ys H→J.stop n H)
  (turn:∀ i ys H t x H2 (R:St→Hp→Option V→Prop),i < n→ys.length=i→W i ys H→t.length=k→J.yld i H x H2 →
   (∀ t' H' v,t'.length=k→q3f a H H'→W (i+1) (ys++[v]) H'→R (t'++frs) H' (some v)) →
   g x (t++frs) H2 fun σ3 H3=>tt σ3 H3 fun b H4=>if b=true then te σ3 H4 fun v H5=>R σ3 H5 (some v) else R σ3 H4 none)
  (hq:∀ D H' ys,D≠a→ys.length=n→W n ys H'→H' D=some (.lst ys)→Q (.ref D) H'):x3b (List.replicate k none++frs) g tt te Q J H1:=by
 intro D hD
 have hDa:D≠a:=fun z=>by obtain⟨o,e⟩:=ha; rw [← z,hD] at e; cases e
 refine⟨fun i m ys σ H=>i≤n∧m=n - i∧ys.length=i∧W i ys H∧∃ t,t.length=k∧σ=t++frs,⟨n,Nat.zero_le _,rfl,rfl,w0 D hD,_,by simp,rfl⟩,?_⟩
 rintro i m ys σ H ⟨hi,rfl,hy,w,t,ht,rfl⟩ hd
 by_cases hlt:i < n
 ·right
  refine⟨go i ys H hlt w,by have:=hn i ys H w; omega,fun x H2 y=>?_⟩
  have h:=turn i ys H t x H2 (fun σ3 H5 r=>match r with
   | some v=>H5 D=some (.lst ys)∧∃ m',m' < n - i∧(i+1≤n∧m'=n - (i+1)∧(ys++[v]).length=i+1∧W (i+1) (ys++[v]) (upd H5 D (.lst (ys++[v])))∧∃ t,t.length=k∧σ3=t++frs)
   | none=>H5 D=some (.lst ys)∧∃ m',m' < n - i∧(i+1≤n∧m'=n - (i+1)∧ys.length=i+1∧W (i+1) ys H5∧∃ t,t.length=k∧σ3=t++frs)) hlt hy w ht y ?_
  ·exact h
  ·intro t' H' v ht' s2 w2
   have hd':=s2 _ _ hDa hd
   exact⟨hd',n - (i+1),by omega,by omega,rfl,by rw [List.length_append,hy]; rfl,wst _ _ _ _ _ _ hD hDa hd' w2,t',ht',rfl⟩
 ·have e:i=n:=by omega
  subst e
  exact .inl ⟨stop ys H w,hq D H ys hDa hy w hd⟩
end Kp
namespace L2
open PySem PySem.Spec PyProof.Rows
theorem z6e {P:Program} {w:World} {K:Frag} {tg:Expr} (it:Addr) (lo:Int) (n:Nat):Turn P w K tg (Itr lo n) [it] it (fun i h=>IsLongIter h it (lo+(i:Nat)*1) ((n:Int) - (i:Nat)) 1) where
 mem:=by simp
 obj:=fun i h st b hb=>by
  have e:b=it:=by simpa using hb
  subst e
  exact⟨_,st,fun v z=>by
   have z':Data.fields _=Data.cell v:=z
   cases z'⟩
 keep:=fun i h h' st k=>k it (by simp) _ st
 item:=by
  intro X hP hw hK hc i pins s σ H E I hf st hg
  subst hP hw hK
  obtain⟨f0,f1,f2,f3,f4,f5⟩:=hf it (by simp)
  have W:=Walks.longrange (prog:=X.prog) (w:=X.w) (I.ok.hd hc) it lo 1 n
  refine W.item i s _ _ hg st fun v h' tk hv st' kk=>?_
  obtain⟨t,rfl⟩:=hv
  have I1:Inv X pins σ H { s with heap:=h',toks:=tk }:=I.turned (fun b o hb e=>kk b o (by simpa using hb) e) f0 f1 f3 f4 f5
  refine⟨_,rfl,j4k (s:={ s with heap:=h',toks:=tk }) (n := "longrange_iterator") st' rfl rfl (by decide) ⟨.int (lo+i),H,I1,⟨t,?_⟩,⟨rfl,rfl⟩,st',fun b hb=>(hf b hb).1⟩⟩
  rw [Int.mul_one]
 done:=by
  intro X hP hw hK hc i pins s σ H E I hf st hg
  subst hP hw hK
  obtain⟨f0,f1,f2,f3,f4,f5⟩:=hf it (by simp)
  exact wpAny_pyNext_long_end (I.ok.hd hc) st (by have:n≤i:=hg; omega) fun h' eb=>⟨rfl,I.turned (t':=s.toks) (fun b o hb e=>eb b o hb e) f0 f1 f3 f4 f5⟩
 self:=fun _ _ _ _ _ st h=>wpAny_pyIter_longiter st h
section
variable {X:Cx} {tg:Expr}
theorem j7y {pins:List (Addr × Obj)} {σ:St} {H:Hp} {s:Shared} {R:It→Hp→Prop} {E:Value→Shared→Prop} {lo hi:Int} {t u v:Tok} {tk:Nat} (I:Inv X pins σ H s) (hs:Builtin.Range.small lo hi 1=false)
  (q:R (Itr lo (hi - lo).toNat) H):wpAny (model X.prog X.w) X.A (pyIter (.ref s.heap.objs.size)) (PIE X pins σ tg R) E { s with heap:=s.heap.push { cls:=.type "range",data:=.fields #[.int lo t,.int hi u,.int 1 v] },toks:=tk }:=by
 refine wpAny_pyIter_longrange (IsRange.new ..) hs ?_
 have I1:Inv X pins σ H { s with heap:=s.heap.push { cls:=.type "range",data:=.fields #[.int lo t,.int hi u,.int 1 v] },toks:=tk }:=I.kept fun b o e=>Heap.get?_push_of_some _ e
 refine⟨(s.heap.push { cls:=.type "range",data:=.fields #[.int lo t,.int hi u,.int 1 v] }).objs.size,[(s.heap.push { cls:=.type "range",data:=.fields #[.int lo t,.int hi u,.int 1 v] }).objs.size],_,_,H,rfl,
  I1.kept (t':=tk) fun b o e=>Heap.get?_push_of_some _ e,z6e _ lo (hi - lo).toNat,?_,fun b hb=>?_,q⟩
 ·have e1:lo+((0:Nat):Int)*1=lo:=by simp
  have e2:(((hi - lo).toNat:Nat):Int) - ((0:Nat):Int)=Builtin.Range.rangeSize lo hi 1:=by rw [rangeSize_one]; split <;> omega
  show IsLongIter _ _ (lo+((0:Nat):Int)*1) ((((hi - lo).toNat:Nat):Int) - ((0:Nat):Int)) 1
  rw [e1,e2]
  exact Heap.get?_push_size _ rfl
 ·have e:b=(s.heap.push { cls:=.type "range",data:=.fields #[.int lo t,.int hi u,.int 1 v] }).objs.size:=by simpa using hb
  subst e
  exact I1.fpOk (Nat.le_refl _) (I1.hok.fresh (Nat.le_refl _))
theorem j2e {pins:List (Addr × Obj)} {σ:St} {H:Hp} {s:Shared} {R:It→Hp→Prop} {E:Value→Shared→Prop} {lo hi:Int} {t u v:Tok} {tk:Nat} (I:Inv X pins σ H s) (hs:Builtin.Range.small lo hi 1=true)
  (q:R (Itr lo (hi - lo).toNat) H):wpAny (model X.prog X.w) X.A (pyIter (.ref s.heap.objs.size)) (PIE X pins σ tg R) E { s with heap:=s.heap.push { cls:=.type "range",data:=.fields #[.int lo t,.int hi u,.int 1 v] },toks:=tk }:=by
 refine wpAny_pyIter_range (IsRange.new ..) hs ?_
 have I1:Inv X pins σ H { s with heap:=s.heap.push { cls:=.type "range",data:=.fields #[.int lo t,.int hi u,.int 1 v] },toks:=tk }:=I.kept fun b o e=>Heap.get?_push_of_some _ e
 refine⟨(s.heap.push { cls:=.type "range",data:=.fields #[.int lo t,.int hi u,.int 1 v] }).objs.size,[(s.heap.push { cls:=.type "range",data:=.fields #[.int lo t,.int hi u,.int 1 v] }).objs.size],_,_,H,rfl,
  I1.kept (t':=tk) fun b o e=>Heap.get?_push_of_some _ e,x6l _ lo (hi - lo).toNat,?_,fun b hb=>?_,q⟩
 ·have e1:lo+((0:Nat):Int)*1=lo:=by simp
  have e2:(((hi - lo).toNat:Nat):Int) - ((0:Nat):Int)=Builtin.Range.rangeSize lo hi 1:=by rw [rangeSize_one]; split <;> omega
  show IsRangeIter _ _ (lo+((0:Nat):Int)*1) ((((hi - lo).toNat:Nat):Int) - ((0:Nat):Int)) 1
  rw [e1,e2]
  exact Heap.get?_push_size _ rfl
 ·have e:b=(s.heap.push { cls:=.type "range",data:=.fields #[.int lo t,.int hi u,.int 1 v] }).objs.size:=by simpa using hb
  subst e
  exact I1.fpOk (Nat.le_refl _) (I1.hok.fresh (Nat.le_refl _))
noncomputable def w3r (ta:TA):TI:=fun σ H R=>ta σ H fun vs H1=>∃ j:Int,vs=[.int j]∧R (Itr 0 j.toNat) H1
theorem z9r {a:Expr} {ta:TA} {p pos:Pos} (hg:Gl X "range") (hm:X.mg "range" = none) (ha:PA X [a] ta) (hst:starEach [a] X.env=[(false,eval a X.env)]:=by rfl):PI X tg (.Call (.Name "range" p) [a] [] pos) (w3r ta):=by
 intro pins s σ H R I h
 refine Call_ (x4h I hg hm boot_range (PyProof.Rows.callWith_type1 (thn (ha pos pins s σ H _ I h) fun us s1 ⟨vs,H1,I1,r1,q1⟩=>?_) hst rfl))
 obtain⟨j,e,q⟩:=q1
 subst e
 cases r1 with
 | cons r rr =>
  cases rr
  obtain⟨t,rfl⟩:=r
  cases hs:Builtin.Range.small 0 j 1 with
  | true=>exact call_range_1 (j2e I1 hs (by simpa using q))
  | false=>exact call_range_1 (j7y I1 hs (by simpa using q))
end
end L2
namespace K1
open PySem L2 Kp
structure Rdr (P:Program) (w:World) (K:Frag) (mg:Str→Option Value) (base:Heap) (C cN:Addr) (k:Nat) (g:Addr) (f:D→List Str):Prop where
 ex:∃ k' fd px,k'≤k∧FnOk P w K mg base (CXe P w) k' g fd [px] (q5o C cN f)∧keepIn K (.ref g)=true∧q3p K fd [px] []
inductive Rrs (P:Program) (w:World) (K:Frag) (mg:Str→Option Value) (base:Heap) (C cN:Addr) (k:Nat):List V→List (D→List Str)→Prop
 | nil:Rrs P w K mg base C cN k [] []
 | cons {g:Addr} {f:D→List Str} {gs:List V} {fs:List (D→List Str)} (h:Rdr P w K mg base C cN k g f) (t:Rrs P w K mg base C cN k gs fs):Rrs P w K mg base C cN k (.ref g::gs) (f::fs)
section
variable {P:Program} {w:World} {K:Frag} {mg:Str→Option Value} {base:Heap} {C cN:Addr} {k:Nat}
theorem Rrs.length:∀ {gs:List V} {fs:List (D→List Str)},Rrs P w K mg base C cN k gs fs→gs.length=fs.length
 | _,_,.nil=>rfl
 | _,_,.cons _ t=>by have:=t.length; simp [this]
theorem Rrs.get:∀ {gs:List V} {fs:List (D→List Str)} {i:Nat} {v:V},Rrs P w K mg base C cN k gs fs→gs[i]? = some v→∃ g f,v=.ref g∧fs[i]? = some f∧Rdr P w K mg base C cN k g f
 | _,_,0,_,.cons h t,e=>by cases e; exact⟨_,_,rfl,rfl,h⟩
 | _,_,i+1,v,.cons h t,e=>by
  obtain⟨g,f,a,b,c⟩:=Rrs.get (i:=i) (v:=v) t (by simpa using e)
  exact⟨g,f,a,by simpa using b,c⟩
end
noncomputable def j8s (P:Program) (w:World) (K:Frag) (mg:Str→Option Value) (base:Heap) (C cN:Addr) (k:Nat) (E:XK) (tf:TE) (t:TA):TE:=fun σ H Q=>tf σ H fun x H1=>∃ g f,x=.ref g∧Rdr P w K mg base C cN k g f∧t σ H1 fun vs H2=>q5o C cN f (vs++[]) H2 Q E
theorem x9l {X:Cx} {P:Program} {w:World} {K:Frag} {mg:Str→Option Value} {base:Heap} {C cN:Addr} {k:Nat} {E:XK} {x:Str} {p pos:Pos} {e:Expr} {es:List Expr} {tf:TE} {t:TA} (h1:X.prog=P) (h2:X.w=w) (h3:X.K=K) (h4:X.mg=mg) (h5:X.base=base) (hr:Room k X.A)
  (hx:q8j (CXe P w) X E) (hf:PE X (.Name x p) tf) (ha:PA X (e::es) t)
  (he:starEach (e::es) X.env=(false,eval e X.env)::starEach es X.env:=by rfl) (hpl:(backTo pos (starEach es X.env)).any (·.1)=false:=by rfl) :
  PE X (.Call (.Name x p) (e::es) [] pos) (j8s P w K mg base C cN k E tf t):=by
 subst h1 h2 h3 h4 h5
 intro pins s σ H Q I h
 obtain h':=hf pins s σ H _ I h
 refine wpAny_Call_Name_kw (thn h' fun u s0 ⟨v,H0,I0,r0,g,f,e0,T,q0⟩=>?_)
 subst e0
 cases r0
 obtain⟨k',fd,px,hk',F,hk,hb⟩:=T.ex
 have hA:=ha pos pins s0 σ H0 _ I0 q0
 exact PySem.W.callWith_K (h₀:=X.base) I.ok.mod.kin hk (thn hA fun us s1 ⟨vs,H1,I1,r,q⟩=>⟨I1.kIn,x9f F (hr.mono hk') hb .nil hx I1 r q⟩) he hpl
theorem x6b:∀ {fs:List (D→List Str)} {ds:List D} {i:Nat} {f:D→List Str} {d:D},fs[i]? = some f→ds.length=i→q2f (fs.take (i+1)) (ds++[d])=q2f (fs.take i) ds++f d
 | f::fs,[],0,_,_,e,_=>by
  cases e
  simp [q2f]
 | f::fs,d::ds,i+1,f',d',e,hl=>by
  have:=x6b (fs:=fs) (ds:=ds) (i:=i) (d:=d') (by simpa using e) (by simpa using hl)
  simp only [List.take_succ_cons,List.cons_append,q2f,this,List.append_assoc]
 | [],_,_,_,_,e,_=>by simp at e
 | _::_,[],_+1,_,_,_,hl=>by cases hl
 | _::_,_::_,0,_,_,_,hl=>by cases hl
theorem x7x {B:Nat} {H:Hp} {v:V} {d:D}:∀ {vs:List V} {ds:List D},IsL B H vs ds→Is B H v d→IsL B H (vs++[v]) (ds++[d])
 | _,_,.nil,I=>.cons I .nil
 | _,_,.cons h t,I=>.cons h (x7x t I)
theorem z0a {ds:List D} {d:D} (h:noLL ds=true) (g:z6n d=true):noLL (ds++[d])=true:=x1t.mpr fun x hx=>by
 rcases List.mem_append.mp hx with hx | hx
 ·exact x1t.mp h x hx
 ·have:x=d:=by simpa using hx
  rw [this]; exact g
theorem x5c {k:Nat} {ds:List D} {d:D} (h:smallL k ds=true) (g:q2a k d=true):smallL k (ds++[d])=true:=q2k.mpr fun x hx=>by
 rcases List.mem_append.mp hx with hx | hx
 ·exact q2k.mp h x hx
 ·have:x=d:=by simpa using hx
  rw [this]; exact g
section
variable {P:Program} {w:World} {K:Frag} {mg:Str→Option Value} {base:Heap}
noncomputable def q3j (P:Program) (w:World) (K:Frag) (mg:Str→Option Value) (base:Heap) (C cN:Addr) (k:Nat):Sp:=fun vs H Q E=>∃ (a l t:Addr) (ws:List Str) (p:Nat) (gs:List V) (fs:List (D→List Str)),vs=[.ref a,.ref t]∧Wd C a l ws p H∧(∀ H',q3f a H H'→SqT K H' t gs)∧Rrs P w K mg base C cN k gs fs∧fs.length≤100∧p≤ws.length∧ws.length≤100000∧(∀ x∈ws,x.length≤100000) ∧
 (∀ (b:Addr) (xs:List V) H' ds p',H' b=some (.tup xs)→IsL 100000 H' xs ds→ds.length=fs.length→noLL ds=true→smallL 60 ds=true→p≤p'→p'≤ws.length→ws.drop p=q2f fs ds++ws.drop p'→(fs≠[]→p < p')→Wd C a l ws p' H'→q3f a H H'→Q (.ref b) H')∧∀ H',E (.ref cN) none H'
theorem w2l:FnScope ["words", "readers"] ["words", "readers"] (q0e q6o):=fSc
theorem q4e {f:Addr} {fd:FuncData} {C cN:Addr} {kk:Nat} (F:Fun K "read_parts" "read_parts" q6o f fd) (T:Txt mg):FnOk P w K mg base (CXe P w) (kk+1) f fd ["words", "readers"] (q3j P w K mg base C cN kk):=by
 refine F.okE w2l (fun vs H Q E ⟨_,_,_,_,_,_,_,e,_⟩=>by subst e; rfl) (fun _ A _ s H vs Q E hr h=>?_)
 obtain⟨a,l,t,ws,p,gs,fs,rfl,W,hS,hR,hf100,hpl,hl,hx,q,qe⟩:=h
 refine⟨_,@q1h _ _ _ (q0l (q4f q3y (by rfl) T.tuple q2m (q0c (z4c (E:=E) (NB:=["reader", "words"]) (n:=1) (fr:=[0]) (x6q (outer:=q0e q6o) (x := "words") (by rfl) (by decide +kernel) (by rfl) (by rfl) (by rfl) (by rfl)) w4v (by rfl)
  (q8h (pv 1)) (fun _ _ _ _ _=>q1i (i:=0) (show (["reader", "words"]:List Str).Nodup by decide +kernel) (by rfl) (by exact Or.inl rfl)) (fun _ _ _ _ _=>q2u)
  (fun _ _ _ _ _=>x9l (P:=P) (w:=w) (K:=K) (mg:=mg) (base:=base) (C:=C) (cN:=cN) (k:=kk) rfl rfl rfl rfl rfl hr w0m (pv 0) (q1g (pv 1) q0b))) q0b))),?_⟩
 have hgl:=hR.length
 have hSq:=hS H (q3f.refl H)
 obtain⟨⟨dx,ha⟩,hlw⟩:=id W
 refine⟨_,rfl,t,rfl,⟨_,hSq⟩,j2l (J:=Itt K t) (a:=a) (n:=fs.length) (k:=1) (fun i ys H'=>∃ ds p',q3f a H H'∧Wd C a l ws p' H'∧IsL 100000 H' ys ds∧ds.length=i∧noLL ds=true∧smallL 60 ds=true∧p≤p'∧p'≤ws.length∧ws.drop p=q2f (fs.take i) ds++ws.drop p'∧(0 < i→p < p')) (by rw [sizeLine_eq]; omega) ⟨_,ha⟩ ?_ ?_ ?_ ?_ ?_ ?_⟩
 ·intro D hD
  have s1:=q0g (o:=HO.lst []) hD
  exact⟨[],p,q3f.of s1,W.same7 s1,.nil,rfl,rfl,rfl,Nat.le_refl _,hpl,by simp [q2f],fun z=>absurd z (by decide)⟩
 ·rintro i ys H' D zs us hD hDa hDl ⟨ds,p',s1,W1,I1,hn,hno,hsm,hp1,hp2,hdr,hlt⟩
  have nl:l≠D:=fun z=>by rw [← z,hlw] at hD; cases hD
  refine⟨ds,p',fun b o hb e=>?_,?_,I1.sameT (x9x (fun xs z=>by rw [hDl] at z; cases z)) hno,hn,hno,hsm,hp1,hp2,hdr,hlt⟩
  ·rw [q1a (fun z=>by rw [z,hD] at e; cases e)]
   exact s1 b o hb e
  ·obtain⟨⟨dx1,e1⟩,e2⟩:=W1
   exact⟨⟨dx1,by rw [q1a hDa.symm]; exact e1⟩,by rw [q1a nl]; exact e2⟩
 ·rintro i ys H' hi ⟨ds,p',s1,_⟩
  exact⟨_,gs[i]'(by omega),hS H' s1,List.getElem?_eq_getElem (by omega)⟩
 ·rintro ys H' ⟨ds,p',s1,_⟩
  exact⟨_,hS H' s1,by omega⟩
 ·rintro i ys H' tt x H2 R hi hyl ⟨ds,p',s1,W1,I1,hn,hno,hsm,hp1,hp2,hdr,hlt⟩ ht y hRR
  obtain⟨rfl,hy⟩:=y
  obtain⟨t0,rfl⟩:=q5c ht
  have hv:=hy _ (hS _ s1)
  obtain⟨g,fr,rfl,hfi,hT⟩:=hR.get hv
  refine⟨_,rfl,g,fr,rfl,hT,_,rfl,a,l,ws,p',rfl,W1,hp2,hl,hx,fun v H3 d p'' I3 n3 m3 h3 h4 d3 W3 s3=>?_,qe⟩
  have sT:q9e H2 H3:=s3.tups (fun xs z=>by
   obtain⟨⟨dx1,e1⟩,_⟩:=W1
   rw [e1] at z
   cases z)
  exact hRR [some (.ref g)] H3 v rfl s3 ⟨ds++[d],p'',s1.trans s3,W3,x7x (I1.sameT sT hno) I3,by rw [List.length_append,hn]; rfl,z0a hno n3,x5c hsm m3,by omega,h4,by rw [x6b hfi hn,List.append_assoc,← d3]; exact hdr,fun _=>by omega⟩
 ·rintro D H' ys hDa hyl ⟨ds,p',s1,W1,I1,hn,hno,hsm,hp1,hp2,hdr,hlt⟩ hd
  refine⟨D,ys,rfl,.inl ⟨SqL.of hd,fun b hb=>?_⟩⟩
  have s2:=q0g (o:=HO.tup ys) hb
  rw [List.take_length] at hdr
  exact q b ys _ ds p' q0f (I1.same s2) hn hno hsm hp1 hp2 hdr (fun hne=>hlt (List.length_pos_iff.mpr hne)) (W1.same7 s2) (s1.trans (q3f.of s2))
end
theorem w1h {ws:List Str} {p p':Nat} {d:D} (h:ws.drop p=q1y d++ws.drop p') (h1:p < p') (h2:p'≤ws.length):∃ n,d=.int n:=by
 cases d with
 | int n=>exact⟨n,rfl⟩
 | _ =>
  have:=congrArg List.length h
  simp [q1y] at this
  omega
section
variable {P:Program} {w:World} {K:Frag} {mg:Str→Option Value} {base:Heap}
noncomputable def q9n (P:Program) (w:World) (K:Frag) (mg:Str→Option Value) (base:Heap) (C cN:Addr) (k:Nat):Sp:=fun vs H Q E=>∃ (a l g:Addr) (ws:List Str) (p:Nat) (f:D→List Str),vs=[.ref a,.ref g]∧Wd C a l ws p H∧Rdr P w K mg base C cN k g f∧p≤ws.length∧ws.length≤100000∧(∀ x∈ws,x.length≤100000) ∧
 (∀ v H' d p',Is 100000 H' v d→z6n d=true→q2a 60 d=true→p < p'→p'≤ws.length→ws.drop p=q4d f d++ws.drop p'→Wd C a l ws p' H'→q3f a H H'→Q v H')∧∀ H',E (.ref cN) none H'
theorem w0s:FnScope ["words", "reader", "count"] ["words", "reader"] (q0e q5k):=fSc
theorem q5t {f:Addr} {fd:FuncData} {C cN:Addr} {kk:Nat} (hk:3≤kk) (Z:NoL7 K mg cN) (F:Fun K "read_counted" "read_counted" q5k f fd) (T:Txt mg) (CN:CalE P w K mg base "read_number" 3 ["words"] (q5o C cN q1y)):FnOk P w K mg base (CXe P w) (kk+1) f fd ["words", "reader"] (q9n P w K mg base C cN kk):=by
 refine F.okE w0s (fun vs H Q E ⟨_,_,_,_,_,_,e,_⟩=>by subst e; rfl) (fun _ A _ s H vs Q E hr h=>?_)
 obtain⟨a,l,g,ws,p,fr,rfl,W,hT,hpl,hl,hx,q,qe⟩:=h
 have r3:=hr.mono hk
 refine⟨_,@q0x _ _ _ _ _ (q0z (i:=2) w0s.nd (by rfl) (by exact Or.inl rfl) (q4z CN r3 q6u (q1g (pv 0) q0b)))
  (@q0x _ _ _ _ _ (q1r (q0t x5p (pv 2) q0a (q0r _)) (@q1h _ _ _ (q7v q6l (by rfl) (by rfl) Z.m Z.x (q5x q0n q0b))) q0s)
  (@q1h _ _ _ (q0l (q4f q3y (by rfl) T.tuple q2m (q0c (z4c (E:=E) (NB:=["turn", "reader", "words"]) (n:=1) (fr:=[1,0]) (x2t (outer:=q0e q5k) (x := "reader") (y := "words") (by rfl) (by decide +kernel) (by rfl) (by rfl) (by rfl) (by rfl) (by rfl) (by rfl) (by rfl)) w4v (by rfl)
   (z9r (by rfl) T.range (q1g (pv 2) q0b)) (fun _ _ _ _ _=>q1i (i:=0) (show (["turn", "reader", "words"]:List Str).Nodup by decide +kernel) (by rfl) (by exact Or.inl rfl)) (fun _ _ _ _ _=>q2u)
   (fun _ _ _ _ _=>x9l (P:=P) (w:=w) (K:=K) (mg:=mg) (base:=base) (C:=C) (cN:=cN) (k:=kk) rfl rfl rfl rfl rfl hr w0m (pv 1) (q1g (pv 2) q0b))) q0b))))),?_⟩
 refine⟨_,rfl,a,l,ws,p,rfl,W,hpl,hl,hx,fun v H1 d p1 I1 n1 m1 h1 h1l d1 W1 s1=>?_,qe⟩
 obtain⟨n,rfl⟩:=w1h d1 h1 h1l
 obtain rfl:=Is.vint I1
 have e1:p1=p+1:=by
  have:=congrArg List.length d1
  simp [q1y] at this
  omega
 subst e1
 refine⟨_,rfl,_,_,rfl,rfl,_,rfl,?_⟩
 by_cases hn:n < 0
 ·rw [decide_eq_true hn]
  exact q1m ⟨by decide,qe _⟩
 rw [decide_eq_false hn]
 obtain⟨⟨dx,ha⟩,hlw⟩:=id W1
 refine q1c ⟨_,rfl,_,rfl,z8b (a:=a) (n:=n.toNat) (k:=1) (fun i ys H'=>∃ ds p',q3f a H1 H'∧Wd C a l ws p' H'∧IsL 100000 H' ys ds∧ds.length=i∧noLL ds=true∧smallL 60 ds=true∧p+1+i≤p'∧p'≤ws.length∧ws.drop (p+1)=ds.flatMap fr++ws.drop p') ?_ ⟨_,ha⟩ ?_ ?_ ?_ ?_ ?_ ?_⟩
 ·rintro i ys H' ⟨ds,p',_,_,_,_,_,_,hp1,hp2,_⟩
  rw [sizeLine_eq]
  omega
 ·intro D hD
  have s2:=q0g (o:=HO.lst []) hD
  exact⟨[],p+1,q3f.of s2,W1.same7 s2,.nil,rfl,rfl,rfl,by omega,h1l,rfl⟩
 ·rintro i ys H' D zs us hD hDa hDl ⟨ds,p',s2,W2,I2,hn2,hno,hsm,hp1,hp2,hdr⟩
  have nl:l≠D:=fun z=>by rw [← z,hlw] at hD; cases hD
  refine⟨ds,p',fun b o hb e=>?_,?_,I2.sameT (x9x (fun xs z=>by rw [hDl] at z; cases z)) hno,hn2,hno,hsm,hp1,hp2,hdr⟩
  ·rw [q1a (fun z=>by rw [z,hD] at e; cases e)]
   exact s2 b o hb e
  ·obtain⟨⟨dx1,e1⟩,e2⟩:=W2
   exact⟨⟨dx1,by rw [q1a hDa.symm]; exact e1⟩,by rw [q1a nl]; exact e2⟩
 ·rintro i ys H' hi _
  exact hi
 ·rintro ys H' _
  exact Nat.le_refl _
 ·rintro i ys H' tt x H2 R hi hyl ⟨ds,p',s2,W2,I2,hn2,hno,hsm,hp1,hp2,hdr⟩ ht y hRR
  obtain⟨rfl,rfl⟩:=y
  obtain⟨t0,rfl⟩:=q5c ht
  refine⟨_,rfl,g,fr,rfl,hT,_,rfl,a,l,ws,p',rfl,W2,hp2,hl,hx,fun v H3 d p'' I3 n3 m3 h3 h4 d3 W3 s3=>?_,qe⟩
  have sT:q9e H2 H3:=s3.tups (fun xs z=>by
   obtain⟨⟨dx1,e1⟩,_⟩:=W2
   rw [e1] at z
   cases z)
  exact hRR [some (.int (0+(i:Int)))] H3 v rfl s3 ⟨ds++[d],p'',s2.trans s3,W3,x7x (I2.sameT sT hno) I3,by rw [List.length_append,hn2]; rfl,z0a hno n3,x5c hsm m3,by omega,h4,by rw [List.flatMap_append,List.append_assoc]; simp only [List.flatMap_cons,List.flatMap_nil,List.append_nil]; rw [← d3]; exact hdr⟩
 ·rintro D H' ys hDa hyl ⟨ds,p',s2,W2,I2,hn2,hno,hsm,hp1,hp2,hdr⟩ hd
  refine⟨D,ys,rfl,.inl ⟨SqL.of hd,fun b hb=>?_⟩⟩
  have s3:=q0g (o:=HO.tup ys) hb
  have en:q1j n=q1j (ds.length:Int):=by rw [hn2,Int.toNat_of_nonneg (by omega)]
  have hyl2:=I2.length
  refine q _ _ (.tup ds) p' (.tup q0f (by omega) (I2.same s3)) hno hsm (by omega) hp2 ?_ (W2.same7 s3) ((s1.trans s2).trans (q3f.of s3))
  rw [d1,hdr]
  show [q1j n]++(ds.flatMap fr++ws.drop p')=(q1j (ds.length:Int)::ds.flatMap fr)++ws.drop p'
  rw [en]
  rfl
noncomputable def x4b (P:Program) (w:World) (K:Frag) (mg:Str→Option Value) (base:Heap) (C cN:Addr) (k:Nat):Sp:=fun vs H Q E=>∃ (a l:Addr) (x:Str) (r:V) (ws:List Str) (p:Nat),vs=[.ref a,.str x,r]∧x.length≤100000∧Wd C a l ws p H∧p≤ws.length∧ws.length≤100000∧(∀ x∈ws,x.length≤100000) ∧
 (r=.non∨∃ (t:Addr) (gs:List V) (fs:List (D→List Str)),r=.ref t∧(∀ H',SqT K H' t gs)∧Rrs P w K mg base C cN k gs fs∧fs.length≤100 ∧
  ∀ v H' ds p',Is 100000 H' v (.tup (.str x::ds))→ds.length=fs.length→noLL ds=true→smallL 60 ds=true→p≤p'→p'≤ws.length→ws.drop p=q2f fs ds++ws.drop p'→Wd C a l ws p' H'→q3f a H H'→Q v H')∧∀ H',E (.ref cN) none H'
theorem w2m:FnScope ["words", "word", "readers"] ["words", "word", "readers"] (q0e q4s):=fSc
theorem q6m {f:Addr} {fd:FuncData} {C cN:Addr} {kk:Nat} (Z:NoL7 K mg cN) (F:Fun K "read_behind_word" "read_behind_word" q4s f fd) (CP:CalE P w K mg base "read_parts" (kk+1) ["words", "readers"] (q3j P w K mg base C cN kk)):FnOk P w K mg base (CXe P w) (kk+2) f fd ["words", "word", "readers"] (x4b P w K mg base C cN kk):=by
 refine F.okE w2m (fun vs H Q E ⟨_,_,_,_,_,_,e,_⟩=>by subst e; rfl) (fun _ A _ s H vs Q E hr h=>?_)
 obtain⟨a,l,x,r,ws,p,rfl,hxl,W,hpl,hl,hx,hr2,qe⟩:=h
 refine⟨_,@q0x _ _ _ _ _ (q1r (q0t z2i (pv 2) x4n (q0r _)) (@q1h _ _ _ (q7v q6l (by rfl) (by rfl) Z.m Z.x (q5x q0n q0b))) q0s)
  (@q1h _ _ _ (q0l (q0i q9p (q2x (q1g (pv 1) q0b)) (q4z CP hr q6u (q1g (pv 0) (q1g (pv 2) q0b)))))),?_⟩
 refine⟨_,rfl,rfl,_,rfl,?_⟩
 rcases hr2 with rfl | ⟨t,gs,fs,rfl,hS,hR,hf,q⟩
 ·rw [decide_eq_true (show V.non=V.non from rfl)]
  exact q1m ⟨by decide,qe _⟩
 ·rw [decide_eq_false (show ¬ (V.ref t=V.non) by intro z; cases z)]
  refine q1c ⟨_,rfl,q4a (by show 1≤1000; decide),fun p1 h1=>?_⟩
  have s1:=q0g (o:=HO.tup [V.str x]) h1
  have na:p1≠a:=fun z=>by obtain⟨⟨dx,e⟩,_⟩:=W; rw [← z,h1] at e; cases e
  refine⟨_,rfl,_,rfl,a,l,t,ws,p,gs,fs,rfl,W.same7 s1,fun H' _=>hS H',hR,hf,hpl,hl,hx,fun b xs H2 ds p' e2 I2 hn hno hsm hp1 hp2 hdr _ W2 s2=>?_,qe⟩
  have hxl2:xs.length=ds.length:=I2.length
  refine⟨p1,b,_,xs,rfl,rfl,s2 _ _ na q0f,e2,q4a (by show 1+xs.length≤1000; omega),fun p3 H3 e3 s3=>?_⟩
  exact q _ _ ds p' (.tup e3 (by rw [List.length_append]; show 1+xs.length≤100000; omega) (.cons (.str x hxl) (I2.same s3))) hn hno hsm hp1 hp2 hdr (W2.same7 s3) ((q3f.of s1).trans (s2.trans (q3f.of s3)))
structure RTb (P:Program) (w:World) (K:Frag) (mg:Str→Option Value) (base:Heap) (C cN:Addr) (name:Str) (kk:Nat) (tw:List (Str × List (D→List Str))):Prop where
 ex:∃ a es n,mg name=some (.ref a)∧K.lookup a=some ⟨.type "dict",none,.dict es n,#[]⟩∧PySem.W.KeysLit w.params es.toList∧(a==sysModules)=false ∧
  ∀ x,(tw.lookup x=none∧findBy Value.isStrOf es x=none)∨∃ fs t gs,tw.lookup x=some fs∧fs.length≤100∧findBy Value.isStrOf es x=some (.ref t)∧(∀ H,SqT K H t gs)∧Rrs P w K mg base C cN kk gs fs
theorem x1m:FnScope ["words", "word"] ["words"] (q0e x0t):=fSc
theorem x6z {f fW:Addr} {fd dW:FuncData} {C cN:Addr} {kk:Nat} {tw:List (Str × List (D→List Str))} (Y:WoC K C) (F:Fun K "read_deed" "read_deed" x0t f fd) (MW:Meth K C "word" fW) (FW:FnOk P w K mg base (CXe P w) 2 fW dW ["self"] (q9z C cN)) (bW:q3p K dW ["self"] []) (TB:RTb P w K mg base C cN "DEED_READERS" kk tw) (CB:CalE P w K mg base "read_behind_word" (kk+2) ["words", "word", "readers"] (x4b P w K mg base C cN kk)):FnOk P w K mg base (CXe P w) (kk+3) f fd ["words"] (q5o C cN (byW tw)):=by
 refine F.okE x1m q3h (fun _ A _ s H vs Q E hr h=>?_)
 obtain⟨a,l,ws,p,rfl,W,hpl,hl,hx,q,qe⟩:=h
 obtain⟨aD,es,n,mD,lD,hK,hsys,hT⟩:=TB.ex
 refine⟨_,@q0x _ _ _ _ _ (q0z (i:=1) x1m.nd (by rfl) (by exact Or.inl rfl) (q5y (pv 0) Y.cl MW FW (hr.mono (by omega)) bW .nil q6u))
  (@q1h _ _ _ (q0l (q4z CB hr q6u (q1g (pv 0) (q1g (pv 1) (q7n (x2j (q3g (by rfl) mD) (q1g (pv 1) q0b)) q0b)))))),?_⟩
 obtain⟨⟨dx,ha⟩,_⟩:=id W
 refine⟨_,rfl,a,dx,_,rfl,ha,z1t,a,l,ws,p,rfl,W,hpl,hl,fun x H1 hat W1 s1=>?_,qe⟩
 have hlt:=(List.getElem?_eq_some_iff.mp hat).1
 have hxl:=hx x (List.mem_of_getElem? hat)
 rcases hT x with ⟨e1,e2⟩ | ⟨fs,t,gs,e1,hf,e2,hS,hR⟩
 ·exact⟨_,rfl,_,rfl,aD,es,n,rfl,lD,hK,hsys,_,rfl,x,.non,rfl,(by rw [e2]; rfl),a,l,x,.non,ws,p+1,rfl,hxl,W1,by omega,hl,hx,.inl rfl,qe⟩
 ·refine⟨_,rfl,_,rfl,aD,es,n,rfl,lD,hK,hsys,_,rfl,x,.ref t,rfl,(by rw [e2]; rfl),a,l,x,.ref t,ws,p+1,rfl,hxl,W1,by omega,hl,hx,.inr ⟨t,gs,fs,rfl,hS,hR,hf,fun v H2 ds p' I2 hn hno hsm hp1 hp2 hdr W2 s2=>?_⟩,qe⟩
  refine q v H2 (.tup (.str x::ds)) p' I2 (show (z6n (.str x) && noLL ds)=true by rw [hno]; rfl) (show (q2a 60 (.str x) && smallL 60 ds)=true by rw [hsm]; rfl) (by omega) hp2 ?_ W2 (s1.trans s2)
  rw [drop_one hat,hdr]
  show x::(q2f fs ds++ws.drop p')=(x::q2f ((tw.lookup x).getD []) ds)++ws.drop p'
  rw [e1]
  rfl
theorem x1v:FnScope ["words", "word"] ["words"] (q0e x0v):=fSc
theorem x6v {f fW:Addr} {fd dW:FuncData} {C cN:Addr} {kk:Nat} {tw:List (Str × List (D→List Str))} (Y:WoC K C) (F:Fun K "read_what" "read_what" x0v f fd) (MW:Meth K C "word" fW) (FW:FnOk P w K mg base (CXe P w) 2 fW dW ["self"] (q9z C cN)) (bW:q3p K dW ["self"] []) (TB:RTb P w K mg base C cN "WHAT_READERS" kk tw) (CB:CalE P w K mg base "read_behind_word" (kk+2) ["words", "word", "readers"] (x4b P w K mg base C cN kk)):FnOk P w K mg base (CXe P w) (kk+3) f fd ["words"] (q5o C cN (byW tw)):=by
 refine F.okE x1v q3h (fun _ A _ s H vs Q E hr h=>?_)
 obtain⟨a,l,ws,p,rfl,W,hpl,hl,hx,q,qe⟩:=h
 obtain⟨aD,es,n,mD,lD,hK,hsys,hT⟩:=TB.ex
 refine⟨_,@q0x _ _ _ _ _ (q0z (i:=1) x1v.nd (by rfl) (by exact Or.inl rfl) (q5y (pv 0) Y.cl MW FW (hr.mono (by omega)) bW .nil q6u))
  (@q1h _ _ _ (q0l (q4z CB hr q6u (q1g (pv 0) (q1g (pv 1) (q7n (x2j (q3g (by rfl) mD) (q1g (pv 1) q0b)) q0b)))))),?_⟩
 obtain⟨⟨dx,ha⟩,_⟩:=id W
 refine⟨_,rfl,a,dx,_,rfl,ha,z1t,a,l,ws,p,rfl,W,hpl,hl,fun x H1 hat W1 s1=>?_,qe⟩
 have hlt:=(List.getElem?_eq_some_iff.mp hat).1
 have hxl:=hx x (List.mem_of_getElem? hat)
 rcases hT x with ⟨e1,e2⟩ | ⟨fs,t,gs,e1,hf,e2,hS,hR⟩
 ·exact⟨_,rfl,_,rfl,aD,es,n,rfl,lD,hK,hsys,_,rfl,x,.non,rfl,(by rw [e2]; rfl),a,l,x,.non,ws,p+1,rfl,hxl,W1,by omega,hl,hx,.inl rfl,qe⟩
 ·refine⟨_,rfl,_,rfl,aD,es,n,rfl,lD,hK,hsys,_,rfl,x,.ref t,rfl,(by rw [e2]; rfl),a,l,x,.ref t,ws,p+1,rfl,hxl,W1,by omega,hl,hx,.inr ⟨t,gs,fs,rfl,hS,hR,hf,fun v H2 ds p' I2 hn hno hsm hp1 hp2 hdr W2 s2=>?_⟩,qe⟩
  refine q v H2 (.tup (.str x::ds)) p' I2 (show (z6n (.str x) && noLL ds)=true by rw [hno]; rfl) (show (q2a 60 (.str x) && smallL 60 ds)=true by rw [hsm]; rfl) (by omega) hp2 ?_ W2 (s1.trans s2)
  rw [drop_one hat,hdr]
  show x::(q2f fs ds++ws.drop p')=(x::q2f ((tw.lookup x).getD []) ds)++ws.drop p'
  rw [e1]
  rfl
theorem x5r:FnScope ["words"] ["words"] (q0e q9c):=fSc
theorem x5s {f:Addr} {fd:FuncData} {C cN:Addr} {kk kr:Nat} {fe:D→List Str} (F:Fun K "read_seats" "read_seats" q9c f fd) (CR:CalE P w K mg base "read_number" kr ["words"] (q5o C cN fe)) (hk:kr≤kk) (CC:CalE P w K mg base "read_counted" (kk+1) ["words", "reader"] (q9n P w K mg base C cN kk)):FnOk P w K mg base (CXe P w) (kk+2) f fd ["words"] (q5o C cN (q4d fe)):=by
 refine F.okE x5r q3h (fun _ A _ s H vs Q E hr h=>?_)
 obtain⟨a,l,ws,p,rfl,W,hpl,hl,hx,q,qe⟩:=h
 obtain⟨gR,dR,GR,mR,kR,bR⟩:=CR.ex
 exact⟨_,@q1h _ _ _ (q0l (q4z CC hr q6u (q1g (pv 0) (q1g (q3g (by rfl) mR) q0b)))),_,rfl,a,l,gR,ws,p,fe,rfl,W,⟨⟨kr,dR, "words",hk,GR,kR,bR⟩⟩,hpl,hl,hx,q,qe⟩
theorem x3d:FnScope ["words"] ["words"] (q0e q7a):=fSc
theorem x3e {f:Addr} {fd:FuncData} {C cN:Addr} {kk kr:Nat} {fe:D→List Str} (F:Fun K "read_entries" "read_entries" q7a f fd) (CR:CalE P w K mg base "read_entry" kr ["words"] (q5o C cN fe)) (hk:kr≤kk) (CC:CalE P w K mg base "read_counted" (kk+1) ["words", "reader"] (q9n P w K mg base C cN kk)):FnOk P w K mg base (CXe P w) (kk+2) f fd ["words"] (q5o C cN (q4d fe)):=by
 refine F.okE x3d q3h (fun _ A _ s H vs Q E hr h=>?_)
 obtain⟨a,l,ws,p,rfl,W,hpl,hl,hx,q,qe⟩:=h
 obtain⟨gR,dR,GR,mR,kR,bR⟩:=CR.ex
 exact⟨_,@q1h _ _ _ (q0l (q4z CC hr q6u (q1g (pv 0) (q1g (q3g (by rfl) mR) q0b)))),_,rfl,a,l,gR,ws,p,fe,rfl,W,⟨⟨kr,dR, "words",hk,GR,kR,bR⟩⟩,hpl,hl,hx,q,qe⟩
theorem x0l:FnScope ["words"] ["words"] (q0e q5f):=fSc
theorem x1g {f:Addr} {fd:FuncData} {C cN:Addr} {kk kr:Nat} {fe:D→List Str} (F:Fun K "read_name_pairs" "read_name_pairs" q5f f fd) (CR:CalE P w K mg base "read_name_pair" kr ["words"] (q5o C cN fe)) (hk:kr≤kk) (CC:CalE P w K mg base "read_counted" (kk+1) ["words", "reader"] (q9n P w K mg base C cN kk)):FnOk P w K mg base (CXe P w) (kk+2) f fd ["words"] (q5o C cN (q4d fe)):=by
 refine F.okE x0l q3h (fun _ A _ s H vs Q E hr h=>?_)
 obtain⟨a,l,ws,p,rfl,W,hpl,hl,hx,q,qe⟩:=h
 obtain⟨gR,dR,GR,mR,kR,bR⟩:=CR.ex
 exact⟨_,@q1h _ _ _ (q0l (q4z CC hr q6u (q1g (pv 0) (q1g (q3g (by rfl) mR) q0b)))),_,rfl,a,l,gR,ws,p,fe,rfl,W,⟨⟨kr,dR, "words",hk,GR,kR,bR⟩⟩,hpl,hl,hx,q,qe⟩
theorem q8b:FnScope ["words"] ["words"] (q0e q3q):=fSc
theorem q7s {f:Addr} {fd:FuncData} {C cN:Addr} {kk kr:Nat} {fe:D→List Str} (F:Fun K "read_caller_triples" "read_caller_triples" q3q f fd) (CR:CalE P w K mg base "read_caller_triple" kr ["words"] (q5o C cN fe)) (hk:kr≤kk) (CC:CalE P w K mg base "read_counted" (kk+1) ["words", "reader"] (q9n P w K mg base C cN kk)):FnOk P w K mg base (CXe P w) (kk+2) f fd ["words"] (q5o C cN (q4d fe)):=by
 refine F.okE q8b q3h (fun _ A _ s H vs Q E hr h=>?_)
 obtain⟨a,l,ws,p,rfl,W,hpl,hl,hx,q,qe⟩:=h
 obtain⟨gR,dR,GR,mR,kR,bR⟩:=CR.ex
 exact⟨_,@q1h _ _ _ (q0l (q4z CC hr q6u (q1g (pv 0) (q1g (q3g (by rfl) mR) q0b)))),_,rfl,a,l,gR,ws,p,fe,rfl,W,⟨⟨kr,dR, "words",hk,GR,kR,bR⟩⟩,hpl,hl,hx,q,qe⟩
theorem x5q:FnScope ["words"] ["words"] (q0e q9l):=fSc
theorem x5k {f:Addr} {fd:FuncData} {C cN:Addr} {kk k0 k1:Nat} {f0 f1:D→List Str} (F:Fun K "read_entry" "read_entry" q9l f fd) (C0:CalE P w K mg base "read_number" k0 ["words"] (q5o C cN f0)) (h0:k0≤kk) (C1:CalE P w K mg base "read_what" k1 ["words"] (q5o C cN f1)) (h1:k1≤kk) (CP:CalE P w K mg base "read_parts" (kk+1) ["words", "readers"] (q3j P w K mg base C cN kk)):FnOk P w K mg base (CXe P w) (kk+2) f fd ["words"] (q5o C cN (z3f [f0,f1])):=by
 refine F.okE x5q q3h (fun _ A _ s H vs Q E hr h=>?_)
 obtain⟨a,l,ws,p,rfl,W,hpl,hl,hx,q,qe⟩:=h
 obtain⟨g0,d0,G0,m0,q0,b0⟩:=C0.ex
 obtain⟨g1,d1,G1,m1,q1,b1⟩:=C1.ex
 refine⟨_,@q1h _ _ _ (q0l (q4z CP hr q6u (q1g (pv 0) (j9j (q2x (q1g (q3g (by rfl) m0) (q1g (q3g (by rfl) m1) q0b))) q0b)))),_,rfl,q4a (by show 2≤1000; decide),fun t ht=>?_⟩
 have s1:=q0g (o:=HO.tup [V.ref g0,V.ref g1]) ht
 have na:t≠a:=fun z=>by obtain⟨⟨dx,e⟩,_⟩:=W; rw [← z,ht] at e; cases e
 refine⟨a,l,t,ws,p,[V.ref g0,V.ref g1],[f0,f1],rfl,W.same7 s1,fun H' s'=>SqT.of (s' _ _ na q0f),.cons ⟨⟨k0,d0, "words",h0,G0,q0,b0⟩⟩ (.cons ⟨⟨k1,d1, "words",h1,G1,q1,b1⟩⟩ (.nil)),(by show 2≤100; decide),hpl,hl,hx,fun b xs H2 ds p' e2 I2 hn hno hsm hp1 hp2 hdr hlt W2 s2=>?_,qe⟩
 exact q _ _ (.tup ds) p' (.tup e2 (by rw [I2.length,hn]; show 2≤100000; decide) I2) hno hsm (hlt (by simp)) hp2 hdr W2 ((q3f.of s1).trans s2)
theorem x1i:FnScope ["words"] ["words"] (q0e q5q):=fSc
theorem x2b {f:Addr} {fd:FuncData} {C cN:Addr} {kk k0 k1:Nat} {f0 f1:D→List Str} (F:Fun K "read_name_pair" "read_name_pair" q5q f fd) (C0:CalE P w K mg base "read_name" k0 ["words"] (q5o C cN f0)) (h0:k0≤kk) (C1:CalE P w K mg base "read_number" k1 ["words"] (q5o C cN f1)) (h1:k1≤kk) (CP:CalE P w K mg base "read_parts" (kk+1) ["words", "readers"] (q3j P w K mg base C cN kk)):FnOk P w K mg base (CXe P w) (kk+2) f fd ["words"] (q5o C cN (z3f [f0,f1])):=by
 refine F.okE x1i q3h (fun _ A _ s H vs Q E hr h=>?_)
 obtain⟨a,l,ws,p,rfl,W,hpl,hl,hx,q,qe⟩:=h
 obtain⟨g0,d0,G0,m0,q0,b0⟩:=C0.ex
 obtain⟨g1,d1,G1,m1,q1,b1⟩:=C1.ex
 refine⟨_,@q1h _ _ _ (q0l (q4z CP hr q6u (q1g (pv 0) (j9j (q2x (q1g (q3g (by rfl) m0) (q1g (q3g (by rfl) m1) q0b))) q0b)))),_,rfl,q4a (by show 2≤1000; decide),fun t ht=>?_⟩
 have s1:=q0g (o:=HO.tup [V.ref g0,V.ref g1]) ht
 have na:t≠a:=fun z=>by obtain⟨⟨dx,e⟩,_⟩:=W; rw [← z,ht] at e; cases e
 refine⟨a,l,t,ws,p,[V.ref g0,V.ref g1],[f0,f1],rfl,W.same7 s1,fun H' s'=>SqT.of (s' _ _ na q0f),.cons ⟨⟨k0,d0, "words",h0,G0,q0,b0⟩⟩ (.cons ⟨⟨k1,d1, "words",h1,G1,q1,b1⟩⟩ (.nil)),(by show 2≤100; decide),hpl,hl,hx,fun b xs H2 ds p' e2 I2 hn hno hsm hp1 hp2 hdr hlt W2 s2=>?_,qe⟩
 exact q _ _ (.tup ds) p' (.tup e2 (by rw [I2.length,hn]; show 2≤100000; decide) I2) hno hsm (hlt (by simp)) hp2 hdr W2 ((q3f.of s1).trans s2)
theorem q8t:FnScope ["words"] ["words"] (q0e q4b):=fSc
theorem q8q {f:Addr} {fd:FuncData} {C cN:Addr} {kk k0 k1 k2:Nat} {f0 f1 f2:D→List Str} (F:Fun K "read_caller_triple" "read_caller_triple" q4b f fd) (C0:CalE P w K mg base "read_name" k0 ["words"] (q5o C cN f0)) (h0:k0≤kk) (C1:CalE P w K mg base "read_number" k1 ["words"] (q5o C cN f1)) (h1:k1≤kk) (C2:CalE P w K mg base "read_number" k2 ["words"] (q5o C cN f2)) (h2:k2≤kk) (CP:CalE P w K mg base "read_parts" (kk+1) ["words", "readers"] (q3j P w K mg base C cN kk)):FnOk P w K mg base (CXe P w) (kk+2) f fd ["words"] (q5o C cN (z3f [f0,f1,f2])):=by
 refine F.okE q8t q3h (fun _ A _ s H vs Q E hr h=>?_)
 obtain⟨a,l,ws,p,rfl,W,hpl,hl,hx,q,qe⟩:=h
 obtain⟨g0,d0,G0,m0,q0,b0⟩:=C0.ex
 obtain⟨g1,d1,G1,m1,q1,b1⟩:=C1.ex
 obtain⟨g2,d2,G2,m2,q2,b2⟩:=C2.ex
 refine⟨_,@q1h _ _ _ (q0l (q4z CP hr q6u (q1g (pv 0) (j9j (q2x (q1g (q3g (by rfl) m0) (q1g (q3g (by rfl) m1) (q1g (q3g (by rfl) m2) q0b)))) q0b)))),_,rfl,q4a (by show 3≤1000; decide),fun t ht=>?_⟩
 have s1:=q0g (o:=HO.tup [V.ref g0,V.ref g1,V.ref g2]) ht
 have na:t≠a:=fun z=>by obtain⟨⟨dx,e⟩,_⟩:=W; rw [← z,ht] at e; cases e
 refine⟨a,l,t,ws,p,[V.ref g0,V.ref g1,V.ref g2],[f0,f1,f2],rfl,W.same7 s1,fun H' s'=>SqT.of (s' _ _ na q0f),.cons ⟨⟨k0,d0, "words",h0,G0,q0,b0⟩⟩ (.cons ⟨⟨k1,d1, "words",h1,G1,q1,b1⟩⟩ (.cons ⟨⟨k2,d2, "words",h2,G2,q2,b2⟩⟩ (.nil))),(by show 3≤100; decide),hpl,hl,hx,fun b xs H2 ds p' e2 I2 hn hno hsm hp1 hp2 hdr hlt W2 s2=>?_,qe⟩
 exact q _ _ (.tup ds) p' (.tup e2 (by rw [I2.length,hn]; show 3≤100000; decide) I2) hno hsm (hlt (by simp)) hp2 hdr W2 ((q3f.of s1).trans s2)
theorem x5m:FnScope ["words"] ["words"] (q0e q9a):=fSc
theorem x5t {f:Addr} {fd:FuncData} {C cN:Addr} {kk k0 k1:Nat} {f0 f1:D→List Str} (F:Fun K "read_store" "read_store" q9a f fd) (C0:CalE P w K mg base "read_name_pairs" k0 ["words"] (q5o C cN f0)) (h0:k0≤kk) (C1:CalE P w K mg base "read_caller_triples" k1 ["words"] (q5o C cN f1)) (h1:k1≤kk) (CP:CalE P w K mg base "read_parts" (kk+1) ["words", "readers"] (q3j P w K mg base C cN kk)):FnOk P w K mg base (CXe P w) (kk+2) f fd ["words"] (q5o C cN (z3f [f0,f1])):=by
 refine F.okE x5m q3h (fun _ A _ s H vs Q E hr h=>?_)
 obtain⟨a,l,ws,p,rfl,W,hpl,hl,hx,q,qe⟩:=h
 obtain⟨g0,d0,G0,m0,q0,b0⟩:=C0.ex
 obtain⟨g1,d1,G1,m1,q1,b1⟩:=C1.ex
 refine⟨_,@q1h _ _ _ (q0l (q4z CP hr q6u (q1g (pv 0) (j9j (q2x (q1g (q3g (by rfl) m0) (q1g (q3g (by rfl) m1) q0b))) q0b)))),_,rfl,q4a (by show 2≤1000; decide),fun t ht=>?_⟩
 have s1:=q0g (o:=HO.tup [V.ref g0,V.ref g1]) ht
 have na:t≠a:=fun z=>by obtain⟨⟨dx,e⟩,_⟩:=W; rw [← z,ht] at e; cases e
 refine⟨a,l,t,ws,p,[V.ref g0,V.ref g1],[f0,f1],rfl,W.same7 s1,fun H' s'=>SqT.of (s' _ _ na q0f),.cons ⟨⟨k0,d0, "words",h0,G0,q0,b0⟩⟩ (.cons ⟨⟨k1,d1, "words",h1,G1,q1,b1⟩⟩ (.nil)),(by show 2≤100; decide),hpl,hl,hx,fun b xs H2 ds p' e2 I2 hn hno hsm hp1 hp2 hdr hlt W2 s2=>?_,qe⟩
 exact q _ _ (.tup ds) p' (.tup e2 (by rw [I2.length,hn]; show 2≤100000; decide) I2) hno hsm (hlt (by simp)) hp2 hdr W2 ((q3f.of s1).trans s2)
theorem x7z:FnScope ["words"] ["words"] (q0e x1h):=fSc
theorem x8f {f:Addr} {fd:FuncData} {C cN:Addr} {kk k0 k1 k2 k3:Nat} {f0 f1 f2 f3:D→List Str} (F:Fun K "read_pack" "read_pack" x1h f fd) (C0:CalE P w K mg base "read_number" k0 ["words"] (q5o C cN f0)) (h0:k0≤kk) (C1:CalE P w K mg base "read_number" k1 ["words"] (q5o C cN f1)) (h1:k1≤kk) (C2:CalE P w K mg base "read_seats" k2 ["words"] (q5o C cN f2)) (h2:k2≤kk) (C3:CalE P w K mg base "read_store" k3 ["words"] (q5o C cN f3)) (h3:k3≤kk) (CP:CalE P w K mg base "read_parts" (kk+1) ["words", "readers"] (q3j P w K mg base C cN kk)):FnOk P w K mg base (CXe P w) (kk+2) f fd ["words"] (q5o C cN (z3f [f0,f1,f2,f3])):=by
 refine F.okE x7z q3h (fun _ A _ s H vs Q E hr h=>?_)
 obtain⟨a,l,ws,p,rfl,W,hpl,hl,hx,q,qe⟩:=h
 obtain⟨g0,d0,G0,m0,q0,b0⟩:=C0.ex
 obtain⟨g1,d1,G1,m1,q1,b1⟩:=C1.ex
 obtain⟨g2,d2,G2,m2,q2,b2⟩:=C2.ex
 obtain⟨g3,d3,G3,m3,q3,b3⟩:=C3.ex
 refine⟨_,@q1h _ _ _ (q0l (q4z CP hr q6u (q1g (pv 0) (j9j (q2x (q1g (q3g (by rfl) m0) (q1g (q3g (by rfl) m1) (q1g (q3g (by rfl) m2) (q1g (q3g (by rfl) m3) q0b))))) q0b)))),_,rfl,q4a (by show 4≤1000; decide),fun t ht=>?_⟩
 have s1:=q0g (o:=HO.tup [V.ref g0,V.ref g1,V.ref g2,V.ref g3]) ht
 have na:t≠a:=fun z=>by obtain⟨⟨dx,e⟩,_⟩:=W; rw [← z,ht] at e; cases e
 refine⟨a,l,t,ws,p,[V.ref g0,V.ref g1,V.ref g2,V.ref g3],[f0,f1,f2,f3],rfl,W.same7 s1,fun H' s'=>SqT.of (s' _ _ na q0f),.cons ⟨⟨k0,d0, "words",h0,G0,q0,b0⟩⟩ (.cons ⟨⟨k1,d1, "words",h1,G1,q1,b1⟩⟩ (.cons ⟨⟨k2,d2, "words",h2,G2,q2,b2⟩⟩ (.cons ⟨⟨k3,d3, "words",h3,G3,q3,b3⟩⟩ (.nil)))),(by show 4≤100; decide),hpl,hl,hx,fun b xs H2 ds p' e2 I2 hn hno hsm hp1 hp2 hdr hlt W2 s2=>?_,qe⟩
 exact q _ _ (.tup ds) p' (.tup e2 (by rw [I2.length,hn]; show 4≤100000; decide) I2) hno hsm (hlt (by simp)) hp2 hdr W2 ((q3f.of s1).trans s2)
noncomputable def z2f:Sp:=fun vs H Q _=>∃ (a:Addr) (x0 x1 x2 x3 x4 x5 x6 x7:V),vs=[.ref a]∧H a=some (.tup [x0,x1,x2,x3,x4,x5,x6,x7])∧∀ p H',H' p=some (.tup [x0,x1,x2,x3,x4,x5,x7,x6])→q1b H H'→Q (.ref p) H'
theorem w7j:FnScope ["parts"] ["parts"] (q0e q4q):=fSc
theorem x8q {f:Addr} {fd:FuncData} (F:Fun K "last_two_changed" "last_two_changed" q4q f fd):FnOk P w K mg base CX0 1 f fd ["parts"] z2f:=by
 refine F.ok w7j (fun vs H Q E ⟨_,_,_,_,_,_,_,_,_,e,_⟩=>by subst e; rfl) (fun _ A _ s H vs Q E hr h=>?_)
 obtain⟨a,x0,x1,x2,x3,x4,x5,x6,x7,rfl,ha,q⟩:=h
 refine⟨_,@q1h _ _ _ (q0l (q0i q9p (q2r z6v (pv 0) q3m (q3e (j0j x9o q0a))) (q2x (q0c (q0u q0o (pv 0) (j0j x9o q0a) w4u) (q0c (q0u q0o (pv 0) (j0j x9o q0a) w4u) q0b))))),?_⟩
 refine⟨_,rfl,_,rfl,_,rfl,a,_,rfl,ha,fun b H1 hb s1=>?_⟩
 replace hb:H1 b=some (.tup [x0,x1,x2,x3,x4,x5]):=hb
 refine⟨_,rfl,_,rfl,a,_,_,x7,rfl,rfl,SqT.of (s1 _ _ ha),by rfl,_,rfl,_,rfl,a,_,_,x6,rfl,rfl,SqT.of (s1 _ _ ha),by rfl,q4a (by show 2≤1000; decide),fun c hc=>?_⟩
 have s2:=q0g (o:=HO.tup [x7,x6]) hc
 exact⟨b,c,_,_,rfl,rfl,s2 _ _ hb,q0f,q4a (by show 8≤1000; decide),fun p H3 hp s3=>q p H3 hp ((s1.trans s2).trans s3)⟩
end
inductive ImpR:List (D→Bool)→List (D→Bool)→Prop
 | nil:ImpR [] []
 | cons {p q:D→Bool} {ps qs:List (D→Bool)} (h:∀ d,p d=true→q d=true) (t:ImpR ps qs):ImpR (p::ps) (q::qs)
theorem x1s:∀ {ps qs:List (D→Bool)} {ds:List D},ImpR ps qs→q0w ps ds=true→q0w qs ds=true
 | _,_,[],.nil,_=>rfl
 | _,_,_::_,.nil,h=>by cases h
 | _,_,[],.cons _ _,h=>by cases h
 | _,_,d::ds,.cons h t,hf=>by
  rw [q0w,Bool.and_eq_true] at hf ⊢
  exact⟨h d hf.1,x1s t hf.2⟩
theorem j8c (y:Str):J (Txt.split y " ")=y:=StrLaws.join_split y " "
theorem w0b {v u:V}:([("words",v),("passed",u)]:List (Str × V)).lookup ("all_passed" : Str)=none:=lkA
section
variable {P:Program} {w:World} {K:Frag} {mg:Str→Option Value} {base:Heap}
noncomputable def z1g (cN:Addr):Sp:=fun vs H Q E=>∃ (y:Str),vs=[.str y]∧y.length+1≤sizeLine∧(Txt.split y " ").length≤100000∧(∀ x∈Txt.split y " ",x.length≤100000)∧(∀ v H' d,Is 100000 H' v d→q2o d=true→q2a 60 d=true→z6n d=true→J (q2i d)=y→q1b H H'→Q v H')∧∀ H',E (.ref cN) none H'
theorem x4s:FnScope ["line", "words", "word", "parts", "letter"] ["line"] (q0e z8i):=fSc
theorem j1o {f fI fW fA:Addr} {fd dI dW dA:FuncData} {C cN:Addr} {kk:Nat} (h3:3≤kk) (Z:NoL7 K mg cN) (Y:WoC K C) (F:Fun K "read" "read" z8i f fd) (hC:mg "Words" = some (.ref C)) (M:Mk K C fI) (FI:FnOk P w K mg base CX0 1 fI dI ["self", "line"] (z8v C)) (bI:q3p K dI ["self", "line"] [])
  (MW:Meth K C "word" fW) (FW:FnOk P w K mg base (CXe P w) 2 fW dW ["self"] (q9z C cN)) (bW:q3p K dW ["self"] []) (MA:Meth K C "all_passed" fA) (FA:FnOk P w K mg base CX0 1 fA dA ["self"] (z7m C)) (bA:q3p K dA ["self"] []) (TB:RTb P w K mg base C cN "LETTER_READERS" kk q6r) (CB:CalE P w K mg base "read_behind_word" (kk+2) ["words", "word", "readers"] (x4b P w K mg base C cN kk)) (CL:Cal P w K mg base "last_two_changed" 1 ["parts"] z2f) {ki:Nat} (CI:Cal P w K mg base "is_letter" ki ["thing"] (fun vs H Q _=>∃ v d,vs=[v]∧Is 100000 H v d∧∀ H',q1b H H'→Q (.bl (q2o d)) H')) (hki:ki≤kk+2) :
  FnOk P w K mg base (CXe P w) (kk+3) f fd ["line"] (z1g cN):=by
 refine F.okE x4s (fun vs H Q E ⟨_,e,_⟩=>by subst e; rfl) (fun _ A _ s H vs Q E hr h=>?_)
 obtain⟨y,rfl,hy,hfew,hwl,q,qe⟩:=h
 obtain⟨aD,es,n,mD,lD,hK,hsys,hT⟩:=TB.ex
 refine⟨_,@q0x _ _ _ _ _ (q0z (i:=1) x4s.nd (by rfl) (by exact Or.inl rfl) (j7o M FI (hr.mono (by omega)) (by rfl) hC bI .nil x4e (q1g (pv 0) q0b)))
  (@q0x _ _ _ _ _ (q0z (i:=2) x4s.nd (by rfl) (by exact Or.inl rfl) (q5y (pv 1) Y.cl MW FW (hr.mono (by omega)) bW .nil q6u))
  (@q0x _ _ _ _ _ (q0z (i:=3) x4s.nd (by rfl) (by exact Or.inl rfl) (q4z CB hr q6u (q1g (pv 1) (q1g (pv 2) (q7n (x2j (q3g (by rfl) mD) (q1g (pv 2) q0b)) q0b)))))
  (@q0x _ _ _ _ _ (q0z (i:=4) x4s.nd (by rfl) (by exact Or.inl rfl) (z2o (q0t q1w (pv 2) q0n (q0r _)) (q0h CL (hr.mono (by omega)) (q1g (pv 3) q0b)) (pv 3)))
  (@q0x _ _ _ _ _ (q1r (PW.pt (q8r (q3a (q2s (q5y (pv 1) Y.cl MA FA (hr.mono (by omega)) bA .nil x4e))) (q9s (q3a (q2s (q0h CI (hr.mono hki) (q1g (pv 4) q0b))))))) (@q1h _ _ _ (q7v q6l (by rfl) (by rfl) Z.m Z.x (q5x q0n q0b))) q0s)
  (@q1h _ _ _ (q0l (pv 4))))))),?_⟩
 refine⟨_,rfl,fun a dx ha hdx hne=>⟨a,dx,_,rfl,q0f,hy,fun l H1 hl W1 s1=>⟨rfl,?_⟩⟩⟩
 have sH1:q1b H H1:=fun b o e=>s1 b o (fun z=>by rw [z,ha] at e; cases e) (by
  rw [q1a (fun z=>by rw [z,ha] at e; cases e),q1a (fun z=>by rw [z,hdx] at e; cases e)]
  exact e)
 have sB:∀ {H2 H3:Hp},q1b H H2→q3f a H2 H3→q1b H H3:=fun {H2 H3} u v b o e=>v b o (fun z=>by rw [z,ha] at e; cases e) (u b o e)
 have hJ:=j8c y
 generalize Txt.split y " " = ws at W1 hfew hwl hJ
 obtain⟨⟨dx1,ha1⟩,_⟩:=id W1
 refine⟨_,rfl,a,dx1,_,rfl,ha1,z1t,a,l,ws,0,rfl,W1,Nat.zero_le _,hfew,fun x H2 hat W2 s2=>?_,qe⟩
 have sH2:=sB sH1 s2
 have hlt:=(List.getElem?_eq_some_iff.mp hat).1
 have hxl:=hwl x (List.mem_of_getElem? hat)
 have hd0:ws=x::ws.drop 1:=drop_one hat
 rcases hT x with ⟨e1,e2⟩ | ⟨fs,t,gs,e1,hf,e2,hS,hR⟩
 ·exact⟨_,rfl,_,rfl,aD,es,n,rfl,lD,hK,hsys,_,rfl,x,.non,rfl,(by rw [e2]; rfl),a,l,x,.non,ws,1,rfl,hxl,W2,by omega,hfew,hwl,.inl rfl,qe⟩
 refine⟨_,rfl,_,rfl,aD,es,n,rfl,lD,hK,hsys,_,rfl,x,.ref t,rfl,(by rw [e2]; rfl),a,l,x,.ref t,ws,1,rfl,hxl,W2,by omega,hfew,hwl,.inr ⟨t,gs,fs,rfl,hS,hR,hf,fun v3 H3 ds p' I3 hn hno hsm hp1 hp2 hdr W3 s3=>?_⟩,qe⟩
 have sH3:=sB sH2 s3
 have ew0:∀ r,q2i (.tup (.str x::r))=x::q2f fs (if x = "hand" then j1a r else r):=fun r=>by
  show x::q2f ((q6r.lookup x).getD []) _=_
  rw [e1]; rfl
 refine⟨_,rfl,rfl,_,rfl,?_⟩
 by_cases hh:x = "hand"
 ·rw [decide_eq_true (show V.str x=V.str "hand" by rw [hh])]
  have hf7:fs.length=7:=by
   rw [hh] at e1
   have e9:fs=[q1y,q1y,q1y,q1y,q1y,q1y,q4k]:=(Option.some.inj e1).symm
   rw [e9]
   rfl
  obtain⟨d1,d2,d3,d4,d5,d6,d7,rfl⟩:∃ d1 d2 d3 d4 d5 d6 d7,ds=[d1,d2,d3,d4,d5,d6,d7]:=by
   match ds,hn.trans hf7 with
   | [d1,d2,d3,d4,d5,d6,d7],_=>exact⟨d1,d2,d3,d4,d5,d6,d7,rfl⟩
  obtain⟨b3,xs,rfl,h3',_,r3⟩:=Is.vtup I3
  obtain⟨y0,_,rfl,i0,r30⟩:=IsL.un r3
  obtain⟨y1,_,rfl,i1,r31⟩:=IsL.un r30
  obtain⟨y2,_,rfl,i2,r32⟩:=IsL.un r31
  obtain⟨y3,_,rfl,i3,r33⟩:=IsL.un r32
  obtain⟨y4,_,rfl,i4,r34⟩:=IsL.un r33
  obtain⟨y5,_,rfl,i5,r35⟩:=IsL.un r34
  obtain⟨y6,_,rfl,i6,r36⟩:=IsL.un r35
  obtain⟨y7,_,rfl,i7,r37⟩:=IsL.un r36
  obtain rfl:=IsL.un0 r37
  refine q1m ⟨_,rfl,b3,y0,y1,y2,y3,y4,y5,y6,y7,rfl,h3',fun b4 H4 e4 s4=>?_⟩
  have sH4:=sH3.trans s4
  have W4:=W3.same7 s4
  have I4:Is 100000 H4 (.ref b4) (.tup (.str x::[d1,d2,d3,d4,d5,d7,d6])):=.tup e4 (by show 8≤100000; decide) (.cons (i0.same s4) (.cons (i1.same s4) (.cons (i2.same s4) (.cons (i3.same s4) (.cons (i4.same s4) (.cons (i5.same s4) (.cons (i7.same s4) (.cons (i6.same s4) .nil))))))))
  have ew:=ew0 [d1,d2,d3,d4,d5,d7,d6]
  rw [if_pos hh] at ew
  replace ew:q2i (.tup (.str x::[d1,d2,d3,d4,d5,d7,d6]))=x::q2f fs [d1,d2,d3,d4,d5,d6,d7]:=ew
  have hnr:noLL [d1,d2,d3,d4,d5,d7,d6]=true:=x1t.mpr fun d hd=>x1t.mp hno d (by simp at hd ⊢; rcases hd with z | z | z | z | z | z | z <;> simp [z])
  have hsr:smallL 60 [d1,d2,d3,d4,d5,d7,d6]=true:=q2k.mpr fun d hd=>q2k.mp hsm d (by simp at hd ⊢; rcases hd with z | z | z | z | z | z | z <;> simp [z])
  obtain⟨⟨dx4,ha4⟩,_⟩:=id W4
  refine⟨_,rfl,a,dx4,_,rfl,ha4,w0b,a,l,_,_,rfl,W4,_,rfl,?_⟩
  by_cases hall:p'=ws.length
  ·rw [decide_eq_true hall]
   refine q1c ⟨_,rfl,_,_,rfl,I4,fun H5 s5=>⟨_,rfl,?_⟩⟩
   cases hp:q2o (.tup (.str x::[d1,d2,d3,d4,d5,d7,d6])) with
   | true =>
    refine q1c ⟨_,rfl,q _ _ _ (I4.same s5) hp (show (q2a 60 (.str x) && smallL 60 [d1,d2,d3,d4,d5,d7,d6])=true by rw [hsr]; rfl) (show (z6n (.str x) && noLL [d1,d2,d3,d4,d5,d7,d6])=true by rw [hnr]; rfl) ?_ (sH4.trans s5)⟩
    rw [ew,← hJ]
    congr 1
    rw [hall,List.drop_length,List.append_nil] at hdr
    rw [← hdr]
    exact hd0.symm
   | false=>exact q1m ⟨by decide,qe _⟩
  ·rw [decide_eq_false hall]
   exact q1m (q1m ⟨by decide,qe _⟩)
 ·rw [decide_eq_false (fun z=>hh (V.str.inj z))]
  have sH4:=sH3
  have W4:=W3
  have I4:=I3
  have hnr:=hno
  have hsr:=hsm
  have ew:=ew0 ds
  rw [if_neg hh] at ew
  refine q1c ⟨_,rfl,?_⟩
  obtain⟨⟨dx4,ha4⟩,_⟩:=id W4
  refine⟨_,rfl,a,dx4,_,rfl,ha4,w0b,a,l,_,_,rfl,W4,_,rfl,?_⟩
  by_cases hall:p'=ws.length
  ·rw [decide_eq_true hall]
   refine q1c ⟨_,rfl,_,_,rfl,I4,fun H5 s5=>⟨_,rfl,?_⟩⟩
   cases hp:q2o (.tup (.str x::ds)) with
   | true =>
    refine q1c ⟨_,rfl,q _ _ _ (I4.same s5) hp (show (q2a 60 (.str x) && smallL 60 ds)=true by rw [hsr]; rfl) (show (z6n (.str x) && noLL ds)=true by rw [hnr]; rfl) ?_ (sH4.trans s5)⟩
    rw [ew,← hJ]
    congr 1
    rw [hall,List.drop_length,List.append_nil] at hdr
    rw [← hdr]
    exact hd0.symm
   | false=>exact q1m ⟨by decide,qe _⟩
  ·rw [decide_eq_false hall]
   exact q1m (q1m ⟨by decide,qe _⟩)
end
theorem x5v {p:D→Bool}:∀ {d:D},x4r p d=true→∃ ds,d=.tup ds∧ds.all p=true
 | .tup ds,h=>⟨ds,rfl,(Bool.and_eq_true _ _ |>.mp h).1⟩
theorem x9n:∀ {d:D},q2l d=true→∃ ds,d=.tup ds∧ds.all q3r=true
 | .tup ds,h=>⟨ds,rfl,(Bool.and_eq_true _ _ |>.mp h).1⟩
theorem x8p {d:D} (h:q3r d=true):∃ ds,d=.tup ds∧q0w [whole,x2a] ds=true:=let ⟨ds,e,hf⟩:=q4w h; ⟨ds,e,x1s (.cons (fun _=>q1o) (.cons (fun _ h=>h) .nil)) hf⟩
theorem z7z {d:D} (h:q4c d=true):∃ ds,d=.tup ds∧q0w [q2n,whole,whole] ds=true:=let ⟨ds,e,hf⟩:=q4w h; ⟨ds,e,x1s (.cons (fun _ h=>h) (.cons (fun _=>q1o) (.cons (fun _ h=>h) .nil))) hf⟩
theorem j4u {d:D} (h:x0r d=true):∃ ds,d=.tup ds∧q0w [whole,whole,q2z,q3v] ds=true:=by
 unfold x0r x6s at h
 rw [Bool.and_eq_true,Bool.and_eq_true] at h
 obtain⟨ds,e,hf⟩:=q4w h.1.1
 exact⟨ds,e,x1s (.cons (fun _=>q1o) (.cons (fun _=>q1o) (.cons (fun _ h=>h) (.cons (fun _ h=>h) .nil)))) hf⟩
theorem x8t {d:D} (h:q3v d=true):∃ a b,d=.tup [.tup a,.tup b]∧a.all x0n=true∧b.all q4c=true∧x3v (.tup a)=true∧q7p (.tup b)=true:=by
 obtain⟨ds,rfl,hf⟩:=q4w h
 have hl:=q1f hf
 match ds,hl with
 | [x,y],_ =>
  rw [q0w,q0w,q0w,Bool.and_true,Bool.and_eq_true] at hf
  obtain⟨a,rfl,ha⟩:=x5v hf.1
  obtain⟨b,rfl,hb⟩:=x5v hf.2
  exact⟨a,b,rfl,ha,hb,hf.1,hf.2⟩
theorem j3q {d:D} (h:x2a d=true):d=.tup [.str "open"]∨(∃ s,d=.tup [.str "seats",s]∧q2z s=true)∨∃ (x:Str) (n:Int) (e:D),d=.tup [.str "wish",.str x,.int n,e]∧x3g x=true∧q6j e=true:=by
 obtain⟨x,r,ps,rfl,e,hf⟩:=q3l h
 unfold z9f at e
 rw [List.lookup_cons] at e
 by_cases h1:x = "open"
 ·subst h1
  cases e
  match r,q1f hf with
  | [],_=>exact .inl rfl
 ·rw [show (x == "open")=false from by rw [beq_eq_false_iff_ne]; exact h1,List.lookup_cons] at e
  by_cases h2:x = "wish"
  ·subst h2
   cases e
   match r,q1f hf with
   | [a,b,c],_ =>
    simp only [q0w,Bool.and_true,Bool.and_eq_true] at hf
    obtain⟨y,rfl,hy⟩:=q2y hf.1
    obtain⟨i,rfl⟩:=q0v (q1o hf.2.1)
    exact .inr (.inr ⟨y,i,c,rfl,hy,hf.2.2⟩)
  ·rw [show (x == "wish")=false from by rw [beq_eq_false_iff_ne]; exact h2,List.lookup_cons] at e
   by_cases h3:x = "seats"
   ·subst h3
    cases e
    match r,q1f hf with
    | [a],_ =>
     simp only [q0w,Bool.and_true] at hf
     exact .inr (.inl ⟨a,rfl,hf⟩)
   ·rw [show (x == "seats")=false from by rw [beq_eq_false_iff_ne]; exact h3] at e
    cases e
theorem z1u {d:D} (h:q3r d=true):∃ (t:Int) (wh:D),d=.tup [.int t,wh]∧x2a wh=true:=by
 obtain⟨ds,rfl,hf⟩:=x8p h
 match ds,q1f hf with
 | [a,b],_ =>
  simp only [q0w,Bool.and_true,Bool.and_eq_true] at hf
  obtain⟨i,rfl⟩:=q0v hf.1
  exact⟨i,b,rfl,hf.2⟩
theorem w1x {a ws:List Str} (ha:a≠[]) (hw:ws≠[]):J (a++[J ws])=J (a++ws):=by
 rw [x2d ha (by simp),x2d ha hw,x2n]
theorem x9a {d:D} (h:q2z d=true):q4m d≠[]:=by
 obtain⟨ns,rfl,_⟩:=x4m h
 simp [q4m,q4d]
theorem z2j {d:D} (h:q6j d=true):q6n d≠[]:=by
 obtain⟨x,r,ps,rfl,e,hf⟩:=q3l h
 simp [q6n,byW]
section
variable {P:Program} {w:World} {K:Frag} {mg:Str→Option Value} {base:Heap}
theorem j2d:FnScope ["_law_entry_here", "_law_term", "_law_what_here", "_law_words"] ["_law_entry_here"] (q0e q4r):=fSc
theorem x7j {f:Addr} {fd:FuncData} (F:Fun K "_law_entry_words" "_law_entry_words" q4r f fd) (T:Txt mg) (CF:Cal P w K mg base "_law_figures" 2 ["_law_number"] z2h) (CS:Cal P w K mg base "_law_seats_words" 3 ["_law_seats_here"] (spT q2z q4m)) (CD:Cal P w K mg base "_law_deed_words" 3 ["_law_deed_here"] (spT q6j q6n)):FnOk P w K mg base CX0 4 f fd ["_law_entry_here"] (spT q3r q3z):=by
 refine F.ok j2d x2k (fun _ A _ s H vs Q E hr h=>?_)
 obtain⟨B,v,d,hB,rfl,I,hp,hs,q⟩:=h
 have r2:=hr.mono (show 2≤3 by decide)
 refine⟨_,@q0x _ _ _ _ _ (z2w (pv 0) (x5h (n:=2) (by rfl) (q1x (q1i (i:=1) j2d.nd (by rfl) (by exact Or.inl rfl)) (q1x (q1i (i:=2) j2d.nd (by rfl) (by exact Or.inl rfl)) q6b))))
  (@q0x _ _ _ _ _ (q0z (i:=3) j2d.nd (by rfl) (by exact Or.inl rfl) (x0h (q0c (q0h CF r2 (q1g (pv 1) q0b)) (q0c (q0u q0o (pv 2) q0a q2q) q0b))))
  (@q0x _ _ _ _ _ (q1r (q0t q1w (q0u q0o (pv 2) q0a q2q) q0n (q0r _)) (@q1h _ _ _ (x7f (q9m PySem.F.plainAttrs_list PySem.F.slot_list_append PySem.F.type_list_append q7k (pv 3) (q0c (q0h CS hr (q0c (q0u q0o (pv 2) q0a q2q) q0b)) q0b)))) q0s)
  (@q0x _ _ _ _ _ (q1r (q0t q1w (q0u q0o (pv 2) q0a q2q) q0n (q0r _)) (@q0x _ _ _ _ _ (x7f (q9m PySem.F.plainAttrs_list PySem.F.slot_list_append PySem.F.type_list_append q7k (pv 3) (q0c (q0u q0o (pv 2) q0a q2q) q0b))) (@q0x _ _ _ _ _ (x7f (q9m PySem.F.plainAttrs_list PySem.F.slot_list_append PySem.F.type_list_append q7k (pv 3) (q0c (q0h CF r2 (q0c (q0u q0o (pv 2) q0a q2q) q0b)) q0b))) (@q1h _ _ _ (x7f (q9m PySem.F.plainAttrs_list PySem.F.slot_list_append PySem.F.type_list_append q7k (pv 3) (q0c (q0h CD hr (q0c (q0u q0o (pv 2) q0a q2q) q0b)) q0b)))))) q0s)
  (@q1h _ _ _ (q0l (q9m PySem.F.plainAttrs_str PySem.F.slot_str_join PySem.F.type_str_join q9j q0n (q1g (pv 3) q0b))))))),?_⟩
 obtain⟨t,wh,rfl,hw⟩:=z1u hp
 have hwid:=(I.mono hB (q1b.refl _)).wid
 have hok:=x4x (B:=36000) _ hp hwid
 have hsm:t.natAbs < 10 ^ 60∧q2a 60 wh=true:=by
  have h1:(q2a 60 (.int t) && (q2a 60 wh && true))=true:=hs
  rw [Bool.and_true,Bool.and_eq_true] at h1
  exact⟨of_decide_eq_true h1.1,h1.2⟩
 cases I with
 | @tup a xs _ ea l r =>
 obtain⟨w0,_,rfl,z0,rr0⟩:=IsL.un r
 obtain rfl:=Is.vint z0
 obtain⟨vw,_,rfl,iw,rr1⟩:=IsL.un rr0
 obtain rfl:=IsL.un0 rr1
 refine⟨_,rfl,a,_,rfl,SqT.of ea,rfl,_,_,rfl,_,_,rfl,rfl,?_⟩
 have hft:=q1d (n:=t) (k:=60) (by decide) hsm.1
 rcases j3q hw with rfl | ⟨sd,rfl,hsd⟩ | ⟨x,n,e,rfl,hx,he⟩
 ·cases iw with
  | @tup aw ws _ ew lw rw' =>
  obtain⟨w0,_,rfl,z0,rr0⟩:=IsL.un rw'
  obtain rfl:=Is.vstr z0
  obtain rfl:=IsL.un0 rr0
  refine⟨_,rfl,t,rfl,hsm.1,_,rfl,aw,_,_,.str "open",rfl,rfl,SqT.of ew,q0m (j:=0) rfl,q4a (by show 2≤1000; decide),fun l hl=>?_⟩
  have s1:=q0g (o:=HO.lst [V.str (q1j t),V.str "open"]) hl
  refine⟨_,rfl,aw,_,_,.str "open",rfl,rfl,SqT.of (s1 _ _ ew),q0m (j:=0) rfl,rfl,_,rfl,?_⟩
  rw [(show decide (V.str ("open" : Str)=V.str ("seats" : Str))=false from by decide +kernel)]
  refine q1c ⟨_,rfl,aw,_,_,.str "open",rfl,rfl,SqT.of (s1 _ _ ew),q0m (j:=0) rfl,rfl,_,rfl,?_⟩
  rw [(show decide (V.str ("open" : Str)=V.str ("wish" : Str))=false from by decide +kernel)]
  refine q1c ⟨rfl,_,rfl, " ",l,[q1j t, "open"],rfl,rfl,SqL.of q0f,q9u (L:=61) (n:=12) (hok.len 60 (by decide) (by rw [smallL,hs]; rfl)) hok.few (by decide),q _ s1⟩
 ·cases iw with
  | @tup aw ws _ ew lw rw' =>
  obtain⟨w0,_,rfl,z0,rr0⟩:=IsL.un rw'
  obtain rfl:=Is.vstr z0
  obtain⟨vs,_,rfl,is,rr1⟩:=IsL.un rr0
  obtain rfl:=IsL.un0 rr1
  refine⟨_,rfl,t,rfl,hsm.1,_,rfl,aw,_,_,.str "seats",rfl,rfl,SqT.of ew,q0m (j:=0) rfl,q4a (by show 2≤1000; decide),fun l hl=>?_⟩
  have s1:=q0g (o:=HO.lst [V.str (q1j t),V.str "seats"]) hl
  refine⟨_,rfl,aw,_,_,.str "seats",rfl,rfl,SqT.of (s1 _ _ ew),q0m (j:=0) rfl,rfl,_,rfl,?_⟩
  rw [(show decide (V.str ("seats" : Str)=V.str ("seats" : Str))=true from by decide +kernel)]
  have hss:q2a 60 sd=true:=by
   have h1:(q2a 60 (.str "seats") && (q2a 60 sd && true))=true:=hsm.2
   rw [Bool.and_true,Bool.and_eq_true] at h1
   exact h1.2
  refine q1m ⟨_,rfl,.inl ⟨rfl,_,SqL.of q0f⟩,_,rfl,aw,_,_,vs,rfl,rfl,SqT.of (s1 _ _ ew),q0m (j:=1) rfl,B,vs,sd,hB,rfl,is.same s1,hsd,hss,fun H2 s2=>?_⟩
  have hl2:=s2 _ _ q0f
  refine⟨l,_,_,rfl,rfl,hl2,q4a (by show 2+1≤1000; decide),?_⟩
  have s3:q1b H (upd H2 l (.lst ([V.str (q1j t),V.str "seats"]++[V.str (J (q4m sd))]))):=fun b o eb=>by
   have hbl:b≠l:=fun z=>by subst z; rw [hl] at eb; cases eb
   rw [q1a hbl]
   exact (s1.trans s2) _ _ eb
  refine⟨_,rfl,aw,_,_,.str "seats",rfl,rfl,SqT.of (s3 _ _ ew),q0m (j:=0) rfl,rfl,_,rfl,?_⟩
  rw [(show decide (V.str ("seats" : Str)=V.str ("wish" : Str))=false from by decide +kernel)]
  have hsl:=(q9f (B:=36000) sd hsd (is.mono hB (q1b.refl _)).wid).text (by rw [smallL,hss]; rfl)
  have hJ:J [q1j t, "seats",J (q4m sd)]=J (q3z (.tup [.int t,.tup [.str "seats",sd]])):=by
   rw [show ([q1j t, "seats",J (q4m sd)]:List Str)=[q1j t, "seats"]++[J (q4m sd)] from rfl,w1x (by simp) (x9a hsd)]
   congr 1
   show _=q1j t::(("seats" : Str)::(q4m sd++[]))++[]
   rw [List.append_nil,List.append_nil]
   rfl
  refine q1c ⟨rfl,_,rfl, " ",l,[q1j t, "seats",J (q4m sd)],rfl,rfl,SqL.of q0f,q9u (L:=50000) (n:=3) ?_ (by show 3≤3; decide) (by decide),?_⟩
  ·intro y hy
   simp only [List.mem_cons,List.not_mem_nil,or_false] at hy
   rcases hy with rfl | rfl | rfl
   ·omega
   ·decide +kernel
   ·omega
  ·have:=q _ s3
   rw [← hJ] at this
   exact this
 ·cases iw with
  | @tup aw ws _ ew lw rw' =>
  obtain⟨w0,_,rfl,z0,rr0⟩:=IsL.un rw'
  obtain rfl:=Is.vstr z0
  obtain⟨w1,_,rfl,z1,rr1⟩:=IsL.un rr0
  obtain rfl:=Is.vstr z1
  obtain⟨w2,_,rfl,z2,rr2⟩:=IsL.un rr1
  obtain rfl:=Is.vint z2
  obtain⟨ve,_,rfl,ie,rr3⟩:=IsL.un rr2
  obtain rfl:=IsL.un0 rr3
  have hss:n.natAbs < 10 ^ 60∧q2a 60 e=true:=by
   have h1:(q2a 60 (.str "wish") && (q2a 60 (.str x) && (q2a 60 (.int n) && (q2a 60 e && true))))=true:=hsm.2
   rw [Bool.and_true,Bool.and_eq_true,Bool.and_eq_true,Bool.and_eq_true] at h1
   exact⟨of_decide_eq_true h1.2.2.1,h1.2.2.2⟩
  have hfn:=q1d (n:=n) (k:=60) (by decide) hss.1
  have hxl:=q6e hx
  refine⟨_,rfl,t,rfl,hsm.1,_,rfl,aw,_,_,.str "wish",rfl,rfl,SqT.of ew,q0m (j:=0) rfl,q4a (by show 2≤1000; decide),fun l hl=>?_⟩
  have s1:=q0g (o:=HO.lst [V.str (q1j t),V.str "wish"]) hl
  refine⟨_,rfl,aw,_,_,.str "wish",rfl,rfl,SqT.of (s1 _ _ ew),q0m (j:=0) rfl,rfl,_,rfl,?_⟩
  rw [(show decide (V.str ("wish" : Str)=V.str ("seats" : Str))=false from by decide +kernel)]
  refine q1c ⟨_,rfl,aw,_,_,.str "wish",rfl,rfl,SqT.of (s1 _ _ ew),q0m (j:=0) rfl,rfl,_,rfl,?_⟩
  rw [(show decide (V.str ("wish" : Str)=V.str ("wish" : Str))=true from by decide +kernel)]
  have off:∀ {H2:Hp} {o:HO},q1b H H2→q1b H (upd H2 l o):=fun {H2 o} s2 b u eb=>by
   have hbl:b≠l:=fun z=>by subst z; rw [hl] at eb; cases eb
   rw [q1a hbl]
   exact s2 _ _ eb
  refine q1m ⟨_,rfl,.inl ⟨rfl,_,SqL.of q0f⟩,_,rfl,aw,_,_,.str x,rfl,rfl,SqT.of (s1 _ _ ew),q0m (j:=1) rfl,l,_,_,rfl,rfl,q0f,q4a (by show 2+1≤1000; decide),?_⟩
  have s2:=off (o:=.lst ([V.str (q1j t),V.str "wish"]++[V.str x])) s1
  refine⟨_,rfl,.inl ⟨rfl,_,SqL.of q0f⟩,_,rfl,aw,_,_,.int n,rfl,rfl,SqT.of (s2 _ _ ew),q0m (j:=2) rfl,n,rfl,hss.1,l,_,_,rfl,rfl,q0f,q4a (by show 3+1≤1000; decide),?_⟩
  have s3:=off (o:=.lst ([V.str (q1j t),V.str "wish"]++[V.str x]++[V.str (q1j n)])) s2
  refine⟨_,rfl,.inl ⟨rfl,_,SqL.of q0f⟩,_,rfl,aw,_,_,ve,rfl,rfl,SqT.of (s3 _ _ ew),q0m (j:=3) rfl,B,ve,e,hB,rfl,ie.same s3,he,hss.2,fun H4 s4=>?_⟩
  have hl4:=s4 _ _ q0f
  refine⟨l,_,_,rfl,rfl,hl4,q4a (by show 4+1≤1000; decide),?_⟩
  have s5:=off (o:=.lst ([V.str (q1j t),V.str "wish"]++[V.str x]++[V.str (q1j n)]++[V.str (J (q6n e))])) (s3.trans s4)
  have hsl:=(x3m (B:=36000) e he (ie.mono hB (q1b.refl _)).wid).text (by rw [smallL,hss.2]; rfl)
  have hJ:J [q1j t, "wish",x,q1j n,J (q6n e)]=J (q3z (.tup [.int t,.tup [.str "wish",.str x,.int n,e]])):=by
   rw [show ([q1j t, "wish",x,q1j n,J (q6n e)]:List Str)=[q1j t, "wish",x,q1j n]++[J (q6n e)] from rfl,w1x (by simp) (z2j he)]
   congr 1
   show _=q1j t::(("wish" : Str)::x::q1j n::(q6n e++[]))++[]
   rw [List.append_nil,List.append_nil]
   rfl
  refine⟨rfl,_,rfl, " ",l,[q1j t, "wish",x,q1j n,J (q6n e)],rfl,rfl,SqL.of q0f,q9u (L:=50000) (n:=5) ?_ (by show 5≤5; decide) (by decide),?_⟩
  ·intro y hy
   simp only [List.mem_cons,List.not_mem_nil,or_false] at hy
   rcases hy with rfl | rfl | rfl | rfl | rfl
   ·omega
   ·decide +kernel
   ·omega
   ·omega
   ·omega
  ·have:=q _ s5
   rw [← hJ] at this
   exact this
end
theorem j1i {d:D} (h:x0n d=true):∃ (x:Str) (i:Int),d=.tup [.str x,.int i]∧x3g x=true:=by
 obtain⟨ds,rfl,hf⟩:=q4w h
 match ds,q1f hf with
 | [a,b],_ =>
  simp only [q0w,Bool.and_true,Bool.and_eq_true] at hf
  obtain⟨x,rfl,hx⟩:=q2y hf.1
  obtain⟨i,rfl⟩:=q0v hf.2
  exact⟨x,i,rfl,hx⟩
theorem z7i {d:D} (h:q4c d=true):∃ (x:Str) (n i:Int),d=.tup [.str x,.int n,.int i]∧x3g x=true:=by
 obtain⟨ds,rfl,hf⟩:=z7z h
 match ds,q1f hf with
 | [a,b,c],_ =>
  simp only [q0w,Bool.and_true,Bool.and_eq_true] at hf
  obtain⟨x,rfl,hx⟩:=q2y hf.1
  obtain⟨n,rfl⟩:=q0v hf.2.1
  obtain⟨i,rfl⟩:=q0v hf.2.2
  exact⟨x,n,i,rfl,hx⟩
theorem w0o {ws:List Str} (h:ws≠[]) (a b:Str):J (ws++[a,b])=J ws ++ " " ++ a ++ " " ++ b:=by
 rw [x2d h (by simp),x1p,x2n]
 simp only [x2h]
theorem j4s {ws:List Str} (h:ws≠[]) (a b c:Str):J (ws++[a,b,c])=J ws ++ " " ++ a ++ " " ++ b ++ " " ++ c:=by
 rw [x2d h (by simp),x1p,x1p,x2n]
 simp only [x2h]
theorem x9r {f:D→List Str} {ds:List D} {i:Nat} {d:D} (hd:ds[i]? = some d):(ds.take (i+1)).flatMap f=(ds.take i).flatMap f++f d:=by
 rw [List.take_add_one,hd,List.flatMap_append]
 simp
theorem z0e {n:Nat} {p:D→Bool} {f:D→List Str} (W:WOk 36000 n p f) {ds:List D} (ha:ds.all p=true) (hw:widL 36000 ds=true) (hs:smallL 60 ds=true) (i:Nat):(∀ w∈(ds.take i).flatMap f,w.length≤61)∧((ds.take i).flatMap f).length≤ds.length*n:=by
 have:=x7c W (ds:=ds.take i) (List.all_eq_true.mpr fun d hd=>List.all_eq_true.mp ha d (List.mem_of_mem_take hd)) (x1r.mpr fun d hd=>x1r.mp hw d (List.mem_of_mem_take hd))
 exact⟨this.len 60 (by decide) (q2k.mpr fun d hd=>q2k.mp hs d (List.mem_of_mem_take hd)),Nat.le_trans this.few (Nat.mul_le_mul_right n (by rw [List.length_take]; exact Nat.min_le_right _ _))⟩
theorem z6u {n:Nat} (h:n≤36000):((n:Int)).natAbs < 10 ^ 60∧(q1j (n:Int)).length≤61:=by
 have h1:(10:Nat) ^ 5≤10 ^ 60:=Nat.pow_le_pow_right (by decide) (by decide)
 have h2:((n:Int)).natAbs < 10 ^ 60:=by
  simp only [Int.natAbs_natCast]
  omega
 exact⟨h2,q1d (by decide) h2⟩
section
variable {P:Program} {w:World} {K:Frag} {mg:Str→Option Value} {base:Heap}
theorem x3z:FnScope ["_law_store_here", "_law_words", "_law_name_here", "_law_value", "_law_caller", "_law_number", "_law_answer"] ["_law_store_here"] (q0e q4x):=fSc
theorem x7b {f:Addr} {fd:FuncData} (F:Fun K "_law_store_words" "_law_store_words" q4x f fd) (T:Txt mg) (CF:Cal P w K mg base "_law_figures" 2 ["_law_number"] z2h):FnOk P w K mg base CX0 3 f fd ["_law_store_here"] (spT q3v q9k):=by
 refine F.ok x3z x2k (fun _ A _ s H vs Q E hr h=>?_)
 obtain⟨B,v,d,hB,rfl,I,hp,hs,q⟩:=h
 refine⟨_,@q0x _ _ _ _ _ (q0z (i:=1) x3z.nd (by rfl) (by exact Or.inl rfl) (q0h CF hr (q0c (q0q q0y (by rfl) T.len PySem.boot_len (q0c (q0u q0o (pv 0) q0a q2q) q0b)) q0b)))
  (@q0x _ _ _ _ _ (z3s PassesOwn.never (by rfl) (q8h (q0u q0o (pv 0) q0a q2q)) (x5h (n:=2) (by rfl) (q1x (q1i (i:=2) x3z.nd (by rfl) (by exact Or.inl rfl)) (q1x (q1i (i:=3) x3z.nd (by rfl) (by exact Or.inl rfl)) q6b)))
   (@q1h _ _ _ (q0z (i:=1) x3z.nd (by rfl) (by exact Or.inl rfl) (q0i q0j (q0i q0j (q0i q0j (q0i q0j (pv 1) q0n) (pv 2)) q0n) (q0h CF hr (q1g (pv 3) q0b))))))
  (@q0x _ _ _ _ _ (q0z (i:=1) x3z.nd (by rfl) (by exact Or.inl rfl) (q0i q0j (q0i q0j (pv 1) q0n) (q0h CF hr (q0c (q0q q0y (by rfl) T.len PySem.boot_len (q0c (q0u q0o (pv 0) q0a q2q) q0b)) q0b))))
  (@q0x _ _ _ _ _ (z3s PassesOwn.never (by rfl) (q8h (q0u q0o (pv 0) q0a q2q)) (x5h (n:=3) (by rfl) (q1x (q1i (i:=4) x3z.nd (by rfl) (by exact Or.inl rfl)) (q1x (q1i (i:=5) x3z.nd (by rfl) (by exact Or.inl rfl)) (q1x (q1i (i:=6) x3z.nd (by rfl) (by exact Or.inl rfl)) q6b))))
   (@q0x _ _ _ _ _ (q0z (i:=1) x3z.nd (by rfl) (by exact Or.inl rfl) (q0i q0j (q0i q0j (q0i q0j (q0i q0j (pv 1) q0n) (pv 4)) q0n) (q0h CF hr (q1g (pv 5) q0b))))
   (@q1h _ _ _ (q0z (i:=1) x3z.nd (by rfl) (by exact Or.inl rfl) (q0i q0j (q0i q0j (pv 1) q0n) (q0h CF hr (q1g (pv 6) q0b)))))))
  (@q1h _ _ _ (q0l (pv 1)))))),?_⟩
 have hwid:=(I.mono hB (q1b.refl _)).wid
 obtain⟨da,db,rfl,ha,hb,na,nb⟩:=x8t hp
 have hsm:smallL 60 da=true∧smallL 60 db=true:=by
  have h1:(smallL 60 da && (smallL 60 db && true))=true:=hs
  rw [Bool.and_true,Bool.and_eq_true] at h1
  exact h1
 cases I with
 | @tup a xs _ ea l r =>
 obtain⟨w0,_,rfl,z0,rr0⟩:=IsL.un r
 obtain⟨a1,ys1,rfl,e1,q1,r1⟩:=Is.vtup z0
 obtain⟨w1,_,rfl,z1,rr1⟩:=IsL.un rr0
 obtain⟨a2,ys2,rfl,e2,q2,r2⟩:=Is.vtup z1
 obtain rfl:=IsL.un0 rr1
 have l1:=r1.length
 have l2:=r2.length
 have wa:=r1.wid
 have wb:=r2.wid
 have wa':widL 36000 da=true:=(r1.mono hB (q1b.refl _)).wid
 have wb':widL 36000 db=true:=(r2.mono hB (q1b.refl _)).wid
 have ta:=z0e z3q ha wa' hsm.1
 have tb:=z0e x5z hb wb' hsm.2
 have ca:=z6u (n:=da.length) (by omega)
 have cb:=z6u (n:=db.length) (by omega)
 refine⟨_,rfl,a,_,_,.ref a1,rfl,rfl,SqT.of ea,q0m (j:=0) rfl,a1,ys1,rfl,.inr (SqT.of e1),(da.length:Int),by rw [l1]; rfl,ca.1,?_⟩
 refine⟨_,rfl,a,_,_,.ref a1,rfl,rfl,SqT.of ea,q0m (j:=0) rfl,a1,rfl,⟨ys1,SqT.of e1⟩,x8e (K:=K) (a:=a1) (xs:=ys1) (fun i σ H'=>∃ x2 x3:Option V,σ=[some (.ref a),some (.str (J (q1j (da.length:Int)::(da.take i).flatMap q8o))),x2,x3,none,none,none]∧H=H')
  ⟨none,none,rfl,rfl⟩ (fun i σ H' _ ⟨_,_,_,z⟩=>z▸SqT.of e1) ?_ ?_⟩
 ·rintro i x σ H' hx ⟨x2,x3,rfl,rfl⟩
  obtain⟨d,hd,hI⟩:=r1.get hx
  obtain⟨nm,n,rfl,hnm⟩:=j1i (List.all_eq_true.mp ha d (List.mem_of_getElem? hd))
  cases hI with
  | @tup ap zs _ ep lp rp =>
  obtain⟨w0,_,rfl,z0,rr0⟩:=IsL.un rp
  obtain rfl:=Is.vstr z0
  obtain⟨w1,_,rfl,z1,rr1⟩:=IsL.un rr0
  obtain rfl:=Is.vint z1
  obtain rfl:=IsL.un0 rr1
  have hn:n.natAbs < 10 ^ 60:=by
   have h1:=q2k.mp hsm.1 _ (List.mem_of_getElem? hd)
   simp only [q2a,smallL,Bool.true_and,Bool.and_true,decide_eq_true_eq] at h1
   exact h1
  have hnl:=q1d (n:=n) (k:=60) (by decide) hn
  have hml:=q6e hnm
  have hJ:=x5l (L:=61) (ws:=q1j (da.length:Int)::(da.take i).flatMap q8o) (fun y hy=>(List.mem_cons.mp hy).elim (fun z=>z▸ca.2) ((ta i).1 y))
  have hcn:=(ta i).2
  rw [List.length_cons] at hJ
  have hJ2:(J (q1j (da.length:Int)::(da.take i).flatMap q8o)).length≤72001*62:=Nat.le_trans hJ (Nat.mul_le_mul_right _ (by omega))
  have e1':(" " : Str).length=1:=rfl
  refine⟨ap,_,rfl,SqT.of ep,rfl,_,_,rfl,_,_,rfl,rfl,?_⟩
  refine⟨_,rfl,_,_,rfl,rfl,?_,_,rfl,_,_,rfl,rfl,?_,_,_,rfl,rfl,?_,_,rfl,n,rfl,hn,_,_,rfl,rfl,?_,?_⟩
  ·rw [e1',sizeLine_eq]; omega
  ·rw [q0d,e1',sizeLine_eq]; omega
  ·rw [q0d,q0d,e1',sizeLine_eq]; omega
  ·rw [q0d,q0d,q0d,e1',sizeLine_eq]; omega
  ·refine⟨some (.str nm),some (.int n),?_,rfl⟩
   rw [x9r hd,← List.cons_append,show q8o (.tup [.str nm,.int n])=[nm,q1j n] from rfl,w0o (by simp)]
   rfl
 ·rintro σ H' ⟨x2,x3,rfl,rfl⟩
  rw [l1,List.take_length]
  have tA:=ta da.length
  rw [List.take_length] at tA
  have hJ:=x5l (L:=61) (ws:=q1j (da.length:Int)::da.flatMap q8o) (fun y hy=>(List.mem_cons.mp hy).elim (fun z=>z▸ca.2) (tA.1 y))
  rw [List.length_cons] at hJ
  have hcA:=tA.2
  have hJ2:(J (q1j (da.length:Int)::da.flatMap q8o)).length≤72001*62:=Nat.le_trans hJ (Nat.mul_le_mul_right _ (by omega))
  have e1':(" " : Str).length=1:=rfl
  have hcb:=cb.2
  refine⟨_,rfl,_,_,rfl,rfl,?_,_,rfl,a,_,_,.ref a2,rfl,rfl,SqT.of ea,q0m (j:=1) rfl,a2,ys2,rfl,.inr (SqT.of e2),(db.length:Int),by rw [l2]; rfl,cb.1,_,_,rfl,rfl,?_,?_⟩
  ·rw [e1',sizeLine_eq]; omega
  ·rw [q0d,e1',sizeLine_eq]; omega
  have base2:J (q1j (da.length:Int)::da.flatMap q8o) ++ " " ++ q1j (db.length:Int)=J ((q1j (da.length:Int)::da.flatMap q8o)++[q1j (db.length:Int)]):=by rw [x2d (by simp) (by simp),x2n]
  refine⟨_,rfl,a,_,_,.ref a2,rfl,rfl,SqT.of ea,q0m (j:=1) rfl,a2,rfl,⟨ys2,SqT.of e2⟩,x8e (K:=K) (a:=a2) (xs:=ys2) (fun i σ H'=>∃ x4 x5 x6:Option V,σ=[some (.ref a),some (.str (J (((q1j (da.length:Int)::da.flatMap q8o)++[q1j (db.length:Int)])++(db.take i).flatMap q6h))),x2,x3,x4,x5,x6]∧H=H')
   ⟨none,none,none,?_,rfl⟩ (fun i σ H' _ ⟨_,_,_,_,z⟩=>z▸SqT.of e2) ?_ ?_⟩
  ·rw [List.take_zero,List.flatMap_nil,List.append_nil,← base2]
   rfl
  ·rintro i x σ H' hx ⟨x4,x5,x6,rfl,rfl⟩
   obtain⟨d,hd,hI⟩:=r2.get hx
   obtain⟨nm,n,m,rfl,hnm⟩:=z7i (List.all_eq_true.mp hb d (List.mem_of_getElem? hd))
   cases hI with
   | @tup ap zs _ ep lp rp =>
   obtain⟨w0,_,rfl,z0,rr0⟩:=IsL.un rp
   obtain rfl:=Is.vstr z0
   obtain⟨w1,_,rfl,z1,rr1⟩:=IsL.un rr0
   obtain rfl:=Is.vint z1
   obtain⟨w2,_,rfl,z2,rr2⟩:=IsL.un rr1
   obtain rfl:=Is.vint z2
   obtain rfl:=IsL.un0 rr2
   have hnm2:n.natAbs < 10 ^ 60∧m.natAbs < 10 ^ 60:=by
    have h1:=q2k.mp hsm.2 _ (List.mem_of_getElem? hd)
    simp only [q2a,smallL,Bool.true_and,Bool.and_true,Bool.and_eq_true,decide_eq_true_eq] at h1
    exact h1
   have hnl:=q1d (n:=n) (k:=60) (by decide) hnm2.1
   have hml2:=q1d (n:=m) (k:=60) (by decide) hnm2.2
   have hml:=q6e hnm
   have hJ3:=x5l (L:=61) (ws:=((q1j (da.length:Int)::da.flatMap q8o)++[q1j (db.length:Int)])++(db.take i).flatMap q6h) (fun y hy=>by
    rcases List.mem_append.mp hy with hy | hy
    ·rcases List.mem_append.mp hy with hy | hy
     ·exact (List.mem_cons.mp hy).elim (fun z=>z▸ca.2) (tA.1 y)
     ·exact (List.mem_singleton.mp hy)▸cb.2
    ·exact (tb i).1 y hy)
   have hcn:=(tb i).2
   rw [List.length_append,List.length_append,List.length_cons,List.length_singleton] at hJ3
   have hJ4:(J (((q1j (da.length:Int)::da.flatMap q8o)++[q1j (db.length:Int)])++(db.take i).flatMap q6h)).length≤180002*62:=Nat.le_trans hJ3 (Nat.mul_le_mul_right _ (by omega))
   refine⟨ap,_,rfl,SqT.of ep,rfl,_,_,rfl,_,_,rfl,_,_,rfl,rfl,?_⟩
   refine⟨_,rfl,_,_,rfl,rfl,?_,_,rfl,_,_,rfl,rfl,?_,_,_,rfl,rfl,?_,_,rfl,n,rfl,hnm2.1,_,_,rfl,rfl,?_,?_⟩
   ·rw [e1',sizeLine_eq]; omega
   ·rw [q0d,e1',sizeLine_eq]; omega
   ·rw [q0d,q0d,e1',sizeLine_eq]; omega
   ·rw [q0d,q0d,q0d,e1',sizeLine_eq]; omega
   refine⟨_,rfl,_,_,rfl,rfl,?_,_,rfl,m,rfl,hnm2.2,_,_,rfl,rfl,?_,?_⟩
   ·rw [q0d,q0d,q0d,q0d,e1',sizeLine_eq]; omega
   ·rw [q0d,q0d,q0d,q0d,q0d,e1',sizeLine_eq]; omega
   ·refine⟨some (.str nm),some (.int n),some (.int m),?_,rfl⟩
    rw [x9r hd,← List.append_assoc,show q6h (.tup [.str nm,.int n,.int m])=[nm,q1j n,q1j m] from rfl,j4s (by simp)]
    rfl
  ·rintro σ H' ⟨x4,x5,x6,rfl,rfl⟩
   refine⟨_,rfl,?_⟩
   rw [l2,List.take_length]
   have e:q9k (.tup [.tup da,.tup db])=((q1j (da.length:Int)::da.flatMap q8o)++[q1j (db.length:Int)])++db.flatMap q6h:=by
    show (q1j (da.length:Int)::da.flatMap q8o)++((q1j (db.length:Int)::db.flatMap q6h)++[])=_
    rw [List.append_nil,List.append_assoc]
    rfl
   rw [← e]
   exact q H (q1b.refl _)
end
inductive LetS:D→Prop
 | ask (x0:Int) (x1:Int) (x2:Int) (x3:Int) (x4:Int):LetS (.tup [.str "ask",.int x0,.int x1,.int x2,.int x3,.int x4])
 | voice (x0:Int) (x1:Int) (x2:Int) (x3:Bool):LetS (.tup [.str "voice",.int x0,.int x1,.int x2,.bl x3])
 | hand (x0:Int) (x1:Int) (x2:Int) (x3:Int) (x4:Int) (x5:D) (x6:Int) (h5:q2l x5=true):LetS (.tup [.str "hand",.int x0,.int x1,.int x2,.int x3,.int x4,x5,.int x6])
 | pack (x0:Int) (x1:Int) (x2:Int) (x3:D) (h3:x0r x3=true):LetS (.tup [.str "pack",.int x0,.int x1,.int x2,x3])
 | held (x0:Int) (x1:Int) (x2:Int) (x3:Bool) (x4:Int):LetS (.tup [.str "held",.int x0,.int x1,.int x2,.bl x3,.int x4])
 | wish (x0:Str) (x1:Int) (x2:Int) (x3:D) (h0:x3g x0=true) (h3:q6j x3=true):LetS (.tup [.str "wish",.str x0,.int x1,.int x2,x3])
 | told (x0:Int) (x1:Str) (x2:Int) (x3:Int) (h1:x3g x1=true):LetS (.tup [.str "told",.int x0,.str x1,.int x2,.int x3])
 | away (x0:Int) (x1:Str) (x2:Int) (x3:D) (h1:x3g x1=true) (h3:q8m x3=true):LetS (.tup [.str "away",.int x0,.str x1,.int x2,x3])
theorem x4y {d:D} (h:q2t q3c d=true):LetS d:=by
 obtain⟨x,r,ps,rfl,e,hf⟩:=q3l h
 unfold q3c at e
 rw [List.lookup_cons] at e
 by_cases g0:x = "ask"
 ·subst g0
  cases e
  match r,q1f hf with
  | [y0,y1,y2,y3,y4],_ =>
   simp only [q0w,Bool.and_true,Bool.and_eq_true] at hf
   obtain⟨f0,f1,f2,f3,f4⟩:=hf
   obtain⟨i0,rfl⟩:=q0v (q1p f0)
   obtain⟨i1,rfl⟩:=q0v (q1p f1)
   obtain⟨i2,rfl⟩:=q0v (q1o f2)
   obtain⟨i3,rfl⟩:=q0v (q1o f3)
   obtain⟨i4,rfl⟩:=q0v (q1o f4)
   exact .ask i0 i1 i2 i3 i4
 ·rw [show (x == "ask")=false from by rw [beq_eq_false_iff_ne]; exact g0,List.lookup_cons] at e
  by_cases g1:x = "voice"
  ·subst g1
   cases e
   match r,q1f hf with
   | [y0,y1,y2,y3],_ =>
    simp only [q0w,Bool.and_true,Bool.and_eq_true] at hf
    obtain⟨f0,f1,f2,f3⟩:=hf
    obtain⟨i0,rfl⟩:=q0v (q1p f0)
    obtain⟨i1,rfl⟩:=q0v (q1p f1)
    obtain⟨i2,rfl⟩:=q0v (q1o f2)
    obtain⟨i3,rfl⟩:=x2i f3
    exact .voice i0 i1 i2 i3
  ·rw [show (x == "voice")=false from by rw [beq_eq_false_iff_ne]; exact g1,List.lookup_cons] at e
   by_cases g2:x = "hand"
   ·subst g2
    cases e
    match r,q1f hf with
    | [y0,y1,y2,y3,y4,y5,y6],_ =>
     simp only [q0w,Bool.and_true,Bool.and_eq_true] at hf
     obtain⟨f0,f1,f2,f3,f4,f5,f6⟩:=hf
     obtain⟨i0,rfl⟩:=q0v (q1p f0)
     obtain⟨i1,rfl⟩:=q0v (q1p f1)
     obtain⟨i2,rfl⟩:=q0v (q1o f2)
     obtain⟨i3,rfl⟩:=q0v (q1o f3)
     obtain⟨i4,rfl⟩:=q0v (q1o f4)
     obtain⟨i6,rfl⟩:=q0v (q1o f6)
     exact .hand i0 i1 i2 i3 i4 _ i6 f5
   ·rw [show (x == "hand")=false from by rw [beq_eq_false_iff_ne]; exact g2,List.lookup_cons] at e
    by_cases g3:x = "pack"
    ·subst g3
     cases e
     match r,q1f hf with
     | [y0,y1,y2,y3],_ =>
      simp only [q0w,Bool.and_true,Bool.and_eq_true] at hf
      obtain⟨f0,f1,f2,f3⟩:=hf
      obtain⟨i0,rfl⟩:=q0v (q1p f0)
      obtain⟨i1,rfl⟩:=q0v (q1p f1)
      obtain⟨i2,rfl⟩:=q0v (q1o f2)
      exact .pack i0 i1 i2 _ f3
    ·rw [show (x == "pack")=false from by rw [beq_eq_false_iff_ne]; exact g3,List.lookup_cons] at e
     by_cases g4:x = "held"
     ·subst g4
      cases e
      match r,q1f hf with
      | [y0,y1,y2,y3,y4],_ =>
       simp only [q0w,Bool.and_true,Bool.and_eq_true] at hf
       obtain⟨f0,f1,f2,f3,f4⟩:=hf
       obtain⟨i0,rfl⟩:=q0v (q1p f0)
       obtain⟨i1,rfl⟩:=q0v (q1p f1)
       obtain⟨i2,rfl⟩:=q0v (q1o f2)
       obtain⟨i3,rfl⟩:=x2i f3
       obtain⟨i4,rfl⟩:=q0v (q1o f4)
       exact .held i0 i1 i2 i3 i4
     ·rw [show (x == "held")=false from by rw [beq_eq_false_iff_ne]; exact g4,List.lookup_cons] at e
      by_cases g5:x = "wish"
      ·subst g5
       cases e
       match r,q1f hf with
       | [y0,y1,y2,y3],_ =>
        simp only [q0w,Bool.and_true,Bool.and_eq_true] at hf
        obtain⟨f0,f1,f2,f3⟩:=hf
        obtain⟨i0,rfl,l0⟩:=q2y f0
        obtain⟨i1,rfl⟩:=q0v (q1p f1)
        obtain⟨i2,rfl⟩:=q0v (q1o f2)
        exact .wish i0 i1 i2 _ l0 f3
      ·rw [show (x == "wish")=false from by rw [beq_eq_false_iff_ne]; exact g5,List.lookup_cons] at e
       by_cases g6:x = "told"
       ·subst g6
        cases e
        match r,q1f hf with
        | [y0,y1,y2,y3],_ =>
         simp only [q0w,Bool.and_true,Bool.and_eq_true] at hf
         obtain⟨f0,f1,f2,f3⟩:=hf
         obtain⟨i0,rfl⟩:=q0v (q1p f0)
         obtain⟨i1,rfl,l1⟩:=q2y f1
         obtain⟨i2,rfl⟩:=q0v (q1o f2)
         obtain⟨i3,rfl⟩:=q0v (f3)
         exact .told i0 i1 i2 i3 l1
       ·rw [show (x == "told")=false from by rw [beq_eq_false_iff_ne]; exact g6,List.lookup_cons] at e
        by_cases g7:x = "away"
        ·subst g7
         cases e
         match r,q1f hf with
         | [y0,y1,y2,y3],_ =>
          simp only [q0w,Bool.and_true,Bool.and_eq_true] at hf
          obtain⟨f0,f1,f2,f3⟩:=hf
          obtain⟨i0,rfl⟩:=q0v (q1p f0)
          obtain⟨i1,rfl,l1⟩:=q2y f1
          obtain⟨i2,rfl⟩:=q0v (q1o f2)
          exact .away i0 i1 i2 _ l1 f3
        ·rw [show (x == "away")=false from by rw [beq_eq_false_iff_ne]; exact g7] at e
         cases e
theorem j3x (ds:List D) (f:D→V):(((List.range ds.length).filter fun _=>true).map fun i=>f (ds.getD i .non))=ds.map f:=by
 rw [List.filter_eq_self.mpr (fun _ _=>rfl)]
 apply List.ext_getElem?
 intro i
 by_cases hi:i < ds.length
 ·simp [hi]
 ·rw [List.getElem?_eq_none (by simp; omega),List.getElem?_eq_none (by simp; omega)]
theorem j7j {K:Frag} {a:Addr} {B:Nat} {vs:List V} {ds:List D} {H1:Hp} {frs:St} {g:TG} {tt:TT} {te:TE} {Q:VK} (hS:SqT K H1 a vs) (r:IsL B H1 vs ds) (hn:ds.length≤1000) (f:D→V)
  (turn:∀ (v:V) (d:D),d∈ds→Is B H1 v d→∀ t H2 (R:St→Hp→Option V→Prop),q1b H1 H2→t.length=1→(∀ t' H',t'.length=1→q1b H2 H'→R (t'++frs) H' (some (f d))) →
   g v (t++frs) H2 fun σ3 H3=>tt σ3 H3 fun b H4=>if b=true then te σ3 H4 fun v H5=>R σ3 H5 (some v) else R σ3 H4 none)
  (hq:∀ D H',q1b H1 H'→H1 D=none→H' D=some (.lst (ds.map f))→Q (.ref D) H'):x3b (List.replicate 1 none++frs) g tt te Q (Itt K a) H1:=by
 have hl:=r.length
 refine q2w (J:=Itt K a) (k:=1) (n:=ds.length) (fun _=>true) (fun i=>f (ds.getD i .non)) (by rw [sizeLine_eq]; omega) (fun i H3 hi s4=>⟨_,vs[i]'(by omega),SqT.same' hS s4,List.getElem?_eq_getElem (by omega)⟩) (fun H3 s4=>⟨_,SqT.same' hS s4,by omega⟩) ?_ ?_
 ·intro i H3 t v H4 R hi s4 ht y hR
  obtain⟨rfl,hy⟩:=y
  have hv:=hy _ (SqT.same' hS s4)
  obtain⟨d,hd,I⟩:=r.get hv
  have eg:ds.getD i .non=d:=by rw [List.getD_eq_getElem?_getD,hd]; rfl
  rw [eg] at hR
  exact turn v d (List.mem_of_getElem? hd) I t H4 R s4 ht hR
 ·intro D1 H3 s4 hD hd
  rw [j3x] at hd
  exact hq D1 H3 s4 hD hd
noncomputable def w2a (d:D):Bool:=q2t q3c d && (["ask", "voice", "hand", "pack", "held"]:List Str).contains (q1l d)
theorem w7v (W f0 f1 f2 f3:Str):W ++ " " ++ J [f0,f1,f2] ++ " " ++ f3=J [W,f0,f1,f2,f3]:=by simp only [x1p,x2n,x2h]
theorem w4b (W f0 f1 f2 f3 f4:Str):W ++ " " ++ J [f0,f1,f2] ++ " " ++ f3 ++ " " ++ f4=J [W,f0,f1,f2,f3,f4]:=by simp only [x1p,x2n,x2h]
theorem w6o (W f0 f1 f2 f3 f4:Str) {s t:List Str} (hs:s≠[]) (ht:t≠[]):W ++ " " ++ J [f0,f1,f2] ++ " " ++ f3 ++ " " ++ f4 ++ " " ++ J s ++ " " ++ J t=J (([W,f0,f1,f2,f3,f4]++s)++t):=by
 rw [x2d (by simp) ht,x2d (by simp) hs,w4b]
theorem w7y (W f0 f1 f2:Str) {s:List Str} (hs:s≠[]):J ([W,f0,f1,f2]++s)=(W ++ " " ++ J [f0,f1,f2] ++ " ")++J s:=by
 rw [x2d (by simp) hs]
 simp only [x1p,x2n,x2h]
theorem j0p {d:D} (h:q3r d=true):q3z d≠[]:=by
 obtain⟨ds,rfl,hf⟩:=x8p h
 match ds,q1f hf with
 | [a,b],_ =>
  simp only [q0w,Bool.and_true,Bool.and_eq_true] at hf
  obtain⟨t,rfl⟩:=q0v hf.1
  simp [q3z,z3f,q2f,q1y]
theorem z6g {B:Nat} {H:Hp} {v:V} {d:D} (hB:B≤36000) (I:Is B H v d) (h:q3r d=true) (hs:q2a 60 d=true):(J (q3z d)).length≤100000∧q3z d≠[] :=
 ⟨Nat.le_trans ((x4x (B:=36000) d h (I.mono hB (q1b.refl _)).wid).text (by rw [smallL,hs]; rfl)) (by decide),j0p h⟩
theorem j0x {d:D} (h:q3v d=true):q9k d≠[]:=by
 obtain⟨a,b,rfl,_⟩:=x8t h
 simp [q9k,z3f,q2f,q4d]
theorem z4g {d:D} (h:x0r d=true):∃ (p l:Int) (s t:D),d=.tup [.int p,.int l,s,t]∧q2z s=true∧q3v t=true:=by
 obtain⟨ds,rfl,hf⟩:=j4u h
 match ds,q1f hf with
 | [a,b,c,d],_ =>
  simp only [q0w,Bool.and_true,Bool.and_eq_true] at hf
  obtain⟨p,rfl⟩:=q0v hf.1
  obtain⟨l,rfl⟩:=q0v hf.2.1
  exact⟨p,l,c,d,rfl,hf.2.2.1,hf.2.2.2⟩
theorem j1b {f:D→List Str}:∀ {ds:List D} {a:List Str},a≠[]→(∀ d∈ds,f d≠[])→J (a++ds.map fun d=>J (f d))=J (a++ds.flatMap f)
 | [],a,_,_=>by simp
 | d::ds,a,ha,h=>by
  have e1:a++(d::ds).map (fun d=>J (f d))=(a++[J (f d)])++ds.map fun d=>J (f d):=by simp
  have e2:a++(d::ds).flatMap f=(a++f d)++ds.flatMap f:=by simp
  have hd:=h d (by simp)
  have hds:=fun x hx=>h x (List.mem_cons_of_mem d hx)
  have i1:=j1b (ds:=ds) (a:=a++[J (f d)]) (by simp) hds
  have i2:=j1b (ds:=ds) (a:=a++f d) (by simp [ha]) hds
  rw [e1,e2,← i2]
  cases ds with
  | nil=>simp only [List.map_nil,List.append_nil]; exact w1x ha hd
  | cons x r=>rw [x2d (by simp) (by simp),x2d (a:=a++f d) (by simp [ha]) (by simp),w1x ha hd]
section
variable {P:Program} {w:World} {K:Frag} {mg:Str→Option Value} {base:Heap}
theorem x7s:FnScope ["_law_letter_here", "_law_words", "_law_place", "_law_last", "_law_seats_here", "_law_store_here", "_law_numbers"] ["_law_letter_here"] (q0e q2e):=fSc
noncomputable def w7k:TS:=fun D σ H=>∃ (a:Addr) (W:Str) (x0 x1 x2:Int) (vs:List V),σ=[some (.ref a),none,none,none,none,none,none]∧H a=some (.tup (.str W::.int x0::.int x1::.int x2::vs))∧W.length≤8∧x0.natAbs < 10 ^ 60∧x1.natAbs < 10 ^ 60∧x2.natAbs < 10 ^ 60∧x3n (.str W::.int x0::.int x1::.int x2::vs) (some 1) (some 4)=[.int x0,.int x1,.int x2] ∧
 ∀ H',q1b H H'→((W ++ " " ++ J [q1j x0,q1j x1,q1j x2]) ++ " ").length≤13000→D.nx [some (.ref a),some (.str (W ++ " " ++ J [q1j x0,q1j x1,q1j x2] ++ " ")),none,none,none,none,none] H'
theorem PS.weakB {X:Cx} {st:Stmt} {t t':TS} (h:PS X st t) (w:∀ D σ H,t' D σ H→t D σ H):PS X st t':=fun pins s σ H D I q=>h pins s σ H D I (w D σ H q)
theorem x3s {f:Addr} {fd:FuncData} (F:Fun K "_law_text_between" "_law_text_between" q2e f fd) (T:Txt mg) (CF:Cal P w K mg base "_law_figures" 2 ["_law_number"] z2h) (CS:Cal P w K mg base "_law_seats_words" 3 ["_law_seats_here"] (spT q2z q4m)) (CT:Cal P w K mg base "_law_store_words" 3 ["_law_store_here"] (spT q3v q9k)) (CE:Cal P w K mg base "_law_entry_words" 4 ["_law_entry_here"] (spT q3r q3z)):FnOk P w K mg base CX0 5 f fd ["_law_letter_here"] (spT w2a q2i):=by
 refine F.ok x7s x2k (fun _ A _ s H vs Q E hr h=>?_)
 obtain⟨B,v,d,hB,rfl,I,hp,hs,q⟩:=h
 have r2:=hr.mono (show 2≤4 by decide)
 have r3:=hr.mono (show 3≤4 by decide)
 refine⟨_,(@q0x _ _ _ _ _ (PS.weakB (t':=w7k) (q0z (i:=1) x7s.nd (by rfl) (by exact Or.inl rfl) (q0i q0j (q0i q0j (q0i q0j (q0u q0o (pv 0) q0a q2q) q0n) (q9m PySem.F.plainAttrs_str PySem.F.slot_str_join PySem.F.type_str_join q9j q0n (q0c (q3u (NB:=["_law_number"]) (n:=1) (fr:=[]) (q5v (outer:=q0e q2e) (by rfl) (by decide +kernel) (by rfl)) (by rfl) (q8h (q2r z6v (pv 0) (q3e q0a) (q3e q0a))) (fun _ _ _ _ _=>q1i (i:=0) (show (["_law_number"]:List Str).Nodup by decide +kernel) (by rfl) (by exact Or.inl rfl)) (fun _ _ _ _ _=>q2u) (fun _ _ _ _ _=>q0h CF r2 (q1g (pv 0) q0b))) q0b))) q0n)) ?w1)
  (@q0x _ _ _ _ _ (q1r (q0t q1w (q0u q0o (pv 0) q0a q2q) q0n (q0r _)) (@q1h _ _ _ (q0l (q0i q0j (q0i q0j (q0i q0j (pv 1) (q0h CF r2 (q4p (q0u q0o (pv 0) q0a q2q) q0b))) q0n) (q0h CF r2 (q4p (q0u q0o (pv 0) q0a q2q) q0b))))) q0s)
  (@q0x _ _ _ _ _ (q1r (q0t q1w (q0u q0o (pv 0) q0a q2q) q0n (q0r _)) (@q1h _ _ _ (q0l (q0i q0j (pv 1) (q0u q5i (x0h (q5x q0n (q5x q0n q0b))) (q4f x8j (by rfl) T.int q8c (q4p (q0u q0o (pv 0) q0a q2q) q0b)) (fun _ _=>rfl))))) q0s)
  (@q0x _ _ _ _ _ (q1r (q0t q1w (q0u q0o (pv 0) q0a q2q) q0n (q0r _)) (@q1h _ _ _ (q0l (q0i q0j (q0i q0j (q0i q0j (pv 1) (q0u q5i (x0h (q5x q0n (q5x q0n q0b))) (q4f x8j (by rfl) T.int q8c (q4p (q0u q0o (pv 0) q0a q2q) q0b)) (fun _ _=>rfl))) q0n) (q0h CF r2 (q4p (q0u q0o (pv 0) q0a q2q) q0b))))) q0s)
  (@q0x _ _ _ _ _ (q1r (q0t q1w (q0u q0o (pv 0) q0a q2q) q0n (q0r _)) (@q0x _ _ _ _ _ (z2w (q0u q0o (pv 0) q0a q2q) (x5h (n:=4) (by rfl) (q1x (q1i (i:=2) x7s.nd (by rfl) (by exact Or.inl rfl)) (q1x (q1i (i:=3) x7s.nd (by rfl) (by exact Or.inl rfl)) (q1x (q1i (i:=4) x7s.nd (by rfl) (by exact Or.inl rfl)) (q1x (q1i (i:=5) x7s.nd (by rfl) (by exact Or.inl rfl)) q6b)))))) (@q0x _ _ _ _ _ (q0z (i:=1) x7s.nd (by rfl) (by exact Or.inl rfl) (q0i q0j (q0i q0j (q0i q0j (pv 1) (q0h CF r2 (q1g (pv 2) q0b))) q0n) (q0h CF r2 (q1g (pv 3) q0b)))) (@q1h _ _ _ (q0l (q0i q0j (q0i q0j (q0i q0j (q0i q0j (pv 1) q0n) (q0h CS r3 (q1g (pv 4) q0b))) q0n) (q0h CT r3 (q1g (pv 5) q0b))))))) q0s)
  (@q0x _ _ _ _ _ (q0z (i:=6) x7s.nd (by rfl) (by exact Or.inl rfl) (QE.h (q6s (w2b (q0u q0o (pv 0) q0a q2q) (w2b (q0u q0o (pv 0) q0a q2q) (w2b (q0u q0o (pv 0) q0a q2q) (j7v (q0q q0y (by rfl) T.len PySem.boot_len (q4p (q0u q0o (pv 0) q0a q2q) q0b)) q4g)))))))
  (@q0x _ _ _ _ _ (z0s (i:=6) x7s.nd (by rfl) (by exact Or.inl rfl) (NB:=["_law_number"]) (n:=1) (fr:=[]) (q5v (outer:=q0e q2e) (by rfl) (by decide +kernel) (by rfl)) (by rfl) (q8h (pv 6)) (fun _ _ _ _ _=>q1i (i:=0) (show (["_law_number"]:List Str).Nodup by decide +kernel) (by rfl) (by exact Or.inl rfl)) (fun _ _ _ _ _=>q2u) (fun _ _ _ _ _=>q0h CF r2 (q1g (pv 0) q0b)))
  (@q1h _ _ _ (q0l (q0i q0j (pv 1) (q9m PySem.F.plainAttrs_str PySem.F.slot_str_join PySem.F.type_str_join q9j q0n (q7o (q0i x4k (pv 6) (q3u (NB:=["_law_entry_here"]) (n:=1) (fr:=[]) (q5v (outer:=q0e q2e) (by rfl) (by decide +kernel) (by rfl)) (by rfl) (q8h (q0u q0o (pv 0) q0a q2q)) (fun _ _ _ _ _=>q1i (i:=0) (show (["_law_entry_here"]:List Str).Nodup by decide +kernel) (by rfl) (by exact Or.inl rfl)) (fun _ _ _ _ _=>q2u) (fun _ _ _ _ _=>q0h CE hr (q1g (pv 0) q0b)))) q0b)))))))))))),?_⟩
 case w1 =>
  rintro D σ H ⟨a,W,x0,x1,x2,vs,rfl,ea,eW,m0,m1,m2,hsl,q⟩
  have e1':(" " : Str).length=1:=rfl
  have f0:=q1d (n:=x0) (k:=60) (by decide) m0
  have f1:=q1d (n:=x1) (k:=60) (by decide) m1
  have f2:=q1d (n:=x2) (k:=60) (by decide) m2
  have h3:∀ y∈[q1j x0,q1j x1,q1j x2],y.length≤61:=by
   intro y hy
   simp only [List.mem_cons,List.not_mem_nil,or_false] at hy
   rcases hy with rfl | rfl | rfl <;> assumption
  have hJ3:=x5l h3
  have hJ3':(J [q1j x0,q1j x1,q1j x2]).length≤3*62:=hJ3
  refine⟨_,rfl,a,_,_,.str W,rfl,rfl,SqT.of ea,q0m (j:=0) rfl,_,_,rfl,rfl,?_,rfl,_,rfl,_,rfl,_,rfl,a,_,rfl,ea,fun p1 H1 hp1 s1=>?_⟩
  ·rw [e1',sizeLine_eq]; omega
  rw [hsl] at hp1
  have hT1:SqT K H1 p1 ([x0,x1,x2].map V.int):=SqT.of hp1
  refine⟨p1,rfl,⟨_,hT1⟩,x7o (K:=K) (ms:=[x0,x1,x2]) hT1 (by show 3≤1000; decide) (fun _=>true) (fun n=>V.str (q1j n)) ?_ ?_⟩
  ·intro i hi t' H3 R s3 ht' hR
   obtain⟨t0,rfl⟩:=q5c ht'
   have hb:(([x0,x1,x2]:List Int)[i]).natAbs < 10 ^ 60:=by
    have hm:=List.getElem_mem hi
    simp only [List.mem_cons,List.not_mem_nil,or_false] at hm
    rcases hm with e | e | e <;> rw [e] <;> assumption
   exact⟨_,rfl,_,rfl,hb,hR [some _] H3 rfl (q1b.refl _)⟩
  intro D1 H2 s2' hD hd
  have s2:=s1.trans s2'
  refine⟨" ",D1,[q1j x0,q1j x1,q1j x2],rfl,rfl,SqL.of hd,q9u (L:=61) (n:=3) h3 (by show 3≤3; decide) (by decide),_,_,rfl,rfl,?_,_,_,rfl,rfl,?_,?_⟩
  ·rw [q0d,e1',sizeLine_eq]
   show _+1+(J [q1j x0,q1j x1,q1j x2]).length≤_
   omega
  ·rw [q0d,q0d,e1',sizeLine_eq]
   show _+1+(J [q1j x0,q1j x1,q1j x2]).length+1≤_
   omega
  have hW0:((W ++ " " ++ J [q1j x0,q1j x1,q1j x2]) ++ " ").length≤13000:=by
   rw [q0d,q0d,q0d,e1']
   omega
  exact q H2 s2 hW0
 have hb:q2t q3c d=true:=(Bool.and_eq_true _ _ |>.mp hp).1
 have hwid:=(I.mono hB (q1b.refl _)).wid
 have hok:=x6m (B:=36000) (by decide) d hb hwid
 cases x4y hb with
 | ask x0 x1 x2 x3 x4 =>
  cases I with
  | @tup a xs _ ea l r =>
  obtain⟨w0,_,rfl,z0,rr0⟩:=IsL.un r
  obtain rfl:=Is.vstr z0
  obtain⟨w1,_,rfl,z1,rr1⟩:=IsL.un rr0
  obtain rfl:=Is.vint z1
  obtain⟨w2,_,rfl,z2,rr2⟩:=IsL.un rr1
  obtain rfl:=Is.vint z2
  obtain⟨w3,_,rfl,z3,rr3⟩:=IsL.un rr2
  obtain rfl:=Is.vint z3
  obtain⟨w4,_,rfl,z4,rr4⟩:=IsL.un rr3
  obtain rfl:=Is.vint z4
  obtain⟨w5,_,rfl,z5,rr5⟩:=IsL.un rr4
  obtain rfl:=Is.vint z5
  obtain rfl:=IsL.un0 rr5
  simp only [q2a,smallL,Bool.true_and,Bool.and_true,Bool.and_eq_true,decide_eq_true_eq] at hs
  obtain⟨m0,m1,m2,m3,m4⟩:=hs
  have e1':(" " : Str).length=1:=rfl
  refine⟨a, "ask",x0,x1,x2,_,rfl,ea,by decide +kernel,m0,m1,m2,by rfl,fun H2 s2 hW0=>?_⟩
  refine⟨_,rfl,a,_,_,.str "ask",rfl,rfl,SqT.of (s2 _ _ ea),q0m (j:=0) rfl,rfl,_,rfl,?_⟩
  rw [(show decide (V.str ("ask" : Str)=V.str ("ask" : Str))=true from by decide +kernel)]
  have f3:=q1d (n:=x3) (k:=60) (by decide) m3
  have f4:=q1d (n:=x4) (k:=60) (by decide) m4
  refine q1m ⟨_,rfl,_,rfl,a,_,_,.int x3,rfl,rfl,SqT.of (s2 _ _ ea),q0m (j:=4) rfl,x3,rfl,m3,_,_,rfl,rfl,?_,_,_,rfl,rfl,?_,_,rfl,a,_,_,.int x4,rfl,rfl,SqT.of (s2 _ _ ea),q0m (j:=5) rfl,x4,rfl,m4,_,_,rfl,rfl,?_,?_⟩
  ·refine Nat.le_trans (Nat.add_le_add hW0 f3) ?_
   rw [sizeLine_eq]; decide
  ·rw [q0d,e1']
   refine Nat.le_trans (Nat.add_le_add_right (Nat.add_le_add hW0 f3) 1) ?_
   rw [sizeLine_eq]; decide
  ·rw [q0d,q0d,e1']
   refine Nat.le_trans (Nat.add_le_add (Nat.add_le_add_right (Nat.add_le_add hW0 f3) 1) f4) ?_
   rw [sizeLine_eq]; decide
  ·have q':=q H2 s2
   rw [show q2i (.tup [.str "ask",.int x0,.int x1,.int x2,.int x3,.int x4])=[("ask" : Str),q1j x0,q1j x1,q1j x2,q1j x3,q1j x4] from rfl] at q'
   rw [← w4b] at q'
   exact q'
 | voice x0 x1 x2 x3 =>
  cases I with
  | @tup a xs _ ea l r =>
  obtain⟨w0,_,rfl,z0,rr0⟩:=IsL.un r
  obtain rfl:=Is.vstr z0
  obtain⟨w1,_,rfl,z1,rr1⟩:=IsL.un rr0
  obtain rfl:=Is.vint z1
  obtain⟨w2,_,rfl,z2,rr2⟩:=IsL.un rr1
  obtain rfl:=Is.vint z2
  obtain⟨w3,_,rfl,z3,rr3⟩:=IsL.un rr2
  obtain rfl:=Is.vint z3
  obtain⟨w4,_,rfl,z4,rr4⟩:=IsL.un rr3
  obtain rfl:=Is.vbl z4
  obtain rfl:=IsL.un0 rr4
  simp only [q2a,smallL,Bool.true_and,Bool.and_true,Bool.and_eq_true,decide_eq_true_eq] at hs
  obtain⟨m0,m1,m2⟩:=hs
  have e1':(" " : Str).length=1:=rfl
  refine⟨a, "voice",x0,x1,x2,_,rfl,ea,by decide +kernel,m0,m1,m2,by rfl,fun H2 s2 hW0=>?_⟩
  refine⟨_,rfl,a,_,_,.str "voice",rfl,rfl,SqT.of (s2 _ _ ea),q0m (j:=0) rfl,rfl,_,rfl,?_⟩
  rw [(show decide (V.str ("voice" : Str)=V.str ("ask" : Str))=false from by decide +kernel)]
  refine q1c ⟨_,rfl,a,_,_,.str "voice",rfl,rfl,SqT.of (s2 _ _ ea),q0m (j:=0) rfl,rfl,_,rfl,?_⟩
  rw [(show decide (V.str ("voice" : Str)=V.str ("voice" : Str))=true from by decide +kernel)]
  refine q1m ⟨_,rfl,q4a (by show 2≤1000; decide),fun py hpy=>?_⟩
  have s3:=q0g (o:=HO.lst [V.str "no",V.str "yes"]) hpy
  have s23:=s2.trans s3
  have hyn:atI [V.str "no",V.str "yes"] (if x3 then 1 else 0)=some (V.str (if x3 then "yes" else "no")):=by cases x3 <;> rfl
  have lyn:((if x3 then "yes" else "no" : Str)).length≤3:=by cases x3 <;> decide +kernel
  refine⟨_,rfl,a,_,_,.bl x3,rfl,rfl,SqT.of (s23 _ _ ea),q0m (j:=4) rfl,.inr ⟨x3,rfl,py,_,_,_,rfl,rfl,SqL.of q0f,hyn,_,_,rfl,rfl,?_,?_⟩⟩
  ·refine Nat.le_trans (Nat.add_le_add hW0 lyn) ?_
   rw [sizeLine_eq]; decide
  ·have q':=q _ s23
   rw [show q2i (.tup [.str "voice",.int x0,.int x1,.int x2,.bl x3])=[("voice" : Str),q1j x0,q1j x1,q1j x2,if x3 then "yes" else "no"] from rfl] at q'
   rw [← w7v] at q'
   exact q'
 | held x0 x1 x2 x3 x4 =>
  cases I with
  | @tup a xs _ ea l r =>
  obtain⟨w0,_,rfl,z0,rr0⟩:=IsL.un r
  obtain rfl:=Is.vstr z0
  obtain⟨w1,_,rfl,z1,rr1⟩:=IsL.un rr0
  obtain rfl:=Is.vint z1
  obtain⟨w2,_,rfl,z2,rr2⟩:=IsL.un rr1
  obtain rfl:=Is.vint z2
  obtain⟨w3,_,rfl,z3,rr3⟩:=IsL.un rr2
  obtain rfl:=Is.vint z3
  obtain⟨w4,_,rfl,z4,rr4⟩:=IsL.un rr3
  obtain rfl:=Is.vbl z4
  obtain⟨w5,_,rfl,z5,rr5⟩:=IsL.un rr4
  obtain rfl:=Is.vint z5
  obtain rfl:=IsL.un0 rr5
  simp only [q2a,smallL,Bool.true_and,Bool.and_true,Bool.and_eq_true,decide_eq_true_eq] at hs
  obtain⟨m0,m1,m2,m4⟩:=hs
  have e1':(" " : Str).length=1:=rfl
  refine⟨a, "held",x0,x1,x2,_,rfl,ea,by decide +kernel,m0,m1,m2,by rfl,fun H2 s2 hW0=>?_⟩
  refine⟨_,rfl,a,_,_,.str "held",rfl,rfl,SqT.of (s2 _ _ ea),q0m (j:=0) rfl,rfl,_,rfl,?_⟩
  rw [(show decide (V.str ("held" : Str)=V.str ("ask" : Str))=false from by decide +kernel)]
  refine q1c ⟨_,rfl,a,_,_,.str "held",rfl,rfl,SqT.of (s2 _ _ ea),q0m (j:=0) rfl,rfl,_,rfl,?_⟩
  rw [(show decide (V.str ("held" : Str)=V.str ("voice" : Str))=false from by decide +kernel)]
  refine q1c ⟨_,rfl,a,_,_,.str "held",rfl,rfl,SqT.of (s2 _ _ ea),q0m (j:=0) rfl,rfl,_,rfl,?_⟩
  rw [(show decide (V.str ("held" : Str)=V.str ("held" : Str))=true from by decide +kernel)]
  have f4:=q1d (n:=x4) (k:=60) (by decide) m4
  refine q1m ⟨_,rfl,q4a (by show 2≤1000; decide),fun py hpy=>?_⟩
  have s3:=q0g (o:=HO.lst [V.str "no",V.str "yes"]) hpy
  have s23:=s2.trans s3
  have hyn:atI [V.str "no",V.str "yes"] (if x3 then 1 else 0)=some (V.str (if x3 then "yes" else "no")):=by cases x3 <;> rfl
  have lyn:((if x3 then "yes" else "no" : Str)).length≤3:=by cases x3 <;> decide +kernel
  refine⟨_,rfl,a,_,_,.bl x3,rfl,rfl,SqT.of (s23 _ _ ea),q0m (j:=4) rfl,.inr ⟨x3,rfl,py,_,_,_,rfl,rfl,SqL.of q0f,hyn,_,_,rfl,rfl,?_,_,_,rfl,rfl,?_,_,rfl,a,_,_,.int x4,rfl,rfl,SqT.of (s23 _ _ ea),q0m (j:=5) rfl,x4,rfl,m4,_,_,rfl,rfl,?_,?_⟩⟩
  ·refine Nat.le_trans (Nat.add_le_add hW0 lyn) ?_
   rw [sizeLine_eq]; decide
  ·rw [q0d,e1']
   refine Nat.le_trans (Nat.add_le_add_right (Nat.add_le_add hW0 lyn) 1) ?_
   rw [sizeLine_eq]; decide
  ·rw [q0d,q0d,e1']
   refine Nat.le_trans (Nat.add_le_add (Nat.add_le_add_right (Nat.add_le_add hW0 lyn) 1) f4) ?_
   rw [sizeLine_eq]; decide
  ·have q':=q _ s23
   rw [show q2i (.tup [.str "held",.int x0,.int x1,.int x2,.bl x3,.int x4])=[("held" : Str),q1j x0,q1j x1,q1j x2,if x3 then "yes" else "no",q1j x4] from rfl] at q'
   rw [← w4b] at q'
   exact q'
 | pack x0 x1 x2 x3 hpk =>
  cases I with
  | @tup a xs _ ea l r =>
  obtain⟨w0,_,rfl,z0,rr0⟩:=IsL.un r
  obtain rfl:=Is.vstr z0
  obtain⟨w1,_,rfl,z1,rr1⟩:=IsL.un rr0
  obtain rfl:=Is.vint z1
  obtain⟨w2,_,rfl,z2,rr2⟩:=IsL.un rr1
  obtain rfl:=Is.vint z2
  obtain⟨w3,_,rfl,z3,rr3⟩:=IsL.un rr2
  obtain rfl:=Is.vint z3
  obtain⟨vk,_,rfl,ik,rr4⟩:=IsL.un rr3
  obtain rfl:=IsL.un0 rr4
  simp only [q2a,smallL,Bool.true_and,Bool.and_true,Bool.and_eq_true,decide_eq_true_eq] at hs
  obtain⟨m0,m1,m2,m3⟩:=hs
  have e1':(" " : Str).length=1:=rfl
  refine⟨a, "pack",x0,x1,x2,_,rfl,ea,by decide +kernel,m0,m1,m2,by rfl,fun H2 s2 hW0=>?_⟩
  obtain⟨pp,ll,sd,st,rfl,hsd,hst⟩:=z4g hpk
  clear hpk
  simp only [q2a,smallL,Bool.true_and,Bool.and_true,Bool.and_eq_true,decide_eq_true_eq] at m3
  obtain⟨m3,m4,m5,m6⟩:=m3
  cases ik with
  | @tup ak ks _ ek lk rk =>
  obtain⟨w0,_,rfl,z0,rr0⟩:=IsL.un rk
  obtain rfl:=Is.vint z0
  obtain⟨w1,_,rfl,z1,rr1⟩:=IsL.un rr0
  obtain rfl:=Is.vint z1
  obtain⟨vsd,_,rfl,isd,rr2⟩:=IsL.un rr1
  obtain⟨vst,_,rfl,ist,rr3⟩:=IsL.un rr2
  obtain rfl:=IsL.un0 rr3
  refine⟨_,rfl,a,_,_,.str "pack",rfl,rfl,SqT.of (s2 _ _ ea),q0m (j:=0) rfl,rfl,_,rfl,?_⟩
  rw [(show decide (V.str ("pack" : Str)=V.str ("ask" : Str))=false from by decide +kernel)]
  refine q1c ⟨_,rfl,a,_,_,.str "pack",rfl,rfl,SqT.of (s2 _ _ ea),q0m (j:=0) rfl,rfl,_,rfl,?_⟩
  rw [(show decide (V.str ("pack" : Str)=V.str ("voice" : Str))=false from by decide +kernel)]
  refine q1c ⟨_,rfl,a,_,_,.str "pack",rfl,rfl,SqT.of (s2 _ _ ea),q0m (j:=0) rfl,rfl,_,rfl,?_⟩
  rw [(show decide (V.str ("pack" : Str)=V.str ("held" : Str))=false from by decide +kernel)]
  refine q1c ⟨_,rfl,a,_,_,.str "pack",rfl,rfl,SqT.of (s2 _ _ ea),q0m (j:=0) rfl,rfl,_,rfl,?_⟩
  rw [(show decide (V.str ("pack" : Str)=V.str ("pack" : Str))=true from by decide +kernel)]
  have f3:=q1d (n:=pp) (k:=60) (by decide) m3
  have f4:=q1d (n:=ll) (k:=60) (by decide) m4
  have gs:=(q9f (B:=36000) sd hsd (isd.mono hB (q1b.refl _)).wid).text (by rw [smallL,m5]; rfl)
  have gt:=(x9w (B:=36000) (by decide) st hst (ist.mono hB (q1b.refl _)).wid).text (by rw [smallL,m6]; rfl)
  have hW1:((((("pack" : Str) ++ " " ++ J [q1j x0,q1j x1,q1j x2]) ++ " ")++q1j pp ++ " ")++q1j ll).length≤22000:=by
   rw [q0d,q0d,q0d,e1']
   exact Nat.le_trans (Nat.add_le_add (Nat.add_le_add_right (Nat.add_le_add hW0 f3) 1) f4) (by decide)
  refine q1m ⟨_,rfl,a,_,_,.ref ak,rfl,rfl,SqT.of (s2 _ _ ea),q0m (j:=4) rfl,ak,_,rfl,SqT.of (s2 _ _ ek),rfl,_,_,rfl,_,_,rfl,_,_,rfl,_,_,rfl,rfl,?_⟩
  refine⟨_,rfl,_,rfl,pp,rfl,m3,_,_,rfl,rfl,?_,_,_,rfl,rfl,?_,_,rfl,ll,rfl,m4,_,_,rfl,rfl,?_,?_⟩
  ·exact Nat.le_trans (Nat.add_le_add hW0 f3) (by rw [sizeLine_eq]; decide)
  ·rw [q0d,e1']
   exact Nat.le_trans (Nat.add_le_add_right (Nat.add_le_add hW0 f3) 1) (by rw [sizeLine_eq]; decide)
  ·rw [q0d,q0d,e1']
   exact Nat.le_trans (Nat.add_le_add (Nat.add_le_add_right (Nat.add_le_add hW0 f3) 1) f4) (by rw [sizeLine_eq]; decide)
  refine⟨_,rfl,_,_,rfl,rfl,?_,_,rfl,B,vsd,sd,hB,rfl,isd.same s2,hsd,m5,fun H3 s3=>⟨_,_,rfl,rfl,?_,_,_,rfl,rfl,?_,_,rfl,B,vst,st,hB,rfl,ist.same (s2.trans s3),hst,m6,fun H4 s4=>⟨_,_,rfl,rfl,?_,?_⟩⟩⟩
  ·rw [e1']
   exact Nat.le_trans (Nat.add_le_add_right hW1 1) (by rw [sizeLine_eq]; decide)
  ·rw [q0d,e1']
   exact Nat.le_trans (Nat.add_le_add (Nat.add_le_add_right hW1 1) gs) (by rw [sizeLine_eq]; decide)
  ·rw [q0d,q0d,e1']
   exact Nat.le_trans (Nat.add_le_add_right (Nat.add_le_add (Nat.add_le_add_right hW1 1) gs) 1) (by rw [sizeLine_eq]; decide)
  ·rw [q0d,q0d,q0d,e1']
   exact Nat.le_trans (Nat.add_le_add (Nat.add_le_add_right (Nat.add_le_add (Nat.add_le_add_right hW1 1) gs) 1) gt) (by rw [sizeLine_eq]; decide)
  ·have q':=q H4 ((s2.trans s3).trans s4)
   have ew:q2i (.tup [.str "pack",.int x0,.int x1,.int x2,.tup [.int pp,.int ll,sd,st]])=([("pack" : Str),q1j x0,q1j x1,q1j x2,q1j pp,q1j ll]++q4m sd)++q9k st:=by
    show ("pack" : Str)::q1j x0::q1j x1::q1j x2::((q1j pp::q1j ll::(q4m sd++(q9k st++[])))++[])=_
    simp only [List.append_nil,List.append_assoc,List.cons_append,List.nil_append]
   rw [ew,← w6o _ _ _ _ _ _ (x9a hsd) (j0x hst)] at q'
   exact q'
 | hand x0 x1 x2 x3 x4 x5 x6 h5 =>
  cases I with
  | @tup a xs _ ea l r =>
  cases r with | cons i0 r =>
  cases r with | cons i1 r =>
  cases r with | cons i2 r =>
  cases r with | cons i3 r =>
  cases r with | cons i4 r =>
  cases r with | cons i5 r =>
  cases r with | cons i6 r =>
  cases r with | cons i7 r =>
  cases r
  cases i0
  cases i1
  cases i2
  cases i3
  cases i4
  cases i5
  cases i7
  have ie:=i6
  clear i6
  simp only [q2a,smallL,Bool.true_and,Bool.and_true,Bool.and_eq_true,decide_eq_true_eq] at hs
  obtain⟨m0,m1,m2,m3,m4,m5,m6⟩:=hs
  have e1':(" " : Str).length=1:=rfl
  refine⟨a, "hand",x0,x1,x2,_,rfl,ea,by decide +kernel,m0,m1,m2,by rfl,fun H2 s2 hW0=>?_⟩
  obtain⟨es,rfl,hes⟩:=x9n h5
  have hel:es.length≤5:=of_decide_eq_true (Bool.and_eq_true _ _ |>.mp h5).2
  clear h5
  cases ie with
  | @tup av ys _ ev lv rv =>
  have hyl:ys.length=es.length:=rv.length
  refine⟨_,rfl,a,_,_,.str "hand",rfl,rfl,SqT.of (s2 _ _ ea),q0m (j:=0) rfl,rfl,_,rfl,?_⟩
  rw [(show decide (V.str ("hand" : Str)=V.str ("ask" : Str))=false from by decide +kernel)]
  refine q1c ⟨_,rfl,a,_,_,.str "hand",rfl,rfl,SqT.of (s2 _ _ ea),q0m (j:=0) rfl,rfl,_,rfl,?_⟩
  rw [(show decide (V.str ("hand" : Str)=V.str ("voice" : Str))=false from by decide +kernel)]
  refine q1c ⟨_,rfl,a,_,_,.str "hand",rfl,rfl,SqT.of (s2 _ _ ea),q0m (j:=0) rfl,rfl,_,rfl,?_⟩
  rw [(show decide (V.str ("hand" : Str)=V.str ("held" : Str))=false from by decide +kernel)]
  refine q1c ⟨_,rfl,a,_,_,.str "hand",rfl,rfl,SqT.of (s2 _ _ ea),q0m (j:=0) rfl,rfl,_,rfl,?_⟩
  rw [(show decide (V.str ("hand" : Str)=V.str ("pack" : Str))=false from by decide +kernel)]
  refine q1c ⟨_,rfl,a,_,_,.int x3,rfl,rfl,SqT.of (s2 _ _ ea),q0m (j:=4) rfl,_,rfl,a,_,_,.int x4,rfl,rfl,SqT.of (s2 _ _ ea),q0m (j:=5) rfl,_,rfl,a,_,_,.int x6,rfl,rfl,SqT.of (s2 _ _ ea),q0m (j:=7) rfl,_,rfl,a,_,_,.ref av,rfl,rfl,SqT.of (s2 _ _ ea),q0m (j:=6) rfl,av,_,rfl,.inr (SqT.of (s2 _ _ ev)),q4a (by show 4≤1000; decide),fun p2 hp2=>?_⟩
  have s3:=q0g (o:=HO.tup [V.int x3,V.int x4,V.int x6,V.int (ys.length:Nat)]) hp2
  have s23:=s2.trans s3
  have hlen4:((ys.length:Int)).natAbs < 10 ^ 60:=by
   have h5':(10:Nat) ^ 1≤10 ^ 60:=Nat.pow_le_pow_right (by decide) (by decide)
   rw [Int.natAbs_natCast]
   exact Nat.lt_of_lt_of_le (by omega) h5'
  have hT2:SqT K (upd H2 p2 (HO.tup [V.int x3,V.int x4,V.int x6,V.int (ys.length:Nat)])) p2 ([x3,x4,x6,(ys.length:Int)].map V.int):=SqT.of q0f
  refine⟨_,rfl,p2,rfl,⟨_,hT2⟩,x7o (K:=K) (ms:=[x3,x4,x6,(ys.length:Int)]) hT2 (by show 4≤1000; decide) (fun _=>true) (fun n=>V.str (q1j n)) ?_ ?_⟩
  ·intro i hi t' H3 R s3 ht' hR
   obtain⟨t0,rfl⟩:=q5c ht'
   have hb:(([x3,x4,x6,(ys.length:Int)]:List Int)[i]).natAbs < 10 ^ 60:=by
    have hm:=List.getElem_mem hi
    simp only [List.mem_cons,List.not_mem_nil,or_false] at hm
    rcases hm with e | e | e | e <;> rw [e] <;> assumption
   exact⟨_,rfl,_,rfl,hb,hR [some _] H3 rfl (q1b.refl _)⟩
  intro D2 H4 s4 hD2 hd2
  have sA:=s23.trans s4
  have hTv:SqT K H4 av ys:=SqT.of (sA _ _ ev)
  have hsm:=q2k.mp (show smallL 60 es=true from m5)
  refine⟨_,rfl,rfl,_,rfl,_,rfl,a,_,_,.ref av,rfl,rfl,SqT.of (sA _ _ ea),q0m (j:=6) rfl,av,rfl,⟨_,hTv⟩,j7j (K:=K) hTv (rv.same sA) (by omega) (fun d=>V.str (J (q3z d))) ?_ ?_⟩
  ·intro v d hd' I' t' H5 R s5 ht' hR
   obtain⟨t0,rfl⟩:=q5c ht'
   exact⟨_,rfl,B,v,d,hB,rfl,I'.same s5,List.all_eq_true.mp hes d hd',hsm d hd',fun H6 s6=>hR [some _] H6 rfl s6⟩
  intro D3 H5 s5 hD3 hd3
  have sB:=sA.trans s5
  have hx:∀ d∈es,(J (q3z d)).length≤100000∧q3z d≠[]:=by
   intro d hd'
   obtain⟨i,hi⟩:=List.getElem?_of_mem hd'
   have hiy:i < ys.length:=by
    have:=(List.getElem?_eq_some_iff.mp hi).1
    omega
   obtain⟨d2,hd2',I2⟩:=rv.get (List.getElem?_eq_getElem hiy)
   rw [hi] at hd2'
   cases hd2'
   exact z6g hB I2 (List.all_eq_true.mp hes d hd') (hsm d hd')
  have hJw:∀ y∈([x3,x4,x6,(ys.length:Int)].map q1j)++es.map (fun d=>J (q3z d)),y.length≤100000:=by
   intro y hy
   rcases List.mem_append.mp hy with hy | hy
   ·obtain⟨n,hn,rfl⟩:=List.mem_map.mp hy
    refine Nat.le_trans (q1d (n:=n) (k:=60) (by decide) ?_) (by decide)
    simp only [List.mem_cons,List.not_mem_nil,or_false] at hn
    rcases hn with e | e | e | e <;> rw [e] <;> assumption
   ·obtain⟨d,hd',rfl⟩:=List.mem_map.mp hy
    exact (hx d hd').1
  have hJl:(([x3,x4,x6,(ys.length:Int)].map q1j)++es.map (fun d=>J (q3z d))).length≤9:=by
   rw [List.length_append,List.length_map,List.length_map]
   show 4+es.length≤9
   omega
  refine⟨D2,D3,[x3,x4,x6,(ys.length:Int)].map fun n=>V.str (q1j n),es.map fun d=>V.str (J (q3z d)),rfl,rfl,(s5 _ _ hd2).trans (by rw [List.filter_eq_self.mpr (fun _ _=>rfl)]),hd3,q4a (by rw [List.length_map,List.length_map]; show 4+es.length≤1000; omega),fun p6 hp6=>?_⟩
  have s6:=q0g (H:=H5) (p:=p6) (o:=HO.lst (([x3,x4,x6,(ys.length:Int)].map fun n=>V.str (q1j n))++es.map fun d=>V.str (J (q3z d)))) hp6
  refine⟨" ",p6,([x3,x4,x6,(ys.length:Int)].map q1j)++es.map (fun d=>J (q3z d)),rfl,rfl,SqL.of (q0f.trans (by rw [List.map_append,List.map_map,List.map_map]; rfl)),q9u (L:=100000) (n:=9) hJw hJl (by decide),_,_,rfl,rfl,?_,?_⟩
  ·refine Nat.le_trans (Nat.add_le_add hW0 (Nat.le_trans (x5l hJw) (Nat.mul_le_mul_right _ hJl))) ?_
   rw [sizeLine_eq]; decide
  ·have q':=q _ (sB.trans s6)
   have ew:q2i (.tup [.str "hand",.int x0,.int x1,.int x2,.int x3,.int x4,.tup es,.int x6])=[("hand" : Str),q1j x0,q1j x1,q1j x2]++(([x3,x4,x6,(ys.length:Int)].map q1j)++es.flatMap q3z):=by
    show ("hand" : Str)::q1j x0::q1j x1::q1j x2::q1j x3::q1j x4::q1j x6::((q1j (es.length:Int)::es.flatMap q3z)++[])=_
    rw [List.append_nil,hyl]
    rfl
   rw [ew,w7y _ _ _ _ (by simp),← j1b (by simp) (fun d hd'=>(hx d hd').2)] at q'
   exact q'
 | wish x0 x1 x2 x3 h0 h3 =>
  have hp2:(["ask", "voice", "hand", "pack", "held"]:List Str).contains ("wish" : Str)=true:=(Bool.and_eq_true _ _ |>.mp hp).2
  exact absurd hp2 (by decide +kernel)
 | told x0 x1 x2 x3 h1 =>
  have hp2:(["ask", "voice", "hand", "pack", "held"]:List Str).contains ("told" : Str)=true:=(Bool.and_eq_true _ _ |>.mp hp).2
  exact absurd hp2 (by decide +kernel)
 | away x0 x1 x2 x3 h1 h3 =>
  have hp2:(["ask", "voice", "hand", "pack", "held"]:List Str).contains ("away" : Str)=true:=(Bool.and_eq_true _ _ |>.mp hp).2
  exact absurd hp2 (by decide +kernel)
noncomputable def x1l:Sp:=fun vs H Q _=>∃ B v d l,B≤100000∧vs=[v,.int l]∧Is B H v d∧∀ H',q1b H H'→Q (.bl (geD l d)) H'
theorem scF:FnScope ["_law_thing", "_law_least"] ["_law_thing", "_law_least"] (q0e j8q):=fSc
theorem j6m {f:Addr} {fd:FuncData} (F:Fun K "_law_from" "_law_from" j8q f fd) (T:Txt mg):FnOk P w K mg base CX0 1 f fd ["_law_thing", "_law_least"] x1l:=by
 refine F.ok scF (fun vs H Q E ⟨_,_,_,_,_,e,_⟩=>by subst e; rfl) (fun _ A _ s H vs Q E hr h=>?_)
 obtain⟨B,v,d,l,hB,rfl,I,k⟩:=h
 refine⟨_,q0p (q0l (q2b (q0q q2h rfl T.isi q2g (q0c (pv 0) (q0c (q7f rfl T.int q8c) q0b)))
  (q2b (z3g (q0q q2h rfl T.isi q2g (q0c (pv 0) (q0c (q7f rfl T.bool q7l) q0b)))) (q2j (q1v j0m (pv 0) (pv 1) (q0r _)))))),?_⟩
 refine⟨_,rfl,_,_,_,_,rfl,I.ty,z0o K d,_,rfl,?_⟩
 have k0:=k H (q1b.refl _)
 cases d with
 | int i =>
  refine q1m ⟨_,rfl,_,_,_,_,rfl,I.ty,q8f K _,_,rfl,_,rfl,q1m ?_⟩
  cases I
  exact⟨_,rfl,_,rfl,_,_,rfl,rfl,k0⟩
 | bl b=>exact q1m ⟨_,rfl,_,_,_,_,rfl,I.ty,q8f K _,_,rfl,_,rfl,q1c k0⟩
 | non=>exact q1c k0
 | str _=>exact q1c k0
 | tup _=>exact q1c k0
 | lst _=>exact q1c k0
theorem w6a:FnScope ["_law_thing"] ["_law_thing"] (q0e z3n):=fSc
theorem z5s (l:Array Nat) (p:Nat→Bool):(((List.range l.size).filter fun i=>p (l.getD i 0)).map fun i=>V.str ⟨#[l.getD i 0]⟩)=(l.toList.filter p).map fun c=>V.str ⟨#[c]⟩:=by
 have e:l.toList=(List.range l.size).map fun i=>l.getD i 0:=by
  apply List.ext_getElem?
  intro i
  by_cases hi:i < l.size
  ·simp [hi]
  ·rw [List.getElem?_eq_none (by simpa using hi),List.getElem?_eq_none (by simpa using hi)]
 conv=>rhs; rw [e]
 rw [List.filter_map,List.map_map]
 rfl
theorem j4t (xs:List V):j3c xs []=xs.isEmpty:=by cases xs <;> rfl
theorem z4u (l:List Nat):(l.map fun c=>V.str ⟨#[c]⟩).all x3r=true:=by
 rw [List.all_eq_true]
 intro x hx
 obtain⟨c,_,rfl⟩:=List.mem_map.mp hx
 rfl
theorem j4h {f:Addr} {fd:FuncData} (F:Fun K "_law_name" "_law_name" z3n f fd) (T:Txt mg):FnOk P w K mg base CX0 1 f fd ["_law_thing"] (spP q1z):=by
 refine F.ok w6a q2c (fun _ A _ s H vs Q E hr h=>?_)
 obtain⟨B,v,d,hB,rfl,I,k⟩:=h
 refine⟨_,q1e (q1r (PW.pt (q8r (q3a (q2s (q0q q2h rfl T.isi q2g (q0c (pv 0) (q0c (q7f rfl T.str x3k) q0b))))) (q8r (q0t q1w (pv 0) q0n (q0r _)) (q9s (q0t z1y (q0q q2v rfl T.len PySem.boot_len (q0c (pv 0) q0b)) q0a (q0r _)))))) (q0p (q0l x0q)) q0s)
  (q0p (q0l (q1v (j5j hr.units0) (q3u (NB:=["_law_sign"]) (n:=1) (fr:=[]) (q5v (outer:=q0e z3n) rfl (by decide +kernel) rfl) rfl (z9j (pv 0))
   (fun _ _ _ _ _=>q1i (i:=0) (show (["_law_sign"]:List Str).Nodup by decide +kernel) rfl (Or.inl rfl)) (fun _ _ _ _ _=>x3h (q0t x5p (j5t (K:=K) rfl PySem.F.plainAttrs_str PySem.F.slot_str_find PySem.F.type_str_find j7f q0n (q0c (pv 0) q0b)) q0a (q0r _))) (fun _ _ _ _ _=>pv 0)) (x0h q0b) (q0r _)))),?_⟩
 refine⟨_,rfl,_,_,_,_,rfl,I.ty,x6r K d,_,rfl,?_⟩
 cases d with
 | str x =>
  cases I with
  | str _ hx =>
  have k1:∀ H',q1b H H'→Q (.bl (if x = "" ∨ 8 < x.length then false else (x.cps.toList.filter fun c => !q3n c).isEmpty)) H':=k
  refine q1c ⟨_,rfl,rfl,_,rfl,?_⟩
  by_cases hE:x = ""
  ·have k2:=k1 H (q1b.refl _)
   rw [if_pos (.inl hE)] at k2
   rw [decide_eq_true (show V.str x=V.str "" by rw [hE])]
   exact q1m (q1m k2)
  ·rw [decide_eq_false (show ¬ V.str x=V.str "" from fun z=>hE (V.str.inj z))]
   refine q1c ⟨_,rfl,x,rfl,j5b hx hB,_,_,rfl,rfl,_,rfl,?_⟩
   by_cases h8:8 < x.length
   ·have k2:=k1 H (q1b.refl _)
    rw [if_pos (.inr h8)] at k2
    rw [decide_eq_true (show (8:Int) < (x.length:Int) by omega)]
    exact q1m k2
   ·rw [decide_eq_false (show ¬ (8:Int) < (x.length:Int) by omega)]
    refine q1c ⟨_,rfl,x,rfl,q2w (J:=Its x) (k:=1) (n:=x.cps.size) (fun i => !q3n (x.cps.getD i 0)) (fun i=>.str ⟨#[x.cps.getD i 0]⟩) (show x.cps.size < sizeLine by rw [sizeLine_eq]; have:x.cps.size=x.length:=rfl; omega) (fun i H hi _=>hi) (fun H _=>rfl) ?_ ?_⟩
    ·intro i H2 t v H3 R hi s1 ht y hR
     obtain⟨rfl,c,hc,rfl⟩:=y
     have ht':∃ t0,t=[t0]:=by
      match t,ht with
      | [t0],_=>exact⟨t0,rfl⟩
     obtain⟨t0,rfl⟩:=ht'
     have ec:x.cps.getD i 0=c:=by rw [Array.getD_eq_getD_getElem?,hc]; rfl
     have hR':=hR [some (.str ⟨#[c]⟩)] H3 rfl (q1b.refl _)
     rw [ec] at hR'
     refine⟨rfl,_,rfl,abc,_,rfl,rfl,_,_,rfl,rfl,_,rfl,?_⟩
     cases hl:q3n c with
     | true =>
      rw [decide_eq_false (fun z=>by have:=(z3j c).mp z; rw [hl] at this; cases this)]
      rw [hl] at hR'
      exact q1c hR'
     | false =>
      rw [decide_eq_true ((z3j c).mpr hl)]
      rw [hl] at hR'
      exact q1m ⟨_,rfl,hR'⟩
    ·intro D H' s1 hD hd
     rw [z5s x.cps (fun c => !q3n c)] at hd
     refine⟨by simp [sizeLine_eq],fun p hp=>⟨D,p,_,[],rfl,rfl,SqL.of (q0g hp _ _ hd),SqL.of q0f,z4u _,rfl,?_⟩⟩
     have k2:=k1 _ (s1.trans (q0g (o:=.lst []) hp))
     rw [if_neg (by rintro (z | z); exact hE z; exact h8 z)] at k2
     rw [j4t,List.isEmpty_map]
     exact k2
 | non=>exact q1m (q1m (k H (q1b.refl _)))
 | bl _=>exact q1m (q1m (k H (q1b.refl _)))
 | int _=>exact q1m (q1m (k H (q1b.refl _)))
 | tup _=>exact q1m (q1m (k H (q1b.refl _)))
 | lst _=>exact q1m (q1m (k H (q1b.refl _)))
theorem w2d:FnScope ["_law_thing", "_law_least", "_law_one"] ["_law_thing"] (q0e z1a):=fSc
theorem w0f {l:Int} {d:D} {r:List D} (h:geD l d=false):goL (d::r) l=false:=by
 cases d with
 | int i =>
  have h':decide (l≤i)=false:=h
  show ((decide (l≤i) && decide (i≤8)) && goL r (i+1))=false
  rw [h']; rfl
 | _=>rfl
theorem z8o {f:Addr} {fd:FuncData} (F:Fun K "_law_seats" "_law_seats" z1a f fd) (T:Txt mg) (CF:Cal P w K mg base "_law_from" 1 ["_law_thing", "_law_least"] x1l):FnOk P w K mg base CX0 2 f fd ["_law_thing"] (spP q4o):=by
 refine F.ok w2d q2c (fun _ A _ s H vs Q E hr h=>?_)
 obtain⟨B,v,d,hB,rfl,I,k⟩:=h
 refine⟨_,q1e (q1r (PW.pt (q8r (q3a (q2s (q0q q2h rfl T.isi q2g (q0c (pv 0) (q0c (q7f rfl T.tuple q2m) q0b))))) (q9s (q0t q1w (q0q q0y rfl T.len PySem.boot_len (q0c (pv 0) q0b)) q0a (q0r _))))) (q0p (q0l x0q)) q0s)
  (q1e (q0z (i:=1) w2d.nd rfl (Or.inl rfl) q0a)
  (q1e (z3s PassesOwn.never rfl (q8h (pv 0)) (q1i (i:=2) w2d.nd rfl (Or.inl rfl))
   (q1e (q1r (PW.pt (q8r (q3a (q2s (q0h CF hr (q0c (pv 2) (q0c (pv 1) q0b))))) (q9s (q0t z1y (pv 2) q0a (q0r _))))) (q0p (q0l x0q)) q0s)
   (q0p (q0z (i:=1) w2d.nd rfl (Or.inl rfl) (q0i q1n (pv 2) q0a)))))
  (q0p (q0l x0q)))),?_⟩
 refine⟨_,rfl,_,_,_,_,rfl,I.ty,q9v K d,_,rfl,?_⟩
 cases d with
 | tup ds =>
  cases I with
  | @tup a xs _ ea hl r =>
  have hlen:=r.length
  have k1:∀ H',q1b H H'→Q (.bl (if ds.length=0 then false else goL ds 0)) H':=k
  refine q1c ⟨_,rfl,a,xs,rfl,.inr (SqT.of ea),rfl,_,rfl,?_⟩
  by_cases h0:ds.length=0
  ·have k2:=k1 H (q1b.refl _)
   rw [if_pos h0] at k2
   rw [decide_eq_true (show V.int (xs.length:Int)=V.int 0 by rw [hlen,h0]; rfl)]
   exact q1m k2
  ·rw [decide_eq_false (show ¬ V.int (xs.length:Int)=V.int 0 from fun z=>h0 (by have:=V.int.inj z; omega))]
   have k2:∀ H',q1b H H'→Q (.bl (goL ds 0)) H':=fun H' s'=>by
    have:=k1 H' s'
    rw [if_neg h0] at this
    exact this
   refine q1c ⟨_,rfl,a,rfl,⟨xs,SqT.of ea⟩,x8e (K:=K) (a:=a) (xs:=xs) (fun i σ H'=>∃ l t,σ=[some (.ref a),some (.int l),t]∧q1b H H'∧goL (ds.drop i) l=goL ds 0)
    ⟨0,none,rfl,q1b.refl _,rfl⟩ (fun i σ H' _ ⟨_,_,_,s',_⟩=>SqT.of (s' _ _ ea)) ?_ ?_⟩
   ·rintro i x σ H' hx ⟨l,t,rfl,s',e⟩
    obtain⟨d,hd,Id⟩:=r.get hx
    have hi:i < ds.length:=(List.getElem?_eq_some_iff.mp hd).1
    have edr:ds.drop i=d::ds.drop (i+1):=by
     rw [List.drop_eq_getElem_cons hi,(List.getElem?_eq_some_iff.mp hd).2]
    rw [edr] at e
    refine⟨_,rfl,_,rfl,B,x,d,l,hB,rfl,Id.same s',fun H2 s2=>⟨_,rfl,?_⟩⟩
    cases hg:geD l d with
    | false =>
     rw [w0f hg] at e
     have k3:=k2 H2 (s'.trans s2)
     rw [← e] at k3
     exact q1m (q1m k3)
    | true =>
     obtain⟨j,rfl⟩:∃ j,d=.int j:=by
      cases d with
      | int j=>exact⟨j,rfl⟩
      | _=>cases hg
     cases Id
     have hj:l≤j:=of_decide_eq_true hg
     have e':((decide (l≤j) && decide (j≤8)) && goL (ds.drop (i+1)) (j+1))=goL ds 0:=e
     rw [decide_eq_true hj] at e'
     refine q1c ⟨_,rfl,_,_,rfl,rfl,_,rfl,?_⟩
     by_cases h8:j≤8
     ·rw [decide_eq_true h8] at e'
      rw [decide_eq_false (show ¬ (8:Int) < j by omega)]
      exact q1c ⟨_,rfl,_,_,rfl,rfl,_,_,rfl,s'.trans s2,e'⟩
     ·rw [decide_eq_false h8] at e'
      rw [decide_eq_true (show (8:Int) < j by omega)]
      have k3:=k2 H2 (s'.trans s2)
      rw [← e'] at k3
      exact q1m k3
   ·rintro σ H' ⟨l,t,rfl,s',e⟩
    rw [hlen,List.drop_length] at e
    have k3:=k2 H' s'
    rw [← e] at k3
    exact k3
 | non=>exact q1m (q1m (k H (q1b.refl _)))
 | bl _=>exact q1m (q1m (k H (q1b.refl _)))
 | int _=>exact q1m (q1m (k H (q1b.refl _)))
 | str _=>exact q1m (q1m (k H (q1b.refl _)))
 | lst _=>exact q1m (q1m (k H (q1b.refl _)))
theorem w6z:FnScope ["thing"] ["thing"] (q0e q7w):=fSc
theorem z4b {l:Int} {d:D} (h:whole d=false):geD l d=false:=by
 cases d with
 | int i=>cases h
 | _=>rfl
theorem z0p {f:Addr} {fd:FuncData} (F:Fun K "is_from_one" "is_from_one" q7w f fd) (T:Txt mg) (CW:Cal P w K mg base "is_whole" 1 ["thing"] (spP whole)):FnOk P w K mg base CX0 2 f fd ["thing"] (spP (geD 1)):=by
 refine F.ok w6z q2c (fun _ A _ s H vs Q E hr h=>?_)
 obtain⟨B,v,d,hB,rfl,I,k⟩:=h
 refine⟨_,q0p (q0l (q2b (q0h CW hr (q0c (pv 0) q0b)) (q2j (q1v j0m (pv 0) q0a (q0r _))))),?_⟩
 refine⟨_,rfl,B,v,d,hB,rfl,I,fun H' s'=>⟨_,rfl,?_⟩⟩
 have k0:=k H' s'
 cases e:whole d with
 | false=>rw [z4b e] at k0; exact q1c k0
 | true =>
  obtain⟨i,rfl⟩:=x4j e
  cases I
  exact q1m ⟨_,rfl,_,_,rfl,rfl,k0⟩
noncomputable def q7g (P:Program) (w:World) (K:Frag) (mg:Str→Option Value) (base:Heap) (kk:Nat):Sp:=fun vs H Q _=>∃ B v d t gs ps,B≤100000∧vs=[v,.ref t]∧Is B H v d∧SqT K H t gs∧Tls P w K mg base kk gs ps∧gs.length≤1000∧∀ H',q1b H H'→Q (.bl (x0g ps d)) H'
theorem w5j:FnScope ["thing", "tellers"] ["thing", "tellers"] (q0e z2p):=fSc
theorem SqT.same {H H':Hp} {a:Addr} {xs:List V} (h:SqT K H a xs) (s:q1b H H'):SqT K H' a xs:=by
 rcases h with h | h
 ·exact .inl (h.elim (fun e=>.inl (s _ _ e)) fun⟨o,e⟩=>.inr ⟨o,s _ _ e⟩)
 ·exact .inr h
theorem x2l {f:Addr} {fd:FuncData} {kk:Nat} (F:Fun K "fits" "fits" z2p f fd) (T:Txt mg):FnOk P w K mg base CX0 (kk+1) f fd ["thing", "tellers"] (q7g P w K mg base kk):=by
 refine F.ok w5j (fun vs H Q E ⟨_,_,_,_,_,_,_,e,_⟩=>by subst e; rfl) (fun _ A _ s H vs Q E hr h=>?_)
 obtain⟨B,v,d,t,gs,ps,hB,rfl,I,hS,hT,hg,k⟩:=h
 refine⟨_,q1e (q1r (PW.pt (q8r (q3a (q2s (q0q q2h rfl T.isi q2g (q0c (pv 0) (q0c (q7f rfl T.tuple q2m) q0b))))) (q9s (q0t j3s (q0q q0y rfl T.len PySem.boot_len (q0c (pv 0) q0b)) (q0q q0y rfl T.len PySem.boot_len (q0c (pv 1) q0b)) (q0r _))))) (q0p (q0l x0q)) q0s)
  (q0p (q0l (q0q (x0f rfl) rfl T.all q7m (q0c (q3u (NB:=["teller", "part"]) (n:=2) (fr:=[]) (q5v (outer:=q0e z2p) rfl (by decide +kernel) rfl) rfl
   (z7o (t1:=true) (t2:=true) rfl T.zip (q0c (pv 1) (q0c (pv 0) q0b)))
   (fun _ _ _ _ _=>x4z (K:=K) (n:=2) rfl rfl (q1x (q1i (i:=0) (show (["teller", "part"]:List Str).Nodup by decide +kernel) rfl (Or.inl rfl)) (q1x (q1i (i:=1) (show (["teller", "part"]:List Str).Nodup by decide +kernel) rfl (Or.inl rfl)) q6b))) (fun _ _ _ _ _=>q2u)
   (fun _ _ _ _ _=>j4v (P:=P) (w:=w) (K:=K) (mg:=mg) (base:=base) (k:=kk) rfl rfl rfl rfl rfl hr x4e (pv 0) (q0c (pv 1) q0b))) q0b)))),?_⟩
 refine⟨_,rfl,_,_,_,_,rfl,I.ty,q9v K d,_,rfl,?_⟩
 have hlt:=hT.length
 cases d with
 | tup ds =>
  cases I with
  | @tup a xs _ ea hl r =>
  have hlen:=r.length
  have k1:∀ H',q1b H H'→Q (.bl (q0w ps ds)) H':=k
  refine q1c ⟨_,rfl,a,xs,rfl,.inr (SqT.of ea),_,rfl,t,gs,rfl,.inr hS,rfl,_,rfl,?_⟩
  by_cases hne:ds.length=ps.length
  ·rw [show (!decide (V.int (xs.length:Int)=V.int (gs.length:Int)))=false by rw [hlen,hne,hlt]; simp]
   refine q1c ⟨_,rfl,_,rfl,t,a,gs,xs,rfl,hS,SqT.of ea,q2w (J:=Itz K true true t a) (k:=2) (n:=ps.length) (fun _=>true) (fun i=>.bl ((ps.getD i fun _=>true) (ds.getD i .non))) (by rw [sizeLine_eq]; omega) ?_ ?_ ?_ ?_⟩
   ·intro i H2 hi s1
    have i1:i < gs.length:=by omega
    have i2:i < xs.length:=by omega
    exact⟨gs,xs,gs[i],xs[i],SqT.same hS s1,SqT.of (s1 _ _ ea),by simp [i1],by simp [i2]⟩
   ·intro H2 s1
    exact⟨gs,xs,SqT.same hS s1,SqT.of (s1 _ _ ea),.inl (by omega)⟩
   ·intro i H2 tt v H3 R hi s1 ht y hR
    obtain⟨q,x,y,rfl,hq,rfl,e1,e2⟩:=y
    have e1':=e1 _ (SqT.same hS s1)
    have e2':=e2 _ (SqT.of (s1 _ _ ea))
    obtain⟨g,p,rfl,hp,Tg⟩:=hT.get e1'
    obtain⟨di,hdi,Ii⟩:=r.get e2'
    have ht':∃ t0 t1,tt=[t0,t1]:=by
     match tt,ht with
     | [t0,t1],_=>exact⟨t0,t1,rfl⟩
    obtain⟨t0,t1,rfl⟩:=ht'
    refine⟨q,_,rfl,SqT.of q0f,rfl,_,_,rfl,_,_,rfl,rfl,⟨_,rfl,g,p,rfl,Tg,_,rfl,B,y,di,hB,rfl,(Ii.same s1).same (q0g hq),fun H' s2=>?_⟩⟩
    have hR':=hR [some (.ref g),some y] H' rfl ((q0g (o:=.tup [.ref g,y]) hq).trans s2)
    have g1:(ps.getD i fun _=>true)=p:=by rw [List.getD_eq_getElem?_getD,hp]; rfl
    have g2:ds.getD i .non=di:=by rw [List.getD_eq_getElem?_getD,hdi]; rfl
    rw [g1,g2] at hR'
    exact hR'
   ·intro D H' s1 hD hd
    refine⟨D,(List.range ps.length).map fun i=>(ps.getD i fun _=>true) (ds.getD i .non),rfl,SqL.of ?_,?_⟩
    ·rw [hd,List.filter_eq_self.mpr (fun _ _=>rfl),List.map_map]
     rfl
    ·rw [x3w hne]
     exact k1 H' s1
  ·rw [show (!decide (V.int (xs.length:Int)=V.int (gs.length:Int)))=true by rw [decide_eq_false (fun z=>hne (by have:=V.int.inj z; omega))]; rfl]
   have k2:=k1 H (q1b.refl _)
   rw [x5a hne] at k2
   exact q1m k2
 | non=>exact q1m (q1m (k H (q1b.refl _)))
 | bl _=>exact q1m (q1m (k H (q1b.refl _)))
 | int _=>exact q1m (q1m (k H (q1b.refl _)))
 | str _=>exact q1m (q1m (k H (q1b.refl _)))
 | lst _=>exact q1m (q1m (k H (q1b.refl _)))
theorem _root_.Kp.Cal.tl {name:Str} {k kk:Nat} {px:Str} {p:D→Bool} {g:Addr} (C:Cal P w K mg base name k [px] (spP p)) (hm:mg name=some (.ref g)) (hk:k≤kk):Tl P w K mg base kk g p:=by
 obtain⟨f,fd,F,m,kp,b⟩:=C.ex
 rw [hm] at m
 cases m
 exact⟨k,fd,px,hk,F,kp,b⟩
theorem _root_.Kp.Cal.at {name:Str} {k:Nat} {px:Str} {p:D→Bool} (C:Cal P w K mg base name k [px] (spP p)):∃ g,mg name=some (.ref g)∧∀ kk,k≤kk→Tl P w K mg base kk g p:=by
 obtain⟨f,fd,F,m,kp,b⟩:=id C.ex
 exact⟨f,m,fun kk h=>C.tl m h⟩
theorem _root_.Kp.IsL.at {B:Nat} {H:Hp}:∀ {vs ds} {i:Nat} {d:D},IsL B H vs ds→ds[i]? = some d→∃ v,atI vs (i:Int)=some v∧Is B H v d:=by
 intro vs ds i d r h
 have hi:i < ds.length:=(List.getElem?_eq_some_iff.mp h).1
 have hi':i < vs.length:=by rw [r.length]; exact hi
 obtain⟨d',h',I⟩:=r.get (i:=i) (v:=vs[i]) (by simp [hi'])
 rw [h] at h'
 cases h'
 exact⟨vs[i],q0m (by simp [hi']),I⟩
theorem x7e {B:Nat} {H:Hp} {vs:List V} {ds:List D} (r:IsL B H vs ds) (n:Nat):decide (V.int (vs.length:Int)=V.int (n:Int))=decide (ds.length=n):=by
 rw [r.length,Bool.eq_iff_iff]
 simp only [decide_eq_true_eq]
 constructor
 ·intro h; have:=V.int.inj h; omega
 ·intro h; rw [h]
theorem w6q:FnScope ["_law_thing"] ["_law_thing"] (q0e x2w):=fSc
theorem w1k {f:Addr} {fd:FuncData} (F:Fun K "_law_any" "_law_any" x2w f fd) (T:Txt mg):FnOk P w K mg base CX0 1 f fd ["_law_thing"] (spP whole):=by
 refine F.ok w6q q2c (fun _ A _ s H vs Q E hr h=>?_)
 obtain⟨B,v,d,hB,rfl,I,k⟩:=h
 refine⟨_,q0p (q0l (q2b (q0q q2h rfl T.isi q2g (q0c (pv 0) (q0c (q7f rfl T.int q8c) q0b)))
  (q2j (z3g (q0q q2h rfl T.isi q2g (q0c (pv 0) (q0c (q7f rfl T.bool q7l) q0b))))))),?_⟩
 refine⟨_,rfl,_,_,_,_,rfl,I.ty,z0o K d,_,rfl,?_⟩
 have k0:=k H (q1b.refl _)
 unfold whole at k0
 cases e:isInt d with
 | false=>rw [e] at k0; exact q1c k0
 | true =>
  rw [e] at k0
  exact q1m ⟨_,rfl,_,_,_,_,rfl,I.ty,q8f K d,_,rfl,k0⟩
noncomputable def x2z (n:Int):D→Bool
 | .tup ds=>decide ((ds.length:Int)=n)
 | _=>false
noncomputable def x3u:Sp:=fun vs H Q _=>∃ B v d n,B≤100000∧vs=[v,.int n]∧Is B H v d∧Q (.bl (x2z n d)) H
theorem w7b:FnScope ["_law_thing", "_law_size"] ["_law_thing", "_law_size"] (q0e q9r):=fSc
theorem j1u {f:Addr} {fd:FuncData} (F:Fun K "_law_sized" "_law_sized" q9r f fd) (T:Txt mg):FnOk P w K mg base CX0 1 f fd ["_law_thing", "_law_size"] x3u:=by
 refine F.ok w7b (fun vs H Q E ⟨_,_,_,_,_,e,_⟩=>by subst e; rfl) (fun _ A _ s H vs Q E hr h=>?_)
 obtain⟨B,v,d,n,hB,rfl,I,k⟩:=h
 refine⟨_,q0p (q0l (q2b (q0q q2h rfl T.isi q2g (q0c (pv 0) (q0c (q7f rfl T.tuple q2m) q0b))) (q2j (q1v q1w (q0q q0y rfl T.len PySem.boot_len (q0c (pv 0) q0b)) (pv 1) (q0r _))))),?_⟩
 refine⟨_,rfl,_,_,_,_,rfl,I.ty,q9v K d,_,rfl,?_⟩
 cases d with
 | tup ds =>
  cases I with
  | @tup a xs _ ea hl r =>
  have e:decide (V.int (xs.length:Int)=V.int n)=decide ((ds.length:Int)=n):=by
   rw [r.length,Bool.eq_iff_iff]
   simp only [decide_eq_true_eq]
   exact⟨fun h=>V.int.inj h,fun h=>by rw [h]⟩
  have k':Q (.bl (decide ((ds.length:Int)=n))) H:=k
  rw [← e] at k'
  exact q1m ⟨_,rfl,a,xs,rfl,.inr (SqT.of ea),_,rfl,rfl,k'⟩
 | non=>exact q1c k
 | bl _=>exact q1c k
 | int _=>exact q1c k
 | str _=>exact q1c k
 | lst _=>exact q1c k
noncomputable def x0i:Sp:=fun vs H Q _=>∃ B v d,B≤100000∧vs=[v]∧Is B H v d∧Q (.str (q1l d)) H
theorem w7a:FnScope ["thing"] ["thing"] (q0e q9h):=fSc
theorem x5y {d:D} {r:List D} (h:z6s d=false):q1l (.tup (d::r)) = "" := by
 cases d with
 | str x=>cases h
 | _=>rfl
theorem x8w {d:D} (h:z6s d=true):∃ x,d=.str x:=by
 cases d with
 | str x=>exact⟨x,rfl⟩
 | _=>cases h
theorem x8a {f:Addr} {fd:FuncData} (F:Fun K "first_word" "first_word" q9h f fd) (T:Txt mg):FnOk P w K mg base CX0 1 f fd ["thing"] x0i:=by
 refine F.ok w7a (fun vs H Q E ⟨_,_,_,_,e,_⟩=>by subst e; rfl) (fun _ A _ s H vs Q E hr h=>?_)
 obtain⟨B,v,d,hB,rfl,I,k⟩:=h
 refine⟨_,q1e (q1r (PW.pt (x6n (q2s (q0q q2h rfl T.isi q2g (q0c (pv 0) (q0c (q7f rfl T.tuple q2m) q0b)))) (x6n (q0t j0m (q0q q0y rfl T.len PySem.boot_len (q0c (pv 0) q0b)) q0a (q0r _)) (x7w (q2s (q0q q2h rfl T.isi q2g (q0c (q0u q0o (pv 0) q0a (fun _ _=>rfl)) (q0c (q7f rfl T.str x3k) q0b)))))))) (q0p (q0l (q0u q0o (pv 0) q0a (fun _ _=>rfl)))) q0s)
  (q0p (q0l q0n)),?_⟩
 refine⟨_,rfl,_,_,_,_,rfl,I.ty,q9v K d,_,rfl,?_⟩
 cases d with
 | tup ds =>
  cases I with
  | @tup a xs _ ea hl r =>
  refine q1m ⟨_,rfl,a,xs,rfl,.inr (SqT.of ea),_,_,rfl,rfl,_,rfl,?_⟩
  cases r with
  | nil=>exact q1c (q1c k)
  | @cons x d0 xs0 ds0 Ix It =>
   rw [decide_eq_true (show (1:Int)≤(((x::xs0).length:Nat):Int) by simp; omega)]
   refine q1m ⟨_,rfl,a,_,0,x,rfl,rfl,SqT.of ea,q0m (j:=0) rfl,_,_,_,_,rfl,Ix.ty,x6r K d0,_,rfl,?_⟩
   cases hs:z6s d0 with
   | false =>
    rw [x5y hs] at k
    exact q1c k
   | true =>
    obtain⟨y,rfl⟩:=x8w hs
    cases Ix
    exact q1m ⟨_,rfl,a,_,0,_,rfl,rfl,SqT.of ea,q0m (j:=0) rfl,k⟩
 | non=>exact q1c (q1c k)
 | bl _=>exact q1c (q1c k)
 | int _=>exact q1c (q1c k)
 | str _=>exact q1c (q1c k)
 | lst _=>exact q1c (q1c k)
noncomputable def z0z (P:Program) (w:World) (K:Frag) (mg:Str→Option Value) (base:Heap) (kk:Nat):Sp:=fun vs H Q _=>∃ B v d tv,B≤100000∧vs=[v,tv]∧Is B H v d ∧
 ((tv=.non∧Q (.bl false) H)∨∃ t gs ps d0 ds,tv=.ref t∧d=.tup (d0::ds)∧SqT K H t gs∧Tls P w K mg base kk gs ps∧gs.length≤1000∧∀ H',q1b H H'→Q (.bl (q0w ps ds)) H')
theorem w7f:FnScope ["thing", "tellers"] ["thing", "tellers"] (q0e q4t):=fSc
theorem x7a (x:V) (xs:List V):x3n (x::xs) (some 1) none=xs:=by
 unfold x3n
 have e1:HT.sIx (x::xs).length 0 (some 1)=1:=by
  have:=HT.sIx_nat (x::xs).length 0 1
  rw [show ((1:Nat):Int)=1 from rfl] at this
  rw [this,List.length_cons]
  omega
 rw [e1,HT.sIx_none,List.take_of_length_le (by simp)]
 rfl
theorem j0d {f:Addr} {fd:FuncData} {kk:Nat} (F:Fun K "fits_behind_word" "fits_behind_word" q4t f fd) (T:Txt mg) (CF:Cal P w K mg base "fits" (kk+1) ["thing", "tellers"] (q7g P w K mg base kk)) :
  FnOk P w K mg base CX0 (kk+2) f fd ["thing", "tellers"] (z0z P w K mg base kk):=by
 refine F.ok w7f (fun vs H Q E ⟨_,_,_,_,_,e,_⟩=>by subst e; rfl) (fun _ A _ s H vs Q E hr h=>?_)
 obtain⟨B,v,d,tv,hB,rfl,I,hw⟩:=h
 refine⟨_,q0p (q0l (q2b (q1v j9e (pv 1) x4n (q0r _)) (q2j (q0h CF hr (q0c (q2r z7t (pv 0) (q3e q0a) q3m) (q0c (pv 1) q0b)))))),?_⟩
 rcases hw with ⟨rfl,k⟩ | ⟨t,gs,ps,d0,ds,rfl,rfl,hS,hT,hg,k⟩
 ·exact⟨_,rfl,rfl,_,rfl,q1c k⟩
 ·cases I with
  | @tup a xs _ ea hl r =>
  cases r with
  | @cons x _ xs0 _ Ix It =>
  refine⟨_,rfl,rfl,_,rfl,q1m ⟨_,rfl,1,rfl,a,_,rfl,SqT.of ea,fun z=>?_,fun p hp=>?_⟩⟩
  ·have z1:=z.1
   have e:=HT.sIx_nat (x::xs0).length 0 1
   rw [show ((1:Nat):Int)=1 from rfl] at e
   rw [e,List.length_cons] at z1
   omega
  ·rw [x7a]
   have s1:=q0g (o:=HO.tup xs0) hp
   exact⟨_,rfl,B,.ref p,.tup ds,t,gs,ps,hB,rfl,.tup q0f (by simp at hl; omega) (It.same s1),SqT.same hS s1,hT,hg,fun H' s2=>k H' (s1.trans s2)⟩
theorem w6j:FnScope ["_law_thing"] ["_law_thing"] (q0e x1e):=fSc
theorem j6r {f:Addr} {fd:FuncData} (F:Fun K "_law_kind" "_law_kind" x1e f fd) (T:Txt mg):FnOk P w K mg base CX0 1 f fd ["_law_thing"] x0i:=by
 refine F.ok w6j (fun vs H Q E ⟨_,_,_,_,e,_⟩=>by subst e; rfl) (fun _ A _ s H vs Q E hr h=>?_)
 obtain⟨B,v,d,hB,rfl,I,k⟩:=h
 refine⟨_,q1e (q1r (PW.pt (x6n (q2s (q0q q2h rfl T.isi q2g (q0c (pv 0) (q0c (q7f rfl T.tuple q2m) q0b)))) (x6n (q0t z1y (q0q q0y rfl T.len PySem.boot_len (q0c (pv 0) q0b)) q0a (q0r _)) (x7w (q2s (q0q q2h rfl T.isi q2g (q0c (q0u q0o (pv 0) q0a (fun _ _=>rfl)) (q0c (q7f rfl T.str x3k) q0b)))))))) (q0p (q0l (q0u q0o (pv 0) q0a (fun _ _=>rfl)))) q0s)
  (q0p (q0l q0n)),?_⟩
 refine⟨_,rfl,_,_,_,_,rfl,I.ty,q9v K d,_,rfl,?_⟩
 cases d with
 | tup ds =>
  cases I with
  | @tup a xs _ ea hl r =>
  refine q1m ⟨_,rfl,a,xs,rfl,.inr (SqT.of ea),_,_,rfl,rfl,_,rfl,?_⟩
  cases r with
  | nil=>exact q1c (q1c k)
  | @cons x d0 xs0 ds0 Ix It =>
   rw [decide_eq_true (show (0:Int) < (((x::xs0).length:Nat):Int) by simp)]
   refine q1m ⟨_,rfl,a,_,0,x,rfl,rfl,SqT.of ea,q0m (j:=0) rfl,_,_,_,_,rfl,Ix.ty,x6r K d0,_,rfl,?_⟩
   cases hs:z6s d0 with
   | false =>
    rw [x5y hs] at k
    exact q1c k
   | true =>
    obtain⟨y,rfl⟩:=x8w hs
    cases Ix
    exact q1m ⟨_,rfl,a,_,0,_,rfl,rfl,SqT.of ea,q0m (j:=0) rfl,k⟩
 | non=>exact q1c (q1c k)
 | bl _=>exact q1c (q1c k)
 | int _=>exact q1c (q1c k)
 | str _=>exact q1c (q1c k)
 | lst _=>exact q1c (q1c k)
theorem w5o:FnScope ["_law_thing"] ["_law_thing"] (q0e x0s):=fSc
theorem j2h {f:Addr} {fd:FuncData} (F:Fun K "_law_deed" "_law_deed" x0s f fd) (T:Txt mg) (CK:Cal P w K mg base "_law_kind" 1 ["_law_thing"] x0i) (CN:Cal P w K mg base "_law_name" 1 ["_law_thing"] (spP q1z)) (CA:Cal P w K mg base "_law_any" 1 ["_law_thing"] (spP whole)) :
  FnOk P w K mg base CX0 2 f fd ["_law_thing"] (spP q6c):=by
 refine F.ok w5o q2c (fun _ A _ s H vs Q E hr h=>?_)
 obtain⟨B,v,d,hB,rfl,I,k⟩:=h
 refine⟨_,q1e (q1r (q0t q1w (q0h CK hr (q1g (pv 0) q0b)) q0n (q0r _))
   (q0p (q0l (q2b (q1v q1w (q0q q0y rfl T.len PySem.boot_len (q1g (pv 0) q0b)) q0a (q0r _)) (q2j (q0h CN hr (q4p (q0u q0o (pv 0) q0a q2q) q0b)))))) q0s)
  (q0p (q0l (q2b (q1v x8s (q0h CK hr (q1g (pv 0) q0b)) (QE.h (q6s (q1q (q1q q4g)))) rfl) (q2b (q1v q1w (q0q q0y rfl T.len PySem.boot_len (q1g (pv 0) q0b)) q0a (q0r _))
   (q2b (q0h CN hr (q4p (q0u q0o (pv 0) q0a q2q) q0b)) (q2j (q0h CA hr (q4p (q0u q0o (pv 0) q0a q2q) q0b)))))))),?_⟩
 refine⟨_,rfl,B,v,d,hB,rfl,I,rfl,_,rfl,?_⟩
 by_cases hg:q1l d = "get"
 ·rw [decide_eq_true (show V.str (q1l d)=V.str "get" by rw [hg])]
  obtain⟨r,rfl⟩:=q6p hg (by decide +kernel)
  cases I with
  | @tup a xs _ ea hl rr =>
  refine q1m ⟨_,rfl,a,xs,rfl,.inr (SqT.of ea),rfl,_,rfl,?_⟩
  have e:=x7e rr 2
  show if decide (V.int (xs.length:Int)=V.int ((2:Nat):Int))=true then _ else _
  have kr:∀ H',q1b H H'→Q (.bl (one q1z r)) H':=fun H' s'=>by
   have:=k H' s'
   rw [z7f] at this
   exact this
  rw [e]
  clear k hg e
  match r,kr,rr with
  | [],kr,rr=>exact q1c (kr H (q1b.refl _))
  | [y],kr,rr =>
   obtain⟨v1,e1,I1⟩:=rr.at (i:=1) rfl
   exact q1m ⟨_,rfl,a,xs,1,v1,rfl,rfl,SqT.of ea,e1,B,v1,y,hB,rfl,I1,kr⟩
  | y::y2::t,kr,rr =>
   rw [decide_eq_false (show ¬ (D.str "get" :: y::y2::t).length=2 by simp)]
   exact q1c (kr H (q1b.refl _))
 ·rw [decide_eq_false (show ¬ V.str (q1l d)=V.str "get" from fun z=>hg (V.str.inj z))]
  refine q1c ⟨_,rfl,B,v,d,hB,rfl,I,q4a (by show 2≤1000; decide),fun p hp=>⟨p,_,rfl,.inr (SqT.of q0f),rfl,rfl,_,rfl,?_⟩⟩
  have s1:=q0g (o:=HO.tup [V.str "set",V.str "add"]) hp
  have ein:inV (V.str (q1l d)) [V.str "set",V.str "add"]=decide (q1l d = "set" ∨ q1l d = "add"):=by
   show (decide (("set" : Str)=q1l d) || (decide (("add" : Str)=q1l d) || false))=_
   rw [Bool.eq_iff_iff]
   simp only [Bool.or_eq_true,decide_eq_true_eq,Bool.false_eq_true,or_false]
   exact⟨fun h=>h.imp Eq.symm Eq.symm,fun h=>h.imp Eq.symm Eq.symm⟩
  show if inV (V.str (q1l d)) [V.str "set",V.str "add"]=true then _ else _
  rw [ein]
  by_cases hs:q1l d = "set" ∨ q1l d = "add"
  ·rw [decide_eq_true hs]
   obtain⟨r,e⟩:=q6p (d:=d) rfl (fun z=>by rw [z] at hs; rcases hs with z | z <;> exact absurd z (by decide +kernel))
   generalize q1l d=x at hs hg e
   subst e
   cases I with
   | @tup a xs _ ea hl rr =>
   refine q1m ⟨_,rfl,a,xs,rfl,.inr (SqT.of (s1 _ _ ea)),rfl,_,rfl,?_⟩
   have e:=x7e rr 3
   show if decide (V.int (xs.length:Int)=V.int ((3:Nat):Int))=true then _ else _
   have kr:∀ H',q1b H H'→Q (.bl (two q1z whole r)) H':=fun H' s'=>by
    have:=k H' s'
    rw [show q6c (.tup (.str x::r))=two q1z whole r from (if_neg hg).trans (if_pos hs)] at this
    exact this
   rw [e]
   clear k ein e
   match r,kr,rr with
   | [],kr,rr=>exact q1c (kr _ s1)
   | [y],kr,rr=>exact q1c (kr _ s1)
   | [y,y2],kr,rr =>
    obtain⟨v1,e1,I1⟩:=rr.at (i:=1) rfl
    obtain⟨v2,e2,I2⟩:=rr.at (i:=2) rfl
    refine q1m ⟨_,rfl,a,xs,1,v1,rfl,rfl,SqT.of (s1 _ _ ea),e1,B,v1,y,hB,rfl,I1.same s1,fun H' s'=>⟨_,rfl,?_⟩⟩
    have k1:∀ H'',q1b H' H''→Q (.bl (q1z y && whole y2)) H'':=fun H'' s''=>kr H'' (s1.trans (s'.trans s''))
    cases hn:q1z y with
    | false =>
     rw [hn] at k1
     exact q1c (k1 H' (q1b.refl _))
    | true =>
     rw [hn] at k1
     exact q1m ⟨_,rfl,a,xs,2,v2,rfl,rfl,SqT.of (s' _ _ (s1 _ _ ea)),e2,B,v2,y2,hB,rfl,(I2.same s1).same s',k1⟩
   | y::y2::y3::t,kr,rr =>
    rw [decide_eq_false (show ¬ (D.str x::y::y2::y3::t).length=3 by simp)]
    exact q1c (kr _ s1)
  ·rw [decide_eq_false hs]
   have k0:=k _ s1
   have e:q6c d=false:=by
    unfold q6c
    split
    ·rename_i x r
     exact (if_neg hg).trans (if_neg hs)
    ·rfl
   rw [e] at k0
   exact q1c k0
noncomputable def tWL (x:Str) (n:Nat):TT:=fun σ H Q=>∃ B v d,B≤100000∧σ[0]? = some (some v)∧Is B H v d∧Q (decide (q1l d=x∧z5k d=n)) H
noncomputable abbrev w5x (K:Frag):List V→Hp→VK→Prop:=fun xs H Q=>∃ p ys,xs=[.ref p]∧(SqL K H p ys∨SqT K H p ys)∧Q (.int ys.length) H
theorem j9o {X:Cx} {a b:Expr} {pos:Pos} {x:Str} {n:Nat} {E:XK} (hx:x ≠ "") (h1:PT X a (j3j (tOp rEq (j3y x0i [] E (q8p (w2c 0) w1j)) (tC (.str x))))) (h2:PT X b (j3j (tOp rEq (tCB (w5x X.K) (q8p (w2c 0) w1j)) (tC (.int n))))) :
  PT X (.BoolOp .And [a,b] pos) (tWL x n):=by
 refine PT.weak (x6n h1 (x7w h2)).pt ?_
 rintro σ H Q ⟨B,v,d,hB,e0,I,q⟩
 refine⟨v,e0,B,v,d,hB,rfl,I,rfl,_,rfl,?_⟩
 by_cases hw:q1l d=x
 ·rw [decide_eq_true (show V.str (q1l d)=V.str x by rw [hw])]
  obtain⟨r,rfl⟩:=q6p hw hx
  cases I with
  | @tup a xs _ ea hl rr =>
  refine q1m ⟨_,e0,a,xs,rfl,.inr (SqT.of ea),rfl,_,rfl,?_⟩
  have e:decide (V.int (xs.length:Int)=V.int (n:Int))=decide (q1l (.tup (.str x::r))=x∧z5k (.tup (.str x::r))=n):=by
   rw [x7e rr n,Bool.eq_iff_iff]
   simp only [decide_eq_true_eq]
   exact⟨fun h=>⟨rfl,h⟩,fun h=>h.2⟩
  rw [e]
  exact q
 ·rw [decide_eq_false (show ¬ V.str (q1l d)=V.str x from fun z=>hw (V.str.inj z))]
  rw [decide_eq_false (fun z=>hw z.1)] at q
  exact q1c q
theorem w7x:FnScope ["_law_thing"] ["_law_thing"] (q0e x1b):=fSc
theorem j3k {f:Addr} {fd:FuncData} (F:Fun K "_law_what" "_law_what" x1b f fd) (T:Txt mg) (CK:Cal P w K mg base "_law_kind" 1 ["_law_thing"] x0i) (CN:Cal P w K mg base "_law_name" 1 ["_law_thing"] (spP q1z)) (CF:Cal P w K mg base "_law_from" 1 ["_law_thing", "_law_least"] x1l)
  (CD:Cal P w K mg base "_law_deed" 2 ["_law_thing"] (spP q6c)) (CS:Cal P w K mg base "_law_seats" 2 ["_law_thing"] (spP q4o)):FnOk P w K mg base CX0 3 f fd ["_law_thing"] (spP x5o):=by
 refine F.ok w7x q2c (fun _ A _ s H vs Q E hr h=>?_)
 obtain⟨B,v,d,hB,rfl,I,k⟩:=h
 have r1:=hr.mono (show 1≤2 by decide)
 refine⟨_,q1e (q1r (j9o (n:=4) (by decide +kernel) (q0t q1w (q0h CK r1 (q1g (pv 0) q0b)) q0n (q0r _)) (q0t q1w (q0q q0y rfl T.len PySem.boot_len (q1g (pv 0) q0b)) q0a (q0r _)))
   (q0p (q0l (q2b (q0h CN r1 (q4p (q0u q0o (pv 0) q0a q2q) q0b)) (q2b (q0h CF r1 (q4p (q0u q0o (pv 0) q0a q2q) (q5x q0a q0b))) (q2j (q0h CD hr (q4p (q0u q0o (pv 0) q0a q2q) q0b))))))) q0s)
  (q1e (q1r (j9o (n:=2) (by decide +kernel) (q0t q1w (q0h CK r1 (q1g (pv 0) q0b)) q0n (q0r _)) (q0t q1w (q0q q0y rfl T.len PySem.boot_len (q1g (pv 0) q0b)) q0a (q0r _)))
   (q0p (q0l (q0h CS hr (q4p (q0u q0o (pv 0) q0a q2q) q0b)))) q0s)
  (q0p (q0l (q2b (q1v q1w (q0h CK r1 (q1g (pv 0) q0b)) q0n (q0r _)) (q2j (q1v q1w (q0q q0y rfl T.len PySem.boot_len (q1g (pv 0) q0b)) q0a (q0r _))))))),?_⟩
 rw [← j3h] at k
 refine⟨B,v,d,hB,rfl,I,x5d (fun c=>?_) (fun c=>?_)⟩
 ·have c':=of_decide_eq_true c
  have kc:∀ H',q1b H H'→Q (.bl (x1z q1z (geD 1) q6c (j3d d))) H':=fun H' s'=>by
   have:=k H' s'
   rw [show z1h d=_ from if_pos c'] at this
   exact this
  obtain⟨r,rfl⟩:=q6p c'.1 (by decide +kernel)
  have hr3:r.length+1=4:=c'.2
  clear k c
  match r,hr3,kc,I with
  | [y1,y2,y3],_,kc,I =>
  cases I with
  | @tup a xs _ ea hl rr =>
  obtain⟨v1,e1,I1⟩:=rr.at (i:=1) rfl
  obtain⟨v2,e2,I2⟩:=rr.at (i:=2) rfl
  obtain⟨v3,e3,I3⟩:=rr.at (i:=3) rfl
  have kd:∀ H',q1b H H'→Q (.bl (q1z y1 && (geD 1 y2 && q6c y3))) H':=kc
  refine⟨_,rfl,a,xs,1,v1,rfl,rfl,SqT.of ea,e1,B,v1,y1,hB,rfl,I1,fun H1 s1=>⟨_,rfl,?_⟩⟩
  cases hn:q1z y1 with
  | false=>rw [hn] at kd; exact q1c (kd _ s1)
  | true =>
   rw [hn] at kd
   refine q1m ⟨_,rfl,a,xs,2,v2,rfl,rfl,SqT.of (s1 _ _ ea),e2,B,v2,y2,1,hB,rfl,I2.same s1,fun H2 s2=>⟨_,rfl,?_⟩⟩
   cases hf:geD 1 y2 with
   | false=>rw [hf] at kd; exact q1c (kd _ (s1.trans s2))
   | true =>
    rw [hf] at kd
    exact q1m ⟨_,rfl,a,xs,3,v3,rfl,rfl,SqT.of (s2 _ _ (s1 _ _ ea)),e3,B,v3,y3,hB,rfl,(I3.same s1).same s2,fun H3 s3=>kd _ ((s1.trans s2).trans s3)⟩
 have c1:¬ (q1l d = "wish" ∧ z5k d=4):=fun z=>c (decide_eq_true z)
 refine⟨B,v,d,hB,rfl,I,x5d (fun c2=>?_) (fun c2=>?_)⟩
 ·have c':=of_decide_eq_true c2
  have kc:∀ H',q1b H H'→Q (.bl (one q4o (j3d d))) H':=fun H' s'=>by
   have:=k H' s'
   rw [show z1h d=_ from (if_neg c1).trans (if_pos c')] at this
   exact this
  obtain⟨r,rfl⟩:=q6p c'.1 (by decide +kernel)
  have hr3:r.length+1=2:=c'.2
  clear k c c2 c1
  match r,hr3,kc,I with
  | [y1],_,kc,I =>
  cases I with
  | @tup a xs _ ea hl rr =>
  obtain⟨v1,e1,I1⟩:=rr.at (i:=1) rfl
  exact⟨_,rfl,a,xs,1,v1,rfl,rfl,SqT.of ea,e1,B,v1,y1,hB,rfl,I1,kc⟩
 have c2':¬ (q1l d = "seats" ∧ z5k d=2):=fun z=>c2 (decide_eq_true z)
 have k0:=k H (q1b.refl _)
 rw [show z1h d=decide (q1l d = "open" ∧ z5k d=1) from (if_neg c1).trans (if_neg c2')] at k0
 refine⟨_,rfl,B,v,d,hB,rfl,I,rfl,_,rfl,?_⟩
 by_cases hw:q1l d = "open"
 ·rw [decide_eq_true (show V.str (q1l d)=V.str "open" by rw [hw])]
  obtain⟨r,rfl⟩:=q6p hw (by decide +kernel)
  cases I with
  | @tup a xs _ ea hl rr =>
  have e:decide (V.int (xs.length:Int)=V.int ((1:Nat):Int))=decide (q1l (.tup (.str "open" :: r)) = "open" ∧ z5k (.tup (.str "open" :: r))=1):=by
   rw [x7e rr 1,Bool.eq_iff_iff]
   simp only [decide_eq_true_eq]
   exact⟨fun h=>⟨rfl,h⟩,fun h=>h.2⟩
  rw [← e] at k0
  exact q1m ⟨_,rfl,a,xs,rfl,.inr (SqT.of ea),rfl,k0⟩
 ·rw [decide_eq_false (show ¬ V.str (q1l d)=V.str "open" from fun z=>hw (V.str.inj z))]
  rw [decide_eq_false (fun z=>hw z.1)] at k0
  exact q1c k0
theorem w5u:FnScope ["_law_thing"] ["_law_thing"] (q0e q8y):=fSc
theorem z9g {f:Addr} {fd:FuncData} (F:Fun K "_law_entry" "_law_entry" q8y f fd) (CZ:Cal P w K mg base "_law_sized" 1 ["_law_thing", "_law_size"] x3u) (CF:Cal P w K mg base "_law_from" 1 ["_law_thing", "_law_least"] x1l)
  (CW:Cal P w K mg base "_law_what" 3 ["_law_thing"] (spP x5o)):FnOk P w K mg base CX0 4 f fd ["_law_thing"] (spP q8i):=by
 refine F.ok w5u q2c (fun _ A _ s H vs Q E hr h=>?_)
 obtain⟨B,v,d,hB,rfl,I,k⟩:=h
 have r1:=hr.mono (show 1≤3 by decide)
 refine⟨_,q0p (q0l (q2b (q0h CZ r1 (q1g (pv 0) (q5x q0a q0b))) (q2b (q0h CF r1 (q4p (q0u q0o (pv 0) q0a q2q) (q5x q0a q0b))) (q2j (q0h CW hr (q4p (q0u q0o (pv 0) q0a q2q) q0b)))))),?_⟩
 refine⟨_,rfl,B,v,d,2,hB,rfl,I,_,rfl,?_⟩
 cases hz:x2z 2 d with
 | false =>
  have e:q8i d=false:=by
   unfold q8i
   split
   ·cases hz
   ·rfl
  have k0:=k H (q1b.refl _)
  rw [e] at k0
  exact q1c k0
 | true =>
  obtain⟨y0,y1,rfl⟩:∃ y0 y1,d=.tup [y0,y1]:=by
   cases d with
   | tup ds =>
    have h2:(ds.length:Int)=2:=of_decide_eq_true hz
    match ds,h2 with
    | [y0,y1],_=>exact⟨y0,y1,rfl⟩
    | [],h=>simp at h
    | [_],h=>simp at h
    | _::_::_::_,h=>simp at h; omega
   | _=>cases hz
  cases I with
  | @tup a xs _ ea hl rr =>
  obtain⟨v0,e0,I0⟩:=rr.at (i:=0) rfl
  obtain⟨v1,e1,I1⟩:=rr.at (i:=1) rfl
  have kd:∀ H',q1b H H'→Q (.bl (geD 1 y0 && x5o y1)) H':=k
  refine q1m ⟨_,rfl,a,xs,0,v0,rfl,rfl,SqT.of ea,e0,B,v0,y0,1,hB,rfl,I0,fun H1 s1=>⟨_,rfl,?_⟩⟩
  cases hf:geD 1 y0 with
  | false=>rw [hf] at kd; exact q1c (kd _ s1)
  | true =>
   rw [hf] at kd
   exact q1m ⟨_,rfl,a,xs,1,v1,rfl,rfl,SqT.of (s1 _ _ ea),e1,B,v1,y1,hB,rfl,I1.same s1,fun H3 s3=>kd _ (s1.trans s3)⟩
end
theorem _root_.Kp.ix_tupK {X:Cx} {K:Frag} (hK:X.K=K):IxR X (w4i K):=by subst hK; exact q0o
theorem w4k {α:Type} (x:α) (xs:List α):atI (x::xs) 0=some x:=q0m (j:=0) rfl
theorem w6t {α:Type} (x y:α) (xs:List α):atI (x::y::xs) 1=some y:=q0m (j:=1) rfl
section
variable {P:Program} {w:World} {K:Frag} {mg:Str→Option Value} {base:Heap}
theorem w7r:FnScope ["thing"] ["thing"] (q0e q5u):=fSc
theorem x5n {f:Addr} {fd:FuncData} (F:Fun K "is_from_nought" "is_from_nought" q5u f fd) (T:Txt mg) (CW:Cal P w K mg base "is_whole" 1 ["thing"] (spP whole)):FnOk P w K mg base CX0 2 f fd ["thing"] (spP (geD 0)):=by
 refine F.ok w7r q2c (fun _ A _ s H vs Q E hr h=>?_)
 obtain⟨B,v,d,hB,rfl,I,k⟩:=h
 refine⟨_,q0p (q0l (q2b (q0h CW hr (q0c (pv 0) q0b)) (q2j (q1v j0m (pv 0) q0a (q0r _))))),?_⟩
 refine⟨_,rfl,B,v,d,hB,rfl,I,fun H' s'=>⟨_,rfl,?_⟩⟩
 have k0:=k H' s'
 cases e:whole d with
 | false=>rw [z4b e] at k0; exact q1c k0
 | true =>
  obtain⟨i,rfl⟩:=x4j e
  cases I
  exact q1m ⟨_,rfl,_,_,rfl,rfl,k0⟩
noncomputable def z8r:Sp:=fun vs H Q _=>∃ (a:Addr) (ws:List Str),vs=[.ref a]∧H a=some (.lst (ws.map V.str))∧ws.length≤100000∧∀ H',q1b H H'→Q (.bl (q8s ws)) H'
theorem z6w (xs:List V):x3n xs (some 1) none=xs.tail:=by
 unfold x3n
 have e1:HT.sIx xs.length 0 (some 1)=min 1 xs.length:=by
  have:=HT.sIx_nat xs.length 0 1
  rw [show ((1:Nat):Int)=1 from rfl] at this
  rw [this]
 rw [e1,HT.sIx_none]
 cases xs with
 | nil=>rfl
 | cons a r =>
  rw [show min 1 (a::r).length=1 by simp,List.take_of_length_le (by simp)]
  rfl
theorem x4d:∀ ws:List Str,((List.range (ws.length - 1)).map fun i=>ltS (ws.getD i "") (ws.getD (i+1) "")).all id=q8s ws
 | []=>rfl
 | [_]=>rfl
 | a::b::r=>by
  have ih:=x4d (b::r)
  rw [q8s,← ih]
  show ((List.range (r.length+1)).map _).all id=_
  rw [List.range_succ_eq_map,List.map_cons,List.all_cons,List.map_map]
  rfl
theorem z4z {f:Addr} {fd:FuncData} (F:Fun K "is_rising" "is_rising" x2q f fd) (T:Txt mg):FnOk P w K mg base CX0 1 f fd ["parts"] z8r:=by
 refine F.ok w4n (fun vs H Q E ⟨_,_,e,_⟩=>by subst e; rfl) (fun _ A _ s H vs Q E hr h=>?_)
 obtain⟨a,ws,rfl,ha,h2,k⟩:=h
 refine⟨_,q0p (q0l (q0q (x0f rfl) rfl T.all q7m (q0c (q3u (NB:=["part", "later"]) (n:=2) (fr:=[]) (q5v (outer:=q0e x2q) rfl (by decide +kernel) rfl) rfl
   (z7o (t1:=false) (t2:=false) rfl T.zip (q0c (pv 0) (q0c (q2r q8w (pv 0) (q3e q0a) q3m) q0b)))
   (fun _ _ _ _ _=>x4z (K:=K) (n:=2) rfl rfl (q1x (q1i (i:=0) (show (["part", "later"]:List Str).Nodup by decide +kernel) rfl (Or.inl rfl)) (q1x (q1i (i:=1) (show (["part", "later"]:List Str).Nodup by decide +kernel) rfl (Or.inl rfl)) q6b))) (fun _ _ _ _ _=>q2u) (fun _ _ _ _ _=>q1v z7q (pv 0) (pv 1) (q0r _))) q0b))),?_⟩
 refine⟨_,rfl,_,rfl,1,rfl,a,ws.map V.str,rfl,SqL.of ha,fun p hp=>?_⟩
 rw [z6w,← List.map_tail]
 have sp:q1b H (upd H p (.lst (ws.tail.map V.str))):=q0g hp
 refine⟨a,p,ws.map V.str,ws.tail.map V.str,rfl,SqL.of (sp _ _ ha),SqL.of q0f,q2w (J:=Itz K false false a p) (k:=2) (n:=ws.length - 1) (fun _=>true) (fun i=>.bl (ltS (ws.getD i "") (ws.getD (i+1) ""))) (by rw [sizeLine_eq]; omega) ?_ ?_ ?_ ?_⟩
 ·intro i H2 hi s1
  have i1:i < ws.length:=by omega
  have i2:i < ws.tail.length:=by rw [List.length_tail]; omega
  exact⟨ws.map V.str,ws.tail.map V.str,.str ws[i],.str ws.tail[i],SqL.of (s1 _ _ (sp _ _ ha)),SqL.of (s1 _ _ q0f),by simp [i1],by rw [List.getElem?_map,List.getElem?_eq_getElem i2]; rfl⟩
 ·intro H2 s1
  exact⟨ws.map V.str,ws.tail.map V.str,SqL.of (s1 _ _ (sp _ _ ha)),SqL.of (s1 _ _ q0f),.inr (by simp)⟩
 ·intro i H2 t v H3 R hi s1 ht y hR
  obtain⟨q,x,y,rfl,hq,rfl,e1,e2⟩:=y
  have i1:i < ws.length:=by omega
  have i2:i+1 < ws.length:=by omega
  have e1':=e1 _ (SqL.of (s1 _ _ (sp _ _ ha)))
  have e2':=e2 _ (SqL.of (s1 _ _ q0f))
  rw [List.getElem?_map,List.getElem?_eq_getElem i1] at e1'
  rw [List.getElem?_map,List.getElem?_tail,List.getElem?_eq_getElem i2] at e2'
  cases e1'
  cases e2'
  have ht':∃ t0 t1,t=[t0,t1]:=by
   match t,ht with
   | [t0,t1],_=>exact⟨t0,t1,rfl⟩
  obtain⟨t0,t1,rfl⟩:=ht'
  refine⟨q,_,rfl,SqT.of q0f,rfl,_,_,rfl,_,_,rfl,rfl,⟨_,rfl,_,rfl,_,_,rfl,rfl,?_⟩⟩
  have hR':=hR [some (.str ws[i]),some (.str ws[i+1])] _ rfl (q0g (o:=.tup [.str ws[i],.str ws[i+1]]) hq)
  have g1:ws.getD i "" = ws[i]:=by simp [i1]
  have g2:ws.getD (i+1) "" = ws[i+1]:=by simp [i2]
  rw [g1,g2] at hR'
  exact hR'
 ·intro D H' s1 hD hd
  refine⟨D,(List.range (ws.length - 1)).map fun i=>ltS (ws.getD i "") (ws.getD (i+1) ""),rfl,SqL.of ?_,?_⟩
  ·rw [hd,List.filter_eq_self.mpr (fun _ _=>rfl),List.map_map]
   rfl
  ·rw [x4d]
   exact k H' (sp.trans s1)
theorem w5t:FnScope ["thing"] ["thing"] (q0e q6y):=fSc
theorem j7s {f:Addr} {fd:FuncData} {kk k1 k2:Nat} (F:Fun K "is_name_pair" "is_name_pair" q6y f fd) (C1:Cal P w K mg base "is_name" k1 ["thing"] (spP q2n)) (C2:Cal P w K mg base "is_whole" k2 ["thing"] (spP whole)) (h1:k1≤kk) (h2:k2≤kk)
  (CF:Cal P w K mg base "fits" (kk+1) ["thing", "tellers"] (q7g P w K mg base kk)):FnOk P w K mg base CX0 (kk+2) f fd ["thing"] (spP x0n):=by
 refine F.ok w5t q2c (fun _ A _ s H vs Q E hr h=>?_)
 obtain⟨B,v,d,hB,rfl,I,k⟩:=h
 obtain⟨g1,m1,t1⟩:=C1.at
 obtain⟨g2,m2,t2⟩:=C2.at
 refine⟨_,q0p (q0l (q0h CF hr (q0c (pv 0) (q0c (q2x (q0c (q3g rfl m1) (q0c (q3g rfl m2) q0b))) q0b)))),?_⟩
 exact⟨_,rfl,q4a (by show 2≤1000; decide),fun p hp=>⟨B,v,d,p,_,[q2n,whole],hB,rfl,I.same (q0g hp),SqT.of q0f,.cons (t1 kk h1) (.cons (t2 kk h2) .nil),(by show 2≤1000; decide),fun H' s'=>k H' ((q0g hp).trans s')⟩⟩
theorem w6b:FnScope ["thing"] ["thing"] (q0e q5a):=fSc
theorem j0f {f:Addr} {fd:FuncData} {kk k1 k2 k3:Nat} (F:Fun K "is_caller_triple" "is_caller_triple" q5a f fd) (C1:Cal P w K mg base "is_name" k1 ["thing"] (spP q2n)) (C2:Cal P w K mg base "is_from_one" k2 ["thing"] (spP (geD 1))) (C3:Cal P w K mg base "is_whole" k3 ["thing"] (spP whole)) (h1:k1≤kk) (h2:k2≤kk) (h3:k3≤kk)
  (CF:Cal P w K mg base "fits" (kk+1) ["thing", "tellers"] (q7g P w K mg base kk)):FnOk P w K mg base CX0 (kk+2) f fd ["thing"] (spP q4c):=by
 refine F.ok w6b q2c (fun _ A _ s H vs Q E hr h=>?_)
 obtain⟨B,v,d,hB,rfl,I,k⟩:=h
 obtain⟨g1,m1,t1⟩:=C1.at
 obtain⟨g2,m2,t2⟩:=C2.at
 obtain⟨g3,m3,t3⟩:=C3.at
 refine⟨_,q0p (q0l (q0h CF hr (q0c (pv 0) (q0c (q2x (q0c (q3g rfl m1) (q0c (q3g rfl m2) (q0c (q3g rfl m3) q0b)))) q0b)))),?_⟩
 exact⟨_,rfl,q4a (by show 3≤1000; decide),fun p hp=>⟨B,v,d,p,_,[q2n,geD 1,whole],hB,rfl,I.same (q0g hp),SqT.of q0f,.cons (t1 kk h1) (.cons (t2 kk h2) (.cons (t3 kk h3) .nil)),(by show 3≤1000; decide),fun H' s'=>k H' ((q0g hp).trans s')⟩⟩
noncomputable def z1e (f:Addr) (p:D→Bool):Sp:=fun vs H Q _=>∃ B v d,B≤100000∧vs=[v,.ref f]∧Is B H v d∧∀ H',q1b H H'→Q (.bl (x4r p d)) H'
theorem w5h:FnScope ["thing", "teller"] ["thing", "teller"] (q0e q4i):=fSc
theorem z6f (l:List D) (f:D→Str):((List.range l.length).map fun i=>f (l.getD i .non))=l.map f:=by
 apply List.ext_getElem?
 intro i
 by_cases hi:i < l.length
 ·simp [hi]
 ·rw [List.getElem?_eq_none (by simpa using hi),List.getElem?_eq_none (by simpa using hi)]
theorem z2k {f g:Addr} {fd:FuncData} {p:D→Bool} {kk:Nat} (F:Fun K "is_by_alphabet" "is_by_alphabet" q4i f fd) (hp:∀ d,p d=true→∃ x r,d=.tup (.str x::r))
  (CR:Cal P w K mg base "is_row_of" (kk+1) ["thing", "teller"] (j3m g p)) (CI:Cal P w K mg base "is_rising" 1 ["parts"] z8r):FnOk P w K mg base CX0 (kk+2) f fd ["thing", "teller"] (z1e g p):=by
 refine F.ok w5h (fun vs H Q E ⟨_,_,_,_,e,_⟩=>by subst e; rfl) (fun _ A _ s H vs Q E hr h=>?_)
 obtain⟨B,v,d,hB,rfl,I,k⟩:=h
 refine⟨_,q0p (q0l (q2b (q0h CR hr (q0c (pv 0) (q0c (pv 1) q0b))) (q2j (q0h CI (hr.mono (by omega)) (q0c (q3u (NB:=["part"]) (n:=1) (fr:=[]) (q5v (outer:=q0e q4i) rfl (by decide +kernel) rfl) rfl (q8h (pv 0))
   (fun _ _ _ _ _=>q1i (i:=0) (show (["part"]:List Str).Nodup by decide +kernel) rfl (Or.inl rfl)) (fun _ _ _ _ _=>q2u) (fun _ _ _ _ _=>q0u (ix_tupK (K:=K) rfl) (pv 0) q0a (fun _ _=>rfl))) q0b))))),?_⟩
 refine⟨_,rfl,_,rfl,B,v,d,hB,rfl,I,fun H1 s1=>⟨_,rfl,?_⟩⟩
 cases d with
 | tup ds =>
  have k1:∀ H',q1b H H'→Q (.bl (ds.all p && q8s (ds.map q1l))) H':=k
  show if ds.all p=true then _ else _
  cases hall:ds.all p with
  | false=>rw [hall] at k1; exact q1c (k1 H1 s1)
  | true =>
   rw [hall] at k1
   cases I with
   | @tup a xs _ ea hl r =>
   have ea1:=s1 _ _ ea
   have hlen:=r.length
   refine q1m ⟨_,rfl,a,rfl,⟨xs,SqT.of ea1⟩,q2w (J:=Itt K a) (k:=1) (n:=xs.length) (fun _=>true) (fun i=>.str (q1l (ds.getD i .non))) (show xs.length < sizeLine by rw [sizeLine_eq]; omega)
    (fun i H2 hi s2=>⟨xs,xs[i],SqT.of (s2 _ _ ea1),by simp [hi]⟩) (fun H2 s2=>⟨xs,SqT.of (s2 _ _ ea1),Nat.le_refl _⟩) ?_ ?_⟩
   ·intro i H2 t v H3 R hi s2 ht y hR
    obtain⟨rfl,hy⟩:=y
    have hv:=hy xs (SqT.of (s2 _ _ ea1))
    obtain⟨di,hdi,Ii⟩:=r.get hv
    have ht':∃ t0,t=[t0]:=by
     match t,ht with
     | [t0],_=>exact⟨t0,rfl⟩
    obtain⟨t0,rfl⟩:=ht'
    obtain⟨x,rr,rfl⟩:=hp di (List.all_eq_true.mp hall di (List.mem_of_getElem? hdi))
    have Ii2:=(Ii.same s1).same s2
    cases Ii2 with
    | @tup b ys _ eb hl2 r2 =>
    cases r2 with
    | cons h0 h1 =>
    cases h0
    have hR':=hR [some (.ref b)] H3 rfl (q1b.refl _)
    have ed:ds.getD i .non=.tup (.str x::rr):=by rw [List.getD_eq_getElem?_getD,hdi]; rfl
    rw [ed] at hR'
    exact⟨_,rfl,b,_,0,_,rfl,rfl,SqT.of eb,w4k _ _,hR'⟩
   ·intro D H' s2 hD hd
    refine⟨D,ds.map q1l,rfl,?_,by rw [List.length_map]; omega,fun H3 s3=>k1 H3 ((s1.trans s2).trans s3)⟩
    rw [hd,List.filter_eq_self.mpr (fun _ _=>rfl),← z6f ds q1l,List.map_map,hlen]
    rfl
 | non=>exact q1c (k H1 s1)
 | bl _=>exact q1c (k H1 s1)
 | int _=>exact q1c (k H1 s1)
 | str _=>exact q1c (k H1 s1)
 | lst _=>exact q1c (k H1 s1)
theorem w6i:FnScope ["thing"] ["thing"] (q0e x2u):=fSc
theorem j3p {f:Addr} {fd:FuncData} {kk:Nat} (F:Fun K "is_names" "is_names" x2u f fd) (CP:Cal P w K mg base "is_name_pair" kk ["thing"] (spP x0n))
  (CA:∀ g gd,FnOk P w K mg base CX0 kk g gd ["thing"] (spP x0n)→keepIn K (.ref g)=true→q3p K gd ["thing"] []→Cal P w K mg base "is_by_alphabet" (kk+2) ["thing", "teller"] (z1e g x0n)):FnOk P w K mg base CX0 (kk+3) f fd ["thing"] (spP x3v):=by
 refine F.ok w6i q2c (fun _ A _ s H vs Q E hr h=>?_)
 obtain⟨B,v,d,hB,rfl,I,k⟩:=h
 obtain⟨g,gd,G,m,kp,b⟩:=CP.ex
 obtain⟨gA,dA,GA,mA,kA,bA⟩:=(CA g gd G kp b).ex
 exact⟨_,q0p (q0l (x0w GA hr rfl mA kA bA .nil x4e (q0c (pv 0) (q0c (q3g rfl m) q0b)))),_,rfl,B,v,d,hB,rfl,I,k⟩
theorem w6p:FnScope ["thing"] ["thing"] (q0e q9t):=fSc
theorem z4w {f:Addr} {fd:FuncData} {kk:Nat} (F:Fun K "is_callers" "is_callers" q9t f fd) (CP:Cal P w K mg base "is_caller_triple" kk ["thing"] (spP q4c))
  (CA:∀ g gd,FnOk P w K mg base CX0 kk g gd ["thing"] (spP q4c)→keepIn K (.ref g)=true→q3p K gd ["thing"] []→Cal P w K mg base "is_by_alphabet" (kk+2) ["thing", "teller"] (z1e g q4c)):FnOk P w K mg base CX0 (kk+3) f fd ["thing"] (spP q7p):=by
 refine F.ok w6p q2c (fun _ A _ s H vs Q E hr h=>?_)
 obtain⟨B,v,d,hB,rfl,I,k⟩:=h
 obtain⟨g,gd,G,m,kp,b⟩:=CP.ex
 obtain⟨gA,dA,GA,mA,kA,bA⟩:=(CA g gd G kp b).ex
 exact⟨_,q0p (q0l (x0w GA hr rfl mA kA bA .nil x4e (q0c (pv 0) (q0c (q3g rfl m) q0b)))),_,rfl,B,v,d,hB,rfl,I,k⟩
theorem w6s:FnScope ["thing"] ["thing"] (q0e x2p):=fSc
theorem j4i {f:Addr} {fd:FuncData} {kk k1 k2:Nat} (F:Fun K "is_store" "is_store" x2p f fd) (C1:Cal P w K mg base "is_names" k1 ["thing"] (spP x3v)) (C2:Cal P w K mg base "is_callers" k2 ["thing"] (spP q7p)) (h1:k1≤kk) (h2:k2≤kk)
  (CF:Cal P w K mg base "fits" (kk+1) ["thing", "tellers"] (q7g P w K mg base kk)):FnOk P w K mg base CX0 (kk+2) f fd ["thing"] (spP q3v):=by
 refine F.ok w6s q2c (fun _ A _ s H vs Q E hr h=>?_)
 obtain⟨B,v,d,hB,rfl,I,k⟩:=h
 obtain⟨g1,m1,t1⟩:=C1.at
 obtain⟨g2,m2,t2⟩:=C2.at
 refine⟨_,q0p (q0l (q0h CF hr (q0c (pv 0) (q0c (q2x (q0c (q3g rfl m1) (q0c (q3g rfl m2) q0b))) q0b)))),?_⟩
 exact⟨_,rfl,q4a (by show 2≤1000; decide),fun p hp=>⟨B,v,d,p,_,[x3v,q7p],hB,rfl,I.same (q0g hp),SqT.of q0f,.cons (t1 kk h1) (.cons (t2 kk h2) .nil),(by show 2≤1000; decide),fun H' s'=>k H' ((q0g hp).trans s')⟩⟩
noncomputable def j7n:Sp:=fun vs H Q _=>∃ a b:Int,vs=[.int a,.int b]∧Q (.bl (decide (decide (a=0)=decide (b=0)))) H
theorem w5p:FnScope ["place", "last"] ["place", "last"] (q0e x6o):=fSc
theorem x4l (a b:Int):decide (V.int a=V.int b)=decide (a=b):=by
 rw [Bool.eq_iff_iff]; simp only [decide_eq_true_eq]
 exact⟨fun h=>V.int.inj h,fun h=>by rw [h]⟩
theorem z2x (a b:Bool):decide (V.bl a=V.bl b)=decide (a=b):=by
 rw [Bool.eq_iff_iff]; simp only [decide_eq_true_eq]
 exact⟨fun h=>V.bl.inj h,fun h=>by rw [h]⟩
theorem w1l {f:Addr} {fd:FuncData} (F:Fun K "is_end" "is_end" x6o f fd):FnOk P w K mg base CX0 1 f fd ["place", "last"] j7n:=by
 refine F.ok w5p (fun vs H Q E ⟨_,_,e,_⟩=>by subst e; rfl) (fun _ A _ s H vs Q E hr h=>?_)
 obtain⟨a,b,rfl,k⟩:=h
 refine⟨_,q0p (q0l (q1v q1w (q1v q1w (pv 0) q0a (q0r _)) (q1v q1w (pv 1) q0a (q0r _)) (q0r _))),?_⟩
 refine⟨_,rfl,rfl,_,rfl,rfl,rfl,?_⟩
 show Q (.bl (decide (V.bl (decide (V.int a=V.int 0))=V.bl (decide (V.int b=V.int 0))))) H
 rw [z2x,x4l,x4l]
 exact k
theorem w5y:FnScope ["thing"] ["thing"] (q0e x4p):=fSc
theorem z7a {p q r s:D→Bool} {d:D} (h:x0g [p,q,r,s] d=true):∃ a b c e,d=.tup [a,b,c,e]∧p a=true∧q b=true:=by
 cases d with
 | tup ds =>
  have h':q0w [p,q,r,s] ds=true:=h
  match ds,h' with
  | [a,b,c,e],h' =>
   simp only [q0w,Bool.and_eq_true] at h'
   exact⟨a,b,c,e,rfl,h'.1,h'.2.1⟩
  | [],h'=>cases h'
  | [_],h'=>simp [q0w] at h'
  | [_,_],h'=>simp [q0w] at h'
  | [_,_,_],h'=>simp [q0w] at h'
  | _::_::_::_::_::_,h'=>simp [q0w] at h'
 | _=>cases h
theorem ge_int {l:Int} {d:D} (h:geD l d=true):∃ i,d=.int i:=by
 cases d with
 | int i=>exact⟨i,rfl⟩
 | _=>cases h
theorem j7b {f:Addr} {fd:FuncData} {kk k1 k3 k4:Nat} (F:Fun K "is_pack" "is_pack" x4p f fd) (C1:Cal P w K mg base "is_from_nought" k1 ["thing"] (spP (geD 0))) (C3:Cal P w K mg base "is_seats" k3 ["thing"] (spP q2z)) (C4:Cal P w K mg base "is_store" k4 ["thing"] (spP q3v)) (h1:k1≤kk) (h3:k3≤kk) (h4:k4≤kk)
  (CF:Cal P w K mg base "fits" (kk+1) ["thing", "tellers"] (q7g P w K mg base kk)) (CE:Cal P w K mg base "is_end" 1 ["place", "last"] j7n):FnOk P w K mg base CX0 (kk+2) f fd ["thing"] (spP x6s):=by
 refine F.ok w5y q2c (fun _ A _ s H vs Q E hr h=>?_)
 obtain⟨B,v,d,hB,rfl,I,k⟩:=h
 obtain⟨g1,m1,t1⟩:=C1.at
 obtain⟨g3,m3,t3⟩:=C3.at
 obtain⟨g4,m4,t4⟩:=C4.at
 refine⟨_,q0p (q0l (q2b (q0h CF hr (q0c (pv 0) (q0c (q2x (q0c (q3g rfl m1) (q0c (q3g rfl m1) (q0c (q3g rfl m3) (q0c (q3g rfl m4) q0b))))) q0b)))
  (q2j (q0h CE (hr.mono (by omega)) (q0c (q0u q0o (pv 0) q0a (fun _ _=>rfl)) (q0c (q0u q0o (pv 0) q0a (fun _ _=>rfl)) q0b)))))),?_⟩
 refine⟨_,rfl,q4a (by show 4≤1000; decide),fun p hp=>⟨B,v,d,p,_,[geD 0,geD 0,q2z,q3v],hB,rfl,I.same (q0g hp),SqT.of q0f,.cons (t1 kk h1) (.cons (t1 kk h1) (.cons (t3 kk h3) (.cons (t4 kk h4) .nil))),(by show 4≤1000; decide),fun H' s'=>⟨_,rfl,?_⟩⟩⟩
 have k0:=k H' ((q0g hp).trans s')
 unfold x6s at k0
 cases hf:x0g [geD 0,geD 0,q2z,q3v] d with
 | false=>rw [hf] at k0; exact q1c k0
 | true =>
  rw [hf] at k0
  obtain⟨a,b,c,e,rfl,ha,hb⟩:=z7a hf
  obtain⟨i,rfl⟩:=ge_int ha
  obtain⟨j,rfl⟩:=ge_int hb
  have I2:=(I.same (q0g (o:=HO.tup [V.ref g1,V.ref g1,V.ref g3,V.ref g4]) hp)).same s'
  cases I2 with
  | @tup b0 ys _ eb hl r =>
  cases r with
  | cons i0 r =>
  cases r with
  | cons i1 r =>
  cases i0
  cases i1
  exact q1m ⟨_,rfl,b0,_,0,_,rfl,rfl,SqT.of eb,w4k _ _,_,rfl,b0,_,1,_,rfl,rfl,SqT.of eb,w6t _ _ _,i,j,rfl,k0⟩
end
end K1
namespace Kp
open PySem
noncomputable def q7t (m:Nat):D→Bool
 | .tup ds=>decide (ds.length=m) && ((q1z (ds.getD 0 .non) && whole (ds.getD (m - 1) .non)) && (!decide (m=3) || geD 1 (ds.getD 1 .non)))
 | _=>false
theorem z8x:q7t 2=x7m:=funext fun d=>by
 cases d with
 | tup ds =>
  show _=q0w [q1z,whole] ds
  rw [z6a]
  match ds with
  | []=>rfl
  | [_]=>rfl
  | [a,b]=>simp [q7t,two]
  | _::_::_::_=>simp [q7t,two]
 | _=>rfl
theorem z1i:q7t 3=q8e:=funext fun d=>by
 cases d with
 | tup ds =>
  show _=q0w [q1z,geD 1,whole] ds
  rw [j8p]
  match ds with
  | []=>rfl
  | [_]=>rfl
  | [_,_]=>rfl
  | [a,b,c] =>
   show (true && ((q1z a && whole c) && (false || geD 1 b)))=(q1z a && (geD 1 b && whole c))
   cases q1z a <;> cases whole c <;> cases geD 1 b <;> rfl
  | _::_::_::_::_=>simp [q7t,x1z]
 | _=>rfl
end Kp
namespace K1
open PySem L2 Kp
section
variable {P:Program} {w:World} {K:Frag} {mg:Str→Option Value} {base:Heap}
theorem x6y {d:D} (h:q1z d=true):∃ x,d=.str x:=by
 cases d with
 | str x=>exact⟨x,rfl⟩
 | _=>cases h
theorem j4y (d:D) (h:x0n d=true):∃ x r,d=.tup (.str x::r):=by
 rw [z9v] at h
 obtain⟨x,y,rfl,hx,_⟩:=x9j h
 obtain⟨z,rfl⟩:=x6y hx
 exact⟨z,[y],rfl⟩
theorem z4q (d:D) (h:q4c d=true):∃ x r,d=.tup (.str x::r):=by
 rw [x8n] at h
 obtain⟨x,y,y2,rfl,hx,_⟩:=x5f h
 obtain⟨z,rfl⟩:=x6y hx
 exact⟨z,[y,y2],rfl⟩
noncomputable def z7w:Sp:=fun vs H Q _=>∃ B v d m,B≤100000∧vs=[v,.int ((m:Nat):Int)]∧(m=2∨m=3)∧Is B H v d∧∀ H',q1b H H'→Q (.bl (q9y (q7t m) d)) H'
theorem w1w:FnScope ["_law_thing", "_law_size", "_law_ahead", "_law_part"] ["_law_thing", "_law_size"] (q0e q9w):=fSc
theorem j4x {f:Addr} {fd:FuncData} (F:Fun K "_law_rises" "_law_rises" q9w f fd) (T:Txt mg) (CF:Cal P w K mg base "_law_from" 1 ["_law_thing", "_law_least"] x1l) (CA:Cal P w K mg base "_law_any" 1 ["_law_thing"] (spP whole))
  (CZ:Cal P w K mg base "_law_sized" 1 ["_law_thing", "_law_size"] x3u) (CN:Cal P w K mg base "_law_name" 1 ["_law_thing"] (spP q1z)):FnOk P w K mg base CX0 2 f fd ["_law_thing", "_law_size"] z7w:=by
 refine F.ok w1w (fun vs H Q E ⟨_,_,_,_,_,e,_⟩=>by subst e; rfl) (fun _ A _ s H vs Q E hr h=>?_)
 obtain⟨B,v,d,m,hB,rfl,hm,I,k⟩:=h
 refine⟨_,@q0x _ _ _ _ _ (q1r (q3a (q2s (q0q q2h (by rfl) T.isi q2g (q1g (pv 0) (q1g (q7f (by rfl) T.tuple q2m) q0b))))) (@q1h _ _ _ (q0l x0q)) q0s)
  (@q0x _ _ _ _ _ (q0z (i:=2) w1w.nd (by rfl) (by exact Or.inl rfl) q0n)
  (@q0x _ _ _ _ _ (z3s PassesOwn.never (by rfl) (q8h (pv 0)) (q1i (i:=3) w1w.nd (by rfl) (by exact Or.inl rfl))
   (@q0x _ _ _ _ _ (q1r (PW.pt (q8r (q3a (q2s (q0h CZ hr (q1g (pv 3) (q1g (pv 1) q0b)))))
    (q8r (q3a (q2s (q0h CN hr (q4p (q0u q0o (pv 3) q0a q2q) q0b))))
    (q8r (q0t q9d (q0u q0o (pv 3) q0a q2q) (pv 2) (q0r _))
    (q9s (q3a (q2s (q0h CA hr (q4p (q0u q0o (pv 3) (q0i x6h (pv 1) q0a) z5d) q0b))))))))) (@q1h _ _ _ (q0l x0q)) q0s)
   (@q0x _ _ _ _ _ (q1r (PW.pt (x6n (q0t q1w (pv 1) q0a (q0r _)) (x7w (q3a (q2s (q0h CF hr (q4p (q0u q0o (pv 3) q0a q2q) (q5x q0a q0b)))))))) (@q1h _ _ _ (q0l x0q)) q0s)
   (@q1h _ _ _ (q0z (i:=2) w1w.nd (by rfl) (by exact Or.inl rfl) (q0u q0o (pv 3) q0a q2q))))))
  (@q1h _ _ _ (q0l x0q)))),?_⟩
 refine⟨_,rfl,_,_,_,_,rfl,I.ty,q9v K d,_,rfl,?_⟩
 cases d with
 | tup ds =>
  cases I with
  | @tup a xs _ ea hl r =>
  have hlen:=r.length
  have k2:∀ H',q1b H H'→Q (.bl (goR (q7t m) ds "")) H':=k
  refine q1c ⟨_,rfl,a,rfl,⟨xs,SqT.of ea⟩,x8e (K:=K) (a:=a) (xs:=xs) (fun i σ H'=>∃ l t,σ=[some (.ref a),some (.int (m:Int)),some (.str l),t]∧q1b H H'∧goR (q7t m) (ds.drop i) l=goR (q7t m) ds "")
   ⟨"",none,rfl,q1b.refl _,rfl⟩ (fun i σ H' _ ⟨_,_,_,s',_⟩=>SqT.of (s' _ _ ea)) ?_ ?_⟩
  ·rintro i x σ H' hx ⟨l,t,rfl,s',e⟩
   obtain⟨d,hd,Id⟩:=r.get hx
   have hi:i < ds.length:=(List.getElem?_eq_some_iff.mp hd).1
   have edr:ds.drop i=d::ds.drop (i+1):=by
    rw [List.drop_eq_getElem_cons hi,(List.getElem?_eq_some_iff.mp hd).2]
   rw [edr] at e
   have e0:((q7t m d && ltS l (q1l d)) && goR (q7t m) (ds.drop (i+1)) (q1l d))=goR (q7t m) ds "" := e
   have no:∀ {H2:Hp},q1b H' H2→((q7t m d && ltS l (q1l d))=false)→Q (.bl false) H2:=fun {H2} s2 z=>by
    have k3:=k2 H2 (s'.trans s2)
    rw [← e0,z] at k3
    exact k3
   have Id':=Id.same s'
   refine⟨_,rfl,_,rfl,B,x,d,(m:Int),hB,rfl,Id',_,rfl,?_⟩
   cases hz:x2z (m:Int) d with
   | false =>
    refine q1m (q1m (no (q1b.refl _) ?_))
    have:q7t m d=false:=by
     cases d with
     | tup ds' =>
      have z:decide ((ds'.length:Int)=(m:Int))=false:=hz
      have z':¬ ds'.length=m:=fun h=>by rw [h] at z; simp at z
      show (decide (ds'.length=m) && _)=false
      rw [decide_eq_false z']; rfl
     | _=>rfl
    rw [this]; rfl
   | true =>
    obtain⟨ds',rfl⟩:∃ ds',d=.tup ds':=by
     cases d with
     | tup ds'=>exact⟨ds',rfl⟩
     | _=>cases hz
    have hn:ds'.length=m:=by
     have z:decide ((ds'.length:Int)=(m:Int))=true:=hz
     have:=of_decide_eq_true z
     omega
    have ep:q7t m (.tup ds')=((q1z (ds'.getD 0 .non) && whole (ds'.getD (m - 1) .non)) && (!decide (m=3) || geD 1 (ds'.getD 1 .non))):=by
     show (decide (ds'.length=m) && _)=_
     rw [decide_eq_true hn]; rfl
    have at':∀ j,j < m→ds'[j]? = some (ds'.getD j .non):=fun j hj=>by
     have:j < ds'.length:=by omega
     simp [this]
    cases Id' with
    | @tup a' xs' _ ea' hl' r' =>
    obtain⟨v0,e1,I0⟩:=r'.at (i:=0) (at' 0 (by omega))
    obtain⟨v1,e2,I1⟩:=r'.at (i:=1) (at' 1 (by omega))
    obtain⟨vl,e3,Il⟩:=r'.at (i:=m - 1) (at' (m - 1) (by omega))
    rw [show ((m - 1:Nat):Int)=(m:Int) - 1 by omega] at e3
    refine q1c ⟨_,rfl,a',xs',0,v0,rfl,rfl,SqT.of ea',e1,B,v0,_,hB,rfl,I0,fun H2 s2=>⟨_,rfl,?_⟩⟩
    cases hnm:q1z (ds'.getD 0 .non) with
    | false =>
     refine q1m (q1m (no s2 ?_))
     rw [ep,hnm]; rfl
    | true =>
     obtain⟨x0,hx0⟩:=x6y hnm
     have hw:q1l (.tup ds')=x0:=by
      match ds',hn,hx0 with
      | [],hn,hx0=>exfalso; simp at hn; omega
      | y0::yr,hn,hx0 =>
       have:y0=.str x0:=hx0
       rw [this]; rfl
     rw [hx0] at I0
     cases I0
     refine q1c ⟨_,rfl,a',xs',0,_,rfl,rfl,SqT.of (s2 _ _ ea'),e1,_,rfl,x0,l,rfl,rfl,_,rfl,?_⟩
     show if (!ltS l x0)=true then _ else _
     cases hlt:ltS l x0 with
     | false =>
      refine q1m (q1m (no s2 ?_))
      rw [hw,hlt,Bool.and_false]
     | true =>
      refine q1c ⟨_,rfl,_,rfl,_,_,rfl,rfl,a',xs',(m:Int) - 1,vl,rfl,rfl,SqT.of (s2 _ _ ea'),e3,B,vl,_,hB,rfl,Il.same s2,fun H3 s3=>⟨_,rfl,?_⟩⟩
      cases hwl:whole (ds'.getD (m - 1) .non) with
      | false =>
       refine q1m (no (s2.trans s3) ?_)
       rw [ep,hnm,hwl]; rfl
      | true =>
       refine q1c ⟨_,rfl,rfl,_,rfl,?_⟩
       have fin:∀ {H4:Hp},q1b H' H4→q7t m (.tup ds')=true→goR (q7t m) (ds.drop (i+1)) x0=goR (q7t m) ds "" := fun {H4} _ z=>by
        rw [← e0,z,hw,hlt]; rfl
       by_cases h3:m=3
       ·rw [decide_eq_true (show V.int (m:Int)=V.int 3 by rw [h3]; rfl)]
        refine q1m ⟨_,rfl,a',xs',1,v1,rfl,rfl,SqT.of (s3 _ _ (s2 _ _ ea')),e2,B,v1,_,1,hB,rfl,(I1.same s2).same s3,fun H4 s4=>⟨_,rfl,?_⟩⟩
        cases hg:geD 1 (ds'.getD 1 .non) with
        | false =>
         refine q1m (no ((s2.trans s3).trans s4) ?_)
         rw [ep,hnm,hwl,hg,decide_eq_true h3]; rfl
        | true =>
         refine q1c ⟨_,rfl,a',xs',0,_,rfl,rfl,SqT.of (s4 _ _ (s3 _ _ (s2 _ _ ea'))),e1,x0,_,rfl,s'.trans ((s2.trans s3).trans s4),fin ((s2.trans s3).trans s4) ?_⟩
         rw [ep,hnm,hwl,hg,Bool.or_true]; rfl
       ·rw [decide_eq_false (show ¬ V.int (m:Int)=V.int 3 from fun z=>h3 (by have:=V.int.inj z; omega))]
        refine q1c (q1c ⟨_,rfl,a',xs',0,_,rfl,rfl,SqT.of (s3 _ _ (s2 _ _ ea')),e1,x0,_,rfl,s'.trans (s2.trans s3),fin (s2.trans s3) ?_⟩)
        rw [ep,hnm,hwl,decide_eq_false h3]; rfl
  ·rintro σ H' ⟨l,t,rfl,s',e⟩
   rw [hlen,List.drop_length] at e
   have k3:=k2 H' s'
   rw [← e] at k3
   exact k3
 | non=>exact q1m (k H (q1b.refl _))
 | bl _=>exact q1m (k H (q1b.refl _))
 | int _=>exact q1m (k H (q1b.refl _))
 | str _=>exact q1m (k H (q1b.refl _))
 | lst _=>exact q1m (k H (q1b.refl _))
theorem x9q {m:Nat} {d:D} (h:x2z (m:Int) d=true):∃ ds,d=.tup ds∧ds.length=m:=by
 cases d with
 | tup ds =>
  have z:decide ((ds.length:Int)=(m:Int))=true:=h
  have:=of_decide_eq_true z
  exact⟨ds,rfl,by omega⟩
 | _=>cases h
theorem j3l {d:D} (h:x2z 2 d=false):q8l d=false:=by
 cases d with
 | tup ds =>
  match ds,h with
  | [],_=>rfl
  | [_],_=>rfl
  | [a,b],h=>cases h
  | _::_::_::_,_=>rfl
 | _=>rfl
theorem j7r {d:D} (h:x2z 4 d=false):x0y d=false:=by
 cases d with
 | tup ds =>
  match ds,h with
  | [],_=>rfl
  | [_],_=>rfl
  | [_,_],_=>rfl
  | [_,_,_],_=>rfl
  | [_,_,_,_],h=>cases h
  | _::_::_::_::_::_,_=>rfl
 | _=>rfl
theorem w4h:FnScope ["_law_thing"] ["_law_thing"] (q0e x0a):=fSc
theorem j0e {f:Addr} {fd:FuncData} (F:Fun K "_law_store" "_law_store" x0a f fd) (CZ:Cal P w K mg base "_law_sized" 1 ["_law_thing", "_law_size"] x3u) (CR:Cal P w K mg base "_law_rises" 2 ["_law_thing", "_law_size"] z7w):FnOk P w K mg base CX0 3 f fd ["_law_thing"] (spP q8l):=by
 refine F.ok w4h q2c (fun _ A _ s H vs Q E hr h=>?_)
 obtain⟨B,v,d,hB,rfl,I,k⟩:=h
 have r1:=hr.mono (show 1≤2 by decide)
 refine⟨_,q0p (q0l (q2b (q0h CZ r1 (q1g (pv 0) (q5x q0a q0b))) (q2b (q0h CR hr (q4p (q0u q0o (pv 0) q0a q2q) (q5x q0a q0b))) (q2j (q0h CR hr (q4p (q0u q0o (pv 0) q0a q2q) (q5x q0a q0b))))))),?_⟩
 refine⟨_,rfl,B,v,d,2,hB,rfl,I,_,rfl,?_⟩
 cases hz:x2z 2 d with
 | false =>
  have k0:=k H (q1b.refl _)
  rw [j3l hz] at k0
  exact q1c k0
 | true =>
  obtain⟨ds,rfl,hn⟩:=x9q (m:=2) hz
  match ds,hn,k,I with
  | [y0,y1],_,k,I =>
  have k1:∀ H',q1b H H'→Q (.bl (q9y x7m y0 && q9y q8e y1)) H':=k
  cases I with
  | @tup a xs _ ea hl r =>
  obtain⟨v0,e0,I0⟩:=r.at (i:=0) rfl
  obtain⟨v1,e1,I1⟩:=r.at (i:=1) rfl
  rw [← z8x,← z1i] at k1
  refine q1m ⟨_,rfl,a,xs,0,v0,rfl,rfl,SqT.of ea,e0,B,v0,y0,2,hB,rfl,.inl rfl,I0,fun H1 s1=>⟨_,rfl,?_⟩⟩
  cases hr0:q9y (q7t 2) y0 with
  | false=>rw [hr0] at k1; exact q1c (k1 _ s1)
  | true =>
   rw [hr0] at k1
   exact q1m ⟨_,rfl,a,xs,1,v1,rfl,rfl,SqT.of (s1 _ _ ea),e1,B,v1,y1,3,hB,rfl,.inr rfl,I1.same s1,fun H2 s2=>k1 _ (s1.trans s2)⟩
noncomputable def z0m:Sp:=fun vs H Q _=>∃ B u v a b,B≤100000∧vs=[u,v]∧Is B H u a∧Is B H v b∧∀ H',q1b H H'→Q (.bl (q4u a b)) H'
theorem w5g:FnScope ["_law_place", "_law_last"] ["_law_place", "_law_last"] (q0e q9o):=fSc
theorem j0h {f:Addr} {fd:FuncData} (F:Fun K "_law_stand" "_law_stand" q9o f fd) (CF:Cal P w K mg base "_law_from" 1 ["_law_thing", "_law_least"] x1l):FnOk P w K mg base CX0 2 f fd ["_law_place", "_law_last"] z0m:=by
 refine F.ok w5g (fun vs H Q E ⟨_,_,_,_,_,_,e,_⟩=>by subst e; rfl) (fun _ A _ s H vs Q E hr h=>?_)
 obtain⟨B,u,v,a,b,hB,rfl,Iu,Iv,k⟩:=h
 refine⟨_,@q0x _ _ _ _ _ (q1r (PW.pt (q8r (q3a (q2s (q0h CF hr (q1g (pv 0) (q5x q0a q0b))))) (q9s (q3a (q2s (q0h CF hr (q1g (pv 1) (q5x q0a q0b)))))))) (@q1h _ _ _ (q0l x0q)) q0s)
  (@q1h _ _ _ (q0l (z9e (q2b (q1v q1w (pv 0) q0a (q0r _)) (q2j (q1v q1w (pv 1) q0a (q0r _)))) (q2j (q2b (q1v z1y (pv 0) q0a (q0r _)) (q2j (q1v z1y (pv 1) q0a (q0r _)))))))),?_⟩
 refine⟨_,rfl,B,u,a,0,hB,rfl,Iu,fun H1 s1=>⟨_,rfl,?_⟩⟩
 cases ha:geD 0 a with
 | false =>
  have k0:=k _ s1
  unfold q4u at k0
  rw [ha] at k0
  exact q1m (q1m k0)
 | true =>
  refine q1c ⟨_,rfl,B,v,b,0,hB,rfl,Iv.same s1,fun H2 s2=>⟨_,rfl,?_⟩⟩
  have k0:=k _ (s1.trans s2)
  unfold q4u at k0
  rw [ha] at k0
  cases hb:geD 0 b with
  | false =>
   rw [hb] at k0
   exact q1m k0
  | true =>
   rw [hb] at k0
   obtain⟨i,rfl⟩:∃ i,a=.int i:=by
    cases a with
    | int i=>exact⟨i,rfl⟩
    | _=>cases ha
   obtain⟨j,rfl⟩:∃ j,b=.int j:=by
    cases b with
    | int j=>exact⟨j,rfl⟩
    | _=>cases hb
   cases Iu
   cases Iv
   have k1:Q (.bl ((decide (i=0) && decide (j=0)) || (decide (0 < i) && decide (0 < j)))) H2:=k0
   have ei:∀ i:Int,decide (V.int i=V.int 0)=decide (i=0):=fun i=>by
    rw [Bool.eq_iff_iff]; simp only [decide_eq_true_eq]; exact⟨fun h=>V.int.inj h,fun h=>by rw [h]⟩
   refine q1c ⟨_,rfl,rfl,_,rfl,?_⟩
   rw [ei]
   cases h1:decide (i=0) with
   | true =>
    rw [h1] at k1
    refine q1m ⟨_,rfl,rfl,_,rfl,?_⟩
    rw [ei]
    cases h2:decide (j=0) with
    | true=>rw [h2] at k1; exact q1m k1
    | false =>
     rw [h2] at k1
     have hi:i=0:=of_decide_eq_true h1
     refine q1c ⟨_,rfl,_,_,rfl,rfl,_,rfl,?_⟩
     have k2:Q (.bl (decide (0 < i) && decide (0 < j))) H2:=k1
     rw [decide_eq_false (show ¬ (0:Int) < i by omega)] at k2 ⊢
     exact q1c k2
   | false =>
    rw [h1] at k1
    refine q1c ⟨_,rfl,?_⟩
    refine q1c ⟨_,rfl,_,_,rfl,rfl,_,rfl,?_⟩
    have k2:Q (.bl (decide (0 < i) && decide (0 < j))) H2:=k1
    cases h3:decide (0 < i) with
    | false=>rw [h3] at k2; exact q1c k2
    | true=>rw [h3] at k2; exact q1m ⟨_,rfl,_,_,rfl,rfl,k2⟩
theorem w3x:FnScope ["_law_thing"] ["_law_thing"] (q0e x0o):=fSc
theorem j1q {f:Addr} {fd:FuncData} (F:Fun K "_law_pack" "_law_pack" x0o f fd) (CZ:Cal P w K mg base "_law_sized" 1 ["_law_thing", "_law_size"] x3u) (CD:Cal P w K mg base "_law_stand" 2 ["_law_place", "_law_last"] z0m)
  (CS:Cal P w K mg base "_law_seats" 2 ["_law_thing"] (spP q4o)) (CT:Cal P w K mg base "_law_store" 3 ["_law_thing"] (spP q8l)):FnOk P w K mg base CX0 4 f fd ["_law_thing"] (spP x0y):=by
 refine F.ok w3x q2c (fun _ A _ s H vs Q E hr h=>?_)
 obtain⟨B,v,d,hB,rfl,I,k⟩:=h
 have r1:=hr.mono (show 1≤3 by decide)
 have r2:=hr.mono (show 2≤3 by decide)
 refine⟨_,q0p (q0l (q2b (q0h CZ r1 (q1g (pv 0) (q5x q0a q0b))) (q2b (q0h CD r2 (q4p (q0u q0o (pv 0) q0a q2q) (q4p (q0u q0o (pv 0) q0a q2q) q0b)))
  (q2b (q0h CS r2 (q4p (q0u q0o (pv 0) q0a q2q) q0b)) (q2j (q0h CT hr (q4p (q0u q0o (pv 0) q0a q2q) q0b))))))),?_⟩
 refine⟨_,rfl,B,v,d,4,hB,rfl,I,_,rfl,?_⟩
 cases hz:x2z 4 d with
 | false =>
  have k0:=k H (q1b.refl _)
  rw [j7r hz] at k0
  exact q1c k0
 | true =>
  obtain⟨ds,rfl,hn⟩:=x9q (m:=4) hz
  match ds,hn,k,I with
  | [y0,y1,y2,y3],_,k,I =>
  have k1:∀ H',q1b H H'→Q (.bl (q4u y0 y1 && (q4o y2 && q8l y3))) H':=k
  cases I with
  | @tup a xs _ ea hl r =>
  obtain⟨v0,e0,I0⟩:=r.at (i:=0) rfl
  obtain⟨v1,e1,I1⟩:=r.at (i:=1) rfl
  obtain⟨v2,e2,I2⟩:=r.at (i:=2) rfl
  obtain⟨v3,e3,I3⟩:=r.at (i:=3) rfl
  refine q1m ⟨_,rfl,a,xs,0,v0,rfl,rfl,SqT.of ea,e0,_,rfl,a,xs,1,v1,rfl,rfl,SqT.of ea,e1,B,v0,v1,y0,y1,hB,rfl,I0,I1,fun H1 s1=>⟨_,rfl,?_⟩⟩
  cases h0:q4u y0 y1 with
  | false=>rw [h0] at k1; exact q1c (k1 _ s1)
  | true =>
   rw [h0] at k1
   refine q1m ⟨_,rfl,a,xs,2,v2,rfl,rfl,SqT.of (s1 _ _ ea),e2,B,v2,y2,hB,rfl,I2.same s1,fun H2 s2=>⟨_,rfl,?_⟩⟩
   cases h1:q4o y2 with
   | false=>rw [h1] at k1; exact q1c (k1 _ (s1.trans s2))
   | true =>
    rw [h1] at k1
    exact q1m ⟨_,rfl,a,xs,3,v3,rfl,rfl,SqT.of (s2 _ _ (s1 _ _ ea)),e3,B,v3,y3,hB,rfl,(I3.same s1).same s2,fun H3 s3=>k1 _ ((s1.trans s2).trans s3)⟩
theorem x0p {tb:List (Str × List (D→Bool))} {d:D} {ps:List (D→Bool)} (h:tb.lookup (q1l d)=some ps) (h0:tb.lookup ("" : Str)=none):∃ x r,d=.tup (.str x::r)∧q2t tb d=q0w ps r:=by
 obtain⟨r,e⟩:=q6p (d:=d) rfl (fun z=>by rw [z,h0] at h; cases h)
 generalize q1l d=x at e h
 subst e
 refine⟨_,r,rfl,?_⟩
 show (match tb.lookup x with | some ps=>q0w ps r | none=>false)=_
 rw [h]
theorem x2r {tb:List (Str × List (D→Bool))} {x:Str} {ps:List (D→Bool)} (h:tb.lookup x=some ps):(x,ps)∈tb:=L2.q5z h
structure TabOk (P:Program) (w:World) (K:Frag) (mg:Str→Option Value) (base:Heap) (name:Str) (kk:Nat) (tb:List (Str × List (D→Bool))):Prop where
 ex:∃ a es n,mg name=some (.ref a)∧K.lookup a=some ⟨.type "dict",none,.dict es n,#[]⟩∧(a==sysModules)=false∧Tbl P w K mg base kk es.toList tb
 no:tb.lookup ("" : Str)=none
 few:∀ q∈tb,q.2.length≤1000
theorem q7q (es:Array DictEntry) (x:Str):findBy Value.isStrOf es x=((es.toList.find? fun e=>Value.isStrOf x e.key).map (·.val)):=by
 unfold findBy
 rw [← Array.find?_toList]
theorem w7q:FnScope ["thing"] ["thing"] (q0e x4w):=fSc
theorem j7x {f:Addr} {fd:FuncData} {kk:Nat} {tb:List (Str × List (D→Bool))} (F:Fun K "is_deed" "is_deed" x4w f fd) (TB:TabOk P w K mg base "DEED_TELLERS" kk tb)
  (CW:Cal P w K mg base "first_word" 1 ["thing"] x0i) (CB:Cal P w K mg base "fits_behind_word" (kk+2) ["thing", "tellers"] (z0z P w K mg base kk)):FnOk P w K mg base CX0 (kk+3) f fd ["thing"] (spP (q2t tb)):=by
 refine F.ok w7q q2c (fun _ A _ s H vs Q E hr h=>?_)
 obtain⟨B,v,d,hB,rfl,I,k⟩:=h
 obtain⟨aD,es,n,mD,lD,hsys,hT⟩:=TB.ex
 refine⟨_,q0p (q0l (q0h CB hr (q0c (pv 0) (q0c (x2j (q3g rfl mD) (q0c (q0h CW (hr.mono (by omega)) (q0c (pv 0) q0b)) q0b)) q0b)))),?_⟩
 obtain⟨vv,rel,hv⟩:=hT.find (x:=q1l d)
 rw [← q7q] at rel
 refine⟨_,rfl,aD,es,n,rfl,lD,hT.keys,hsys,_,rfl,B,v,d,hB,rfl,I,_,vv,rfl,rel,B,v,d,vv,hB,rfl,I,?_⟩
 rcases hv with ⟨hn,rfl⟩ | ⟨ps,t,gs,hs,rfl,hq,ht⟩
 ·have k0:=k H (q1b.refl _)
  rw [x0k hn] at k0
  exact .inl ⟨rfl,k0⟩
 ·obtain⟨x,r,rfl,e⟩:=x0p hs TB.no
  refine .inr ⟨t,gs,ps,_,r,rfl,rfl,hq H,ht,?_,fun H' s'=>?_⟩
  ·rw [ht.length]; exact TB.few _ (x2r hs)
  ·have k0:=k H' s'
   rw [e] at k0
   exact k0
theorem w7p:FnScope ["thing"] ["thing"] (q0e x3t):=fSc
theorem j7q {f:Addr} {fd:FuncData} {kk:Nat} {tb:List (Str × List (D→Bool))} (F:Fun K "is_what" "is_what" x3t f fd) (TB:TabOk P w K mg base "WHAT_TELLERS" kk tb)
  (CW:Cal P w K mg base "first_word" 1 ["thing"] x0i) (CB:Cal P w K mg base "fits_behind_word" (kk+2) ["thing", "tellers"] (z0z P w K mg base kk)):FnOk P w K mg base CX0 (kk+3) f fd ["thing"] (spP (q2t tb)):=by
 refine F.ok w7p q2c (fun _ A _ s H vs Q E hr h=>?_)
 obtain⟨B,v,d,hB,rfl,I,k⟩:=h
 obtain⟨aD,es,n,mD,lD,hsys,hT⟩:=TB.ex
 refine⟨_,q0p (q0l (q0h CB hr (q0c (pv 0) (q0c (x2j (q3g rfl mD) (q0c (q0h CW (hr.mono (by omega)) (q0c (pv 0) q0b)) q0b)) q0b)))),?_⟩
 obtain⟨vv,rel,hv⟩:=hT.find (x:=q1l d)
 rw [← q7q] at rel
 refine⟨_,rfl,aD,es,n,rfl,lD,hT.keys,hsys,_,rfl,B,v,d,hB,rfl,I,_,vv,rfl,rel,B,v,d,vv,hB,rfl,I,?_⟩
 rcases hv with ⟨hn,rfl⟩ | ⟨ps,t,gs,hs,rfl,hq,ht⟩
 ·have k0:=k H (q1b.refl _)
  rw [x0k hn] at k0
  exact .inl ⟨rfl,k0⟩
 ·obtain⟨x,r,rfl,e⟩:=x0p hs TB.no
  refine .inr ⟨t,gs,ps,_,r,rfl,rfl,hq H,ht,?_,fun H' s'=>?_⟩
  ·rw [ht.length]; exact TB.few _ (x2r hs)
  ·have k0:=k H' s'
   rw [e] at k0
   exact k0
theorem w5s:FnScope ["thing"] ["thing"] (q0e x2o):=fSc
theorem j4c {f:Addr} {fd:FuncData} {kk k1 k2:Nat} (F:Fun K "is_entry" "is_entry" x2o f fd) (C1:Cal P w K mg base "is_from_one" k1 ["thing"] (spP (geD 1))) (C2:Cal P w K mg base "is_what" k2 ["thing"] (spP x2a)) (h1:k1≤kk) (h2:k2≤kk)
  (CF:Cal P w K mg base "fits" (kk+1) ["thing", "tellers"] (q7g P w K mg base kk)):FnOk P w K mg base CX0 (kk+2) f fd ["thing"] (spP q3r):=by
 refine F.ok w5s q2c (fun _ A _ s H vs Q E hr h=>?_)
 obtain⟨B,v,d,hB,rfl,I,k⟩:=h
 obtain⟨g1,m1,t1⟩:=C1.at
 obtain⟨g2,m2,t2⟩:=C2.at
 refine⟨_,q0p (q0l (q0h CF hr (q0c (pv 0) (q0c (q2x (q0c (q3g rfl m1) (q0c (q3g rfl m2) q0b))) q0b)))),?_⟩
 refine⟨_,rfl,(by show 2≤sizeLine; rw [sizeLine_eq]; decide),fun p hp=>⟨B,v,d,p,_,[geD 1,x2a],hB,rfl,I.same (q0g hp),SqT.of q0f,.cons (t1 kk h1) (.cons (t2 kk h2) .nil),(by show 2≤1000; decide),fun H' s'=>k H' ((q0g hp).trans s')⟩⟩
theorem w6c:FnScope ["thing"] ["thing"] (q0e x2m):=fSc
theorem j3a (d:D):z8f d=q4n d:=by cases d <;> rfl
theorem j4e {f:Addr} {fd:FuncData} (F:Fun K "is_truth" "is_truth" x2m f fd) (T:Txt mg):FnOk P w K mg base CX0 1 f fd ["thing"] (spP q4n):=by
 refine F.ok w6c q2c (fun _ A _ s H vs Q E hr h=>?_)
 obtain⟨B,v,d,hB,rfl,I,k⟩:=h
 refine⟨_,q0p (q0l (q0q q2h rfl T.isi q2g (q1g (pv 0) (q1g (q7f rfl T.bool q7l) q0b)))),?_⟩
 have k0:=k H (q1b.refl _)
 rw [← j3a] at k0
 exact⟨_,rfl,_,_,_,_,rfl,I.ty,q8f K d,k0⟩
theorem w7s:FnScope ["thing"] ["thing"] (q0e x5i):=fSc
theorem j9c {f:Addr} {fd:FuncData} (F:Fun K "is_head" "is_head" x5i f fd) (CK:Cal P w K mg base "is_keeper" 2 ["thing"] (spP q0k)):FnOk P w K mg base CX0 3 f fd ["thing"] (spP q8m):=by
 refine F.ok w7s q2c (fun _ A _ s H vs Q E hr h=>?_)
 obtain⟨B,v,d,hB,rfl,I,k⟩:=h
 refine⟨_,q0p (q0l (z9e (q1v z2i (pv 0) x4n (q0r _)) (q2j (q0h CK hr (q1g (pv 0) q0b))))),?_⟩
 refine⟨_,rfl,rfl,_,rfl,?_⟩
 have go:∀ (d:D),d≠.non→Is B H v d→(∀ H',q1b H H'→Q (.bl (q8m d)) H')→decide (v=V.non)=false∧∀ H',q1b H H'→Q (.bl (q0k d)) H':=fun d hd I k=>by
  cases I with
  | non=>exact absurd rfl hd
  | _=>exact⟨rfl,k⟩
 by_cases hd:d=.non
 ·subst hd
  cases I
  exact q1m (k H (q1b.refl _))
 ·obtain⟨e,k'⟩:=go d hd I k
  rw [e]
  exact q1c ⟨_,rfl,B,v,d,hB,rfl,I,k'⟩
theorem w2t (p:D→Bool) (d:D):w2u p d=w1v p d:=by cases d <;> rfl
theorem w6m:FnScope ["thing"] ["thing"] (q0e q9g):=fSc
theorem z5y {f:Addr} {fd:FuncData} {kk:Nat} (F:Fun K "is_entries" "is_entries" q9g f fd) (T:Txt mg) (CE:Cal P w K mg base "is_entry" kk ["thing"] (spP q3r))
  (CR:∀ g gd,FnOk P w K mg base CX0 kk g gd ["thing"] (spP q3r)→keepIn K (.ref g)=true→q3p K gd ["thing"] []→Cal P w K mg base "is_row_of" (kk+1) ["thing", "teller"] (j3m g q3r)):FnOk P w K mg base CX0 (kk+2) f fd ["thing"] (spP q2l):=by
 refine F.ok w6m q2c (fun _ A _ s H vs Q E hr h=>?_)
 obtain⟨B,v,d,hB,rfl,I,k⟩:=h
 obtain⟨g,gd,G,m,kp,b⟩:=CE.ex
 obtain⟨gR,dR,GR,mR,kR,bR⟩:=(CR g gd G kp b).ex
 refine⟨_,q0p (q0l (q2b (x0w GR hr rfl mR kR bR .nil x4e (q1g (pv 0) (q1g (q3g rfl m) q0b))) (q2j (q1v x7v (q0q q0y rfl T.len PySem.boot_len (q1g (pv 0) q0b)) q0a (q0r _))))),?_⟩
 refine⟨_,rfl,B,v,d,hB,rfl,I,fun H1 s1=>⟨_,rfl,?_⟩⟩
 have k0:=k H1 s1
 unfold q2l at k0
 rw [← w2t] at k0
 cases hr0:w2u q3r d with
 | false=>rw [hr0] at k0; exact q1c k0
 | true =>
  rw [hr0] at k0
  obtain⟨ds,rfl⟩:∃ ds,d=.tup ds:=by
   cases d with
   | tup ds=>exact⟨ds,rfl⟩
   | _=>cases hr0
  cases I with
  | @tup a xs _ ea hl r =>
  refine q1m ⟨_,rfl,a,xs,rfl,.inr (SqT.of (s1 _ _ ea)),_,_,rfl,rfl,?_⟩
  have e:decide ((xs.length:Int)≤5)=decide (z5k (.tup ds)≤5):=by
   rw [r.length,Bool.eq_iff_iff]; simp only [decide_eq_true_eq]; show (ds.length:Int)≤5↔ds.length≤5; omega
  show Q (.bl (decide ((xs.length:Int)≤5))) H1
  rw [e]
  exact k0
theorem w5r:FnScope ["thing"] ["thing"] (q0e q5g):=fSc
theorem j8o {f:Addr} {fd:FuncData} {kk:Nat} (F:Fun K "is_pack_to_send" "is_pack_to_send" q5g f fd) (CP:Cal P w K mg base "is_pack" kk ["thing"] (spP x6s)):FnOk P w K mg base CX0 (kk+1) f fd ["thing"] (spP x0r):=by
 refine F.ok w5r q2c (fun _ A _ s H vs Q E hr h=>?_)
 obtain⟨B,v,d,hB,rfl,I,k⟩:=h
 refine⟨_,q0p (q0l (q2b (q0h CP hr (q1g (pv 0) q0b)) (q2j (q1v j0m (q0u q0o (pv 0) q0a q2q) q0a (q0r _))))),?_⟩
 refine⟨_,rfl,B,v,d,hB,rfl,I,fun H1 s1=>⟨_,rfl,?_⟩⟩
 have k0:=k H1 s1
 unfold x0r at k0
 cases hp:x6s d with
 | false=>rw [hp] at k0; exact q1c k0
 | true =>
  rw [hp] at k0
  obtain⟨i,r,rfl,hi⟩:=x6u ((z6r d).symm.trans hp)
  cases I with
  | @tup a xs _ ea hl rr =>
  obtain⟨v0,e0,I0⟩:=rr.at (i:=0) rfl
  cases I0
  exact q1m ⟨_,rfl,a,xs,0,_,rfl,rfl,SqT.of (s1 _ _ ea),e0,_,_,rfl,rfl,k0⟩
theorem w4m:FnScope ["thing", "word"] ["thing"] (q0e x0m):=fSc
theorem x8z {d:D} (h:q2t q3c d=true):∃ x a b r,d=.tup (.str x::a::b::r)∧(q0k a=true∨q2n a=true)∧(q0k b=true∨q2n b=true) ∧
  (x = "ask" ∨ x = "hand" → ∃ c i j r',r=c::D.int i::D.int j::r'):=by
 unfold q2t at h
 split at h
 ·rename_i x r
  unfold q3c at h
  simp only [List.lookup_cons,List.lookup_nil] at h
  have ne:∀ {s t:Str},s≠t→(s==t)=false:=fun h=>by simp [h]
  have yes:∀ s:Str,(s==s)=true:=fun s=>by simp
  by_cases h1:x = "ask"
  ·subst h1
   rw [yes] at h
   have h':q0w [q0k,q0k,geD 1,geD 0,geD 0] r=true:=h
   rw [j2c] at h'
   match r,h' with
   | [a,b,t,p,l],h' =>
    simp only [Bool.and_eq_true] at h'
    obtain⟨i,rfl⟩:=ge_int h'.2.2.2.1
    obtain⟨j,rfl⟩:=ge_int h'.2.2.2.2
    exact⟨_,a,b,_,rfl,.inl h'.1,.inl h'.2.1,fun _=>⟨t,i,j,[],rfl⟩⟩
  rw [ne h1] at h
  by_cases h3:x = "hand"
  ·subst h3
   rw [ne (show ("hand" : Str) ≠ "voice" by decide +kernel),yes] at h
   have h':q0w [q0k,q0k,geD 1,geD 0,geD 0,q2l,geD 0] r=true:=h
   rw [j7k] at h'
   match r,h' with
   | [a,b,t,p,l,e,m],h' =>
    simp only [Bool.and_eq_true] at h'
    obtain⟨i,rfl⟩:=ge_int h'.2.2.2.1
    obtain⟨j,rfl⟩:=ge_int h'.2.2.2.2.1
    exact⟨_,a,b,_,rfl,.inl h'.1,.inl h'.2.1,fun _=>⟨t,i,j,_,rfl⟩⟩
  rw [ne h3] at h
  have hx:∀ r':List D,x = "ask" ∨ x = "hand" → ∃ c i j r'',r'=c::D.int i::D.int j::r'':=fun (_:List D) z=>by rcases z with z | z; exact absurd z h1; exact absurd z h3
  have four:∀ {p q s t:D→Bool} {r:List D},q0w [p,q,s,t] r=true→∃ a b c d,r=[a,b,c,d]∧p a=true∧q b=true:=fun {p q s t r} h=>by
   rw [z4j] at h
   match r,h with
   | [a,b,c,d],h =>
    simp only [Bool.and_eq_true] at h
    exact⟨a,b,c,d,rfl,h.1,h.2.1⟩
  by_cases h2:x = "voice"
  ·subst h2
   rw [yes] at h
   obtain⟨a,b,c,d,rfl,ha,hb⟩:=four h
   exact⟨_,a,b,_,rfl,.inl ha,.inl hb,hx _⟩
  rw [ne h2] at h
  by_cases h4:x = "pack"
  ·subst h4
   rw [yes] at h
   obtain⟨a,b,c,d,rfl,ha,hb⟩:=four h
   exact⟨_,a,b,_,rfl,.inl ha,.inl hb,hx _⟩
  rw [ne h4] at h
  by_cases h5:x = "held"
  ·subst h5
   rw [yes] at h
   have h':q0w [q0k,q0k,geD 1,q4n,geD 0] r=true:=h
   rw [j2c] at h'
   match r,h' with
   | [a,b,t,p,l],h' =>
    simp only [Bool.and_eq_true] at h'
    exact⟨_,a,b,_,rfl,.inl h'.1,.inl h'.2.1,hx _⟩
  rw [ne h5] at h
  by_cases h6:x = "wish"
  ·subst h6
   rw [yes] at h
   obtain⟨a,b,c,d,rfl,ha,hb⟩:=four h
   exact⟨_,a,b,_,rfl,.inr ha,.inl hb,hx _⟩
  rw [ne h6] at h
  by_cases h7:x = "told"
  ·subst h7
   rw [yes] at h
   obtain⟨a,b,c,d,rfl,ha,hb⟩:=four h
   exact⟨_,a,b,_,rfl,.inl ha,.inr hb,hx _⟩
  rw [ne h7] at h
  by_cases h8:x = "away"
  ·subst h8
   rw [yes] at h
   obtain⟨a,b,c,d,rfl,ha,hb⟩:=four h
   exact⟨_,a,b,_,rfl,.inl ha,.inr hb,hx _⟩
  rw [ne h8] at h
  cases h
 ·cases h
theorem j5r {B:Nat} {H:Hp} {v:V} {d:D} (I:Is B H v d) (h:q0k d=true∨q2n d=true):(∃ i,d=.int i∧v=.int i)∨∃ x,d=.str x∧v=.str x:=by
 cases I with
 | int i=>exact .inl ⟨i,rfl,rfl⟩
 | str x _=>exact .inr ⟨x,rfl,rfl⟩
 | _=>rcases h with h | h <;> cases h
theorem z2t {B:Nat} {H:Hp} {v u:V} {a b:D} (Ia:Is B H v a) (Ib:Is B H u b) (ha:q0k a=true∨q2n a=true) (hb:q0k b=true∨q2n b=true):w4c v u=true∧decide (v=u)=q8u a b:=by
 rcases j5r Ia ha with ⟨i,rfl,rfl⟩ | ⟨x,rfl,rfl⟩ <;> rcases j5r Ib hb with ⟨j,rfl,rfl⟩ | ⟨y,rfl,rfl⟩
 ·refine⟨rfl,?_⟩
  show decide (V.int i=V.int j)=decide (i=j)
  rw [Bool.eq_iff_iff]; simp only [decide_eq_true_eq]; exact⟨fun h=>V.int.inj h,fun h=>by rw [h]⟩
 ·exact⟨rfl,decide_eq_false (fun z=>by cases z)⟩
 ·exact⟨rfl,decide_eq_false (fun z=>by cases z)⟩
 ·refine⟨rfl,?_⟩
  show decide (V.str x=V.str y)=decide (x=y)
  rw [Bool.eq_iff_iff]; simp only [decide_eq_true_eq]; exact⟨fun h=>V.str.inj h,fun h=>by rw [h]⟩
theorem w0t (x y z:Str):inV (V.str x) [V.str y,V.str z]=decide (x=y∨x=z):=by
 show (decide ((y:Str)=x) || (decide ((z:Str)=x) || false))=_
 rw [Bool.eq_iff_iff]
 simp only [Bool.or_eq_true,decide_eq_true_eq,Bool.false_eq_true,or_false]
 exact⟨fun h=>h.imp Eq.symm Eq.symm,fun h=>h.imp Eq.symm Eq.symm⟩
theorem z9k {f:Addr} {fd:FuncData} {kk:Nat} (F:Fun K "is_letter" "is_letter" x0m f fd) (TB:TabOk P w K mg base "LETTER_TELLERS" kk q3c)
  (CW:Cal P w K mg base "first_word" 1 ["thing"] x0i) (CB:Cal P w K mg base "fits_behind_word" (kk+2) ["thing", "tellers"] (z0z P w K mg base kk)) (CE:Cal P w K mg base "is_end" 1 ["place", "last"] j7n):FnOk P w K mg base CX0 (kk+3) f fd ["thing"] (spP q2o):=by
 refine F.ok w4m q2c (fun _ A _ s H vs Q E hr h=>?_)
 obtain⟨B,v,d,hB,rfl,I,k⟩:=h
 obtain⟨aD,es,n,mD,lD,hsys,hT⟩:=TB.ex
 have r1:=hr.mono (show 1≤kk+2 by omega)
 refine⟨_,@q0x _ _ _ _ _ (q0z (i:=1) w4m.nd (by rfl) (by exact Or.inl rfl) (q0h CW r1 (q1g (pv 0) q0b)))
  (@q0x _ _ _ _ _ (q1r (q3a (q2s (q0h CB hr (q1g (pv 0) (q7n (x2j (q3g (by rfl) mD) (q1g (pv 1) q0b)) q0b))))) (@q1h _ _ _ (q0l x0q)) q0s)
  (@q0x _ _ _ _ _ (q1r (q0t q1w (q0u q0o (pv 0) q0a q2q) (q0u q0o (pv 0) q0a q2q) (q0r _)) (@q1h _ _ _ (q0l x0q)) q0s)
  (@q1h _ _ _ (q0l (z9e (q1v q6t (pv 1) (QE.h (q6s (q1q (q1q q4g)))) rfl) (q2j (q0h CE r1 (q4p (q0u q0o (pv 0) q0a q2q) (q4p (q0u q0o (pv 0) q0a q2q) q0b))))))))),?_⟩
 obtain⟨vv,rel,hv⟩:=hT.find (x:=q1l d)
 rw [← q7q] at rel
 refine⟨_,rfl,B,v,d,hB,rfl,I,_,rfl,aD,es,n,rfl,lD,hT.keys,hsys,_,rfl,_,vv,rfl,rel,B,v,d,vv,hB,rfl,I,?_⟩
 rcases hv with ⟨hn,rfl⟩ | ⟨ps,t,gs,hs,rfl,hq,ht⟩
 ·have k0:=k H (q1b.refl _)
  unfold q2o at k0
  rw [x0k hn] at k0
  exact .inl ⟨rfl,_,rfl,q1m k0⟩
 ·obtain⟨x0,r0,ed,e⟩:=x0p hs TB.no
  refine .inr ⟨t,gs,ps,.str x0,r0,rfl,ed,hq H,ht,?_,fun H' s'=>⟨_,rfl,?_⟩⟩
  ·rw [ht.length]; exact TB.few _ (x2r hs)
  ·have k0:=k H' s'
   unfold q2o at k0
   rw [← e]
   cases hf:q2t q3c d with
   | false=>rw [hf] at k0; exact q1m k0
   | true =>
    rw [hf] at k0
    obtain⟨x,a,b,r,rfl,ha,hb,hends⟩:=x8z hf
    have I':=I.same s'
    cases I' with
    | @tup p xs _ ep hl rr =>
    obtain⟨v1,e1,I1⟩:=rr.at (i:=1) rfl
    obtain⟨v2,e2,I2⟩:=rr.at (i:=2) rfl
    obtain⟨sc,sd⟩:=z2t I1 I2 ha hb
    have k1:Q (.bl (!q8u a b && z5m (.tup (.str x::a::b::r)))) H':=k0
    refine q1c ⟨_,rfl,p,xs,1,v1,rfl,rfl,SqT.of ep,e1,_,rfl,p,xs,2,v2,rfl,rfl,SqT.of ep,e2,sc,_,rfl,?_⟩
    rw [sd]
    cases hsm:q8u a b with
    | true=>rw [hsm] at k1; exact q1m k1
    | false =>
     rw [hsm] at k1
     refine q1c ⟨_,rfl,q4a (by show 2≤1000; decide),fun q hq=>⟨q,_,rfl,.inr (SqT.of q0f),rfl,rfl,_,rfl,?_⟩⟩
     have s2:=q0g (o:=HO.tup [V.str "ask",V.str "hand"]) hq
     have k2:=k _ (s'.trans s2)
     have k3:Q (.bl (z5m (.tup (.str x::a::b::r)))) (upd H' q (.tup [V.str "ask",V.str "hand"])):=by
      unfold q2o at k2
      rw [hf] at k2
      have k4:Q (.bl (!q8u a b && z5m (.tup (.str x::a::b::r)))) (upd H' q (.tup [V.str "ask",V.str "hand"])):=k2
      rw [hsm] at k4
      exact k4
     show if (!inV (V.str x) [V.str "ask",V.str "hand"])=true then _ else _
     rw [w0t]
     by_cases hx:x = "ask" ∨ x = "hand"
     ·rw [decide_eq_true hx]
      obtain⟨c,i,j,r',rfl⟩:=hends hx
      obtain⟨v4,e4,I4⟩:=rr.at (i:=4) rfl
      obtain⟨v5,e5,I5⟩:=rr.at (i:=5) rfl
      cases I4
      cases I5
      have k5:Q (.bl (if x = "ask" ∨ x = "hand" then z0k (.tup (.int i::.int j::r')) else true)) (upd H' q (.tup [V.str "ask",V.str "hand"])):=k3
      rw [if_pos hx] at k5
      exact q1c ⟨_,rfl,p,xs,4,_,rfl,rfl,SqT.of (s2 _ _ ep),e4,_,rfl,p,xs,5,_,rfl,rfl,SqT.of (s2 _ _ ep),e5,i,j,rfl,k5⟩
     ·rw [decide_eq_false hx]
      have k5:z5m (.tup (.str x::a::b::r))=true:=by
       match r with
       | []=>rfl
       | [_]=>rfl
       | [_,_]=>rfl
       | _::u::w::t =>
        show (if x = "ask" ∨ x = "hand" then z0k (.tup (u::w::t)) else true)=true
        rw [if_neg hx]
      rw [k5] at k3
      exact q1m k3
end
end K1
namespace Kp
open PySem
theorem j2x (r:List D):q7y "ask" r=(match r with | [a,b,t,p,l]=>x3f a b t && q4u p l | _=>false):=by unfold q7y; rw [if_pos rfl]; all_goals rfl
theorem z4t (r:List D):q7y "voice" r=(match r with | [a,b,t,v]=>x3f a b t && q4n v | _=>false):=by unfold q7y; rw [if_neg (by decide +kernel),if_pos rfl]; all_goals rfl
theorem z7y (r:List D):q7y "hand" r=(match r with | [a,b,t,p,l,e,m]=>x3f a b t && (q4u p l && (x3o e && geD 0 m)) | _=>false):=by unfold q7y; rw [if_neg (by decide +kernel),if_neg (by decide +kernel),if_pos rfl]; all_goals rfl
theorem z9h (r:List D):q7y "pack" r=(match r with | [a,b,t,k]=>x3f a b t && (x0y k && nzD k) | _=>false):=by unfold q7y; rw [if_neg (by decide +kernel),if_neg (by decide +kernel),if_neg (by decide +kernel),if_pos rfl]; all_goals rfl
theorem z8q (r:List D):q7y "held" r=(match r with | [a,b,t,v,m]=>x3f a b t && (q4n v && geD 0 m) | _=>false):=by unfold q7y; rw [if_neg (by decide +kernel),if_neg (by decide +kernel),if_neg (by decide +kernel),if_neg (by decide +kernel),if_pos rfl]; all_goals rfl
theorem j1f (r:List D):q7y "wish" r=(match r with | [n,k,c,d]=>geD 1 c && (q1z n && (q0k k && q6c d)) | _=>false):=by unfold q7y; rw [if_neg (by decide +kernel),if_neg (by decide +kernel),if_neg (by decide +kernel),if_neg (by decide +kernel),if_neg (by decide +kernel),if_pos rfl]; all_goals rfl
theorem z7h (r:List D):q7y "told" r=(match r with | [k,n,c,v]=>geD 1 c && ((q0k k && q1z n) && whole v) | _=>false):=by unfold q7y; rw [if_neg (by decide +kernel),if_neg (by decide +kernel),if_neg (by decide +kernel),if_neg (by decide +kernel),if_neg (by decide +kernel),if_neg (by decide +kernel),if_pos rfl]; all_goals rfl
theorem z9l (r:List D):q7y "away" r=(match r with | [k,n,c,h]=>geD 1 c && ((q0k k && q1z n) && q8m h) | _=>false):=by unfold q7y; rw [if_neg (by decide +kernel),if_neg (by decide +kernel),if_neg (by decide +kernel),if_neg (by decide +kernel),if_neg (by decide +kernel),if_neg (by decide +kernel),if_neg (by decide +kernel),if_pos rfl]; all_goals rfl
end Kp
namespace K1
open PySem L2 Kp
theorem PS.weak {X:Cx} {st:Stmt} {t t':TS} (h:PS X st t) (w:∀ D σ H,t' D σ H→t D σ H):PS X st t':=fun pins s σ H D I q=>h pins s σ H D I (w D σ H q)
theorem j9f {s t:Str} (h:s=t):decide (V.str s=V.str t)=true:=by rw [h]; simp
theorem z5p {s t:Str} (h:s≠t):decide (V.str s=V.str t)=false:=decide_eq_false fun z=>h (V.str.inj z)
structure BtY (a b t:D):Prop where
 k1:q0k a=true
 k2:q0k b=true
 ne:q8u a b=false
 ge:geD 1 t=true
inductive BtwY:Str→Nat→List D→Prop
 | ask {a b t p l:D} (h:BtY a b t) (hs:q4u p l=true):BtwY "ask" 6 [a,b,t,p,l]
 | voice {a b t:D} {c:Bool} (h:BtY a b t):BtwY "voice" 5 [a,b,t,.bl c]
 | held {a b t m:D} {c:Bool} (h:BtY a b t) (hm:geD 0 m=true):BtwY "held" 6 [a,b,t,.bl c,m]
 | pack {a b t:D} {i:Int} {r:List D} (h:BtY a b t) (hp:x0y (.tup (.int i::r))=true) (hi:i≠0):BtwY "pack" 5 [a,b,t,.tup (.int i::r)]
 | hand {a b t p l m:D} {ds:List D} (h:BtY a b t) (hs:q4u p l=true) (h5:ds.length≤5) (he:ds.all q8i=true) (hm:geD 0 m=true):BtwY "hand" 8 [a,b,t,p,l,.tup ds,m]
inductive LetY:D→Prop
 | five {x:Str} {n:Nat} {r:List D} (h:BtwY x n r):LetY (.tup (.str x::r))
 | wish {n k c d:D} (h1:q1z n=true) (h2:q0k k=true) (h3:geD 1 c=true) (h4:q6c d=true):LetY (.tup [.str "wish",n,k,c,d])
 | told {k n c v:D} (h1:q0k k=true) (h2:q1z n=true) (h3:geD 1 c=true) (h4:whole v=true):LetY (.tup [.str "told",k,n,c,v])
 | away {k n c h:D} (h1:q0k k=true) (h2:q1z n=true) (h3:geD 1 c=true) (h4:q8m h=true):LetY (.tup [.str "away",k,n,c,h])
theorem q5n {x:Str} {r:List D} (h:z0t (.tup (.str x::r))=true):q7y x r=true:=h
theorem w3j {d:D} (h:q2o d=true):LetY d:=by
 have hb:q2t q3c d=true:=(Bool.and_eq_true _ _ |>.mp h).1
 rw [z8u] at h
 cases x4y hb with
 | ask x0 x1 x2 x3 x4 =>
  replace h:=q5n h
  rw [j2x] at h
  simp only [x3f,Bool.and_eq_true,Bool.not_eq_true'] at h
  exact .five (.ask ⟨h.1.1.1.1,h.1.1.1.2,h.1.1.2,h.1.2⟩ h.2)
 | voice x0 x1 x2 x3 =>
  replace h:=q5n h
  rw [z4t] at h
  simp only [x3f,Bool.and_eq_true,Bool.not_eq_true'] at h
  exact .five (.voice ⟨h.1.1.1.1,h.1.1.1.2,h.1.1.2,h.1.2⟩)
 | hand x0 x1 x2 x3 x4 x5 x6 h5 =>
  replace h:=q5n h
  rw [z7y] at h
  simp only [x3f,Bool.and_eq_true,Bool.not_eq_true'] at h
  cases x5 with
  | tup ds =>
   have he:(decide (ds.length≤5) && ds.all q8i)=true:=h.2.2.1
   rw [Bool.and_eq_true] at he
   exact .five (.hand ⟨h.1.1.1.1,h.1.1.1.2,h.1.1.2,h.1.2⟩ h.2.1 (of_decide_eq_true he.1) he.2 h.2.2.2)
  | _=>cases h5
 | pack x0 x1 x2 x3 h3 =>
  replace h:=q5n h
  rw [z9h] at h
  simp only [x3f,Bool.and_eq_true,Bool.not_eq_true'] at h
  obtain⟨i,r,rfl,_⟩:=x6u h.2.1
  have hn:(!decide (i=0))=true:=h.2.2
  exact .five (.pack ⟨h.1.1.1.1,h.1.1.1.2,h.1.1.2,h.1.2⟩ h.2.1 (by simpa using hn))
 | held x0 x1 x2 x3 x4 =>
  replace h:=q5n h
  rw [z8q] at h
  simp only [x3f,Bool.and_eq_true,Bool.not_eq_true'] at h
  exact .five (.held ⟨h.1.1.1.1,h.1.1.1.2,h.1.1.2,h.1.2⟩ h.2.2)
 | wish x0 x1 x2 x3 h0 h3 =>
  replace h:=q5n h
  rw [j1f] at h
  simp only [Bool.and_eq_true] at h
  exact .wish h.2.1 h.2.2.1 h.1 h.2.2.2
 | told x0 x1 x2 x3 h1 =>
  replace h:=q5n h
  rw [z7h] at h
  simp only [Bool.and_eq_true] at h
  exact .told h.2.1.1 h.2.1.2 h.1 h.2.2
 | away x0 x1 x2 x3 h1 h3 =>
  replace h:=q5n h
  rw [z9l] at h
  simp only [Bool.and_eq_true] at h
  exact .away h.2.1.1 h.2.1.2 h.1 h.2.2
section
variable {P:Program} {w:World} {K:Frag} {mg:Str→Option Value} {base:Heap}
theorem w7o:FnScope ["_law_thing"] ["_law_thing"] (q0e q7r):=fSc
theorem z4l {f:Addr} {fd:FuncData} (F:Fun K "_law_keeper" "_law_keeper" q7r f fd) (CF:Cal P w K mg base "_law_from" 1 ["_law_thing", "_law_least"] x1l):FnOk P w K mg base CX0 2 f fd ["_law_thing"] (spP q0k):=by
 refine F.ok w7o q2c (fun _ A _ s H vs Q E hr h=>?_)
 obtain⟨B,v,d,hB,rfl,I,k⟩:=h
 refine⟨_,q0p (q0l (q2b (q0h CF hr (q1g (pv 0) (q5x q0a q0b))) (q2j (q1v x5p (pv 0) q0a (q0r _))))),?_⟩
 refine⟨_,rfl,B,v,d,0,hB,rfl,I,fun H1 s1=>⟨_,rfl,?_⟩⟩
 have k0:=k H1 s1
 cases hg:geD 0 d with
 | false =>
  have e:q0k d=false:=by
   cases d with
   | int i =>
    have hg':decide (0≤i)=false:=hg
    show (decide (0≤i) && decide (i≤8))=false
    rw [hg']; rfl
   | _=>rfl
  rw [e] at k0
  exact q1c k0
 | true =>
  obtain⟨i,rfl⟩:=ge_int hg
  cases I
  have hg':decide (0≤i)=true:=hg
  have k1:Q (.bl (decide (0≤i) && decide (i≤8))) H1:=k0
  rw [hg'] at k1
  refine q1m ⟨_,rfl,_,_,rfl,rfl,?_⟩
  show Q (.bl (decide (i < 9))) H1
  have e:decide (i < 9)=(true && decide (i≤8)):=by
   rw [Bool.true_and,Bool.eq_iff_iff]; simp only [decide_eq_true_eq]; omega
  rw [e]
  exact k1
noncomputable def j5q:Sp:=fun vs H Q _=>∃ B v x n r,B≤100000∧vs=[v]∧BtwY x n r∧Is B H v (.tup (.str x::r))∧∀ H',q1b H H'→Q (.bl true) H'
noncomputable def j6e:Sp:=fun vs H Q _=>∃ B v d,B≤100000∧vs=[v]∧Is B H v d∧q2o d=true∧∀ H',q1b H H'→Q (.bl true) H'
theorem w2r:FnScope ["_law_thing", "_law_kind_here", "_law_sizes"] ["_law_thing"] (q0e q5l):=fSc
noncomputable def w5n:TS:=fun D σ H=>∃ (B:Nat) (v:V) (x:Str) (a b t:Kp.D) (r:List Kp.D) (n:Nat) (p:Addr),σ=[some v,some (.str x),some (.ref p)]∧B≤100000∧Is B H v (.tup (.str x::a::b::t::r))∧BtY a b t∧r.length+4=n∧j6c H p (.str x) (some (.int ((n:Nat):Int)))∧∀ H',q1b H H'→D.nx σ H'
noncomputable def w6x:TS:=fun D σ H=>∃ (B:Nat) (v:V) (x1 x2:Option V) (x a b t:Kp.D) (r:List Kp.D),σ=[some v,x1,x2]∧B≤100000∧Is B H v (.tup (x::a::b::t::r))∧geD 1 t=true∧∀ H',q1b H H'→D.nx σ H'
theorem z2b {f:Addr} {fd:FuncData} (F:Fun K "_law_between" "_law_between" q5l f fd) (T:Txt mg) (CK:Cal P w K mg base "_law_kind" 1 ["_law_thing"] x0i) (CF:Cal P w K mg base "_law_from" 1 ["_law_thing", "_law_least"] x1l) (CR:Cal P w K mg base "_law_keeper" 2 ["_law_thing"] (spP q0k))
  (CS:Cal P w K mg base "_law_stand" 2 ["_law_place", "_law_last"] z0m) (CP:Cal P w K mg base "_law_pack" 4 ["_law_thing"] (spP x0y)) (CE:Cal P w K mg base "_law_entry" 4 ["_law_thing"] (spP q8i)):FnOk P w K mg base CX0 5 f fd ["_law_thing"] j5q:=by
 refine F.ok w2r (fun vs H Q E ⟨_,_,_,_,_,_,e,_⟩=>by subst e; rfl) (fun _ A _ s H vs Q E hr h=>?_)
 obtain⟨B,v,x,n,r,hB,rfl,hx,I,k⟩:=h
 have r1:=hr.mono (show 1≤4 by decide)
 have r2:=hr.mono (show 2≤4 by decide)
 refine⟨_,@q0x _ _ _ _ _ (q0z (i:=1) w2r.nd (by rfl) (by exact Or.inl rfl) (q0h CK r1 (q1g (pv 0) q0b)))
  (@q0x _ _ _ _ _ (q0z (i:=2) w2r.nd (by rfl) (by exact Or.inl rfl) (j8n (x1q q0n q0a (x1q q0n q0a (x1q q0n q0a (x1q q0n q0a (x1q q0n q0a j6j))))) (by rfl) (by rfl) (by simp) (by decide)))
  (@q0x _ _ _ _ _ (PS.weak (t':=w5n) (q1r (PW.pt (q8r (q0t j3s (q0q q0y (by rfl) T.len PySem.boot_len (q1g (pv 0) q0b)) (j6u (w3l hr) (pv 2) (pv 1) (fun _ _=>rfl)) (q0r _))
    (q8r (q3a (q2s (q0h CR r2 (q4p (q0u q0o (pv 0) q0a q2q) q0b)))) (q8r (q3a (q2s (q0h CR r2 (q4p (q0u q0o (pv 0) q0a q2q) q0b))))
    (q9s (q0t q1w (q0u q0o (pv 0) q0a q2q) (q0u q0o (pv 0) q0a q2q) (q0r _))))))) q6f q0s) ?w1)
  (@q0x _ _ _ _ _ (PS.weak (t':=w6x) (q1r (q3a (q2s (q0h CF r1 (q4p (q0u q0o (pv 0) q0a q2q) (q5x q0a q0b))))) q6f q0s) ?w2)
  (@q0x _ _ _ _ _ (q1r (q0t q1w (pv 1) q0n (q0r _)) (@q1h _ _ _ (q0l (q0h CS r2 (q4p (q0u q0o (pv 0) q0a q2q) (q4p (q0u q0o (pv 0) q0a q2q) q0b))))) q0s)
  (@q0x _ _ _ _ _ (q1r (q0t q1w (pv 1) q0n (q0r _)) (@q1h _ _ _ (q0l (q0q q2h (by rfl) T.isi q2g (q4p (q0u q0o (pv 0) q0a q2q) (q1g (q7f (by rfl) T.bool q7l) q0b))))) q0s)
  (@q0x _ _ _ _ _ (q1r (q0t q1w (pv 1) q0n (q0r _)) (@q1h _ _ _ (q0l (q2b (q0q q2h (by rfl) T.isi q2g (q4p (q0u q0o (pv 0) q0a q2q) (q1g (q7f (by rfl) T.bool q7l) q0b))) (q2j (q0h CF r1 (q4p (q0u q0o (pv 0) q0a q2q) (q5x q0a q0b))))))) q0s)
  (@q0x _ _ _ _ _ (q1r (q0t q1w (pv 1) q0n (q0r _)) (@q1h _ _ _ (q0l (q2b (q0h CP hr (q4p (q0u q0o (pv 0) q0a q2q) q0b)) (q2j (q1v j3s (q0u q0o (q0u q0o (pv 0) q0a q2q) q0a q2q) q0a (q0r _)))))) q0s)
  (@q0x _ _ _ _ _ (q1r (PW.pt (q8r (q3a (q2s (q0h CS r2 (q4p (q0u q0o (pv 0) q0a q2q) (q4p (q0u q0o (pv 0) q0a q2q) q0b)))))
    (q8r (q3a (q2s (q0q q2h (by rfl) T.isi q2g (q4p (q0u q0o (pv 0) q0a q2q) (q1g (q7f (by rfl) T.tuple q2m) q0b))))) (q9s (q0t z1y (q0q q0y (by rfl) T.len PySem.boot_len (q4p (q0u q0o (pv 0) q0a q2q) q0b)) q0a (q0r _)))))) q6f q0s)
  (@q1h _ _ _ (q0l (q2b (q1v (j9t hr.units0) (q3u (NB:=["_law_one"]) (n:=1) (fr:=[]) (q5v (outer:=q0e q5l) (by rfl) (by decide +kernel) (by rfl)) (by rfl) (q8h (q0u q0o (pv 0) q0a q2q))
    (fun _ _ _ _ _=>q1i (i:=0) (show (["_law_one"]:List Str).Nodup by decide +kernel) (by rfl) (by exact Or.inl rfl)) (fun _ _ _ _ _=>x3h (q3a (q2s (q0h CE hr (q1g (pv 0) q0b))))) (fun _ _ _ _ _=>pv 0)) (x0h q0b) (q0r _))
   (q2j (q0h CF r1 (q4p (q0u q0o (pv 0) q0a q2q) (q5x q0a q0b))))))))))))))),?_⟩
 case w1 =>
  rintro D σ H ⟨B,v,x,a1,b1,t1,r,n,p,rfl,hB,I,bt,hn,g,q⟩
  cases I with
  | @tup a xs _ ea hl rr =>
  have hlen:=rr.length
  refine⟨_,rfl,a,xs,rfl,.inr (SqT.of ea),_,rfl,_,rfl,p,_,rfl,g,rfl,_,rfl,?_⟩
  rw [show (!decide (V.int (xs.length:Int)=V.int (n:Int)))=false by rw [hlen,← hn]; simp; omega]
  obtain⟨v1,e1,I1⟩:=rr.at (i:=1) rfl
  obtain⟨v2,e2,I2⟩:=rr.at (i:=2) rfl
  refine q1c ⟨_,rfl,a,xs,1,v1,rfl,rfl,SqT.of ea,e1,B,v1,a1,hB,rfl,I1,fun H1 s1=>⟨_,rfl,?_⟩⟩
  rw [bt.k1]
  refine q1c ⟨_,rfl,a,xs,2,v2,rfl,rfl,SqT.of (s1 _ _ ea),e2,B,v2,b1,hB,rfl,I2.same s1,fun H2 s2=>⟨_,rfl,?_⟩⟩
  rw [bt.k2]
  obtain⟨sc,sd⟩:=z2t (I1.same (s1.trans s2)) (I2.same (s1.trans s2)) (.inl bt.k1) (.inl bt.k2)
  refine q1c ⟨_,rfl,a,xs,1,v1,rfl,rfl,SqT.of (s2 _ _ (s1 _ _ ea)),e1,_,rfl,a,xs,2,v2,rfl,rfl,SqT.of (s2 _ _ (s1 _ _ ea)),e2,sc,_,rfl,?_⟩
  rw [sd,bt.ne]
  exact q1c (q _ (s1.trans s2))
 case w2 =>
  rintro D σ H ⟨B,v,x1,x2,x,a1,b1,t1,r,rfl,hB,I,hg,q⟩
  cases I with
  | @tup a xs _ ea hl rr =>
  obtain⟨v3,e3,I3⟩:=rr.at (i:=3) rfl
  refine⟨_,rfl,a,xs,3,v3,rfl,rfl,SqT.of ea,e3,B,v3,t1,1,hB,rfl,I3,fun H3 s3=>⟨_,rfl,?_⟩⟩
  rw [hg]
  exact q1c (q _ s3)
 refine⟨_,rfl,B,v,_,hB,rfl,I,fun p hp=>⟨q0f,[(Sum.inr "ask",V.int 6),(Sum.inr "voice",V.int 5),(Sum.inr "hand",V.int 8),(Sum.inr "pack",V.int 5),(Sum.inr "held",V.int 6)],rfl,by decide,?_⟩⟩
 rw [j8j]
 have sd:=q0g (o:=HO.dK (q8x [] [(Sum.inr "ask",V.int 6),(Sum.inr "voice",V.int 5),(Sum.inr "hand",V.int 8),(Sum.inr "pack",V.int 5),(Sum.inr "held",V.int 6)])) hp
 have dg:∀ {x:Str} {n:Nat},z5o (q8x [] [((Sum.inr "ask" : Key),V.int 6),(Sum.inr "voice",V.int 5),(Sum.inr "hand",V.int 8),(Sum.inr "pack",V.int 5),(Sum.inr "held",V.int 6)]) (Sum.inr x)=some (.int (n:Int))→j6c (upd H p (.dK (q8x [] [(Sum.inr "ask",V.int 6),(Sum.inr "voice",V.int 5),(Sum.inr "hand",V.int 8),(Sum.inr "pack",V.int 5),(Sum.inr "held",V.int 6)]))) p (.str x) (some (.int (n:Int))):=fun {x n} e=>by
  rw [← e]; exact j6c.k (k:=Sum.inr x) q0f
 generalize hH1:upd H p (.dK (q8x [] [((Sum.inr "ask" : Key),V.int 6),(Sum.inr "voice",V.int 5),(Sum.inr "hand",V.int 8),(Sum.inr "pack",V.int 5),(Sum.inr "held",V.int 6)]))=H1 at sd dg ⊢
 cases hx with
 | @ask a b t p1 l1 bt hs =>
  refine⟨B,v, "ask",_,_,_,_,6,p,rfl,hB,I.same sd,bt,rfl,dg (q7i (by decide +kernel)),fun H2 s2=>?_⟩
  refine⟨B,v,_,_,_,_,_,_,_,rfl,hB,I.same (sd.trans s2),bt.ge,fun H3 s3=>?_⟩
  have s03:=(sd.trans s2).trans s3
  have I3:=I.same s03
  cases I3 with
  | @tup q xs _ ea hl rr =>
  obtain⟨v4,e4,I4⟩:=rr.at (i:=4) rfl
  obtain⟨v5,e5,I5⟩:=rr.at (i:=5) rfl
  refine⟨V.str "ask",rfl,rfl,_,rfl,?_⟩
  rw [j9f rfl]
  exact q1m ⟨_,rfl,q,xs,4,v4,rfl,rfl,SqT.of ea,e4,_,rfl,q,xs,5,v5,rfl,rfl,SqT.of ea,e5,B,v4,v5,_,_,hB,rfl,I4,I5,fun H4 s4=>by rw [hs]; exact k _ (s03.trans s4)⟩
 | @voice a b t c bt =>
  refine⟨B,v, "voice",_,_,_,_,5,p,rfl,hB,I.same sd,bt,rfl,dg (q7i (by decide +kernel)),fun H2 s2=>?_⟩
  refine⟨B,v,_,_,_,_,_,_,_,rfl,hB,I.same (sd.trans s2),bt.ge,fun H3 s3=>?_⟩
  have s03:=(sd.trans s2).trans s3
  have I3:=I.same s03
  cases I3 with
  | @tup q xs _ ea hl rr =>
  obtain⟨v4,e4,I4⟩:=rr.at (i:=4) rfl
  refine⟨V.str "voice",rfl,rfl,_,rfl,?_⟩
  rw [z5p (by decide +kernel)]
  refine q1c ?_
  refine⟨V.str "voice",rfl,rfl,_,rfl,?_⟩
  rw [j9f rfl]
  exact q1m ⟨_,rfl,q,xs,4,v4,rfl,rfl,SqT.of ea,e4,_,_,_,_,rfl,I4.ty,q8f K (.bl c),k _ s03⟩
 | @held a b t m c bt hm =>
  refine⟨B,v, "held",_,_,_,_,6,p,rfl,hB,I.same sd,bt,rfl,dg (q7i (by decide +kernel)),fun H2 s2=>?_⟩
  refine⟨B,v,_,_,_,_,_,_,_,rfl,hB,I.same (sd.trans s2),bt.ge,fun H3 s3=>?_⟩
  have s03:=(sd.trans s2).trans s3
  have I3:=I.same s03
  cases I3 with
  | @tup q xs _ ea hl rr =>
  obtain⟨v4,e4,I4⟩:=rr.at (i:=4) rfl
  obtain⟨v5,e5,I5⟩:=rr.at (i:=5) rfl
  refine⟨V.str "held",rfl,rfl,_,rfl,?_⟩
  rw [z5p (by decide +kernel)]
  refine q1c ?_
  refine⟨V.str "held",rfl,rfl,_,rfl,?_⟩
  rw [z5p (by decide +kernel)]
  refine q1c ?_
  refine⟨V.str "held",rfl,rfl,_,rfl,?_⟩
  rw [j9f rfl]
  refine q1m ⟨_,rfl,q,xs,4,v4,rfl,rfl,SqT.of ea,e4,_,_,_,_,rfl,I4.ty,q8f K (.bl c),_,rfl,?_⟩
  exact q1m ⟨_,rfl,q,xs,5,v5,rfl,rfl,SqT.of ea,e5,B,v5,m,0,hB,rfl,I5,fun H4 s4=>by rw [hm]; exact k _ (s03.trans s4)⟩
 | @pack a b t i0 r0 bt hp0 hi0 =>
  refine⟨B,v, "pack",_,_,_,_,5,p,rfl,hB,I.same sd,bt,rfl,dg (q7i (by decide +kernel)),fun H2 s2=>?_⟩
  refine⟨B,v,_,_,_,_,_,_,_,rfl,hB,I.same (sd.trans s2),bt.ge,fun H3 s3=>?_⟩
  have s03:=(sd.trans s2).trans s3
  have I3:=I.same s03
  cases I3 with
  | @tup q xs _ ea hl rr =>
  obtain⟨v4,e4,I4⟩:=rr.at (i:=4) rfl
  refine⟨V.str "pack",rfl,rfl,_,rfl,?_⟩
  rw [z5p (by decide +kernel)]
  refine q1c ?_
  refine⟨V.str "pack",rfl,rfl,_,rfl,?_⟩
  rw [z5p (by decide +kernel)]
  refine q1c ?_
  refine⟨V.str "pack",rfl,rfl,_,rfl,?_⟩
  rw [z5p (by decide +kernel)]
  refine q1c ?_
  refine⟨V.str "pack",rfl,rfl,_,rfl,?_⟩
  rw [j9f rfl]
  refine q1m ⟨_,rfl,q,xs,4,v4,rfl,rfl,SqT.of ea,e4,B,v4,_,hB,rfl,I4,fun H4 s4=>⟨_,rfl,?_⟩⟩
  rw [hp0]
  have I4':=I4.same s4
  cases I4' with
  | @tup q4 xs4 _ ea4 hl4 rr4 =>
  obtain⟨v0,e0,I0⟩:=rr4.at (i:=0) rfl
  cases I0
  refine q1m ⟨_,rfl,q,xs,4,_,rfl,rfl,SqT.of (s4 _ _ ea),e4,q4,xs4,0,_,rfl,rfl,SqT.of ea4,e0,rfl,?_⟩
  show Q (.bl (!decide (V.int i0=V.int 0))) H4
  rw [decide_eq_false (fun z=>hi0 (V.int.inj z))]
  exact k _ (s03.trans s4)
 | @hand a b t p1 l1 m ds bt hs h5 hal hm =>
  refine⟨B,v, "hand",_,_,_,_,8,p,rfl,hB,I.same sd,bt,rfl,dg (q7i (by decide +kernel)),fun H2 s2=>?_⟩
  refine⟨B,v,_,_,_,_,_,_,_,rfl,hB,I.same (sd.trans s2),bt.ge,fun H3 s3=>?_⟩
  have s03:=(sd.trans s2).trans s3
  have I3:=I.same s03
  cases I3 with
  | @tup q xs _ ea hl rr =>
  obtain⟨v4,e4,I4⟩:=rr.at (i:=4) rfl
  obtain⟨v5,e5,I5⟩:=rr.at (i:=5) rfl
  obtain⟨v6,e6,I6⟩:=rr.at (i:=6) rfl
  obtain⟨v7,e7,I7⟩:=rr.at (i:=7) rfl
  refine⟨V.str "hand",rfl,rfl,_,rfl,?_⟩
  rw [z5p (by decide +kernel)]
  refine q1c ?_
  refine⟨V.str "hand",rfl,rfl,_,rfl,?_⟩
  rw [z5p (by decide +kernel)]
  refine q1c ?_
  refine⟨V.str "hand",rfl,rfl,_,rfl,?_⟩
  rw [z5p (by decide +kernel)]
  refine q1c ?_
  refine⟨V.str "hand",rfl,rfl,_,rfl,?_⟩
  rw [z5p (by decide +kernel)]
  refine q1c ?_
  refine⟨_,rfl,q,xs,4,v4,rfl,rfl,SqT.of ea,e4,_,rfl,q,xs,5,v5,rfl,rfl,SqT.of ea,e5,B,v4,v5,p1,l1,hB,rfl,I4,I5,fun H4 s4=>⟨_,rfl,?_⟩⟩
  rw [hs]
  refine q1c ⟨_,rfl,q,xs,6,v6,rfl,rfl,SqT.of (s4 _ _ ea),e6,_,_,_,_,rfl,(I6.same s4).ty,q9v K (.tup ds),_,rfl,?_⟩
  have I6':=I6.same s4
  cases I6' with
  | @tup q6 xs6 _ ea6 hl6 rr6 =>
  have l6:=rr6.length
  refine q1c ⟨_,rfl,q,xs,6,_,rfl,rfl,SqT.of (s4 _ _ ea),e6,q6,xs6,rfl,.inr (SqT.of ea6),_,_,rfl,rfl,_,rfl,?_⟩
  rw [decide_eq_false (show ¬ (5:Int) < (xs6.length:Int) by omega)]
  refine q1c ⟨_,rfl,q,xs,6,_,rfl,rfl,SqT.of (s4 _ _ ea),e6,q6,rfl,⟨xs6,SqT.of ea6⟩,q2w (J:=Itt K q6) (k:=1) (n:=xs6.length) (fun i=>false) (fun i=>.non) (show xs6.length < sizeLine by rw [sizeLine_eq]; omega)
   (fun i H2 hi s1=>⟨xs6,xs6[i],SqT.of (s1 _ _ ea6),by simp [hi]⟩) (fun H2 s1=>⟨xs6,SqT.of (s1 _ _ ea6),Nat.le_refl _⟩) ?_ ?_⟩
  ·intro i H2 t v H3 R hi s1 ht y hR
   obtain⟨rfl,hy⟩:=y
   obtain⟨di,hdi,Ii⟩:=rr6.get (hy xs6 (SqT.of (s1 _ _ ea6)))
   obtain⟨t0,rfl⟩:=q5c ht
   refine⟨_,rfl,B,v,di,hB,rfl,Ii.same s1,fun H' s2=>⟨_,rfl,?_⟩⟩
   rw [List.all_eq_true.mp hal di (List.mem_of_getElem? hdi)]
   exact q1c (hR [some v] H' rfl s2)
  ·intro D1 H' s1 hD hd
   refine⟨by simp [sizeLine_eq],fun p7 h7=>⟨D1,p7,_,rfl,rfl,SqL.of (q0g h7 _ _ hd),SqL.of q0f,_,rfl,?_⟩⟩
   have s7:=s1.trans (q0g (o:=HO.lst []) h7)
   rw [show ((((List.range xs6.length).filter fun _=>false).map fun _:Nat=>V.non).isEmpty)=true by simp]
   exact q1m ⟨_,rfl,q,xs,7,v7,rfl,rfl,SqT.of (s7 _ _ (s4 _ _ ea)),e7,B,v7,m,0,hB,rfl,(I7.same s4).same s7,fun H8 s8=>by rw [hm]; exact k _ (((s03.trans s4).trans s7).trans s8)⟩
theorem q9b (x:Str):∀ l:List Str,inV (V.str x) (l.map V.str)=decide (x∈l)
 | []=>rfl
 | y::l=>by
  show (decide ((y:Str)=x) || inV (V.str x) (l.map V.str))=_
  rw [q9b x l,Bool.eq_iff_iff]
  simp only [Bool.or_eq_true,decide_eq_true_eq,List.mem_cons]
  exact⟨fun h=>h.imp Eq.symm id,fun h=>h.imp Eq.symm id⟩
theorem w4t:FnScope ["_law_thing", "_law_kind_here"] ["_law_thing"] (q0e q7x):=fSc
theorem z5w {f:Addr} {fd:FuncData} (F:Fun K "_law_letter" "_law_letter" q7x f fd) (T:Txt mg) (CK:Cal P w K mg base "_law_kind" 1 ["_law_thing"] x0i) (CB:Cal P w K mg base "_law_between" 5 ["_law_thing"] j5q) (CF:Cal P w K mg base "_law_from" 1 ["_law_thing", "_law_least"] x1l) (CR:Cal P w K mg base "_law_keeper" 2 ["_law_thing"] (spP q0k))
  (CN:Cal P w K mg base "_law_name" 1 ["_law_thing"] (spP q1z)) (CA:Cal P w K mg base "_law_any" 1 ["_law_thing"] (spP whole)) (CD:Cal P w K mg base "_law_deed" 2 ["_law_thing"] (spP q6c)):FnOk P w K mg base CX0 6 f fd ["_law_thing"] j6e:=by
 refine F.ok w4t (fun vs H Q E ⟨_,_,_,_,e,_⟩=>by subst e; rfl) (fun _ A _ s H vs Q E hr h=>?_)
 obtain⟨B,v,d,hB,rfl,I,hd,k⟩:=h
 have r1:=hr.mono (show 1≤5 by decide)
 have r2:=hr.mono (show 2≤5 by decide)
 refine⟨_,@q0x _ _ _ _ _ (q0z (i:=1) w4t.nd (by rfl) (by exact Or.inl rfl) (q0h CK r1 (q1g (pv 0) q0b)))
  (@q0x _ _ _ _ _ (q1r (q0t x8s (pv 1) (QE.h (q6s (q1q (q1q (q1q (q1q (q1q q4g))))))) rfl) (@q1h _ _ _ (q0l (q0h CB hr (q1g (pv 0) q0b)))) q0s)
  (@q0x _ _ _ _ _ (q1r (PW.pt (q8r (q0t q6t (pv 1) (QE.h (q6s (q1q (q1q (q1q q4g))))) rfl) (q8r (q0t j3s (q0q q0y (by rfl) T.len PySem.boot_len (q1g (pv 0) q0b)) q0a (q0r _)) (q9s (q3a (q2s (q0h CF r1 (q4p (q0u q0o (pv 0) q0a q2q) (q5x q0a q0b))))))))) q6f q0s)
  (@q0x _ _ _ _ _ (q1r (q0t q1w (pv 1) q0n (q0r _)) (@q1h _ _ _ (q0l (q2b (q0h CN r1 (q4p (q0u q0o (pv 0) q0a q2q) q0b)) (q2b (q0h CR r2 (q4p (q0u q0o (pv 0) q0a q2q) q0b)) (q2j (q0h CD r2 (q4p (q0u q0o (pv 0) q0a q2q) q0b))))))) q0s)
  (@q0x _ _ _ _ _ (q1r (PW.pt (q8r (q3a (q2s (q0h CR r2 (q4p (q0u q0o (pv 0) q0a q2q) q0b)))) (q9s (q3a (q2s (q0h CN r1 (q4p (q0u q0o (pv 0) q0a q2q) q0b))))))) q6f q0s)
  (@q0x _ _ _ _ _ (q1r (q0t q1w (pv 1) q0n (q0r _)) (@q1h _ _ _ (q0l (q0h CA r1 (q4p (q0u q0o (pv 0) q0a q2q) q0b)))) q0s)
  (@q1h _ _ _ (q0l (z9e (q1v z2i (q0u q0o (pv 0) q0a q2q) x4n (q0r _)) (q2j (q0h CR r2 (q4p (q0u q0o (pv 0) q0a q2q) q0b))))))))))),?_⟩
 refine⟨_,rfl,B,v,d,hB,rfl,I,_,rfl,q4a (by show 5≤1000; decide),fun p hp=>⟨p,_,rfl,.inr (SqT.of q0f),rfl,rfl,_,rfl,?_⟩⟩
 have s1:=q0g (o:=HO.tup ((["ask", "voice", "hand", "pack", "held"]:List Str).map V.str)) hp
 show if inV (V.str (q1l d)) ((["ask", "voice", "hand", "pack", "held"]:List Str).map V.str)=true then _ else _
 rw [q9b]
 have hy:=w3j hd
 cases hy with
 | @five x n r h =>
  have hm:x∈(["ask", "voice", "hand", "pack", "held"]:List Str):=by cases h <;> decide +kernel
  rw [show decide (q1l (.tup (.str x::r))∈(["ask", "voice", "hand", "pack", "held"]:List Str))=true from decide_eq_true hm]
  exact q1m ⟨_,rfl,B,v,x,n,r,hB,rfl,h,I.same s1,fun H' s'=>k H' (s1.trans s')⟩
 | @wish n1 k1 c1 d1 h1 h2 h3 h4 =>
  rw [decide_eq_false (show q1l (.tup [.str "wish",n1,k1,c1,d1])∉(["ask", "voice", "hand", "pack", "held"]:List Str) by show ("wish" : Str)∉_; decide +kernel)]
  refine q1c ⟨_,rfl,q4a (by show 3≤1000; decide),fun p2 hp2=>⟨p2,_,rfl,.inr (SqT.of q0f),rfl,rfl,_,rfl,?_⟩⟩
  have s2:=s1.trans (q0g (o:=HO.tup ((["wish", "told", "away"]:List Str).map V.str)) hp2)
  show if (!inV (V.str "wish") ((["wish", "told", "away"]:List Str).map V.str))=true then _ else _
  rw [q9b,show decide (("wish" : Str)∈(["wish", "told", "away"]:List Str))=true by decide +kernel]
  have I2:=I.same s2
  cases I2 with
  | @tup q xs _ ea hl rr =>
  have hlen:=rr.length
  refine q1c ⟨_,rfl,q,xs,rfl,.inr (SqT.of ea),rfl,_,rfl,?_⟩
  rw [show (!decide (V.int (xs.length:Int)=V.int 5))=false by rw [hlen]; rfl]
  obtain⟨v1,e1,I1⟩:=rr.at (i:=1) rfl
  obtain⟨v2,e2,I2⟩:=rr.at (i:=2) rfl
  obtain⟨v3,e3,I3⟩:=rr.at (i:=3) rfl
  obtain⟨v4,e4,I4⟩:=rr.at (i:=4) rfl
  refine q1c ⟨_,rfl,q,xs,3,v3,rfl,rfl,SqT.of ea,e3,B,v3,c1,1,hB,rfl,I3,fun H3 s3=>⟨_,rfl,?_⟩⟩
  rw [h3]
  have s03:=s2.trans s3
  refine q1c ⟨_,rfl,rfl,_,rfl,?_⟩
  rw [show decide (V.str (q1l (.tup [.str "wish",n1,k1,c1,d1]))=V.str "wish")=true from j9f rfl]
  refine q1m ⟨_,rfl,q,xs,1,v1,rfl,rfl,SqT.of (s3 _ _ ea),e1,B,v1,n1,hB,rfl,I1.same s3,fun H4 s4=>⟨_,rfl,?_⟩⟩
  rw [h1]
  refine q1m ⟨_,rfl,q,xs,2,v2,rfl,rfl,SqT.of (s4 _ _ (s3 _ _ ea)),e2,B,v2,k1,hB,rfl,(I2.same s3).same s4,fun H5 s5=>⟨_,rfl,?_⟩⟩
  rw [h2]
  exact q1m ⟨_,rfl,q,xs,4,v4,rfl,rfl,SqT.of (s5 _ _ (s4 _ _ (s3 _ _ ea))),e4,B,v4,d1,hB,rfl,((I4.same s3).same s4).same s5,fun H6 s6=>by rw [h4]; exact k _ (((s03.trans s4).trans s5).trans s6)⟩
 | @told k1 n1 c1 d1 h1 h2 h3 h4 =>
  rw [decide_eq_false (show q1l (.tup [.str "told",k1,n1,c1,d1])∉(["ask", "voice", "hand", "pack", "held"]:List Str) by show ("told" : Str)∉_; decide +kernel)]
  refine q1c ⟨_,rfl,q4a (by show 3≤1000; decide),fun p2 hp2=>⟨p2,_,rfl,.inr (SqT.of q0f),rfl,rfl,_,rfl,?_⟩⟩
  have s2:=s1.trans (q0g (o:=HO.tup ((["wish", "told", "away"]:List Str).map V.str)) hp2)
  show if (!inV (V.str "told") ((["wish", "told", "away"]:List Str).map V.str))=true then _ else _
  rw [q9b,show decide (("told" : Str)∈(["wish", "told", "away"]:List Str))=true by decide +kernel]
  have I2:=I.same s2
  cases I2 with
  | @tup q xs _ ea hl rr =>
  have hlen:=rr.length
  refine q1c ⟨_,rfl,q,xs,rfl,.inr (SqT.of ea),rfl,_,rfl,?_⟩
  rw [show (!decide (V.int (xs.length:Int)=V.int 5))=false by rw [hlen]; rfl]
  obtain⟨v1,e1,I1⟩:=rr.at (i:=1) rfl
  obtain⟨v2,e2,I2⟩:=rr.at (i:=2) rfl
  obtain⟨v3,e3,I3⟩:=rr.at (i:=3) rfl
  obtain⟨v4,e4,I4⟩:=rr.at (i:=4) rfl
  refine q1c ⟨_,rfl,q,xs,3,v3,rfl,rfl,SqT.of ea,e3,B,v3,c1,1,hB,rfl,I3,fun H3 s3=>⟨_,rfl,?_⟩⟩
  rw [h3]
  have s03:=s2.trans s3
  refine q1c ⟨_,rfl,rfl,_,rfl,?_⟩
  rw [show decide (V.str (q1l (.tup [.str "told",k1,n1,c1,d1]))=V.str "wish")=false from z5p (by show ("told" : Str)≠_; decide +kernel)]
  refine q1c ⟨_,rfl,q,xs,1,v1,rfl,rfl,SqT.of (s3 _ _ ea),e1,B,v1,k1,hB,rfl,I1.same s3,fun H4 s4=>⟨_,rfl,?_⟩⟩
  rw [h1]
  refine q1c ⟨_,rfl,q,xs,2,v2,rfl,rfl,SqT.of (s4 _ _ (s3 _ _ ea)),e2,B,v2,n1,hB,rfl,(I2.same s3).same s4,fun H5 s5=>⟨_,rfl,?_⟩⟩
  rw [h2]
  have s05:=(s03.trans s4).trans s5
  have ea5:=s5 _ _ (s4 _ _ (s3 _ _ ea))
  have I5:=((I4.same s3).same s4).same s5
  refine q1c ⟨_,rfl,rfl,_,rfl,?_⟩
  rw [show decide (V.str (q1l (.tup [.str "told",k1,n1,c1,d1]))=V.str "told")=true from j9f rfl]
  exact q1m ⟨_,rfl,q,xs,4,v4,rfl,rfl,SqT.of ea5,e4,B,v4,d1,hB,rfl,I5,fun H6 s6=>by rw [h4]; exact k _ (s05.trans s6)⟩
 | @away k1 n1 c1 d1 h1 h2 h3 h4 =>
  rw [decide_eq_false (show q1l (.tup [.str "away",k1,n1,c1,d1])∉(["ask", "voice", "hand", "pack", "held"]:List Str) by show ("away" : Str)∉_; decide +kernel)]
  refine q1c ⟨_,rfl,q4a (by show 3≤1000; decide),fun p2 hp2=>⟨p2,_,rfl,.inr (SqT.of q0f),rfl,rfl,_,rfl,?_⟩⟩
  have s2:=s1.trans (q0g (o:=HO.tup ((["wish", "told", "away"]:List Str).map V.str)) hp2)
  show if (!inV (V.str "away") ((["wish", "told", "away"]:List Str).map V.str))=true then _ else _
  rw [q9b,show decide (("away" : Str)∈(["wish", "told", "away"]:List Str))=true by decide +kernel]
  have I2:=I.same s2
  cases I2 with
  | @tup q xs _ ea hl rr =>
  have hlen:=rr.length
  refine q1c ⟨_,rfl,q,xs,rfl,.inr (SqT.of ea),rfl,_,rfl,?_⟩
  rw [show (!decide (V.int (xs.length:Int)=V.int 5))=false by rw [hlen]; rfl]
  obtain⟨v1,e1,I1⟩:=rr.at (i:=1) rfl
  obtain⟨v2,e2,I2⟩:=rr.at (i:=2) rfl
  obtain⟨v3,e3,I3⟩:=rr.at (i:=3) rfl
  obtain⟨v4,e4,I4⟩:=rr.at (i:=4) rfl
  refine q1c ⟨_,rfl,q,xs,3,v3,rfl,rfl,SqT.of ea,e3,B,v3,c1,1,hB,rfl,I3,fun H3 s3=>⟨_,rfl,?_⟩⟩
  rw [h3]
  have s03:=s2.trans s3
  refine q1c ⟨_,rfl,rfl,_,rfl,?_⟩
  rw [show decide (V.str (q1l (.tup [.str "away",k1,n1,c1,d1]))=V.str "wish")=false from z5p (by show ("away" : Str)≠_; decide +kernel)]
  refine q1c ⟨_,rfl,q,xs,1,v1,rfl,rfl,SqT.of (s3 _ _ ea),e1,B,v1,k1,hB,rfl,I1.same s3,fun H4 s4=>⟨_,rfl,?_⟩⟩
  rw [h1]
  refine q1c ⟨_,rfl,q,xs,2,v2,rfl,rfl,SqT.of (s4 _ _ (s3 _ _ ea)),e2,B,v2,n1,hB,rfl,(I2.same s3).same s4,fun H5 s5=>⟨_,rfl,?_⟩⟩
  rw [h2]
  have s05:=(s03.trans s4).trans s5
  have ea5:=s5 _ _ (s4 _ _ (s3 _ _ ea))
  have I5:=((I4.same s3).same s4).same s5
  refine q1c ⟨_,rfl,rfl,_,rfl,?_⟩
  rw [show decide (V.str (q1l (.tup [.str "away",k1,n1,c1,d1]))=V.str "told")=false from z5p (by show ("away" : Str)≠_; decide +kernel)]
  refine q1c ⟨_,rfl,q,xs,4,v4,rfl,rfl,SqT.of ea5,e4,rfl,_,rfl,?_⟩
  by_cases hd:d1=.non
  ·subst hd
   cases I5
   exact q1m (k _ s05)
  ·have go:decide (v4=V.non)=false∧q8m d1=q0k d1:=by
    cases I5 with
    | non=>exact absurd rfl hd
    | _=>exact⟨rfl,rfl⟩
   rw [go.1]
   rw [go.2] at h4
   exact q1c ⟨_,rfl,q,xs,4,v4,rfl,rfl,SqT.of ea5,e4,B,v4,d1,hB,rfl,I5,fun H6 s6=>by rw [h4]; exact k _ (s05.trans s6)⟩
end
theorem j1p {B:Nat} {H:Hp} {v:V} {W:Str} {ds:List D} (I:Is B H v (.tup (.str W::ds))):∃ a xs,v=.ref a∧H a=some (.tup (.str W::xs)):=by
 cases I with
 | tup e l r=>cases r with | cons h t=>cases h; exact⟨_,_,rfl,e⟩
theorem w6v {x0:Str} {x1 x2:Int} {x3:D} (h:q6n x3≠[]):J (q2i (.tup [.str "wish",.str x0,.int x1,.int x2,x3])) = "wish " ++ x0 ++ " " ++ (q1j x1 ++ " " ++ q1j x2) ++ " " ++ J (q6n x3):=by
 have e:q2i (.tup [.str "wish",.str x0,.int x1,.int x2,x3])=[("wish" : Str),x0,q1j x1,q1j x2]++q6n x3:=by
  show ("wish" : Str)::x0::q1j x1::q1j x2::(q6n x3++[])=_
  rw [List.append_nil]
  rfl
 have e2:("wish " : Str) = "wish" ++ " " := by decide +kernel
 rw [e,x2d (by simp) h,e2]
 simp only [x1p,x2n,x2h]
theorem j6z (W f0 f1 f2 f3:Str):J [W,f0,f1,f2,f3]=W ++ " " ++ f0 ++ " " ++ f1 ++ " " ++ f2 ++ " " ++ f3:=by simp only [x1p,x2n,x2h]
section
variable {P:Program} {w:World} {K:Frag} {mg:Str→Option Value} {base:Heap}
theorem j4j:FnScope ["_law_letter_here", "_law_numbers", "_law_words"] ["_law_letter_here"] (q0e q7c):=fSc
theorem z4p {f:Addr} {fd:FuncData} (F:Fun K "_law_text_of" "_law_text_of" q7c f fd) (CF:Cal P w K mg base "_law_figures" 2 ["_law_number"] z2h) (CD:Cal P w K mg base "_law_deed_words" 3 ["_law_deed_here"] (spT q6j q6n)) (CB:Cal P w K mg base "_law_text_between" 5 ["_law_letter_here"] (spT w2a q2i)):FnOk P w K mg base CX0 6 f fd ["_law_letter_here"] (spT (q2t q3c) q2i):=by
 refine F.ok j4j x2k (fun _ A _ s H vs Q E hr h=>?_)
 obtain⟨B,v,d,hB,rfl,I,hp,hs,q⟩:=h
 have r2:=hr.mono (show 2≤5 by decide)
 have r3:=hr.mono (show 3≤5 by decide)
 refine⟨_,(@q0x _ _ _ _ _ (q1r (q0t q1w (q0u q0o (pv 0) q0a q2q) q0n (q0r _)) (@q0x _ _ _ _ _ (q0z (i:=1) j4j.nd (by rfl) (by exact Or.inl rfl) (q0i q0j (q0i q0j (q0h CF r2 (q4p (q0u q0o (pv 0) q0a q2q) q0b)) q0n) (q0h CF r2 (q4p (q0u q0o (pv 0) q0a q2q) q0b)))) (@q1h _ _ _ (q0l (q0i q0j (q0i q0j (q0i q0j (q0i q0j (q0i q0j q0n (q0u q0o (pv 0) q0a q2q)) q0n) (pv 1)) q0n) (q0h CD r3 (q4p (q0u q0o (pv 0) q0a q2q) q0b)))))) q0s)
  (@q0x _ _ _ _ _ (q1r (q0t q6t (q0u q0o (pv 0) q0a q2q) (QE.h (q6s (q1q (q1q q4g)))) rfl) (@q1h _ _ _ (q0l (q0h CB hr (q1g (pv 0) q0b)))) q0s)
  (@q0x _ _ _ _ _ (q0z (i:=2) j4j.nd (by rfl) (by exact Or.inl rfl) (q0i q0j (q0i q0j (q0i q0j (q0i q0j (q0i q0j (q0u q0o (pv 0) q0a q2q) q0n) (q0h CF r2 (q4p (q0u q0o (pv 0) q0a q2q) q0b))) q0n) (q0u q0o (pv 0) q0a q2q)) q0n))
  (@q0x _ _ _ _ _ (q0z (i:=2) j4j.nd (by rfl) (by exact Or.inl rfl) (q0i q0j (q0i q0j (pv 2) (q0h CF r2 (q4p (q0u q0o (pv 0) q0a q2q) q0b))) q0n))
  (@q0x _ _ _ _ _ (q1r (q0t z2i (q0u q0o (pv 0) q0a q2q) x4n (q0r _)) (@q1h _ _ _ (q0l (q0i q0j (pv 2) q0n))) q0s)
  (@q1h _ _ _ (q0l (q0i q0j (pv 2) (q0h CF r2 (q4p (q0u q0o (pv 0) q0a q2q) q0b)))))))))),?_⟩
 have hb:q2t q3c d=true:=hp
 have hwid:=(I.mono hB (q1b.refl _)).wid
 have e1':(" " : Str).length=1:=rfl
 have e4':("none" : Str).length=4:=rfl
 have e5':("wish " : Str).length=5:=rfl
 by_cases hf:(["ask", "voice", "hand", "pack", "held"]:List Str).contains (q1l d)=true
 ·have hbt:w2a d=true:=by unfold w2a; rw [hb,hf]; rfl
  obtain⟨x,r,ps,rfl,e,_⟩:=q3l hb
  obtain⟨a,xs,rfl,ea⟩:=j1p I
  have hx:x∈(["ask", "voice", "hand", "pack", "held"]:List Str):=List.contains_iff_mem.mp hf
  have n1:decide (V.str x=V.str ("wish" : Str))=false:=by
   simp only [List.mem_cons,List.not_mem_nil,or_false] at hx
   rcases hx with rfl | rfl | rfl | rfl | rfl <;> decide +kernel
  have n2:¬ x∈(["told", "away"]:List Str):=by
   simp only [List.mem_cons,List.not_mem_nil,or_false] at hx
   rcases hx with rfl | rfl | rfl | rfl | rfl <;> decide +kernel
  refine⟨_,rfl,a,_,_,.str x,rfl,rfl,SqT.of ea,q0m (j:=0) rfl,rfl,_,rfl,?_⟩
  rw [n1]
  refine q1c ⟨_,rfl,a,_,_,.str x,rfl,rfl,SqT.of ea,q0m (j:=0) rfl,q4a (by show 2≤1000; decide),fun p hp'=>⟨p,_,rfl,.inr (SqT.of q0f),rfl,rfl,_,rfl,?_⟩⟩
  have s1:=q0g (o:=HO.tup ((["told", "away"]:List Str).map V.str)) hp'
  show if (!inV (V.str x) ((["told", "away"]:List Str).map V.str))=true then _ else _
  rw [q9b,decide_eq_false n2]
  exact q1m ⟨_,rfl,B,_,_,hB,rfl,I.same s1,hbt,hs,fun H' s'=>q H' (s1.trans s')⟩
 cases x4y hb with
 | ask x0 x1 x2 x3 x4=>exact absurd (show (["ask", "voice", "hand", "pack", "held"]:List Str).contains ("ask" : Str)=true from by decide +kernel) hf
 | voice x0 x1 x2 x3=>exact absurd (show (["ask", "voice", "hand", "pack", "held"]:List Str).contains ("voice" : Str)=true from by decide +kernel) hf
 | hand x0 x1 x2 x3 x4 x5 x6 h5=>exact absurd (show (["ask", "voice", "hand", "pack", "held"]:List Str).contains ("hand" : Str)=true from by decide +kernel) hf
 | pack x0 x1 x2 x3 h3=>exact absurd (show (["ask", "voice", "hand", "pack", "held"]:List Str).contains ("pack" : Str)=true from by decide +kernel) hf
 | held x0 x1 x2 x3 x4=>exact absurd (show (["ask", "voice", "hand", "pack", "held"]:List Str).contains ("held" : Str)=true from by decide +kernel) hf
 | wish x0 x1 x2 x3 h0 h3 =>
  cases I with
  | @tup a xs _ ea l r =>
  obtain⟨w0,_,rfl,z0,rr0⟩:=IsL.un r
  obtain rfl:=Is.vstr z0
  obtain⟨w1,_,rfl,z1,rr1⟩:=IsL.un rr0
  obtain rfl:=Is.vstr z1
  obtain⟨w2,_,rfl,z2,rr2⟩:=IsL.un rr1
  obtain rfl:=Is.vint z2
  obtain⟨w3,_,rfl,z3,rr3⟩:=IsL.un rr2
  obtain rfl:=Is.vint z3
  obtain⟨ve,_,rfl,ie,rr4⟩:=IsL.un rr3
  obtain rfl:=IsL.un0 rr4
  simp only [q2a,smallL,Bool.true_and,Bool.and_true,Bool.and_eq_true,decide_eq_true_eq] at hs
  have f1:=q1d (n:=x1) (k:=60) (by decide) hs.1
  have f2:=q1d (n:=x2) (k:=60) (by decide) hs.2.1
  have hxl:=q6e h0
  have fd:=(x3m (B:=36000) x3 h3 (ie.mono hB (q1b.refl _)).wid).text (by rw [smallL,hs.2.2]; rfl)
  refine⟨_,rfl,a,_,_,.str "wish",rfl,rfl,SqT.of ea,q0m (j:=0) rfl,rfl,_,rfl,?_⟩
  rw [(show decide (V.str ("wish" : Str)=V.str ("wish" : Str))=true from by decide +kernel)]
  refine q1m ⟨_,rfl,a,_,_,.int x1,rfl,rfl,SqT.of ea,q0m (j:=2) rfl,x1,rfl,hs.1,_,_,rfl,rfl,?_,_,rfl,a,_,_,.int x2,rfl,rfl,SqT.of ea,q0m (j:=3) rfl,x2,rfl,hs.2.1,_,_,rfl,rfl,?_,?_⟩
  ·simp only [q0d,e1',e4',e5']
   rw [sizeLine_eq]
   clear hs
   omega
  ·simp only [q0d,e1',e4',e5']
   rw [sizeLine_eq]
   clear hs
   omega
  refine⟨_,rfl,a,_,_,.str x0,rfl,rfl,SqT.of ea,q0m (j:=1) rfl,_,_,rfl,rfl,?_,_,_,rfl,rfl,?_,_,rfl,_,_,rfl,rfl,?_,_,_,rfl,rfl,?_,_,rfl,a,_,_,ve,rfl,rfl,SqT.of ea,q0m (j:=4) rfl,B,ve,x3,hB,rfl,ie,h3,hs.2.2,fun H' s'=>⟨_,_,rfl,rfl,?_,?_⟩⟩
  ·simp only [q0d,e1',e4',e5']
   rw [sizeLine_eq]
   clear hs
   omega
  ·simp only [q0d,e1',e4',e5']
   rw [sizeLine_eq]
   clear hs
   omega
  ·simp only [q0d,e1',e4',e5']
   rw [sizeLine_eq]
   clear hs
   omega
  ·simp only [q0d,e1',e4',e5']
   rw [sizeLine_eq]
   clear hs
   omega
  ·simp only [q0d,e1',e4',e5']
   rw [sizeLine_eq]
   clear hs
   omega
  ·have q':=q H' s'
   rw [w6v (z2j h3)] at q'
   exact q'
 | told x0 x1 x2 x3 h1 =>
  cases I with
  | @tup a xs _ ea l r =>
  obtain⟨w0,_,rfl,z0,rr0⟩:=IsL.un r
  obtain rfl:=Is.vstr z0
  obtain⟨w1,_,rfl,z1,rr1⟩:=IsL.un rr0
  obtain rfl:=Is.vint z1
  obtain⟨w2,_,rfl,z2,rr2⟩:=IsL.un rr1
  obtain rfl:=Is.vstr z2
  obtain⟨w3,_,rfl,z3,rr3⟩:=IsL.un rr2
  obtain rfl:=Is.vint z3
  obtain⟨v3,_,rfl,i3,rr4⟩:=IsL.un rr3
  obtain rfl:=IsL.un0 rr4
  simp only [q2a,smallL,Bool.true_and,Bool.and_true,Bool.and_eq_true,decide_eq_true_eq] at hs
  have f0:=q1d (n:=x0) (k:=60) (by decide) hs.1
  have f2:=q1d (n:=x2) (k:=60) (by decide) hs.2.1
  have hxl:=q6e h1
  refine⟨_,rfl,a,_,_,.str "told",rfl,rfl,SqT.of ea,q0m (j:=0) rfl,rfl,_,rfl,?_⟩
  rw [(show decide (V.str ("told" : Str)=V.str ("wish" : Str))=false from by decide +kernel)]
  refine q1c ⟨_,rfl,a,_,_,.str "told",rfl,rfl,SqT.of ea,q0m (j:=0) rfl,q4a (by show 2≤1000; decide),fun p hp'=>⟨p,_,rfl,.inr (SqT.of q0f),rfl,rfl,_,rfl,?_⟩⟩
  have s1:=q0g (o:=HO.tup ((["told", "away"]:List Str).map V.str)) hp'
  show if (!inV (V.str ("told" : Str)) ((["told", "away"]:List Str).map V.str))=true then _ else _
  rw [q9b,show decide (("told" : Str)∈(["told", "away"]:List Str))=true from by decide +kernel]
  have eW:("told" : Str).length=4:=by decide +kernel
  refine q1c ⟨_,rfl,a,_,_,.str "told",rfl,rfl,SqT.of (s1 _ _ ea),q0m (j:=0) rfl,_,_,rfl,rfl,?_,_,rfl,a,_,_,.int x0,rfl,rfl,SqT.of (s1 _ _ ea),q0m (j:=1) rfl,x0,rfl,hs.1,_,_,rfl,rfl,?_,_,_,rfl,rfl,?_,_,rfl,a,_,_,.str x1,rfl,rfl,SqT.of (s1 _ _ ea),q0m (j:=2) rfl,_,_,rfl,rfl,?_,_,_,rfl,rfl,?_,?_⟩
  ·simp only [q0d,e1',e4',e5']
   rw [sizeLine_eq]
   clear hs
   omega
  ·simp only [q0d,e1',e4',e5']
   rw [sizeLine_eq]
   clear hs
   omega
  ·simp only [q0d,e1',e4',e5']
   rw [sizeLine_eq]
   clear hs
   omega
  ·simp only [q0d,e1',e4',e5']
   rw [sizeLine_eq]
   clear hs
   omega
  ·simp only [q0d,e1',e4',e5']
   rw [sizeLine_eq]
   clear hs
   omega
  refine⟨_,rfl,_,rfl,a,_,_,.int x2,rfl,rfl,SqT.of (s1 _ _ ea),q0m (j:=3) rfl,x2,rfl,hs.2.1,_,_,rfl,rfl,?_,_,_,rfl,rfl,?_,?_⟩
  ·simp only [q0d,e1',e4',e5']
   rw [sizeLine_eq]
   clear hs
   omega
  ·simp only [q0d,e1',e4',e5']
   rw [sizeLine_eq]
   clear hs
   omega
  cases i3
  have f3:=q1d (n:=x3) (k:=60) (by decide) hs.2.2
  refine⟨_,rfl,a,_,_,.int x3,rfl,rfl,SqT.of (s1 _ _ ea),q0m (j:=4) rfl,rfl,_,rfl,q1c ⟨_,rfl,_,rfl,a,_,_,.int x3,rfl,rfl,SqT.of (s1 _ _ ea),q0m (j:=4) rfl,x3,rfl,hs.2.2,_,_,rfl,rfl,?_,?_⟩⟩
  ·simp only [q0d,e1',e4',e5']
   rw [sizeLine_eq]
   clear hs
   omega
  ·have q':=q _ s1
   rw [show q2i (.tup [.str "told",.int x0,.str x1,.int x2,.int x3])=[("told" : Str),q1j x0,x1,q1j x2,q1j x3] from rfl,j6z] at q'
   exact q'
 | away x0 x1 x2 x3 h1 h3 =>
  have hx3:x3=.non∨∃ i,x3=.int i:=by
   cases x3 with
   | non=>exact .inl rfl
   | int i=>exact .inr ⟨i,rfl⟩
   | _=>cases h3
  cases I with
  | @tup a xs _ ea l r =>
  obtain⟨w0,_,rfl,z0,rr0⟩:=IsL.un r
  obtain rfl:=Is.vstr z0
  obtain⟨w1,_,rfl,z1,rr1⟩:=IsL.un rr0
  obtain rfl:=Is.vint z1
  obtain⟨w2,_,rfl,z2,rr2⟩:=IsL.un rr1
  obtain rfl:=Is.vstr z2
  obtain⟨w3,_,rfl,z3,rr3⟩:=IsL.un rr2
  obtain rfl:=Is.vint z3
  obtain⟨v3,_,rfl,i3,rr4⟩:=IsL.un rr3
  obtain rfl:=IsL.un0 rr4
  simp only [q2a,smallL,Bool.true_and,Bool.and_true,Bool.and_eq_true,decide_eq_true_eq] at hs
  have f0:=q1d (n:=x0) (k:=60) (by decide) hs.1
  have f2:=q1d (n:=x2) (k:=60) (by decide) hs.2.1
  have hxl:=q6e h1
  refine⟨_,rfl,a,_,_,.str "away",rfl,rfl,SqT.of ea,q0m (j:=0) rfl,rfl,_,rfl,?_⟩
  rw [(show decide (V.str ("away" : Str)=V.str ("wish" : Str))=false from by decide +kernel)]
  refine q1c ⟨_,rfl,a,_,_,.str "away",rfl,rfl,SqT.of ea,q0m (j:=0) rfl,q4a (by show 2≤1000; decide),fun p hp'=>⟨p,_,rfl,.inr (SqT.of q0f),rfl,rfl,_,rfl,?_⟩⟩
  have s1:=q0g (o:=HO.tup ((["told", "away"]:List Str).map V.str)) hp'
  show if (!inV (V.str ("away" : Str)) ((["told", "away"]:List Str).map V.str))=true then _ else _
  rw [q9b,show decide (("away" : Str)∈(["told", "away"]:List Str))=true from by decide +kernel]
  have eW:("away" : Str).length=4:=by decide +kernel
  refine q1c ⟨_,rfl,a,_,_,.str "away",rfl,rfl,SqT.of (s1 _ _ ea),q0m (j:=0) rfl,_,_,rfl,rfl,?_,_,rfl,a,_,_,.int x0,rfl,rfl,SqT.of (s1 _ _ ea),q0m (j:=1) rfl,x0,rfl,hs.1,_,_,rfl,rfl,?_,_,_,rfl,rfl,?_,_,rfl,a,_,_,.str x1,rfl,rfl,SqT.of (s1 _ _ ea),q0m (j:=2) rfl,_,_,rfl,rfl,?_,_,_,rfl,rfl,?_,?_⟩
  ·simp only [q0d,e1',e4',e5']
   rw [sizeLine_eq]
   clear hs
   omega
  ·simp only [q0d,e1',e4',e5']
   rw [sizeLine_eq]
   clear hs
   omega
  ·simp only [q0d,e1',e4',e5']
   rw [sizeLine_eq]
   clear hs
   omega
  ·simp only [q0d,e1',e4',e5']
   rw [sizeLine_eq]
   clear hs
   omega
  ·simp only [q0d,e1',e4',e5']
   rw [sizeLine_eq]
   clear hs
   omega
  refine⟨_,rfl,_,rfl,a,_,_,.int x2,rfl,rfl,SqT.of (s1 _ _ ea),q0m (j:=3) rfl,x2,rfl,hs.2.1,_,_,rfl,rfl,?_,_,_,rfl,rfl,?_,?_⟩
  ·simp only [q0d,e1',e4',e5']
   rw [sizeLine_eq]
   clear hs
   omega
  ·simp only [q0d,e1',e4',e5']
   rw [sizeLine_eq]
   clear hs
   omega
  rcases hx3 with rfl | ⟨i,rfl⟩
  ·cases i3
   refine⟨_,rfl,a,_,_,.non,rfl,rfl,SqT.of (s1 _ _ ea),q0m (j:=4) rfl,rfl,_,rfl,q1m ⟨_,rfl,_,_,rfl,rfl,?_,?_⟩⟩
   ·simp only [q0d,e1',e4',e5']
    rw [sizeLine_eq]
    clear hs
    omega
   ·have q':=q _ s1
    rw [show q2i (.tup [.str "away",.int x0,.str x1,.int x2,.non])=[("away" : Str),q1j x0,x1,q1j x2,("none" : Str)] from rfl,j6z] at q'
    exact q'
  ·simp only [q2a,decide_eq_true_eq] at hs
   cases i3
   have f3:=q1d (n:=i) (k:=60) (by decide) hs.2.2
   refine⟨_,rfl,a,_,_,.int i,rfl,rfl,SqT.of (s1 _ _ ea),q0m (j:=4) rfl,rfl,_,rfl,q1c ⟨_,rfl,_,rfl,a,_,_,.int i,rfl,rfl,SqT.of (s1 _ _ ea),q0m (j:=4) rfl,i,rfl,hs.2.2,_,_,rfl,rfl,?_,?_⟩⟩
   ·simp only [q0d,e1',e4',e5']
    rw [sizeLine_eq]
    clear hs
    omega
   ·have q':=q _ s1
    rw [show q2i (.tup [.str "away",.int x0,.str x1,.int x2,.int i])=[("away" : Str),q1j x0,x1,q1j x2,q1j i] from rfl,j6z] at q'
    exact q'
end
end K1
namespace K1
open PySem L2 Kp Kz
section
variable {P:Program} {w:World} {K:Frag} {mg:Str→Option Value} {base:Heap}
noncomputable def j4b (K:Frag):Sp:=fun vs H Q _=>∃ (a:Addr) (ns:List Int),vs=[.ref a]∧SqL K H a (ns.map V.int)∧ns.length≤63∧∀ H',Q (.bl true) H'
noncomputable def w5f (K:Frag):TS:=fun D σ H=>∃ (a:Addr) (ns:List Int) (y:Str) (x2:Option V),σ=[some (.ref a),some (.str y),x2,none]∧SqL K H a (ns.map V.int)∧y.length≤70000∧∀ (y':Str) x2' H',y'.length≤70000→q1b H H'→D.nx [some (.ref a),some (.str y'),x2',none] H'
theorem j9i:FnScope ["_law_script", "_law_text", "_law_texts", "_law_found"] ["_law_script"] (q0e j2i):=fSc
theorem w0n {f:Addr} {fd:FuncData} {kk:Nat} {cN:Addr} (hk:7≤kk) (F:Fun K "law" "law" j2i f fd) (mN:mg "NoLetter" = some (.ref cN)) (hx:PySem.W.exmOne K (.ref cN) (.ref cN)=some true) (CM:Cal P w K mg base "_law_mixed" 2 ["_law_script", "_law_k"] (q6w K)) (CB:Cal P w K mg base "_law_letter_by" 7 ["_law_script", "_law_at"] (z0j K 800 (ThP q2o))) (CT:Cal P w K mg base "_law_text_of" 6 ["_law_letter_here"] (spT (q2t q3c) q2i)) (CC:Cal P w K mg base "_law_changed" 2 ["_law_text", "_law_number"] j5c) (CR:CalE P w K mg base "read" kk ["line"] (z1g cN)) (CL:Cal P w K mg base "_law_letter" 6 ["_law_thing"] j6e) :
  FnOk P w K mg base CX0 (kk+1) f fd ["_law_script"] (j4b K):=by
 refine F.ok j9i (fun vs H Q E ⟨_,_,e,_⟩=>by subst e; rfl) (fun _ A _ s H vs Q E hr h=>?_)
 obtain⟨a,ns,rfl,hS,hlen,k⟩:=h
 obtain⟨gR,dR,GR,mR,kR,bR⟩:=CR.ex
 have r2:=hr.mono (show 2≤kk by omega)
 have r6:=hr.mono (show 6≤kk by omega)
 have r7:=hr.mono (show 7≤kk by omega)
 refine⟨_,@q0x _ _ _ _ _ (q0z (i:=1) j9i.nd (by rfl) (by exact Or.inl rfl) (q0h CT r6 (q7n (q0h CB r7 (q1g (pv 0) (q5x q0a q0b))) q0b)))
  (@q0x _ _ _ _ _ (q0z (i:=1) j9i.nd (by rfl) (by exact Or.inl rfl) (q0h CC r2 (q1g (pv 1) (q7o (q0i q1n (q0h CM r2 (q1g (pv 0) (q5x q0a q0b))) (q0i q7h q0a (q0h CM r2 (q1g (pv 0) (q5x q0a q0b))))) q0b))))
  (@q0x _ _ _ _ _ (PS.weakB (t':=w5f K) (q1r (q0t q1w (q0i q1k (q0h CM r2 (q1g (pv 0) (q5x q0a q0b))) q0a) q0a (q0r _))
   (@j8h _ _ _ _ _ (j0v (i:=2) j9i.nd (by rfl) (by exact Or.inl rfl) (x4t (q1q (q1q (q1q (q1q (j1n (q0i q0j q0n (q0i x7r q0n q0a)) q4g)))))) w4e)
   (@q1h _ _ _ (q0z (i:=1) j9i.nd (by rfl) (by exact Or.inl rfl) (q0u q5i (q0i x4k (pv 2) (x0h (q5x q0n q0b))) (q0i q1k (q0i q1u (q0h CM r2 (q1g (pv 0) (q5x q0a q0b))) q0a) q0a) z5d)))) q0s) ?w1)
  (@q0x _ _ _ _ _ (z8k (i:=3) (by rfl) (by rfl) GR hr (by rfl) mR kR bR (fun _=>q1g (pv 1) q0b) j9i.nd (by rfl) (by exact Or.inl rfl) (by rfl) mN (fun _=>@q1h _ _ _ (q0l x0q)))
  (@q1h _ _ _ (q0l (q2b (q0h CL r6 (q1g (pv 3) q0b)) (q2j (q1v q1w (q0h CT r6 (q1g (pv 3) q0b)) (pv 1) (q0r _))))))))),?_⟩
 case w1 =>
  rintro D σ H ⟨a,ns,y,x2,rfl,hS,hy,q⟩
  refine⟨_,rfl,a,ns,0,rfl,hS,by decide,by decide,fun n n0 n1=>⟨_,_,rfl,rfl,(by show (0:Int) < 8; decide),rfl,_,rfl,x5d (fun _=>?_) (fun _=>q y x2 H hy (q1b.refl _))⟩⟩
  have l1:("hand 0 1 1 0 0 0 6" : Str).length=18:=by decide +kernel
  have l2:=x7q " 1 open" 6
  have l3:(" 1 open" : Str).length=7:=by decide +kernel
  rw [l3] at l2
  refine⟨_,_,rfl,rfl,by decide,by decide,by decide,_,_,rfl,rfl,(by rw [l1,sizeLine_eq]; have:(6:Int).toNat=6:=rfl; omega),?_⟩
  generalize eo:("hand 0 1 1 0 0 0 6" : Str)++Txt.mul " 1 open" 6=o
  have lo:o.length≤100:=by rw [← eo,q3t,l1]; have:(6:Int).toNat=6:=rfl; omega
  refine⟨q4a (by show 5≤1000; decide),fun p hp=>?_⟩
  have s1:=q0g (o:=HO.lst [V.str "",V.str "ask ",V.str " ask 0 1 1 0 0",V.str "voice 0 1 1 yes ",V.str o]) hp
  refine⟨_,rfl,q4a (by show 1≤1000; decide),fun p2 hp2=>?_⟩
  have s2:=q0g (o:=HO.lst [V.str "pack 0 1 1 0 0 1 0 0 0"]) hp2
  refine⟨p,p2,_,_,rfl,rfl,s2 _ _ q0f,q0f,q4a (by show 6≤1000; decide),fun p3 hp3=>?_⟩
  have s3:=q0g (o:=HO.lst [V.str "",V.str "ask ",V.str " ask 0 1 1 0 0",V.str "voice 0 1 1 yes ",V.str o,V.str "pack 0 1 1 0 0 1 0 0 0"]) hp3
  have sA:=(s1.trans s2).trans s3
  refine⟨_,rfl,a,ns,0,rfl,SqL.same hS sA,by decide,by decide,fun n n0 n1=>⟨_,_,rfl,rfl,⟨by decide,by decide⟩,_,_,rfl,rfl,(by show (0:Int) < 6; decide),?_⟩⟩
  obtain⟨b0,b1⟩:=q2d (n / 8) (m:=6) (by decide)
  obtain⟨u,eu,hu⟩:=q5s (xs:=[V.str "",V.str "ask ",V.str " ask 0 1 1 0 0",V.str "voice 0 1 1 yes ",V.str o,V.str "pack 0 1 1 0 0 1 0 0 0"]) (i:=n / 8 % 6) b0 (by show n / 8 % 6 < ((6:Nat):Int); omega)
  have hy:∃ y:Str,u=.str y∧y.length≤100:=by
   simp only [List.mem_cons,List.not_mem_nil,or_false] at hu
   rcases hu with rfl | rfl | rfl | rfl | rfl | rfl
   ·exact⟨_,rfl,by decide +kernel⟩
   ·exact⟨_,rfl,by decide +kernel⟩
   ·exact⟨_,rfl,by decide +kernel⟩
   ·exact⟨_,rfl,by decide +kernel⟩
   ·exact⟨_,rfl,lo⟩
   ·exact⟨_,rfl,by decide +kernel⟩
  obtain⟨y',rfl,hl⟩:=hy
  exact⟨p3,_,_,_,rfl,rfl,SqL.of q0f,eu,q y' _ _ (by omega) sA⟩
 refine⟨_,rfl,a,ns,2,rfl,hS,by decide,by decide,fun v1 H1 t1 s1=>?_⟩
 obtain⟨d1,I1,hp1,hsm1,hno1⟩:=t1
 have hb1:q2t q3c d1=true:=(Bool.and_eq_true _ _ |>.mp hp1).1
 have W:=x6m (B:=200) (by decide) d1 hb1 I1.wid
 have hsl:smallL 60 [d1]=true:=by rw [smallL,hsm1]; rfl
 have hne:q2i d1≠[]:=by
  obtain⟨x,r,_,rfl,_,_⟩:=q3l hb1
  exact List.cons_ne_nil _ _
 have hsp:=W.split hne
 have htx:=W.text hsl
 refine⟨200,v1,d1,by decide,rfl,I1,hb1,hsm1,fun H2 s2=>?_⟩
 have hS2:=SqL.same (SqL.same hS s1) s2
 refine⟨_,rfl,_,rfl,a,ns,1,rfl,hS2,by decide,by decide,fun n n0 n1=>⟨_,rfl,a,ns,30,rfl,hS2,by decide,by decide,fun m m0 m1=>?_⟩⟩
 refine⟨_,_,rfl,rfl,.inl ⟨by decide,by decide⟩,_,_,rfl,rfl,J (q2i d1),n+7*m,rfl,by omega,by omega,?_,?_,fun y H3 hy s3=>?_⟩
 ·rw [hsp]; have:=W.few; omega
 ·rw [hsp]; exact W.len 60 (by decide) hsl
 refine⟨a,ns,y,none,rfl,SqL.same hS2 s3,hy,fun y' x2 H4 hy' s4=>?_⟩
 have hfw:=x8i (z:=y') (y := " ") (by decide)
 refine⟨_,rfl,y',rfl,(by rw [sizeLine_eq]; omega),by omega,(fun x hx=>Nat.le_trans (z1b hx) (by omega)),fun v H5 d I hp hsm hno hJ s5=>?_,fun H5=>⟨hx,fun _ _=>k _⟩⟩
 have hb:q2t q3c d=true:=(Bool.and_eq_true _ _ |>.mp hp).1
 have hge:=w4l (q2i d)
 rw [hJ] at hge
 have I':Is 36000 H5 v d:=I.fit (z9q (by decide) d hb (by omega))
 refine⟨_,rfl,100000,v,d,Nat.le_refl _,rfl,I,hp,fun H6 s6=>⟨_,rfl,q1m ⟨_,rfl,36000,v,d,Nat.le_refl _,rfl,I'.same s6,hb,hsm,fun H7 s7=>⟨_,rfl,rfl,?_⟩⟩⟩⟩
 rw [hJ]
 have e:decide (V.str y'=V.str y')=true:=decide_eq_true rfl
 first | exact k _ | (rw [e]; exact k _)
end
end K1
namespace K1
open PySem L2 Kp
section
variable {P:Program} {w:World} {K:Frag} {mg:Str→Option Value} {base:Heap}
theorem q1t {x px:Str} {k k2:Nat} {C cN g:Addr} {f:D→List Str} (R:CalE P w K mg base x k [px] (q5o C cN f)) (hm:mg x=some (.ref g)) (hk:k≤k2):Rdr P w K mg base C cN k2 g f:=by
 obtain⟨g',fd,F,m,kp,b⟩:=R.ex
 have e:g'=g:=by
  rw [m] at hm
  exact Value.ref.inj (Option.some.inj hm)
 subst e
 exact⟨⟨k,fd,px,hk,F,kp,b⟩⟩
theorem j6q {x:Str} {k:Nat} {ps:List Str} {sp sp':Sp} (R:Cal P w K mg base x k ps sp) (hs:∀ vs H Q E,sp' vs H Q E→sp vs H Q E):Cal P w K mg base x k ps sp':=by
 obtain⟨g,fd,F,m,kp,b⟩:=R.ex
 exact⟨⟨g,fd,⟨fun vs H Q E h=>F.1 vs H Q E (hs _ _ _ _ h),fun A outer s H args us vs Q E hr he hb hv h=>F.run A outer s H args us vs Q E hr he hb hv (hs _ _ _ _ h)⟩,m,kp,b⟩⟩
inductive TabR (P:Program) (w:World) (K:Frag) (mg:Str→Option Value) (base:Heap) (C cN:Addr) (k:Nat):List (Str × List (D→List Str))→List DictEntry→Prop
 | nil:TabR P w K mg base C cN k [] []
 | cons {x:Str} {tk:Tok} {h:Int} {t:Addr} {gs:List V} {fs:List (D→List Str)} {tw:List (Str × List (D→List Str))} {es:List DictEntry} (hS:∀ H,SqT K H t gs) (hR:Rrs P w K mg base C cN k gs fs) (hf:fs.length≤100) (r:TabR P w K mg base C cN k tw es):TabR P w K mg base C cN k ((x,fs)::tw) (⟨h,.str x tk,.ref t⟩::es)
theorem TabR.at {C cN:Addr} {k:Nat} (x:Str):∀ {tw:List (Str × List (D→List Str))} {es:List DictEntry},TabR P w K mg base C cN k tw es→(tw.lookup x=none∧((es.find? fun e=>Value.isStrOf x e.key).map (·.val))=none)∨∃ fs t gs,tw.lookup x=some fs∧fs.length≤100∧((es.find? fun e=>Value.isStrOf x e.key).map (·.val))=some (.ref t)∧(∀ H,SqT K H t gs)∧Rrs P w K mg base C cN k gs fs
 | _,_,.nil=>.inl ⟨rfl,rfl⟩
 | _,_,.cons (x:=y) (tk:=tk) (h:=h) (t:=t) hS hR hf r=>by
  by_cases hy:x=y
  ·subst hy
   refine .inr ⟨_,t,_,?_,hf,?_,hS,hR⟩
   ·rw [List.lookup_cons,show (x==x)=true from by simp]
   ·rw [List.find?_cons,show Value.isStrOf x (Value.str x tk)=true from by show (x==x)=true; simp]
    rfl
  ·rw [List.lookup_cons,show (x==y)=false from by rw [beq_eq_false_iff_ne]; exact hy,List.find?_cons,show Value.isStrOf x (Value.str y tk)=false from by show (y==x)=false; rw [beq_eq_false_iff_ne]; exact fun z=>hy z.symm]
   exact r.at x
theorem z9i {C cN:Addr} {name:Str} {kk:Nat} {tw:List (Str × List (D→List Str))} {a:Addr} {es:Array DictEntry} {n:Nat} (hm:mg name=some (.ref a)) (hl:K.lookup a=some ⟨.type "dict",none,.dict es n,#[]⟩) (hk:PySem.W.KeysLit w.params es.toList) (hs:(a==sysModules)=false) (T:TabR P w K mg base C cN kk tw es.toList):RTb P w K mg base C cN name kk tw :=
 ⟨⟨a,es,n,hm,hl,hk,hs,fun x=>by rw [q7q]; exact T.at x⟩⟩
end
theorem cal {P:Program} {w:World} {K:Frag} {mg:Str→Option Value} {base:Heap} {x:Str} {st:Stmt} {f:Addr} {fd:FuncData} {ps:List Str} {k:Nat} {sp:Sp} (F:Fun K x x st f fd) (hm:mg x=some (.ref f)) (b:q3p K fd ps []) (ok:FnOk P w K mg base CX0 k f fd ps sp):Cal P w K mg base x k ps sp:=⟨f,fd,ok,hm,F.kp,b⟩
theorem x2v {P:Program} {w:World} {K:Frag} {mg:Str→Option Value} {base:Heap} {x:Str} {st:Stmt} {f:Addr} {fd:FuncData} {ps:List Str} {k:Nat} {sp:Sp} (F:Fun K x x st f fd) (hm:mg x=some (.ref f)) (b:q3p K fd ps []) (ok:FnOk P w K mg base (CXe P w) k f fd ps sp):CalE P w K mg base x k ps sp:=⟨f,fd,ok,hm,F.kp,b⟩
structure DF (K:Frag) (n:Str) (st:Stmt) (f:Addr):Prop where
 a:nsIn K mainGlobals n=some (some (.ref f))
 F:∃ fd,Fun K n n st f fd
noncomputable def TF (K:Frag) (q:Addr) (vs:Array Value):Prop:=∃ o n s,K.lookup q=some ⟨.type "tuple",o,.seq vs n,s⟩
theorem TF.sq {K:Frag} {q:Addr} {vs:Array Value} {gs:List V} (h:TF K q vs) (hl:Nat.ble vs.size 1000=true) (r:q4l gs vs.toList) (H:Hp):SqT K H q gs:=let ⟨o,n,s,e⟩:=h; .inr ⟨_,_,_,e,rfl,rfl,q4a (Nat.le_of_ble_eq_true hl),r⟩
theorem bd {K:Frag} {x:Str} {st:Stmt} {f:Addr} {fd:FuncData} (p:Str) (F:Fun K x x st f fd) (h:∀ (kV doc pm:Value) (an:Option Addr) (cdv ct u:Value),bindArgs (fnOf x x (q9x st) (q6x st) (q0e st) .none kV doc pm an cdv ct) ⟨[u],[]⟩=pure ([p].zip [u])):q3p K fd [p] []:=F.binds fun _ _ _ _ _ _ us hl=>match us,hl with | [_],_=>h _ _ _ _ _ _ _
theorem bd2 {K:Frag} {x:Str} {st:Stmt} {f:Addr} {fd:FuncData} (p r:Str) (F:Fun K x x st f fd) (h:∀ (kV doc pm:Value) (an:Option Addr) (cdv ct u v:Value),bindArgs (fnOf x x (q9x st) (q6x st) (q0e st) .none kV doc pm an cdv ct) ⟨[u,v],[]⟩=pure ([p,r].zip [u,v])):q3p K fd [p,r] []:=F.binds fun _ _ _ _ _ _ us hl=>match us,hl with | [_,_],_=>h _ _ _ _ _ _ _ _
structure DMt (K:Frag) (C:Addr) (n q:Str) (st:Stmt) (g:Addr):Prop where
 a:findIn K (.ref C) n=some (some (.ref g))
 i:PySem.W.isFn K (.ref g)=true
 F:∃ fd,Fun K n q st g fd
theorem all_mk {l:PySem.W.OpenLaw} {w:World} {K:Frag} {h:Heap} {mg:Str→Option Value} {fa f0 f1 f2 f3 f4 f5 f6 f7 f8 f9 f10 f11 f12 f13 f14 f15 f16 f17 f18 f19 f20 f21 f22 f23 f24 f25 f26 f27 f28 f29 f30 f31 f32 f33 f34 f35 f36 f37 f38 f39 f40 f41 f42 f43 f44 f45 f46 f47 f48 f49 f50 f51 f52 f53 f54 f55 f56 f57 f58 f59 f60 f61 f62 f63 f64 f65 f66 f67 f68 f69 f70 f71 f72 f73 f74 f75 f76 f77 f78 f79 f80 f81 f82 f83 f84 f85 f86 f87 f88 f89:Addr} (X:K.In h) (G:h.Ns mainGlobals mg) (hfa:mg "law" = some (.ref fa))
(d0:DF K "is_whole" z9x f0)(d1:DF K "is_truth" x2m f1)(d2:DF K "is_from_nought" q5u f2)(d3:DF K "is_from_one" q7w f3)(d4:DF K "is_keeper" z1c f4)(d5:DF K "is_head" x5i f5)(d6:DF K "is_name" j2p f6)(d7:DF K "is_rising" x2q f7)(d8:DF K "is_row_of" w1z f8)(d9:DF K "fits" z2p f9)(d10:DF K "first_word" q9h f10)(d11:DF K "fits_behind_word" q4t f11)(d12:DF K "is_deed" x4w f12)(d13:DF K "is_seats" j0k f13)(d14:DF K "is_what" x3t f14)(d15:DF K "is_entry" x2o f15)(d16:DF K "is_entries" q9g f16)(d17:DF K "is_name_pair" q6y f17)(d18:DF K "is_caller_triple" q5a f18)(d19:DF K "is_by_alphabet" q4i f19)(d20:DF K "is_names" x2u f20)(d21:DF K "is_callers" q9t f21)(d22:DF K "is_store" x2p f22)(d23:DF K "is_end" x6o f23)(d24:DF K "is_pack" x4p f24)(d25:DF K "is_pack_to_send" q5g f25)(d26:DF K "is_letter" x0m f26)(d27:DF K "last_two_changed" q4q f27)(d28:DF K "is_number_word" q4j f28)(d29:DF K "read_number" q8a f29)(d30:DF K "read_name" x0z f30)(d31:DF K "read_truth" q8z f31)(d32:DF K "read_head" x1c f32)(d33:DF K "read_parts" q6o f33)(d34:DF K "read_behind_word" q4s f34)(d35:DF K "read_counted" q5k f35)(d36:DF K "read_seats" q9c f36)(d37:DF K "read_deed" x0t f37)(d38:DF K "read_what" x0v f38)(d39:DF K "read_entry" q9l f39)(d40:DF K "read_entries" q7a f40)(d41:DF K "read_name_pair" q5q f41)(d42:DF K "read_caller_triple" q4b f42)(d43:DF K "read_name_pairs" q5f f43)(d44:DF K "read_caller_triples" q3q f44)(d45:DF K "read_store" q9a f45)(d46:DF K "read_pack" x1h f46)(d47:DF K "read" z8i f47)(d48:DF K "_law_cell_at" j8r f48)(d49:DF K "_law_mixed" j0i f49)(d50:DF K "_law_name_by" z0y f50)(d51:DF K "_law_number_by" q5p f51)(d52:DF K "_law_value_by" q6g f52)(d53:DF K "_law_deed_by" q6v f53)(d54:DF K "_law_seats_by" x3j f54)(d55:DF K "_law_what_by" q6z f55)(d56:DF K "_law_entry_by" q6d f56)(d57:DF K "_law_names_by" q3b f57)(d58:DF K "_law_store_by" q3s f58)(d59:DF K "_law_stand_by" q6k f59)(d60:DF K "_law_pack_by" q7d f60)(d61:DF K "_law_between_by" q3x f61)(d62:DF K "_law_letter_by" q5w f62)(d63:DF K "_law_from" j8q f63)(d64:DF K "_law_any" x2w f64)(d65:DF K "_law_sized" q9r f65)(d66:DF K "_law_keeper" q7r f66)(d67:DF K "_law_name" z3n f67)(d68:DF K "_law_kind" x1e f68)(d69:DF K "_law_deed" x0s f69)(d70:DF K "_law_seats" z1a f70)(d71:DF K "_law_what" x1b f71)(d72:DF K "_law_entry" q8y f72)(d73:DF K "_law_rises" q9w f73)(d74:DF K "_law_store" x0a f74)(d75:DF K "_law_stand" q9o f75)(d76:DF K "_law_pack" x0o f76)(d77:DF K "_law_between" q5l f77)(d78:DF K "_law_letter" q7x f78)(d79:DF K "_law_figures" q4h f79)(d80:DF K "_law_deed_words" q5j f80)(d81:DF K "_law_seats_words" q3o f81)(d82:DF K "_law_entry_words" q4r f82)(d83:DF K "_law_store_words" q4x f83)(d84:DF K "_law_text_between" q2e f84)(d85:DF K "_law_text_of" q7c f85)(d86:DF K "_law_sign_by" q7b f86)(d87:DF K "_law_other_word" q5h f87)(d88:DF K "_law_changed" q7e f88)
  {odL anL:Option Addr} {slL:Array (Option Value)} {ocL kVL dcL pmL cdL ctL:Value} (aL:nsIn K mainGlobals "law" = some (some (.ref f89))) (lL:K.lookup f89=some ⟨ocL,odL,.func (fnOf "law" "law" (q9x j2i) (q6x j2i) (q0e j2i) .none kVL dcL pmL anL cdL ctL),slL⟩) (cL':PySem.W.codeIn K cdL "law" = true) (kL:keepIn K (.ref f89)=true)
  {u0 q0_0 q0_1 q0_2:Addr} {tkq0_0 tkq0_1 tkq0_2:Tok} {nd0:Nat}
  (da0:nsIn K mainGlobals "DEED_TELLERS" = some (some (.ref u0))) (dl0:K.lookup u0=some ⟨.type "dict",none,.dict #[⟨PyData.keyHash w.params "set",.str "set" tkq0_0,.ref q0_0⟩,⟨PyData.keyHash w.params "add",.str "add" tkq0_1,.ref q0_1⟩,⟨PyData.keyHash w.params "get",.str "get" tkq0_2,.ref q0_2⟩] nd0,#[]⟩) (ds0:(u0==sysModules)=false)
(tq0_0:TF K q0_0 #[.ref f6,.ref f0])(tq0_1:TF K q0_1 #[.ref f6,.ref f0])(tq0_2:TF K q0_2 #[.ref f6])
  {u1 q1_0 q1_1 q1_2:Addr} {tkq1_0 tkq1_1 tkq1_2:Tok} {nd1:Nat}
  (da1:nsIn K mainGlobals "WHAT_TELLERS" = some (some (.ref u1))) (dl1:K.lookup u1=some ⟨.type "dict",none,.dict #[⟨PyData.keyHash w.params "open",.str "open" tkq1_0,.ref q1_0⟩,⟨PyData.keyHash w.params "wish",.str "wish" tkq1_1,.ref q1_1⟩,⟨PyData.keyHash w.params "seats",.str "seats" tkq1_2,.ref q1_2⟩] nd1,#[]⟩) (ds1:(u1==sysModules)=false)
(tq1_0:TF K q1_0 #[])(tq1_1:TF K q1_1 #[.ref f6,.ref f3,.ref f12])(tq1_2:TF K q1_2 #[.ref f13])
  {u2 q2_0 q2_1 q2_2 q2_3 q2_4 q2_5 q2_6 q2_7:Addr} {tkq2_0 tkq2_1 tkq2_2 tkq2_3 tkq2_4 tkq2_5 tkq2_6 tkq2_7:Tok} {nd2:Nat}
  (da2:nsIn K mainGlobals "LETTER_TELLERS" = some (some (.ref u2))) (dl2:K.lookup u2=some ⟨.type "dict",none,.dict #[⟨PyData.keyHash w.params "ask",.str "ask" tkq2_0,.ref q2_0⟩,⟨PyData.keyHash w.params "voice",.str "voice" tkq2_1,.ref q2_1⟩,⟨PyData.keyHash w.params "hand",.str "hand" tkq2_2,.ref q2_2⟩,⟨PyData.keyHash w.params "pack",.str "pack" tkq2_3,.ref q2_3⟩,⟨PyData.keyHash w.params "held",.str "held" tkq2_4,.ref q2_4⟩,⟨PyData.keyHash w.params "wish",.str "wish" tkq2_5,.ref q2_5⟩,⟨PyData.keyHash w.params "told",.str "told" tkq2_6,.ref q2_6⟩,⟨PyData.keyHash w.params "away",.str "away" tkq2_7,.ref q2_7⟩] nd2,#[]⟩) (ds2:(u2==sysModules)=false)
(tq2_0:TF K q2_0 #[.ref f4,.ref f4,.ref f3,.ref f2,.ref f2])(tq2_1:TF K q2_1 #[.ref f4,.ref f4,.ref f3,.ref f1])(tq2_2:TF K q2_2 #[.ref f4,.ref f4,.ref f3,.ref f2,.ref f2,.ref f16,.ref f2])(tq2_3:TF K q2_3 #[.ref f4,.ref f4,.ref f3,.ref f25])(tq2_4:TF K q2_4 #[.ref f4,.ref f4,.ref f3,.ref f1,.ref f2])(tq2_5:TF K q2_5 #[.ref f6,.ref f4,.ref f3,.ref f12])(tq2_6:TF K q2_6 #[.ref f4,.ref f6,.ref f3,.ref f0])(tq2_7:TF K q2_7 #[.ref f4,.ref f6,.ref f3,.ref f5])
  {u3 q3_0 q3_1 q3_2:Addr} {tkq3_0 tkq3_1 tkq3_2:Tok} {nd3:Nat}
  (da3:nsIn K mainGlobals "DEED_READERS" = some (some (.ref u3))) (dl3:K.lookup u3=some ⟨.type "dict",none,.dict #[⟨PyData.keyHash w.params "set",.str "set" tkq3_0,.ref q3_0⟩,⟨PyData.keyHash w.params "add",.str "add" tkq3_1,.ref q3_1⟩,⟨PyData.keyHash w.params "get",.str "get" tkq3_2,.ref q3_2⟩] nd3,#[]⟩) (ds3:(u3==sysModules)=false)
(tq3_0:TF K q3_0 #[.ref f30,.ref f29])(tq3_1:TF K q3_1 #[.ref f30,.ref f29])(tq3_2:TF K q3_2 #[.ref f30])
  {u4 q4_0 q4_1 q4_2:Addr} {tkq4_0 tkq4_1 tkq4_2:Tok} {nd4:Nat}
  (da4:nsIn K mainGlobals "WHAT_READERS" = some (some (.ref u4))) (dl4:K.lookup u4=some ⟨.type "dict",none,.dict #[⟨PyData.keyHash w.params "open",.str "open" tkq4_0,.ref q4_0⟩,⟨PyData.keyHash w.params "wish",.str "wish" tkq4_1,.ref q4_1⟩,⟨PyData.keyHash w.params "seats",.str "seats" tkq4_2,.ref q4_2⟩] nd4,#[]⟩) (ds4:(u4==sysModules)=false)
(tq4_0:TF K q4_0 #[])(tq4_1:TF K q4_1 #[.ref f30,.ref f29,.ref f37])(tq4_2:TF K q4_2 #[.ref f36])
  {u5 q5_0 q5_1 q5_2 q5_3 q5_4 q5_5 q5_6 q5_7:Addr} {tkq5_0 tkq5_1 tkq5_2 tkq5_3 tkq5_4 tkq5_5 tkq5_6 tkq5_7:Tok} {nd5:Nat}
  (da5:nsIn K mainGlobals "LETTER_READERS" = some (some (.ref u5))) (dl5:K.lookup u5=some ⟨.type "dict",none,.dict #[⟨PyData.keyHash w.params "ask",.str "ask" tkq5_0,.ref q5_0⟩,⟨PyData.keyHash w.params "voice",.str "voice" tkq5_1,.ref q5_1⟩,⟨PyData.keyHash w.params "hand",.str "hand" tkq5_2,.ref q5_2⟩,⟨PyData.keyHash w.params "pack",.str "pack" tkq5_3,.ref q5_3⟩,⟨PyData.keyHash w.params "held",.str "held" tkq5_4,.ref q5_4⟩,⟨PyData.keyHash w.params "wish",.str "wish" tkq5_5,.ref q5_5⟩,⟨PyData.keyHash w.params "told",.str "told" tkq5_6,.ref q5_6⟩,⟨PyData.keyHash w.params "away",.str "away" tkq5_7,.ref q5_7⟩] nd5,#[]⟩) (ds5:(u5==sysModules)=false)
(tq5_0:TF K q5_0 #[.ref f29,.ref f29,.ref f29,.ref f29,.ref f29])(tq5_1:TF K q5_1 #[.ref f29,.ref f29,.ref f29,.ref f31])(tq5_2:TF K q5_2 #[.ref f29,.ref f29,.ref f29,.ref f29,.ref f29,.ref f29,.ref f40])(tq5_3:TF K q5_3 #[.ref f29,.ref f29,.ref f29,.ref f46])(tq5_4:TF K q5_4 #[.ref f29,.ref f29,.ref f29,.ref f31,.ref f29])(tq5_5:TF K q5_5 #[.ref f30,.ref f29,.ref f29,.ref f37])(tq5_6:TF K q5_6 #[.ref f29,.ref f30,.ref f29,.ref f29])(tq5_7:TF K q5_7 #[.ref f29,.ref f30,.ref f29,.ref f32])
  {cN C0 g0 g1 g2:Addr} (ncN:nsIn K mainGlobals "NoLetter" = some (some (.ref cN))) (aC:nsIn K mainGlobals "Words" = some (some (.ref C0)))
  (w0:DMt K C0 "__init__" "Words.__init__" q5r g0)
  (w1:DMt K C0 "word" "Words.word" q8v g1)
  (w2:DMt K C0 "all_passed" "Words.all_passed" q4y g2)
  (pg:PySem.W.plainGet K C0 Str.empty=true) (hd:PySem.W.hasDictIn K C0=true) (po:PySem.W.plainOver K C0=true) (sa:findIn K (.ref C0) "__setattr__" = some (some (.builtin "object.__setattr__"))) (mk:PySem.W.makesIn K C0=true) (kc:keepIn K (.ref C0)=true) (nw:findIn K (.ref C0) "words" = some none) (np:findIn K (.ref C0) "passed" = some none)
  (xP:PySem.W.excIn K cN w3i "ValueError.__new__" = true) (xe:PySem.W.exmOne K (.ref cN) (.ref cN)=some true)
  (z0:nsIn K mainGlobals "isinstance" = some none) (z1:nsIn K mainGlobals "int" = some none) (z2:nsIn K mainGlobals "bool" = some none) (z3:nsIn K mainGlobals "str" = some none) (z4:nsIn K mainGlobals "tuple" = some none) (z5:nsIn K mainGlobals "list" = some none) (z6:nsIn K mainGlobals "all" = some none) (z7:nsIn K mainGlobals "zip" = some none) (z8:nsIn K mainGlobals "len" = some none) (z9:nsIn K mainGlobals "range" = some none) (z10:nsIn K mainGlobals "sorted" = some none) (z11:nsIn K mainGlobals "enumerate" = some none) (z12:nsIn K mainGlobals "max" = some none) :
  ∃ fd:FuncData,(∀ (s:Shared) (v:Value),BindsTo s fd ⟨[v],[]⟩ [("_law_script",v)])∧∀ base:Heap,K.In base→base.Ns mainGlobals mg→FnOk l.prog w K mg base CX0 18 fa fd ["_law_script"] (j4b K):=by
 have e:=hfa.symm.trans (mg_of X G aL)
 cases e
 have T:Txt mg:=⟨mg_none_of X G z0,mg_none_of X G z1,mg_none_of X G z2,mg_none_of X G z3,mg_none_of X G z4,mg_none_of X G z5,mg_none_of X G z6,mg_none_of X G z7,mg_none_of X G z8,mg_none_of X G z9⟩
 have hso:=mg_none_of X G z10
 have hen:=mg_none_of X G z11
 have hmx:=mg_none_of X G z12
 obtain⟨_,F0⟩:=d0.F
 have m0:=mg_of X G d0.a
 have b0:=bd "thing" F0 fun _ _ _ _ _ _ _=>rfl
 obtain⟨_,F1⟩:=d1.F
 have m1:=mg_of X G d1.a
 have b1:=bd "thing" F1 fun _ _ _ _ _ _ _=>rfl
 obtain⟨_,F2⟩:=d2.F
 have m2:=mg_of X G d2.a
 have b2:=bd "thing" F2 fun _ _ _ _ _ _ _=>rfl
 obtain⟨_,F3⟩:=d3.F
 have m3:=mg_of X G d3.a
 have b3:=bd "thing" F3 fun _ _ _ _ _ _ _=>rfl
 obtain⟨_,F4⟩:=d4.F
 have m4:=mg_of X G d4.a
 have b4:=bd "thing" F4 fun _ _ _ _ _ _ _=>rfl
 obtain⟨_,F5⟩:=d5.F
 have m5:=mg_of X G d5.a
 have b5:=bd "thing" F5 fun _ _ _ _ _ _ _=>rfl
 obtain⟨_,F6⟩:=d6.F
 have m6:=mg_of X G d6.a
 have b6:=bd "thing" F6 fun _ _ _ _ _ _ _=>rfl
 obtain⟨_,F7⟩:=d7.F
 have m7:=mg_of X G d7.a
 have b7:=bd "parts" F7 fun _ _ _ _ _ _ _=>rfl
 obtain⟨_,F8⟩:=d8.F
 have m8:=mg_of X G d8.a
 have b8:=bd2 "thing" "teller" F8 fun _ _ _ _ _ _ _ _=>rfl
 obtain⟨_,F9⟩:=d9.F
 have m9:=mg_of X G d9.a
 have b9:=bd2 "thing" "tellers" F9 fun _ _ _ _ _ _ _ _=>rfl
 obtain⟨_,F10⟩:=d10.F
 have m10:=mg_of X G d10.a
 have b10:=bd "thing" F10 fun _ _ _ _ _ _ _=>rfl
 obtain⟨_,F11⟩:=d11.F
 have m11:=mg_of X G d11.a
 have b11:=bd2 "thing" "tellers" F11 fun _ _ _ _ _ _ _ _=>rfl
 obtain⟨_,F12⟩:=d12.F
 have m12:=mg_of X G d12.a
 have b12:=bd "thing" F12 fun _ _ _ _ _ _ _=>rfl
 obtain⟨_,F13⟩:=d13.F
 have m13:=mg_of X G d13.a
 have b13:=bd "thing" F13 fun _ _ _ _ _ _ _=>rfl
 obtain⟨_,F14⟩:=d14.F
 have m14:=mg_of X G d14.a
 have b14:=bd "thing" F14 fun _ _ _ _ _ _ _=>rfl
 obtain⟨_,F15⟩:=d15.F
 have m15:=mg_of X G d15.a
 have b15:=bd "thing" F15 fun _ _ _ _ _ _ _=>rfl
 obtain⟨_,F16⟩:=d16.F
 have m16:=mg_of X G d16.a
 have b16:=bd "thing" F16 fun _ _ _ _ _ _ _=>rfl
 obtain⟨_,F17⟩:=d17.F
 have m17:=mg_of X G d17.a
 have b17:=bd "thing" F17 fun _ _ _ _ _ _ _=>rfl
 obtain⟨_,F18⟩:=d18.F
 have m18:=mg_of X G d18.a
 have b18:=bd "thing" F18 fun _ _ _ _ _ _ _=>rfl
 obtain⟨_,F19⟩:=d19.F
 have m19:=mg_of X G d19.a
 have b19:=bd2 "thing" "teller" F19 fun _ _ _ _ _ _ _ _=>rfl
 obtain⟨_,F20⟩:=d20.F
 have m20:=mg_of X G d20.a
 have b20:=bd "thing" F20 fun _ _ _ _ _ _ _=>rfl
 obtain⟨_,F21⟩:=d21.F
 have m21:=mg_of X G d21.a
 have b21:=bd "thing" F21 fun _ _ _ _ _ _ _=>rfl
 obtain⟨_,F22⟩:=d22.F
 have m22:=mg_of X G d22.a
 have b22:=bd "thing" F22 fun _ _ _ _ _ _ _=>rfl
 obtain⟨_,F23⟩:=d23.F
 have m23:=mg_of X G d23.a
 have b23:=bd2 "place" "last" F23 fun _ _ _ _ _ _ _ _=>rfl
 obtain⟨_,F24⟩:=d24.F
 have m24:=mg_of X G d24.a
 have b24:=bd "thing" F24 fun _ _ _ _ _ _ _=>rfl
 obtain⟨_,F25⟩:=d25.F
 have m25:=mg_of X G d25.a
 have b25:=bd "thing" F25 fun _ _ _ _ _ _ _=>rfl
 obtain⟨_,F26⟩:=d26.F
 have m26:=mg_of X G d26.a
 have b26:=bd "thing" F26 fun _ _ _ _ _ _ _=>rfl
 obtain⟨_,F27⟩:=d27.F
 have m27:=mg_of X G d27.a
 have b27:=bd "parts" F27 fun _ _ _ _ _ _ _=>rfl
 obtain⟨_,F28⟩:=d28.F
 have m28:=mg_of X G d28.a
 have b28:=bd "word" F28 fun _ _ _ _ _ _ _=>rfl
 obtain⟨_,F29⟩:=d29.F
 have m29:=mg_of X G d29.a
 have b29:=bd "words" F29 fun _ _ _ _ _ _ _=>rfl
 obtain⟨_,F30⟩:=d30.F
 have m30:=mg_of X G d30.a
 have b30:=bd "words" F30 fun _ _ _ _ _ _ _=>rfl
 obtain⟨_,F31⟩:=d31.F
 have m31:=mg_of X G d31.a
 have b31:=bd "words" F31 fun _ _ _ _ _ _ _=>rfl
 obtain⟨_,F32⟩:=d32.F
 have m32:=mg_of X G d32.a
 have b32:=bd "words" F32 fun _ _ _ _ _ _ _=>rfl
 obtain⟨_,F33⟩:=d33.F
 have m33:=mg_of X G d33.a
 have b33:=bd2 "words" "readers" F33 fun _ _ _ _ _ _ _ _=>rfl
 obtain⟨_,F34⟩:=d34.F
 have m34:=mg_of X G d34.a
 have b34:=F34.binds (ps:=["words", "word", "readers"]) fun _ _ _ _ _ _ us hl=>match us,hl with | [_,_,_],_=>rfl
 obtain⟨_,F35⟩:=d35.F
 have m35:=mg_of X G d35.a
 have b35:=bd2 "words" "reader" F35 fun _ _ _ _ _ _ _ _=>rfl
 obtain⟨_,F36⟩:=d36.F
 have m36:=mg_of X G d36.a
 have b36:=bd "words" F36 fun _ _ _ _ _ _ _=>rfl
 obtain⟨_,F37⟩:=d37.F
 have m37:=mg_of X G d37.a
 have b37:=bd "words" F37 fun _ _ _ _ _ _ _=>rfl
 obtain⟨_,F38⟩:=d38.F
 have m38:=mg_of X G d38.a
 have b38:=bd "words" F38 fun _ _ _ _ _ _ _=>rfl
 obtain⟨_,F39⟩:=d39.F
 have m39:=mg_of X G d39.a
 have b39:=bd "words" F39 fun _ _ _ _ _ _ _=>rfl
 obtain⟨_,F40⟩:=d40.F
 have m40:=mg_of X G d40.a
 have b40:=bd "words" F40 fun _ _ _ _ _ _ _=>rfl
 obtain⟨_,F41⟩:=d41.F
 have m41:=mg_of X G d41.a
 have b41:=bd "words" F41 fun _ _ _ _ _ _ _=>rfl
 obtain⟨_,F42⟩:=d42.F
 have m42:=mg_of X G d42.a
 have b42:=bd "words" F42 fun _ _ _ _ _ _ _=>rfl
 obtain⟨_,F43⟩:=d43.F
 have m43:=mg_of X G d43.a
 have b43:=bd "words" F43 fun _ _ _ _ _ _ _=>rfl
 obtain⟨_,F44⟩:=d44.F
 have m44:=mg_of X G d44.a
 have b44:=bd "words" F44 fun _ _ _ _ _ _ _=>rfl
 obtain⟨_,F45⟩:=d45.F
 have m45:=mg_of X G d45.a
 have b45:=bd "words" F45 fun _ _ _ _ _ _ _=>rfl
 obtain⟨_,F46⟩:=d46.F
 have m46:=mg_of X G d46.a
 have b46:=bd "words" F46 fun _ _ _ _ _ _ _=>rfl
 obtain⟨_,F47⟩:=d47.F
 have m47:=mg_of X G d47.a
 have b47:=bd "line" F47 fun _ _ _ _ _ _ _=>rfl
 obtain⟨_,F48⟩:=d48.F
 have m48:=mg_of X G d48.a
 have b48:=bd2 "_law_script" "_law_k" F48 fun _ _ _ _ _ _ _ _=>rfl
 obtain⟨_,F49⟩:=d49.F
 have m49:=mg_of X G d49.a
 have b49:=bd2 "_law_script" "_law_k" F49 fun _ _ _ _ _ _ _ _=>rfl
 obtain⟨_,F50⟩:=d50.F
 have m50:=mg_of X G d50.a
 have b50:=bd "_law_number" F50 fun _ _ _ _ _ _ _=>rfl
 obtain⟨_,F51⟩:=d51.F
 have m51:=mg_of X G d51.a
 have b51:=bd2 "_law_number" "_law_least" F51 fun _ _ _ _ _ _ _ _=>rfl
 obtain⟨_,F52⟩:=d52.F
 have m52:=mg_of X G d52.a
 have b52:=bd "_law_number" F52 fun _ _ _ _ _ _ _=>rfl
 obtain⟨_,F53⟩:=d53.F
 have m53:=mg_of X G d53.a
 have b53:=bd2 "_law_script" "_law_at" F53 fun _ _ _ _ _ _ _ _=>rfl
 obtain⟨_,F54⟩:=d54.F
 have m54:=mg_of X G d54.a
 have b54:=bd "_law_number" F54 fun _ _ _ _ _ _ _=>rfl
 obtain⟨_,F55⟩:=d55.F
 have m55:=mg_of X G d55.a
 have b55:=bd2 "_law_script" "_law_at" F55 fun _ _ _ _ _ _ _ _=>rfl
 obtain⟨_,F56⟩:=d56.F
 have m56:=mg_of X G d56.a
 have b56:=bd2 "_law_script" "_law_at" F56 fun _ _ _ _ _ _ _ _=>rfl
 obtain⟨_,F57⟩:=d57.F
 have m57:=mg_of X G d57.a
 have b57:=bd2 "_law_script" "_law_at" F57 fun _ _ _ _ _ _ _ _=>rfl
 obtain⟨_,F58⟩:=d58.F
 have m58:=mg_of X G d58.a
 have b58:=bd2 "_law_script" "_law_at" F58 fun _ _ _ _ _ _ _ _=>rfl
 obtain⟨_,F59⟩:=d59.F
 have m59:=mg_of X G d59.a
 have b59:=bd "_law_number" F59 fun _ _ _ _ _ _ _=>rfl
 obtain⟨_,F60⟩:=d60.F
 have m60:=mg_of X G d60.a
 have b60:=bd2 "_law_script" "_law_at" F60 fun _ _ _ _ _ _ _ _=>rfl
 obtain⟨_,F61⟩:=d61.F
 have m61:=mg_of X G d61.a
 have b61:=F61.binds (ps:=["_law_kind_here", "_law_script", "_law_at"]) fun _ _ _ _ _ _ us hl=>match us,hl with | [_,_,_],_=>rfl
 obtain⟨_,F62⟩:=d62.F
 have m62:=mg_of X G d62.a
 have b62:=bd2 "_law_script" "_law_at" F62 fun _ _ _ _ _ _ _ _=>rfl
 obtain⟨_,F63⟩:=d63.F
 have m63:=mg_of X G d63.a
 have b63:=bd2 "_law_thing" "_law_least" F63 fun _ _ _ _ _ _ _ _=>rfl
 obtain⟨_,F64⟩:=d64.F
 have m64:=mg_of X G d64.a
 have b64:=bd "_law_thing" F64 fun _ _ _ _ _ _ _=>rfl
 obtain⟨_,F65⟩:=d65.F
 have m65:=mg_of X G d65.a
 have b65:=bd2 "_law_thing" "_law_size" F65 fun _ _ _ _ _ _ _ _=>rfl
 obtain⟨_,F66⟩:=d66.F
 have m66:=mg_of X G d66.a
 have b66:=bd "_law_thing" F66 fun _ _ _ _ _ _ _=>rfl
 obtain⟨_,F67⟩:=d67.F
 have m67:=mg_of X G d67.a
 have b67:=bd "_law_thing" F67 fun _ _ _ _ _ _ _=>rfl
 obtain⟨_,F68⟩:=d68.F
 have m68:=mg_of X G d68.a
 have b68:=bd "_law_thing" F68 fun _ _ _ _ _ _ _=>rfl
 obtain⟨_,F69⟩:=d69.F
 have m69:=mg_of X G d69.a
 have b69:=bd "_law_thing" F69 fun _ _ _ _ _ _ _=>rfl
 obtain⟨_,F70⟩:=d70.F
 have m70:=mg_of X G d70.a
 have b70:=bd "_law_thing" F70 fun _ _ _ _ _ _ _=>rfl
 obtain⟨_,F71⟩:=d71.F
 have m71:=mg_of X G d71.a
 have b71:=bd "_law_thing" F71 fun _ _ _ _ _ _ _=>rfl
 obtain⟨_,F72⟩:=d72.F
 have m72:=mg_of X G d72.a
 have b72:=bd "_law_thing" F72 fun _ _ _ _ _ _ _=>rfl
 obtain⟨_,F73⟩:=d73.F
 have m73:=mg_of X G d73.a
 have b73:=bd2 "_law_thing" "_law_size" F73 fun _ _ _ _ _ _ _ _=>rfl
 obtain⟨_,F74⟩:=d74.F
 have m74:=mg_of X G d74.a
 have b74:=bd "_law_thing" F74 fun _ _ _ _ _ _ _=>rfl
 obtain⟨_,F75⟩:=d75.F
 have m75:=mg_of X G d75.a
 have b75:=bd2 "_law_place" "_law_last" F75 fun _ _ _ _ _ _ _ _=>rfl
 obtain⟨_,F76⟩:=d76.F
 have m76:=mg_of X G d76.a
 have b76:=bd "_law_thing" F76 fun _ _ _ _ _ _ _=>rfl
 obtain⟨_,F77⟩:=d77.F
 have m77:=mg_of X G d77.a
 have b77:=bd "_law_thing" F77 fun _ _ _ _ _ _ _=>rfl
 obtain⟨_,F78⟩:=d78.F
 have m78:=mg_of X G d78.a
 have b78:=bd "_law_thing" F78 fun _ _ _ _ _ _ _=>rfl
 obtain⟨_,F79⟩:=d79.F
 have m79:=mg_of X G d79.a
 have b79:=bd "_law_number" F79 fun _ _ _ _ _ _ _=>rfl
 obtain⟨_,F80⟩:=d80.F
 have m80:=mg_of X G d80.a
 have b80:=bd "_law_deed_here" F80 fun _ _ _ _ _ _ _=>rfl
 obtain⟨_,F81⟩:=d81.F
 have m81:=mg_of X G d81.a
 have b81:=bd "_law_seats_here" F81 fun _ _ _ _ _ _ _=>rfl
 obtain⟨_,F82⟩:=d82.F
 have m82:=mg_of X G d82.a
 have b82:=bd "_law_entry_here" F82 fun _ _ _ _ _ _ _=>rfl
 obtain⟨_,F83⟩:=d83.F
 have m83:=mg_of X G d83.a
 have b83:=bd "_law_store_here" F83 fun _ _ _ _ _ _ _=>rfl
 obtain⟨_,F84⟩:=d84.F
 have m84:=mg_of X G d84.a
 have b84:=bd "_law_letter_here" F84 fun _ _ _ _ _ _ _=>rfl
 obtain⟨_,F85⟩:=d85.F
 have m85:=mg_of X G d85.a
 have b85:=bd "_law_letter_here" F85 fun _ _ _ _ _ _ _=>rfl
 obtain⟨_,F86⟩:=d86.F
 have m86:=mg_of X G d86.a
 have b86:=bd "_law_number" F86 fun _ _ _ _ _ _ _=>rfl
 obtain⟨_,F87⟩:=d87.F
 have m87:=mg_of X G d87.a
 have b87:=bd2 "_law_word" "_law_number" F87 fun _ _ _ _ _ _ _ _=>rfl
 obtain⟨_,F88⟩:=d88.F
 have m88:=mg_of X G d88.a
 have b88:=bd2 "_law_text" "_law_number" F88 fun _ _ _ _ _ _ _ _=>rfl
 have F89:=w0k (st:=j2i) lL cL' kL
 have Z:NoL7 K mg cN:=⟨mg_of X G ncN,xP⟩
 have Y:WoC K C0:=⟨⟨pg,hd,po,sa⟩,nw,np⟩
 have mC:=mg_of X G aC
 obtain⟨_,G0⟩:=w0.F
 have bI:=G0.binds (ps:=["self", "line"]) fun _ _ _ _ _ _ us hl=>match us,hl with | [_,_],_=>rfl
 obtain⟨_,G1⟩:=w1.F
 have bW:=G1.binds (ps:=["self"]) fun _ _ _ _ _ _ us hl=>match us,hl with | [_],_=>rfl
 obtain⟨_,G2⟩:=w2.F
 have bA:=G2.binds (ps:=["self"]) fun _ _ _ _ _ _ us hl=>match us,hl with | [_],_=>rfl
 have M0:Mk K C0 g0:=⟨mk,w0.a,w0.i,kc⟩
 have MW:Meth K C0 "word" g1:=⟨w1.a,w1.i,G1.kp⟩
 have MA:Meth K C0 "all_passed" g2:=⟨w2.a,w2.i,G2.kp⟩
 refine⟨fnOf "law" "law" (q9x j2i) (q6x j2i) (q0e j2i) .none kVL dcL pmL anL cdL ctL,fun s v=>.of_eq rfl,fun base _ _=>?_⟩
 have FI:=j3f (P:=l.prog) (w:=w) (mg:=mg) (base:=base) Y G0
 have FA:=j7h (P:=l.prog) (w:=w) (mg:=mg) (base:=base) Y G2 T
 have FW:=j0y (P:=l.prog) (w:=w) (base:=base) Z Y G1 MA FA bA
 have CW:=cal (P:=l.prog) (w:=w) (base:=base) F0 m0 b0 (j2w F0 T)
 have CF0:=cal (P:=l.prog) (w:=w) (base:=base) F2 m2 b2 (x5n F2 T CW)
 have CF1:=cal (P:=l.prog) (w:=w) (base:=base) F3 m3 b3 (z0p F3 T CW)
 have CK:=cal (P:=l.prog) (w:=w) (base:=base) F4 m4 b4 (z8z F4 T CW)
 have CN:=cal (P:=l.prog) (w:=w) (base:=base) F6 m6 b6 (j8k F6 T)
 have CI:=cal (P:=l.prog) (w:=w) (base:=base) F7 m7 b7 (z9m F7 T)
 have CI2:=cal (P:=l.prog) (w:=w) (base:=base) F7 m7 b7 (z4z F7 T)
 have CS:=cal (P:=l.prog) (w:=w) (base:=base) F13 m13 b13 (j2f F13 T CK (fun g gd hg kp b=>cal F8 m8 b8 (z3k F8 T hg kp b)) CI)
 have CFi1:Cal l.prog w K mg base "fits" 2 ["thing", "tellers"] (q7g l.prog w K mg base 1):=cal F9 m9 b9 (x2l F9 T)
 have CPr:=cal (P:=l.prog) (w:=w) (base:=base) F17 m17 b17 (j7s F17 CN CW (by decide) (by decide) CFi1)
 have CFi2:Cal l.prog w K mg base "fits" 3 ["thing", "tellers"] (q7g l.prog w K mg base 2):=cal F9 m9 b9 (x2l F9 T)
 have CTr:=cal (P:=l.prog) (w:=w) (base:=base) F18 m18 b18 (j0f F18 CN CF1 CW (by decide) (by decide) (by decide) CFi2)
 have CNs:=cal (P:=l.prog) (w:=w) (base:=base) F20 m20 b20 (j3p F20 CPr (fun g gd hg kp b=>cal F19 m19 b19 (z2k F19 j4y (cal F8 m8 b8 (z3k F8 T hg kp b)) CI2)))
 have CCs:=cal (P:=l.prog) (w:=w) (base:=base) F21 m21 b21 (z4w F21 CTr (fun g gd hg kp b=>cal F19 m19 b19 (z2k F19 z4q (cal F8 m8 b8 (z3k F8 T hg kp b)) CI2)))
 have CFi7:Cal l.prog w K mg base "fits" 8 ["thing", "tellers"] (q7g l.prog w K mg base 7):=cal F9 m9 b9 (x2l F9 T)
 have CSt:=cal (P:=l.prog) (w:=w) (base:=base) F22 m22 b22 (j4i F22 CNs CCs (by decide) (by decide) CFi7)
 have CEn:=cal (P:=l.prog) (w:=w) (base:=base) F23 m23 b23 (w1l F23)
 have CFi9:Cal l.prog w K mg base "fits" 10 ["thing", "tellers"] (q7g l.prog w K mg base 9):=cal F9 m9 b9 (x2l F9 T)
 have CPk:=cal (P:=l.prog) (w:=w) (base:=base) F24 m24 b24 (j7b F24 CF0 CS CSt (by decide) (by decide) (by decide) CFi9 CEn)
 have CTt:=cal (P:=l.prog) (w:=w) (base:=base) F1 m1 b1 (j4e F1 T)
 have CHd:=cal (P:=l.prog) (w:=w) (base:=base) F5 m5 b5 (j9c F5 CK)
 have CFW:=cal (P:=l.prog) (w:=w) (base:=base) F10 m10 b10 (x8a F10 T)
 have CFb1:Cal l.prog w K mg base "fits_behind_word" 3 ["thing", "tellers"] (z0z l.prog w K mg base 1):=cal F11 m11 b11 (j0d F11 T CFi1)
 have TD:TabOk l.prog w K mg base "DEED_TELLERS" 1 (j0z q2n):=⟨⟨u0,_,_,mg_of X G da0,dl0,ds0,.cons (gs:=[V.ref f6,V.ref f0]) (tq0_0.sq rfl (.cons rfl (.cons rfl (.nil)))) (.cons (CN.tl m6 (by decide)) (.cons (CW.tl m0 (by decide)) (.nil))) (.cons (gs:=[V.ref f6,V.ref f0]) (tq0_1.sq rfl (.cons rfl (.cons rfl (.nil)))) (.cons (CN.tl m6 (by decide)) (.cons (CW.tl m0 (by decide)) (.nil))) (.cons (gs:=[V.ref f6]) (tq0_2.sq rfl (.cons rfl (.nil))) (.cons (CN.tl m6 (by decide)) (.nil)) (.nil)))⟩,by rfl,fun q hq=>by
  simp only [j0z,List.mem_cons,List.not_mem_nil,or_false] at hq
  rcases hq with rfl | rfl | rfl <;> exact Nat.le_of_ble_eq_true rfl⟩
 have CD:=cal (P:=l.prog) (w:=w) (base:=base) F12 m12 b12 (j7x F12 TD CFW CFb1)
 have CFi4:Cal l.prog w K mg base "fits" 5 ["thing", "tellers"] (q7g l.prog w K mg base 4):=cal F9 m9 b9 (x2l F9 T)
 have CFb4:Cal l.prog w K mg base "fits_behind_word" 6 ["thing", "tellers"] (z0z l.prog w K mg base 4):=cal F11 m11 b11 (j0d F11 T CFi4)
 have TW:TabOk l.prog w K mg base "WHAT_TELLERS" 4 (z9f):=⟨⟨u1,_,_,mg_of X G da1,dl1,ds1,.cons (gs:=[]) (tq1_0.sq rfl (.nil)) (.nil) (.cons (gs:=[V.ref f6,V.ref f3,V.ref f12]) (tq1_1.sq rfl (.cons rfl (.cons rfl (.cons rfl (.nil))))) (.cons (CN.tl m6 (by decide)) (.cons (CF1.tl m3 (by decide)) (.cons (CD.tl m12 (by decide)) (.nil)))) (.cons (gs:=[V.ref f13]) (tq1_2.sq rfl (.cons rfl (.nil))) (.cons (CS.tl m13 (by decide)) (.nil)) (.nil)))⟩,by rfl,fun q hq=>by
  simp only [z9f,List.mem_cons,List.not_mem_nil,or_false] at hq
  rcases hq with rfl | rfl | rfl <;> exact Nat.le_of_ble_eq_true rfl⟩
 have CWh:=cal (P:=l.prog) (w:=w) (base:=base) F14 m14 b14 (j7q F14 TW CFW CFb4)
 have CE:=cal (P:=l.prog) (w:=w) (base:=base) F15 m15 b15 (j4c F15 CF1 CWh (by decide) (by decide) CFi7)
 have CEs:=cal (P:=l.prog) (w:=w) (base:=base) F16 m16 b16 (z5y F16 T CE (fun g gd hg kp b=>cal F8 m8 b8 (z3k F8 T hg kp b)))
 have CSe:=cal (P:=l.prog) (w:=w) (base:=base) F25 m25 b25 (j8o F25 CPk)
 have CFi12:Cal l.prog w K mg base "fits" 13 ["thing", "tellers"] (q7g l.prog w K mg base 12):=cal F9 m9 b9 (x2l F9 T)
 have CFb12:Cal l.prog w K mg base "fits_behind_word" 14 ["thing", "tellers"] (z0z l.prog w K mg base 12):=cal F11 m11 b11 (j0d F11 T CFi12)
 have TL:TabOk l.prog w K mg base "LETTER_TELLERS" 12 (q3c):=⟨⟨u2,_,_,mg_of X G da2,dl2,ds2,.cons (gs:=[V.ref f4,V.ref f4,V.ref f3,V.ref f2,V.ref f2]) (tq2_0.sq rfl (.cons rfl (.cons rfl (.cons rfl (.cons rfl (.cons rfl (.nil))))))) (.cons (CK.tl m4 (by decide)) (.cons (CK.tl m4 (by decide)) (.cons (CF1.tl m3 (by decide)) (.cons (CF0.tl m2 (by decide)) (.cons (CF0.tl m2 (by decide)) (.nil)))))) (.cons (gs:=[V.ref f4,V.ref f4,V.ref f3,V.ref f1]) (tq2_1.sq rfl (.cons rfl (.cons rfl (.cons rfl (.cons rfl (.nil)))))) (.cons (CK.tl m4 (by decide)) (.cons (CK.tl m4 (by decide)) (.cons (CF1.tl m3 (by decide)) (.cons (CTt.tl m1 (by decide)) (.nil))))) (.cons (gs:=[V.ref f4,V.ref f4,V.ref f3,V.ref f2,V.ref f2,V.ref f16,V.ref f2]) (tq2_2.sq rfl (.cons rfl (.cons rfl (.cons rfl (.cons rfl (.cons rfl (.cons rfl (.cons rfl (.nil))))))))) (.cons (CK.tl m4 (by decide)) (.cons (CK.tl m4 (by decide)) (.cons (CF1.tl m3 (by decide)) (.cons (CF0.tl m2 (by decide)) (.cons (CF0.tl m2 (by decide)) (.cons (CEs.tl m16 (by decide)) (.cons (CF0.tl m2 (by decide)) (.nil)))))))) (.cons (gs:=[V.ref f4,V.ref f4,V.ref f3,V.ref f25]) (tq2_3.sq rfl (.cons rfl (.cons rfl (.cons rfl (.cons rfl (.nil)))))) (.cons (CK.tl m4 (by decide)) (.cons (CK.tl m4 (by decide)) (.cons (CF1.tl m3 (by decide)) (.cons (CSe.tl m25 (by decide)) (.nil))))) (.cons (gs:=[V.ref f4,V.ref f4,V.ref f3,V.ref f1,V.ref f2]) (tq2_4.sq rfl (.cons rfl (.cons rfl (.cons rfl (.cons rfl (.cons rfl (.nil))))))) (.cons (CK.tl m4 (by decide)) (.cons (CK.tl m4 (by decide)) (.cons (CF1.tl m3 (by decide)) (.cons (CTt.tl m1 (by decide)) (.cons (CF0.tl m2 (by decide)) (.nil)))))) (.cons (gs:=[V.ref f6,V.ref f4,V.ref f3,V.ref f12]) (tq2_5.sq rfl (.cons rfl (.cons rfl (.cons rfl (.cons rfl (.nil)))))) (.cons (CN.tl m6 (by decide)) (.cons (CK.tl m4 (by decide)) (.cons (CF1.tl m3 (by decide)) (.cons (CD.tl m12 (by decide)) (.nil))))) (.cons (gs:=[V.ref f4,V.ref f6,V.ref f3,V.ref f0]) (tq2_6.sq rfl (.cons rfl (.cons rfl (.cons rfl (.cons rfl (.nil)))))) (.cons (CK.tl m4 (by decide)) (.cons (CN.tl m6 (by decide)) (.cons (CF1.tl m3 (by decide)) (.cons (CW.tl m0 (by decide)) (.nil))))) (.cons (gs:=[V.ref f4,V.ref f6,V.ref f3,V.ref f5]) (tq2_7.sq rfl (.cons rfl (.cons rfl (.cons rfl (.cons rfl (.nil)))))) (.cons (CK.tl m4 (by decide)) (.cons (CN.tl m6 (by decide)) (.cons (CF1.tl m3 (by decide)) (.cons (CHd.tl m5 (by decide)) (.nil))))) (.nil))))))))⟩,by rfl,fun q hq=>by
  simp only [q3c,List.mem_cons,List.not_mem_nil,or_false] at hq
  rcases hq with rfl | rfl | rfl | rfl | rfl | rfl | rfl | rfl <;> exact Nat.le_of_ble_eq_true rfl⟩
 have CLe:=cal (P:=l.prog) (w:=w) (base:=base) F26 m26 b26 (z9k F26 TL CFW CFb12 CEn)
 have CC:=cal (P:=l.prog) (w:=w) (base:=base) F48 m48 b48 (j6n F48 T)
 have CM:=cal (P:=l.prog) (w:=w) (base:=base) F49 m49 b49 (j2g F49 CC)
 have CNB:=cal (P:=l.prog) (w:=w) (base:=base) F50 m50 b50 (z1d F50 T)
 have CSB:=cal (P:=l.prog) (w:=w) (base:=base) F54 m54 b54 (Kz.z1k F54 T)
 have CNu:=cal (P:=l.prog) (w:=w) (base:=base) F51 m51 b51 (Kz.x9d F51)
 have CVa:=cal (P:=l.prog) (w:=w) (base:=base) F52 m52 b52 (Kz.z1p F52 CNu)
 have CNsB:=cal (P:=l.prog) (w:=w) (base:=base) F57 m57 b57 (Kz.z1r F57 T hso CM CNB)
 have CDB:=cal (P:=l.prog) (w:=w) (base:=base) F53 m53 b53 (Kz.z5h F53 CM CNB CVa)
 have CWB:=cal (P:=l.prog) (w:=w) (base:=base) F55 m55 b55 (Kz.z5l F55 CM CNB CSB CNu CDB)
 have CEB:=cal (P:=l.prog) (w:=w) (base:=base) F56 m56 b56 (Kz.z2a F56 CM CNu CWB)
 have CStB:=cal (P:=l.prog) (w:=w) (base:=base) F58 m58 b58 (Kz.z0x F58 T hen CM CNsB CVa CNu)
 have CSdB:=cal (P:=l.prog) (w:=w) (base:=base) F59 m59 b59 (Kz.z1q F59 CNu)
 have CPkB:=cal (P:=l.prog) (w:=w) (base:=base) F60 m60 b60 (Kz.z5g F60 CM CSdB CSB CStB)
 have CBB:=cal (P:=l.prog) (w:=w) (base:=base) F61 m61 b61 (Kz.x7d F61 T hmx CM CNu CSdB CPkB CEB)
 have CLB:=cal (P:=l.prog) (w:=w) (base:=base) F62 m62 b62 (Kz.x9k F62 CM CNu CNB CVa CDB CBB)
 have CF:=cal (P:=l.prog) (w:=w) (base:=base) F63 m63 b63 (j6m F63 T)
 have CNL:=cal (P:=l.prog) (w:=w) (base:=base) F67 m67 b67 (j4h F67 T)
 have CSL:=cal (P:=l.prog) (w:=w) (base:=base) F70 m70 b70 (z8o F70 T CF)
 have CA:=cal (P:=l.prog) (w:=w) (base:=base) F64 m64 b64 (w1k F64 T)
 have CZ:=cal (P:=l.prog) (w:=w) (base:=base) F65 m65 b65 (j1u F65 T)
 have CRs:=cal (P:=l.prog) (w:=w) (base:=base) F73 m73 b73 (j4x F73 T CF CA CZ CNL)
 have CStL:=cal (P:=l.prog) (w:=w) (base:=base) F74 m74 b74 (j0e F74 CZ CRs)
 have CSdL:=cal (P:=l.prog) (w:=w) (base:=base) F75 m75 b75 (j0h F75 CF)
 have CPkL:=cal (P:=l.prog) (w:=w) (base:=base) F76 m76 b76 (j1q F76 CZ CSdL CSL CStL)
 have CKi:=cal (P:=l.prog) (w:=w) (base:=base) F68 m68 b68 (j6r F68 T)
 have CDL:=cal (P:=l.prog) (w:=w) (base:=base) F69 m69 b69 (j2h F69 T CKi CNL CA)
 have CWL:=cal (P:=l.prog) (w:=w) (base:=base) F71 m71 b71 (j3k F71 T CKi CNL CF CDL CSL)
 have CEL:=cal (P:=l.prog) (w:=w) (base:=base) F72 m72 b72 (z9g F72 CZ CF CWL)
 have CKL:=cal (P:=l.prog) (w:=w) (base:=base) F66 m66 b66 (z4l F66 CF)
 have CBt:=cal (P:=l.prog) (w:=w) (base:=base) F77 m77 b77 (z2b F77 T CKi CF CKL CSdL CPkL CEL)
 have CLL:=cal (P:=l.prog) (w:=w) (base:=base) F78 m78 b78 (z5w F78 T CKi CBt CF CKL CNL CA CDL)
 have CFg:=cal (P:=l.prog) (w:=w) (base:=base) F79 m79 b79 (w0l F79 m79 F79.kp b79)
 have CDt:=cal (P:=l.prog) (w:=w) (base:=base) F80 m80 b80 (x9p F80 T CFg)
 have CSt2:=cal (P:=l.prog) (w:=w) (base:=base) F81 m81 b81 (x7i F81 T CFg)
 have CEt:=cal (P:=l.prog) (w:=w) (base:=base) F82 m82 b82 (x7j F82 T CFg CSt2 CDt)
 have CTt2:=cal (P:=l.prog) (w:=w) (base:=base) F83 m83 b83 (x7b F83 T CFg)
 have CBx:=cal (P:=l.prog) (w:=w) (base:=base) F84 m84 b84 (x3s F84 T CFg CSt2 CTt2 CEt)
 have CXt:=cal (P:=l.prog) (w:=w) (base:=base) F85 m85 b85 (z4p F85 CFg CDt CBx)
 have CSg:=cal (P:=l.prog) (w:=w) (base:=base) F86 m86 b86 (z5q F86)
 have COw:=cal (P:=l.prog) (w:=w) (base:=base) F87 m87 b87 (x7u F87)
 have CCh:=cal (P:=l.prog) (w:=w) (base:=base) F88 m88 b88 (z4h F88 T CSg COw)
 have RW:Cal l.prog w K mg base "is_number_word" 1 ["word"] (z2z):=cal F28 m28 b28 (z1f F28 T)
 have RNu:CalE l.prog w K mg base "read_number" 3 ["words"] (q5o C0 cN q1y):=x2v F29 m29 b29 (x5b Z Y F29 T MW FW bW RW)
 have RNa:CalE l.prog w K mg base "read_name" 3 ["words"] (q5o C0 cN z0l):=x2v F30 m30 b30 (x7k Y F30 MW FW bW)
 have RTr:CalE l.prog w K mg base "read_truth" 3 ["words"] (q5o C0 cN j5x):=x2v F31 m31 b31 (x5u Z Y F31 MW FW bW)
 have RHe:CalE l.prog w K mg base "read_head" 3 ["words"] (q5o C0 cN j6v):=x2v F32 m32 b32 (x8d Z Y F32 T MW FW bW RW)
 have RP3:CalE l.prog w K mg base "read_parts" 4 ["words", "readers"] (q3j l.prog w K mg base C0 cN 3):=x2v F33 m33 b33 (q4e F33 T)
 have RP6:CalE l.prog w K mg base "read_parts" 7 ["words", "readers"] (q3j l.prog w K mg base C0 cN 6):=x2v F33 m33 b33 (q4e F33 T)
 have RP7:CalE l.prog w K mg base "read_parts" 8 ["words", "readers"] (q3j l.prog w K mg base C0 cN 7):=x2v F33 m33 b33 (q4e F33 T)
 have RP9:CalE l.prog w K mg base "read_parts" 10 ["words", "readers"] (q3j l.prog w K mg base C0 cN 9):=x2v F33 m33 b33 (q4e F33 T)
 have RP13:CalE l.prog w K mg base "read_parts" 14 ["words", "readers"] (q3j l.prog w K mg base C0 cN 13):=x2v F33 m33 b33 (q4e F33 T)
 have RB3:CalE l.prog w K mg base "read_behind_word" 5 ["words", "word", "readers"] (x4b l.prog w K mg base C0 cN 3):=x2v F34 m34 b34 (q6m Z F34 RP3)
 have RB6:CalE l.prog w K mg base "read_behind_word" 8 ["words", "word", "readers"] (x4b l.prog w K mg base C0 cN 6):=x2v F34 m34 b34 (q6m Z F34 RP6)
 have RB13:CalE l.prog w K mg base "read_behind_word" 15 ["words", "word", "readers"] (x4b l.prog w K mg base C0 cN 13):=x2v F34 m34 b34 (q6m Z F34 RP13)
 have RC3:CalE l.prog w K mg base "read_counted" 4 ["words", "reader"] (q9n l.prog w K mg base C0 cN 3):=x2v F35 m35 b35 (q5t (by decide) Z F35 T RNu)
 have RC5:CalE l.prog w K mg base "read_counted" 6 ["words", "reader"] (q9n l.prog w K mg base C0 cN 5):=x2v F35 m35 b35 (q5t (by decide) Z F35 T RNu)
 have RC11:CalE l.prog w K mg base "read_counted" 12 ["words", "reader"] (q9n l.prog w K mg base C0 cN 11):=x2v F35 m35 b35 (q5t (by decide) Z F35 T RNu)
 have RSe:CalE l.prog w K mg base "read_seats" 5 ["words"] (q5o C0 cN q4m):=x2v F36 m36 b36 (x5s F36 RNu (by decide) RC3)
 have TD7:RTb l.prog w K mg base C0 cN "DEED_READERS" 3 j6d:=z9i (mg_of X G da3) dl3 ⟨⟨_,_,rfl,rfl⟩,⟨⟨_,_,rfl,rfl⟩,⟨⟨_,_,rfl,rfl⟩,trivial⟩⟩⟩ ds3 (.cons (gs:=[V.ref f30,V.ref f29]) (tq3_0.sq rfl (.cons rfl (.cons rfl (.nil)))) (.cons (q1t RNa m30 (by decide)) (.cons (q1t RNu m29 (by decide)) (.nil))) (Nat.le_of_ble_eq_true rfl) (.cons (gs:=[V.ref f30,V.ref f29]) (tq3_1.sq rfl (.cons rfl (.cons rfl (.nil)))) (.cons (q1t RNa m30 (by decide)) (.cons (q1t RNu m29 (by decide)) (.nil))) (Nat.le_of_ble_eq_true rfl) (.cons (gs:=[V.ref f30]) (tq3_2.sq rfl (.cons rfl (.nil))) (.cons (q1t RNa m30 (by decide)) (.nil)) (Nat.le_of_ble_eq_true rfl) (.nil))))
 have RDe:CalE l.prog w K mg base "read_deed" 6 ["words"] (q5o C0 cN q6n):=x2v F37 m37 b37 (x6z Y F37 MW FW bW TD7 RB3)
 have TW7:RTb l.prog w K mg base C0 cN "WHAT_READERS" 6 j5u:=z9i (mg_of X G da4) dl4 ⟨⟨_,_,rfl,rfl⟩,⟨⟨_,_,rfl,rfl⟩,⟨⟨_,_,rfl,rfl⟩,trivial⟩⟩⟩ ds4 (.cons (gs:=[]) (tq4_0.sq rfl (.nil)) (.nil) (Nat.le_of_ble_eq_true rfl) (.cons (gs:=[V.ref f30,V.ref f29,V.ref f37]) (tq4_1.sq rfl (.cons rfl (.cons rfl (.cons rfl (.nil))))) (.cons (q1t RNa m30 (by decide)) (.cons (q1t RNu m29 (by decide)) (.cons (q1t RDe m37 (by decide)) (.nil)))) (Nat.le_of_ble_eq_true rfl) (.cons (gs:=[V.ref f36]) (tq4_2.sq rfl (.cons rfl (.nil))) (.cons (q1t RSe m36 (by decide)) (.nil)) (Nat.le_of_ble_eq_true rfl) (.nil))))
 have RWh:CalE l.prog w K mg base "read_what" 9 ["words"] (q5o C0 cN j2a):=x2v F38 m38 b38 (x6v Y F38 MW FW bW TW7 RB6)
 have REn:CalE l.prog w K mg base "read_entry" 11 ["words"] (q5o C0 cN q3z):=x2v F39 m39 b39 (x5k F39 RNu (by decide) RWh (by decide) RP9)
 have REs:CalE l.prog w K mg base "read_entries" 13 ["words"] (q5o C0 cN q4k):=x2v F40 m40 b40 (x3e F40 REn (by decide) RC11)
 have RPr:CalE l.prog w K mg base "read_name_pair" 5 ["words"] (q5o C0 cN q8o):=x2v F41 m41 b41 (x2b F41 RNa (by decide) RNu (by decide) RP3)
 have RTp:CalE l.prog w K mg base "read_caller_triple" 5 ["words"] (q5o C0 cN q6h):=x2v F42 m42 b42 (q8q F42 RNa (by decide) RNu (by decide) RNu (by decide) RP3)
 have RPs:CalE l.prog w K mg base "read_name_pairs" 7 ["words"] (q5o C0 cN (q4d q8o)):=x2v F43 m43 b43 (x1g F43 RPr (by decide) RC5)
 have RTs:CalE l.prog w K mg base "read_caller_triples" 7 ["words"] (q5o C0 cN (q4d q6h)):=x2v F44 m44 b44 (q7s F44 RTp (by decide) RC5)
 have RSt:CalE l.prog w K mg base "read_store" 9 ["words"] (q5o C0 cN q9k):=x2v F45 m45 b45 (x5t F45 RPs (by decide) RTs (by decide) RP7)
 have RPk:CalE l.prog w K mg base "read_pack" 11 ["words"] (q5o C0 cN z5v):=x2v F46 m46 b46 (x8f F46 RNu (by decide) RNu (by decide) RSe (by decide) RSt (by decide) RP9)
 have TL7:RTb l.prog w K mg base C0 cN "LETTER_READERS" 13 q6r:=z9i (mg_of X G da5) dl5 ⟨⟨_,_,rfl,rfl⟩,⟨⟨_,_,rfl,rfl⟩,⟨⟨_,_,rfl,rfl⟩,⟨⟨_,_,rfl,rfl⟩,⟨⟨_,_,rfl,rfl⟩,⟨⟨_,_,rfl,rfl⟩,⟨⟨_,_,rfl,rfl⟩,⟨⟨_,_,rfl,rfl⟩,trivial⟩⟩⟩⟩⟩⟩⟩⟩ ds5 (.cons (gs:=[V.ref f29,V.ref f29,V.ref f29,V.ref f29,V.ref f29]) (tq5_0.sq rfl (.cons rfl (.cons rfl (.cons rfl (.cons rfl (.cons rfl (.nil))))))) (.cons (q1t RNu m29 (by decide)) (.cons (q1t RNu m29 (by decide)) (.cons (q1t RNu m29 (by decide)) (.cons (q1t RNu m29 (by decide)) (.cons (q1t RNu m29 (by decide)) (.nil)))))) (Nat.le_of_ble_eq_true rfl) (.cons (gs:=[V.ref f29,V.ref f29,V.ref f29,V.ref f31]) (tq5_1.sq rfl (.cons rfl (.cons rfl (.cons rfl (.cons rfl (.nil)))))) (.cons (q1t RNu m29 (by decide)) (.cons (q1t RNu m29 (by decide)) (.cons (q1t RNu m29 (by decide)) (.cons (q1t RTr m31 (by decide)) (.nil))))) (Nat.le_of_ble_eq_true rfl) (.cons (gs:=[V.ref f29,V.ref f29,V.ref f29,V.ref f29,V.ref f29,V.ref f29,V.ref f40]) (tq5_2.sq rfl (.cons rfl (.cons rfl (.cons rfl (.cons rfl (.cons rfl (.cons rfl (.cons rfl (.nil))))))))) (.cons (q1t RNu m29 (by decide)) (.cons (q1t RNu m29 (by decide)) (.cons (q1t RNu m29 (by decide)) (.cons (q1t RNu m29 (by decide)) (.cons (q1t RNu m29 (by decide)) (.cons (q1t RNu m29 (by decide)) (.cons (q1t REs m40 (by decide)) (.nil)))))))) (Nat.le_of_ble_eq_true rfl) (.cons (gs:=[V.ref f29,V.ref f29,V.ref f29,V.ref f46]) (tq5_3.sq rfl (.cons rfl (.cons rfl (.cons rfl (.cons rfl (.nil)))))) (.cons (q1t RNu m29 (by decide)) (.cons (q1t RNu m29 (by decide)) (.cons (q1t RNu m29 (by decide)) (.cons (q1t RPk m46 (by decide)) (.nil))))) (Nat.le_of_ble_eq_true rfl) (.cons (gs:=[V.ref f29,V.ref f29,V.ref f29,V.ref f31,V.ref f29]) (tq5_4.sq rfl (.cons rfl (.cons rfl (.cons rfl (.cons rfl (.cons rfl (.nil))))))) (.cons (q1t RNu m29 (by decide)) (.cons (q1t RNu m29 (by decide)) (.cons (q1t RNu m29 (by decide)) (.cons (q1t RTr m31 (by decide)) (.cons (q1t RNu m29 (by decide)) (.nil)))))) (Nat.le_of_ble_eq_true rfl) (.cons (gs:=[V.ref f30,V.ref f29,V.ref f29,V.ref f37]) (tq5_5.sq rfl (.cons rfl (.cons rfl (.cons rfl (.cons rfl (.nil)))))) (.cons (q1t RNa m30 (by decide)) (.cons (q1t RNu m29 (by decide)) (.cons (q1t RNu m29 (by decide)) (.cons (q1t RDe m37 (by decide)) (.nil))))) (Nat.le_of_ble_eq_true rfl) (.cons (gs:=[V.ref f29,V.ref f30,V.ref f29,V.ref f29]) (tq5_6.sq rfl (.cons rfl (.cons rfl (.cons rfl (.cons rfl (.nil)))))) (.cons (q1t RNu m29 (by decide)) (.cons (q1t RNa m30 (by decide)) (.cons (q1t RNu m29 (by decide)) (.cons (q1t RNu m29 (by decide)) (.nil))))) (Nat.le_of_ble_eq_true rfl) (.cons (gs:=[V.ref f29,V.ref f30,V.ref f29,V.ref f32]) (tq5_7.sq rfl (.cons rfl (.cons rfl (.cons rfl (.cons rfl (.nil)))))) (.cons (q1t RNu m29 (by decide)) (.cons (q1t RNa m30 (by decide)) (.cons (q1t RNu m29 (by decide)) (.cons (q1t RHe m32 (by decide)) (.nil))))) (Nat.le_of_ble_eq_true rfl) (.nil)))))))))
 have CL8:Cal l.prog w K mg base "last_two_changed" 1 ["parts"] (z2f):=cal F27 m27 b27 (x8q F27)
 have RRd:CalE l.prog w K mg base "read" 16 ["line"] (z1g cN):=x2v F47 m47 b47 (j1o (by decide) Z Y F47 mC M0 FI bI MW FW bW MA FA bA TL7 RB13 CL8 (j6q CLe fun _ _ _ _ ⟨v,d,e,I,q⟩=>⟨_,v,d,Nat.le_refl _,e,I,q⟩) (by decide))
 exact (w0n (by decide) F89 Z.m xe CM CLB CXt CCh RRd CLL).mono (by decide)
theorem walk {l:PySem.W.OpenLaw} {q:Program} {loose:List Str} {XP:(Str→Option Value)→Heap→Prop} {YP:World→Heap→Prop} {d:DefRec} {K:Params→Frag} (hn:l.most=some 63) (hdf:d.params.defaults=[])
  (hY:∀ (w:World) (h:Heap),YP w h→(K w.params).In h)
  (F:∀ (w:World) (mg:Str→Option Value) (fa:Addr) (h:Heap),(K w.params).In h→h.Ns mainGlobals mg→mg d.name=some (.ref fa) →
   ∃ fd:FuncData,(∀ (s:Shared) (u:Value),BindsTo s fd ⟨[u],[]⟩ [("_law_script",u)])∧∀ base:Heap,(K w.params).In base→base.Ns mainGlobals mg→FnOk l.prog w (K w.params) mg base CX0 18 fa fd ["_law_script"] (j4b (K w.params))) :
  PySem.W.WalkO q loose XP YP l.row.toRowW d [] (fun f vs=>PySem.call f vs) :=
 L2.j7m (n:=63) (k:=18) (x := "_law_script") (CX:=fun _=>CX0) (sp:=fun w=>j4b (K w.params)) hn (by decide) hdf ⟨rfl,by decide,by decide⟩ hY F (fun _ _ a ns hl _ hS=>⟨a,ns,rfl,hS,hl,fun _=>rfl⟩) fun _ _ _ _ _ z=>z
end K1
namespace PySem.W.Fast
theorem tw6205041614689734530:True:=⟨⟩
theorem tw15050422485468575678:True:=⟨⟩
theorem tw10375246561303622457:True:=⟨⟩
theorem tw4414185013172286911:True:=⟨⟩
theorem tw4210955646884523426:True:=⟨⟩
theorem tw11005208131947955365:True:=⟨⟩
theorem tw9415294887746695835:True:=⟨⟩
theorem tw3309999755724424969:True:=⟨⟩
theorem tw9191509558839585472:True:=⟨⟩
theorem tw16454160823982740434:True:=⟨⟩
theorem tw7354073502343311268:True:=⟨⟩
theorem tw18070126206009783811:True:=⟨⟩
theorem tw12786496224193477681:True:=⟨⟩
theorem tw5110669481696151659:True:=⟨⟩
theorem tw12065401189500852866:True:=⟨⟩
theorem tw1150507405302602732:True:=⟨⟩
theorem tw12132931705654776448:True:=⟨⟩
theorem tw12222323477782092032:True:=⟨⟩
theorem tw7426383349204790734:True:=⟨⟩
theorem tw15957936348454988132:True:=⟨⟩
theorem tw13625800401387030359:True:=⟨⟩
theorem tw7021897166978028339:True:=⟨⟩
theorem tw13899693663934466422:True:=⟨⟩
theorem tw6589248432939156411:True:=⟨⟩
theorem tw9934022830285773798:True:=⟨⟩
theorem tw11625830485012352137:True:=⟨⟩
theorem tw14799570991890448799:True:=⟨⟩
theorem tw12085429813541802692:True:=⟨⟩
theorem tw4474520849683101196:True:=⟨⟩
theorem tw4842904850201532129:True:=⟨⟩
theorem tw13167425427077995033:True:=⟨⟩
theorem tw16433357318207003919:True:=⟨⟩
theorem tw15147521880305589388:True:=⟨⟩
theorem tw16834680427916869298:True:=⟨⟩
theorem tw7963718389256975454:True:=⟨⟩
theorem tw7664801834103518864:True:=⟨⟩
theorem tw13278093116285077653:True:=⟨⟩
theorem tw12254501834718410030:True:=⟨⟩
theorem tw17098593695729214688:True:=⟨⟩
theorem tw1062098810752392278:True:=⟨⟩
theorem tw6160613450035711557:True:=⟨⟩
theorem tw3890117571387529423:True:=⟨⟩
theorem tw8787235016446899636:True:=⟨⟩
theorem tw15315182790618559188:True:=⟨⟩
theorem tw14599268602160854023:True:=⟨⟩
theorem tw18158702303545387938:True:=⟨⟩
theorem tw11957927537490941782:True:=⟨⟩
theorem tw7625578744495784535:True:=⟨⟩
theorem tw14530510940337701575:True:=⟨⟩
theorem tw16381023620695179424:True:=⟨⟩
theorem tw13677036810736173988:True:=⟨⟩
theorem tw12145223035990119990:True:=⟨⟩
theorem tw3318952222596533258:True:=⟨⟩
theorem tw12725489499564628078:True:=⟨⟩
theorem tw1146788562512283509:True:=⟨⟩
theorem tw7344021706538264420:True:=⟨⟩
theorem tw18437974009449612901:True:=⟨⟩
theorem tw5768652117414953738:True:=⟨⟩
theorem tw4834962509103742197:True:=⟨⟩
theorem tw16470897528441515167:True:=⟨⟩
theorem tw11271331845387926188:True:=⟨⟩
theorem tw6612423159210479893:True:=⟨⟩
theorem tw14584676018332195509:True:=⟨⟩
theorem tw6855398898697566439:True:=⟨⟩
theorem tw2478452034785517961:True:=⟨⟩
theorem tw15944118679390293934:True:=⟨⟩
theorem tw2117135808271038250:True:=⟨⟩
theorem tw10783974904363316829:True:=⟨⟩
theorem tw6860530342957671151:True:=⟨⟩
theorem tw7504852443428957542:True:=⟨⟩
theorem tw12144681641298407042:True:=⟨⟩
theorem tw12973038951164245668:True:=⟨⟩
theorem tw14975585502796613336:True:=⟨⟩
theorem tw10283132587817960796:True:=⟨⟩
theorem tw15731787828787945023:True:=⟨⟩
theorem tw8329247130047174269:True:=⟨⟩
theorem tw2637006339389157192:True:=⟨⟩
theorem tw2221650866814291010:True:=⟨⟩
theorem tw17561779333204807875:True:=⟨⟩
theorem tw11084732988945768377:True:=⟨⟩
theorem tw1947698457665484753:True:=⟨⟩
theorem tw2903284667237564343:True:=⟨⟩
theorem tw17142597780687445466:True:=⟨⟩
theorem tw8112510707779597294:True:=⟨⟩
theorem tw18357476997842905271:True:=⟨⟩
theorem tw14709166659889758314:True:=⟨⟩
theorem tw10149933877235921358:True:=⟨⟩
theorem tw6832149609784153002:True:=⟨⟩
theorem tw9939512730685932457:True:=⟨⟩
theorem tw17959540400885761764:True:=⟨⟩
theorem tw5984752406450060468:True:=⟨⟩
theorem tw15825952029723362733:True:=⟨⟩
theorem tw8928433967288448821:True:=⟨⟩
theorem tw7797484481891597205:True:=⟨⟩
theorem tw12579028953852268627:True:=⟨⟩
theorem tw7173803857928971777:True:=⟨⟩
theorem tw14975112263406291394:True:=⟨⟩
theorem tw12786314472096232431:True:=⟨⟩
theorem tw14978391281394450292:True:=⟨⟩
theorem tw12334492046555189762:True:=⟨⟩
theorem tw9841028386063698038:True:=⟨⟩
theorem tw7215358743250626653:True:=⟨⟩
theorem tw6692243737093270038:True:=⟨⟩
theorem tw1788013930026534270:True:=⟨⟩
theorem tw10643157073674038647:True:=⟨⟩
theorem tw16350991374495258491:True:=⟨⟩
theorem tw8232252512320469257:True:=⟨⟩
theorem tw10160737587791333720:True:=⟨⟩
theorem tw29321098084119798:True:=⟨⟩
theorem tw4286198207035258579:True:=⟨⟩
theorem tw16293876148686145782:True:=⟨⟩
theorem tw2172159221509483547:True:=⟨⟩
theorem tw15570485411757442254:True:=⟨⟩
theorem tw11762199773097758023:True:=⟨⟩
theorem tw16866682007996738231:True:=⟨⟩
theorem tw7638656709275659699:True:=⟨⟩
theorem tw964839945789950690:True:=⟨⟩
theorem tw16161448342838067844:True:=⟨⟩
theorem tw2468976623835410610:True:=⟨⟩
theorem tw6797705081320757233:True:=⟨⟩
theorem tw2861301714450845581:True:=⟨⟩
theorem tw5563458676529046455:True:=⟨⟩
theorem tw7710504318936744179:True:=⟨⟩
theorem tw18025404617423620208:True:=⟨⟩
theorem tw6626763871313116806:True:=⟨⟩
theorem tw13044870090816295968:True:=⟨⟩
theorem tw10717714760186425599:True:=⟨⟩
theorem tw3133972805897172534:True:=⟨⟩
theorem tw13599451350728275460:True:=⟨⟩
theorem tw4224511605528900157:True:=⟨⟩
theorem tw15857834566341705623:True:=⟨⟩
theorem tw17798068549623374961:True:=⟨⟩
theorem tw12504416991984990533:True:=⟨⟩
theorem tw13729883844432945319:True:=⟨⟩
theorem tw16009867743174808869:True:=⟨⟩
theorem tw10719308834692469070:True:=⟨⟩
theorem tw15882417787824340819:True:=⟨⟩
theorem tw9733298082786904282:True:=⟨⟩
theorem tw14878047055643879137:True:=⟨⟩
theorem tw6553061848910128076:True:=⟨⟩
theorem tw6869006464504531165:True:=⟨⟩
theorem tw950222352274098250:True:=⟨⟩
theorem tw3751719617677645403:True:=⟨⟩
theorem tw4163352745089179547:True:=⟨⟩
theorem tw8691172869355528336:True:=⟨⟩
theorem tw2029402942005172636:True:=⟨⟩
theorem tw9174343591879942990:True:=⟨⟩
theorem tw10174365299405892479:True:=⟨⟩
theorem tw15980476858752897067:True:=⟨⟩
theorem tw6471743212129395606:True:=⟨⟩
theorem tw2969161956452785686:True:=⟨⟩
theorem tw4649094071727970792:True:=⟨⟩
theorem tw4186728646433176487:True:=⟨⟩
theorem tw16158944840422116016:True:=⟨⟩
theorem tw1685160346864774961:True:=⟨⟩
theorem tw9315295533713783626:True:=⟨⟩
theorem tw18195040906851305385:True:=⟨⟩
theorem tw16694982784249630545:True:=⟨⟩
theorem tw5289817536868318859:True:=⟨⟩
theorem tw15321179475538165136:True:=⟨⟩
theorem tw308248511707290218:True:=⟨⟩
theorem tw6104569068169443114:True:=⟨⟩
theorem tw1281020476965491851:True:=⟨⟩
theorem tw3463783733629317577:True:=⟨⟩
theorem tw17057778667752803648:True:=⟨⟩
theorem tw7671957709615227538:True:=⟨⟩
theorem tw4491441899439848468:True:=⟨⟩
theorem tw2589849355043074033:True:=⟨⟩
theorem tw11484877191304540667:True:=⟨⟩
theorem tw18174231600949455762:True:=⟨⟩
theorem tw3807146970077295922:True:=⟨⟩
theorem tw1475079090347317964:True:=⟨⟩
theorem tw9721629213496998072:True:=⟨⟩
theorem tw17111784158360793856:True:=⟨⟩
theorem tw10475055581062612467:True:=⟨⟩
theorem tw9931063739272099901:True:=⟨⟩
theorem tw15511099786068209791:True:=⟨⟩
theorem tw11945880896415252356:True:=⟨⟩
theorem tw10100000068403629234:True:=⟨⟩
theorem tw13194339077161143641:True:=⟨⟩
theorem tw17296848371420481102:True:=⟨⟩
theorem tw17715397447072571894:True:=⟨⟩
theorem tw7005515941841827038:True:=⟨⟩
theorem tw17165894674773122141:True:=⟨⟩
theorem tw13209341130968383801:True:=⟨⟩
theorem tw14907163098961837730:True:=⟨⟩
theorem tw3950119454054446847:True:=⟨⟩
theorem tw11965328387767053780:True:=⟨⟩
theorem tw9330863916444271139:True:=⟨⟩
theorem tw5942549750007668821:True:=⟨⟩
theorem tw8751553157016020251:True:=⟨⟩
theorem tw8031907566918909502:True:=⟨⟩
theorem tw8568577750537081310:True:=⟨⟩
theorem tw4114793274090914507:True:=⟨⟩
theorem tw15979069268409892538:True:=⟨⟩
theorem tw13202322931806309200:True:=⟨⟩
theorem tw13029811404598899381:True:=⟨⟩
theorem tw16172556473857503469:True:=⟨⟩
theorem tw2190804472869664818:True:=⟨⟩
theorem tw7055562457484832158:True:=⟨⟩
theorem tw5192714933194873942:True:=⟨⟩
theorem tw13495428301418766733:True:=⟨⟩
theorem tw1325843510586758043:True:=⟨⟩
theorem tw3377074592460175383:True:=⟨⟩
theorem tw1578219896456641904:True:=⟨⟩
theorem tw13811810131243250044:True:=⟨⟩
theorem tw6381632198996814777:True:=⟨⟩
theorem tw11246311564442606681:True:=⟨⟩
theorem tw12386130918229379596:True:=⟨⟩
theorem tw6291800263960219202:True:=⟨⟩
theorem tw6550082135661127126:True:=⟨⟩
theorem tw2357888283227808289:True:=⟨⟩
theorem tw686525909400502235:True:=⟨⟩
theorem tw1814866778851138446:True:=⟨⟩
theorem tw4823107822757593968:True:=⟨⟩
theorem tw3718410102904327618:True:=⟨⟩
theorem tw14881880520058594902:True:=⟨⟩
theorem tw14360226462483183048:True:=⟨⟩
theorem tw16621215518501246342:True:=⟨⟩
theorem tw11432168596496428803:True:=⟨⟩
theorem tw14401776846621836142:True:=⟨⟩
theorem tw15088626821602784101:True:=⟨⟩
theorem tw6308439331876553528:True:=⟨⟩
theorem tw14274813168233404847:True:=⟨⟩
theorem tw14913760600316151959:True:=⟨⟩
theorem tw12281116313031534831:True:=⟨⟩
theorem tw9530786792730089813:True:=⟨⟩
theorem tw16329857975831043996:True:=⟨⟩
theorem tw10173446029974006040:True:=⟨⟩
theorem tw10864017259005218559:True:=⟨⟩
theorem tw11514193871543939175:True:=⟨⟩
theorem tw8934619605905774822:True:=⟨⟩
theorem tw8713652211939602641:True:=⟨⟩
theorem tw11038261983698113713:True:=⟨⟩
theorem tw3532329945479644059:True:=⟨⟩
theorem tw9939197281177696827:True:=⟨⟩
theorem tw13242622043599310927:True:=⟨⟩
theorem tw1572287073097546887:True:=⟨⟩
theorem tw1354578698800891305:True:=⟨⟩
theorem tw5652697859469943317:True:=⟨⟩
theorem tw10954081701117582211:True:=⟨⟩
theorem tw5019217713633422839:True:=⟨⟩
theorem tw12693344781046526262:True:=⟨⟩
theorem tw1855477519069316045:True:=⟨⟩
theorem tw3705615474361983227:True:=⟨⟩
theorem tw6200820554915572984:True:=⟨⟩
theorem tw15202346605178477582:True:=⟨⟩
theorem tw14622246808557980271:True:=⟨⟩
theorem tw5359934265943817842:True:=⟨⟩
theorem tw3508036523591010291:True:=⟨⟩
theorem tw18336177662948751116:True:=⟨⟩
theorem tw13103607236841144461:True:=⟨⟩
theorem tw11329949630978541115:True:=⟨⟩
theorem tw10691188687582677896:True:=⟨⟩
theorem tw13700184932261882475:True:=⟨⟩
theorem tw184678411399940778:True:=⟨⟩
theorem tw16349437190563465306:True:=⟨⟩
theorem tw12543656104261438825:True:=⟨⟩
theorem tw4237011376471204363:True:=⟨⟩
theorem tw6390394211089967244:True:=⟨⟩
theorem tw690490934012921323:True:=⟨⟩
theorem tw1391395528438320697:True:=⟨⟩
theorem tw10203974656321388521:True:=⟨⟩
theorem tw1080988974172521361:True:=⟨⟩
theorem tw11690968064722867348:True:=⟨⟩
theorem tw13638285496479512664:True:=⟨⟩
theorem tw3544849904159885713:True:=⟨⟩
theorem tw10103603073334166780:True:=⟨⟩
theorem tw11419504798705248221:True:=⟨⟩
theorem tw467490578218391705:True:=⟨⟩
theorem tw3894748989015691755:True:=⟨⟩
theorem tw12822898028640053355:True:=⟨⟩
theorem tw14039898299702581748:True:=⟨⟩
theorem tw13672135970028639968:True:=⟨⟩
theorem tw11343719346208452492:True:=⟨⟩
theorem tw6544478826536299302:True:=⟨⟩
theorem tw9778157691526779461:True:=⟨⟩
theorem tw11294186100079686101:True:=⟨⟩
theorem tw5730250927969692425:True:=⟨⟩
theorem tw6248914099187853231:True:=⟨⟩
theorem tw10360007349179207148:True:=⟨⟩
theorem tw10241098293316220781:True:=⟨⟩
theorem tw14108361384823826535:True:=⟨⟩
theorem tw12464403708082927687:True:=⟨⟩
theorem tw3246273366759933463:True:=⟨⟩
theorem tw2158133738925941335:True:=⟨⟩
theorem tw12332243557697145816:True:=⟨⟩
theorem tw17367800862612387363:True:=⟨⟩
theorem tw5259761127590755920:True:=⟨⟩
theorem tw4741169323391094680:True:=⟨⟩
theorem tw10449606885780053268:True:=⟨⟩
theorem tw18064555885250178364:True:=⟨⟩
theorem tw11068561760829429390:True:=⟨⟩
theorem tw13512503281955649722:True:=⟨⟩
theorem tw5925969430442157199:True:=⟨⟩
theorem tw8391192059007489447:True:=⟨⟩
theorem tw17276445499267497690:True:=⟨⟩
theorem tw17874770500057032852:True:=⟨⟩
theorem tw9530391613971833004:True:=⟨⟩
theorem tw4146858483237757640:True:=⟨⟩
theorem tw6757297285156838110:True:=⟨⟩
theorem tw14671498795236135465:True:=⟨⟩
theorem tw18368403581079339480:True:=⟨⟩
theorem tw10471368657171307483:True:=⟨⟩
theorem tw4634103102129432491:True:=⟨⟩
theorem tw7665243622629044103:True:=⟨⟩
theorem tw14380588667124385182:True:=⟨⟩
theorem tw10259823805480456740:True:=⟨⟩
theorem tw6143673432686696603:True:=⟨⟩
theorem tw7714788372698443488:True:=⟨⟩
theorem tw11547429816420946561:True:=⟨⟩
theorem tw12740746772634374086:True:=⟨⟩
theorem tw1809725949239574947:True:=⟨⟩
theorem tw12657347367568738980:True:=⟨⟩
theorem tw2288866848381608146:True:=⟨⟩
theorem tw2849772576883621800:True:=⟨⟩
theorem tw16222795453673708439:True:=⟨⟩
theorem tw2758371189673887263:True:=⟨⟩
theorem tw9136578284555621058:True:=⟨⟩
theorem tw14157605581130331816:True:=⟨⟩
theorem tw5945230940462467025:True:=⟨⟩
theorem tw14514540356313298623:True:=⟨⟩
theorem tw13592292901388466316:True:=⟨⟩
theorem tw9744762653967947087:True:=⟨⟩
theorem tw4505494943205614112:True:=⟨⟩
theorem tw13177920098518156324:True:=⟨⟩
theorem tw9620884636050921346:True:=⟨⟩
theorem tw4743917744783590954:True:=⟨⟩
theorem tw11815615692952957996:True:=⟨⟩
theorem tw6411517742927560509:True:=⟨⟩
theorem tw10947725227532103540:True:=⟨⟩
theorem tw9986138160554876855:True:=⟨⟩
theorem tw2459271497476066251:True:=⟨⟩
theorem tw8106077154176175488:True:=⟨⟩
theorem tw15127965507231788959:True:=⟨⟩
theorem tw8617369865148675568:True:=⟨⟩
theorem tw15773362856611907403:True:=⟨⟩
theorem tw8925474575026678620:True:=⟨⟩
theorem tw18027117846878619506:True:=⟨⟩
theorem tw17745890463145938310:True:=⟨⟩
theorem tw17733911485917346593:True:=⟨⟩
theorem tw12913217067973572729:True:=⟨⟩
theorem tw15771749110827773178:True:=⟨⟩
theorem tw15338848596536083283:True:=⟨⟩
theorem tw1648368235259462646:True:=⟨⟩
theorem tw7130432660343697824:True:=⟨⟩
theorem tw16868860749850106753:True:=⟨⟩
theorem tw14414123793684222203:True:=⟨⟩
theorem tw18126609549119720135:True:=⟨⟩
theorem tw13537199859871699592:True:=⟨⟩
theorem tw17839000116871203423:True:=⟨⟩
theorem tw9018275805882483511:True:=⟨⟩
theorem tw11121204009632711172:True:=⟨⟩
theorem tw9894578606752187926:True:=⟨⟩
theorem tw9039583235569795848:True:=⟨⟩
theorem tw4219410999434231868:True:=⟨⟩
theorem tw1774389107938315065:True:=⟨⟩
theorem tw14546555633704273410:True:=⟨⟩
theorem tw9788772718957761113:True:=⟨⟩
theorem tw11191815409204363266:True:=⟨⟩
theorem tw13566474029516794720:True:=⟨⟩
theorem tw12303525412562735701:True:=⟨⟩
theorem tw13184224256799673504:True:=⟨⟩
theorem tw6351340199424467787:True:=⟨⟩
theorem tw6330854630284723234:True:=⟨⟩
theorem tw1056254646654849453:True:=⟨⟩
theorem tw15944725537879813524:True:=⟨⟩
theorem tw13641738190563983052:True:=⟨⟩
theorem tw14439021600043850255:True:=⟨⟩
theorem tw11020975652238472002:True:=⟨⟩
theorem tw9344739492150323566:True:=⟨⟩
theorem tw14417257223028811353:True:=⟨⟩
theorem tw8868071828155695031:True:=⟨⟩
theorem tw4823635519852958782:True:=⟨⟩
theorem tw15678236940167053862:True:=⟨⟩
theorem tw15039827572855495603:True:=⟨⟩
theorem tw9744787738250324149:True:=⟨⟩
theorem tw7334962956249854795:True:=⟨⟩
theorem tw15714653433166137039:True:=⟨⟩
theorem tw4474648612599950407:True:=⟨⟩
theorem tw15089410602919964263:True:=⟨⟩
theorem tw6101839146685697700:True:=⟨⟩
theorem tw11013545072608164381:True:=⟨⟩
theorem tw6165460818692544712:True:=⟨⟩
theorem tw4113601173023630827:True:=⟨⟩
theorem tw18288903430274189080:True:=⟨⟩
theorem tw7170240292154736235:True:=⟨⟩
theorem tw3395098898057118183:True:=⟨⟩
theorem tw6807876306420293953:True:=⟨⟩
theorem tw10592860993923363102:True:=⟨⟩
theorem tw12580425866684709009:True:=⟨⟩
theorem tw9207199416421476251:True:=⟨⟩
theorem tw1136736549582377746:True:=⟨⟩
theorem tw12222788084833393365:True:=⟨⟩
theorem tw3044991248005609648:True:=⟨⟩
theorem tw6746317889711643525:True:=⟨⟩
theorem tw10893791398898839080:True:=⟨⟩
theorem tw17076709154886196580:True:=⟨⟩
theorem tw15454429617577597099:True:=⟨⟩
theorem tw18026340432378732182:True:=⟨⟩
theorem tw17289560885398373677:True:=⟨⟩
theorem tw9514897195637508935:True:=⟨⟩
theorem tw15261591295988430827:True:=⟨⟩
theorem tw11931170098165135921:True:=⟨⟩
theorem tw10771725040467406048:True:=⟨⟩
theorem tw15944869529409424120:True:=⟨⟩
theorem tw10350589813538568513:True:=⟨⟩
theorem tw7593477842510278450:True:=⟨⟩
theorem tw15448177319115493529:True:=⟨⟩
theorem tw4922749070940273932:True:=⟨⟩
theorem tw8200287562857497827:True:=⟨⟩
theorem tw12595645285491412726:True:=⟨⟩
theorem tw10754548099394612916:True:=⟨⟩
theorem tw10690563984270465103:True:=⟨⟩
theorem tw4292642786005369773:True:=⟨⟩
theorem tw10137987810237137482:True:=⟨⟩
theorem tw10913714225414992605:True:=⟨⟩
theorem tw930300798934521046:True:=⟨⟩
theorem tw8296173897834420422:True:=⟨⟩
theorem tw1336513197505589253:True:=⟨⟩
theorem tw14581247018261331293:True:=⟨⟩
theorem tw17121772548732019796:True:=⟨⟩
theorem tw17836839066156122859:True:=⟨⟩
theorem tw15639192487561229819:True:=⟨⟩
end PySem.W.Fast
open PySem PySem.W PyProof.Rows
set_option maxRecDepth 100000 in
set_option maxHeartbeats 0 in
theorem PySem.Challenge.cw_keeplog_k07_whole_nothing_else_holds : PySem.Challenge.rw_keeplog_k07_whole_nothing_else.Holds := by
 w_on; o_law; k_head; (case hw=>w_witness2)
 k_fill
 refine K1.walk (l:=PySem.Challenge.rw_keeplog_k07_whole_nothing_else) rfl rfl (fun w h Y=>PySem.W.kIn_of Y) ?F
 case F =>
  intro w mg fa h KX G hmg
  refine' K1.all_mk KX G hmg ?d0 ?d1 ?d2 ?d3 ?d4 ?d5 ?d6 ?d7 ?d8 ?d9 ?d10 ?d11 ?d12 ?d13 ?d14 ?d15 ?d16 ?d17 ?d18 ?d19 ?d20 ?d21 ?d22 ?d23 ?d24 ?d25 ?d26 ?d27 ?d28 ?d29 ?d30 ?d31 ?d32 ?d33 ?d34 ?d35 ?d36 ?d37 ?d38 ?d39 ?d40 ?d41 ?d42 ?d43 ?d44 ?d45 ?d46 ?d47 ?d48 ?d49 ?d50 ?d51 ?d52 ?d53 ?d54 ?d55 ?d56 ?d57 ?d58 ?d59 ?d60 ?d61 ?d62 ?d63 ?d64 ?d65 ?d66 ?d67 ?d68 ?d69 ?d70 ?d71 ?d72 ?d73 ?d74 ?d75 ?d76 ?d77 ?d78 ?d79 ?d80 ?d81 ?d82 ?d83 ?d84 ?d85 ?d86 ?d87 ?d88 ?aL ?lL ?cL' ?kL ?da0 ?dl0 ?ds0 ?tq0_0 ?tq0_1 ?tq0_2 ?da1 ?dl1 ?ds1 ?tq1_0 ?tq1_1 ?tq1_2 ?da2 ?dl2 ?ds2 ?tq2_0 ?tq2_1 ?tq2_2 ?tq2_3 ?tq2_4 ?tq2_5 ?tq2_6 ?tq2_7 ?da3 ?dl3 ?ds3 ?tq3_0 ?tq3_1 ?tq3_2 ?da4 ?dl4 ?ds4 ?tq4_0 ?tq4_1 ?tq4_2 ?da5 ?dl5 ?ds5 ?tq5_0 ?tq5_1 ?tq5_2 ?tq5_3 ?tq5_4 ?tq5_5 ?tq5_6 ?tq5_7 ?ncN ?aC ?w0 ?w1 ?w2 ?pg ?hd ?po ?sa ?mk ?kc ?nw ?np ?xP ?xe ?z0 ?z1 ?z2 ?z3 ?z4 ?z5 ?z6 ?z7 ?z8 ?z9 ?z10 ?z11 ?z12
  (case d0 | d1 | d2 | d3 | d4 | d5 | d6 | d7 | d8 | d9 | d10 | d11 | d12 | d13 | d14 | d15 | d16 | d17 | d18 | d19 | d20 | d21 | d22 | d23 | d24 | d25 | d26 | d27 | d28 | d29 | d30 | d31 | d32 | d33 | d34 | d35 | d36 | d37 | d38 | d39 | d40 | d41 | d42 | d43 | d44 | d45 | d46 | d47 | d48 | d49 | d50 | d51 | d52 | d53 | d54 | d55 | d56 | d57 | d58 | d59 | d60 | d61 | d62 | d63 | d64 | d65 | d66 | d67 | d68 | d69 | d70 | d71 | d72 | d73 | d74 | d75 | d76 | d77 | d78 | d79 | d80 | d81 | d82 | d83 | d84 | d85 | d86 | d87 | d88=>exact⟨by k_is,_,⟨_,_,_,_,_,_,_,_,_,rfl,by k_is,by k_is⟩,by k_is⟩)
  (case aL=>k_is)
  (case lL=>k_is)
  (case cL'=>k_is)
  (case kL=>k_is)
  (case da0=>k_is)
  (case dl0=>k_is)
  (case ds0=>rfl)
  (case da1=>k_is)
  (case dl1=>k_is)
  (case ds1=>rfl)
  (case da2=>k_is)
  (case dl2=>k_is)
  (case ds2=>rfl)
  (case da3=>k_is)
  (case dl3=>k_is)
  (case ds3=>rfl)
  (case da4=>k_is)
  (case dl4=>k_is)
  (case ds4=>rfl)
  (case da5=>k_is)
  (case dl5=>k_is)
  (case ds5=>rfl)
  (case ncN=>k_is)
  (case aC=>k_is)
  (case pg=>k_is)
  (case hd=>k_is)
  (case po=>k_is)
  (case sa=>k_is)
  (case mk=>k_is)
  (case kc=>k_is)
  (case nw=>k_is)
  (case np=>k_is)
  (case xP=>k_exc)
  (case xe=>kts_exm)
  (case z0=>k_is)
  (case z1=>k_is)
  (case z2=>k_is)
  (case z3=>k_is)
  (case z4=>k_is)
  (case z5=>k_is)
  (case z6=>k_is)
  (case z7=>k_is)
  (case z8=>k_is)
  (case z9=>k_is)
  (case z10=>k_is)
  (case z11=>k_is)
  (case z12=>k_is)
  (case w0 | w1 | w2=>exact⟨by k_is,by k_is,_,⟨_,_,_,_,_,_,_,_,_,rfl,by k_is,by k_is⟩,by k_is⟩)
  (case tq0_0 | tq0_1 | tq0_2 | tq1_0 | tq1_1 | tq1_2 | tq2_0 | tq2_1 | tq2_2 | tq2_3 | tq2_4 | tq2_5 | tq2_6 | tq2_7 | tq3_0 | tq3_1 | tq3_2 | tq4_0 | tq4_1 | tq4_2 | tq5_0 | tq5_1 | tq5_2 | tq5_3 | tq5_4 | tq5_5 | tq5_6 | tq5_7=>exact⟨_,_,_,by k_is⟩)
